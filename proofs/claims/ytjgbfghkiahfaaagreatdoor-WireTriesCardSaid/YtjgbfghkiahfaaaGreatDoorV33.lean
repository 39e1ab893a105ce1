import Derived.Test.YtjgbfghkiahfaaaGreatDoorV32
namespace Go.Proofs.YtjgbfghkiahfaaaGreatDoor
open Go.RowKit Go.Sort
set_option maxRecDepth 100000
set_option maxHeartbeats 2000000

theorem wl_send {w0 v : World} {g : Nat} {nd : Nat → Nat} {s : Wp} (h : WL w0 v g nd s) {m : Nat} (ho : s.Ok m) (hm : m ≤ 999999990) {n : Nat} (hn : n < 8) (hs : s.sent ≤ 1000000000) (q : Rq) (A : Option Addr) (c : Nat) (hd : DatN v A q.n q.D) (hD : ∀ j, j < q.n → q.D j < 256) :
    Calls Tryz.prog 35 #[.pointer (some ⟨g, 0, none⟩), .int .i64 (n : Int), rqv q.k q.s q.g q.i A q.n c] v (SendRet w0 v g nd (s.send n q)) := by
  obtain ⟨H, hH⟩ : ∃ H, v.heap.size = H := ⟨_, rfl⟩
  have HH := Lib.hid hH
  obtain ⟨v1, hv1⟩ : ∃ v1, (v.alloc (.cells #[.int .i64 q.k, .int .i64 q.s, .int .i64 q.g, .int .i64 q.i, .slice A q.n c] 38)).alloc (.cells #[.int .i64 0, .int .i64 0, .slice none 0 0, .slice none 0 0] 31) = v1 := ⟨_, rfl⟩
  have HV1 := Lib.hid hv1
  have B1 : Below v.heap.size v v1 := by rw [← hv1]; exact ((Below.refl _ _).alloc (Nat.le_refl _) _).alloc (by simp) _
  have W1 := h.below B1
  have q1 : QV v1 H q.k q.s q.g q.i A q.n c := by rw [← hv1]; exact (QV.of_new hH).below ((Below.refl _ _).alloc (Nat.le_refl _) _)
  have r1 : RV v1 (H + 1) 0 0 (.slice none 0 0) (.slice none 0 0) := by rw [← hv1]; exact RV.of_new (by simp [hH])
  obtain ⟨b1, hb1⟩ : ∃ b1, s.sent + 1 = b1 := ⟨_, rfl⟩
  have hwp : IntKind.i64.wrap ((s.sent : Int) + 1) = (b1 : Int) := by rw [IntWalk.i64_in _ (by omega)]; omega
  have W2 := W1.put (s' := s.cnt) 19 (.int .i64 (b1 : Int)) rfl rfl (fun fv => by show _ = whead (nptr 8 nd) s.dn fv s.fuse s.dead (s.sent + 1); rw [hb1]; rfl)
  have K2 := (KeepW.of B1).trans (W1.keepSet 19 (.int .i64 (b1 : Int)))
  have c1 := W1.cs
  have f1 := W1.f 19
  obtain ⟨v2, hv2⟩ : ∃ v2, v1.setCell ⟨g, 19, none⟩ (.int .i64 (b1 : Int)) = v2 := ⟨_, rfl⟩
  have HV2 := Lib.hid hv2
  have hN : w0.heap.size ≤ H := by rw [← hH]; exact h.blw.size
  rw [hv2] at W2 K2
  have q2 := (W1.keepSet 19 (.int .i64 (b1 : Int))).qv q1
  have r2 := (W1.keepSet 19 (.int .i64 (b1 : Int))).rv r1
  rw [hv2] at q2 r2
  have HF := Lib.hid (wl_fate W2)
  have c2 := W2.cn hn
  have n2 : (n : Int) < 8 := by omega
  obtain ⟨f, hf⟩ : ∃ f, s.fate = f := ⟨_, rfl⟩
  obtain ⟨s3, hs3⟩ : ∃ s3, s.cnt.took = s3 := ⟨_, rfl⟩
  obtain ⟨xx, hxx⟩ : ∃ xx, s.send n q = xx := ⟨_, rfl⟩
  rw [hxx]
  have hf2 : s.cnt.fate = f := hf
  rw [hf2] at HF
  have HK2 := Lib.hid (And.intro K2 (And.intro q2 r2))
  have HD := Lib.hid (K2.b.datN hd)
  have HDB := Lib.hid hD
  have HO : Hid (s3.Ok m) := Lib.hid (by rw [← hs3]; exact Wp.Ok.congr (s' := s.cnt.took) ho rfl)
  have HS : Hid (xx = s3.sendF n q f) := Lib.hid (by rw [← hxx, ← hs3]; unfold Wp.send; rw [hf])
  rw [hs3] at HF
  clear hxx
  clear h hd hD ho hH hv1 hv2 B1 W1 K2 W2 hb1 hf hf2 q1 r1 q2 r2 hs3
  go_enter Tryz.func35, Tryz.ntmps35
  go_upto_region 1 with fail
  rw [HV1.out, HH.out]
  go_upto_region 2 with fail
  rw [HV2.out]
  clear c1 f1
  go_wp2_with fail
  refine HF.out.mono ?_
  rintro e w3 ⟨rfl, W3, K3⟩
  try dsimp only
  have HW3 := Lib.hid W3
  have HK3 := Lib.hid (HK2.out.1.trans K3)
  have q3 := K3.qv HK2.out.2.1
  have r3 := K3.rv HK2.out.2.2
  have HD3 := Lib.hid (K3.b.datN HD.out)
  have HR3 := Lib.hid r3
  have HQ3 := Lib.hid q3
  have HH3 : Hid (H + 1 < w3.heap.size) := Lib.hid r3.lt
  have rf : ∀ k, w3.frozen? ⟨H + 1, k, none⟩ = false := r3.f
  have x0 := r3.c0
  have x1 := r3.c1
  have x2 := r3.c2
  have x3 := r3.c3
  have y0 := q3.c0
  have y1 := q3.c1
  have y2 := q3.c2
  have y3 := q3.c3
  have y4 := q3.c4
  clear W3 K3 q3 r3 c2
  have HN : Hid (w0.heap.size ≤ H) := Lib.hid hN
  have HVH : Hid (v.heap.size = H) := HH
  clear hN HF HK2 HD HV1 HV2 HH
  by_cases e1 : f = 1
  · subst e1
    have hx : s3.sendF n q 1 = (s3, none) := by unfold Wp.sendF; rw [if_pos rfl]
    have HX : Hid (xx = (s3, none)) := Lib.hid (HS.out.trans hx)
    clear hx HS
    go_wp2_with fail
    refine bodyPost_ret (v := .tuple #[rpv 0 0 (.slice none 0 0) (.slice none 0 0), .bool false]) ?_ rfl ?_
    · rw [results_cell_tmp rfl]
      simp [(HR3.out.put4 (code' := 0) (boot' := 0) (u' := .slice none 0 0) (v' := .slice none 0 0)).load, Result.andThen, asAddr]
    rw [HX.out]
    exact ⟨_, _, rfl, HW3.out.set4 HR3.out (by have := HN.out; omega) _ _ _ _, HK3.out.set4 (by have := HVH.out; omega) _ _ _ _, Or.inl ⟨rfl, rfl, rfl⟩⟩
  · have g1 : (f == 1) = false := by simp [e1]
    by_cases e2 : f = 2
    · subst e2
      have hx : s3.sendF n q 2 = (s3.setN n ((s3.N n).act q).1, none) := by unfold Wp.sendF; rw [if_neg (by decide), if_pos rfl]
      have HX := Lib.hid (HS.out.trans hx)
      have HA := Lib.hid (wl_do HW3.out hn q A c HD3.out HDB.out (Nat.le_trans (HO.out.nw n hn) (by omega)) (Nat.le_trans (HO.out.last n hn) (by omega)))
      unfold rqv at HA
      clear hx e1
      go_wp2_with fail
      refine HA.out.mono ?_
      rintro e w4 ⟨x, rfl, P4, W4, K4⟩
      try dsimp only
      have r4 := K4.rv HR3.out
      have HR4 := Lib.hid r4
      have HZ4 := Lib.hid (And.intro W4 (HK3.out.trans K4))
      have rf4 : ∀ k, w4.frozen? ⟨H + 1, k, none⟩ = false := r4.f
      clear x0 x1 x2 x3 y0 y1 y2 y3 y4 rf
      have x0 := r4.c0
      have x1 := r4.c1
      have x2 := r4.c2
      have x3 := r4.c3
      clear W4 K4 r4 P4
      go_wp2_with fail
      refine bodyPost_ret (v := .tuple #[rpv 0 0 (.slice none 0 0) (.slice none 0 0), .bool false]) ?_ rfl ?_
      · rw [results_cell_tmp rfl]
        simp [(HR4.out.put4 (code' := 0) (boot' := 0) (u' := .slice none 0 0) (v' := .slice none 0 0)).load, Result.andThen, asAddr]
      rw [HX.out]
      exact ⟨_, _, rfl, HZ4.out.1.set4 HR4.out (by have := HN.out; omega) _ _ _ _, HZ4.out.2.set4 (by have := HVH.out; omega) _ _ _ _, Or.inl ⟨rfl, rfl, rfl⟩⟩
    · have g2 : (f == 2) = false := by simp [e2]
      by_cases e3 : f = 3
      · subst e3
        have hx : s3.sendF n q 3 = (s3.setN n (((s3.N n).crash []).act q).1, some (((s3.N n).crash []).act q)) := by unfold Wp.sendF; rw [if_neg (by decide), if_neg (by decide), if_pos rfl]
        have HX := Lib.hid (HS.out.trans hx)
        have HC := Lib.hid (wl_crash0 HW3.out hn (Nat.le_trans (HO.out.nw n hn) (by omega)) (Nat.le_trans (HO.out.last n hn) (by omega)) (Nat.le_trans (HO.out.boot n hn) (by omega)))
        have hcr := HO.out.crash hn []
        have HB4 : Hid (((s3.N n).crash []).nw ≤ 1000000000 ∧ ((s3.N n).crash []).last ≤ 1000000000) := Lib.hid ⟨by have := hcr.2.1; omega, by have := hcr.2.2.1; omega⟩
        clear hx e1 e2 hcr
        go_wp2_with fail
        refine HC.out.mono ?_
        rintro e w4 ⟨rfl, W4, K4⟩
        try dsimp only
        have HA := Lib.hid (wl_do W4 hn q A c (K4.b.datN HD3.out) HDB.out (by rw [Wp.setN_at]; exact HB4.out.1) (by rw [Wp.setN_at]; exact HB4.out.2))
        rw [Wp.setN_at, Wp.setN_two] at HA
        unfold rqv at HA
        have q4 := K4.qv HQ3.out
        have HR4 := Lib.hid (K4.rv HR3.out)
        have HK4 := Lib.hid (HK3.out.trans K4)
        have HS4 : Hid (v.heap.size ≤ w4.heap.size) := Lib.hid HK4.out.1
        clear x0 x1 x2 x3 y0 y1 y2 y3 y4 rf
        have y0 := q4.c0
        have y1 := q4.c1
        have y2 := q4.c2
        have y3 := q4.c3
        have y4 := q4.c4
        clear W4 K4 q4
        go_wp2_with fail
        refine HA.out.mono ?_
        rintro e w5 ⟨x, rfl, P5, W5, K5⟩
        try dsimp only
        obtain ⟨B, cb, B', cb', rfl, P5'⟩ := P5
        have P5 : RepV w5 w4.heap.size (((s3.N n).crash []).act q) (rpv ((((s3.N n).crash []).act q).2.code : Int) ((((s3.N n).crash []).act q).1.boot : Int) (.slice B (((s3.N n).crash []).act q).2.ps.length cb) (.slice B' (((s3.N n).crash []).act q).2.its.length cb')) := ⟨B, cb, B', cb', rfl, P5'⟩
        clear P5'
        obtain ⟨y, hy⟩ : ∃ y, ((s3.N n).crash []).act q = y := ⟨_, rfl⟩
        rw [hy] at P5 W5 HX ⊢
        have r5 := K5.rv HR4.out
        have HR5 := Lib.hid r5
        have HZ5 := Lib.hid (And.intro W5 (And.intro (HK4.out.trans K5) P5))
        have rf5 : ∀ k, w5.frozen? ⟨H + 1, k, none⟩ = false := r5.f
        clear y0 y1 y2 y3 y4
        have x0 := r5.c0
        have x1 := r5.c1
        have x2 := r5.c2
        have x3 := r5.c3
        obtain ⟨k0, hk0⟩ : ∃ k0 : Nat, y.2.code = k0 := ⟨_, rfl⟩
        obtain ⟨k1, hk1⟩ : ∃ k1 : Nat, y.1.boot = k1 := ⟨_, rfl⟩
        obtain ⟨l0, hl0⟩ : ∃ l0, y.2.ps.length = l0 := ⟨_, rfl⟩
        obtain ⟨l1, hl1⟩ : ∃ l1, y.2.its.length = l1 := ⟨_, rfl⟩
        rw [hk0, hk1, hl0, hl1] at HZ5
        rw [hk0, hk1, hl0, hl1]
        have HYK := Lib.hid (And.intro hk0 (And.intro hk1 (And.intro hl0 hl1)))
        clear W5 K5 r5 P5 hk0 hk1 hl0 hl1 hy
        go_wp2_with fail
        refine bodyPost_ret (v := .tuple #[rpv (k0 : Int) (k1 : Int) (.slice B l0 cb) (.slice B' l1 cb'), .bool true]) ?_ rfl ?_
        · rw [results_cell_tmp rfl]
          simp [(HR5.out.put4 (code' := (k0 : Int)) (boot' := (k1 : Int)) (u' := .slice B l0 cb) (v' := .slice B' l1 cb')).load, Result.andThen, asAddr]
        rw [HX.out]
        refine ⟨_, _, rfl, HZ5.out.1.set4 HR5.out (by have := HN.out; omega) _ _ _ _, HZ5.out.2.1.set4 (by have := HVH.out; omega) _ _ _ _, Or.inr ⟨y, rfl, rfl, ?_⟩⟩
        exact (HZ5.out.2.2.set4 HR5.out (.int .i64 (k0 : Int)) (.int .i64 (k1 : Int)) (.slice B l0 cb) (.slice B' l1 cb')).mono HS4.out
      · have g3 : (f == 3) = false := by simp [e3]
        have hx : s3.sendF n q f = (s3.setN n ((s3.N n).act q).1, some ((s3.N n).act q)) := by unfold Wp.sendF; rw [if_neg e1, if_neg e2, if_neg e3]
        have HX := Lib.hid (HS.out.trans hx)
        have HA := Lib.hid (wl_do HW3.out hn q A c HD3.out HDB.out (Nat.le_trans (HO.out.nw n hn) (by omega)) (Nat.le_trans (HO.out.last n hn) (by omega)))
        unfold rqv at HA
        have HS4 : Hid (v.heap.size ≤ w3.heap.size) := Lib.hid HK3.out.1
        clear hx e1 e2 e3
        go_wp2_with fail
        refine HA.out.mono ?_
        rintro e w5 ⟨x, rfl, P5, W5, K5⟩
        try dsimp only
        obtain ⟨B, cb, B', cb', rfl, P5'⟩ := P5
        have P5 : RepV w5 w3.heap.size ((s3.N n).act q) (rpv (((s3.N n).act q).2.code : Int) (((s3.N n).act q).1.boot : Int) (.slice B ((s3.N n).act q).2.ps.length cb) (.slice B' ((s3.N n).act q).2.its.length cb')) := ⟨B, cb, B', cb', rfl, P5'⟩
        clear P5'
        obtain ⟨y, hy⟩ : ∃ y, (s3.N n).act q = y := ⟨_, rfl⟩
        rw [hy] at P5 W5 HX ⊢
        have r5 := K5.rv HR3.out
        have HR5 := Lib.hid r5
        have HZ5 := Lib.hid (And.intro W5 (And.intro (HK3.out.trans K5) P5))
        have rf5 : ∀ k, w5.frozen? ⟨H + 1, k, none⟩ = false := r5.f
        clear x0 x1 x2 x3 y0 y1 y2 y3 y4 rf
        have x0 := r5.c0
        have x1 := r5.c1
        have x2 := r5.c2
        have x3 := r5.c3
        obtain ⟨k0, hk0⟩ : ∃ k0 : Nat, y.2.code = k0 := ⟨_, rfl⟩
        obtain ⟨k1, hk1⟩ : ∃ k1 : Nat, y.1.boot = k1 := ⟨_, rfl⟩
        obtain ⟨l0, hl0⟩ : ∃ l0, y.2.ps.length = l0 := ⟨_, rfl⟩
        obtain ⟨l1, hl1⟩ : ∃ l1, y.2.its.length = l1 := ⟨_, rfl⟩
        rw [hk0, hk1, hl0, hl1] at HZ5
        rw [hk0, hk1, hl0, hl1]
        have HYK := Lib.hid (And.intro hk0 (And.intro hk1 (And.intro hl0 hl1)))
        clear W5 K5 r5 P5 hk0 hk1 hl0 hl1 hy
        go_wp2_with fail
        refine bodyPost_ret (v := .tuple #[rpv (k0 : Int) (k1 : Int) (.slice B l0 cb) (.slice B' l1 cb'), .bool true]) ?_ rfl ?_
        · rw [results_cell_tmp rfl]
          simp [(HR5.out.put4 (code' := (k0 : Int)) (boot' := (k1 : Int)) (u' := .slice B l0 cb) (v' := .slice B' l1 cb')).load, Result.andThen, asAddr]
        rw [HX.out]
        refine ⟨_, _, rfl, HZ5.out.1.set4 HR5.out (by have := HN.out; omega) _ _ _ _, HZ5.out.2.1.set4 (by have := HVH.out; omega) _ _ _ _, Or.inr ⟨y, rfl, rfl, ?_⟩⟩
        exact (HZ5.out.2.2.set4 HR5.out (.int .i64 (k0 : Int)) (.int .i64 (k1 : Int)) (.slice B l0 cb) (.slice B' l1 cb')).mono HS4.out
end Go.Proofs.YtjgbfghkiahfaaaGreatDoor
