import Derived.Test.YtelmcchleclklaaGreatV20
import Derived.Test.YtelmcchleclklaaGreatV22
import Derived.Test.YtelmcchleclklaaGreatV08
namespace Go.Proofs.YtelmcchleclklaaGreat
open Go.RowKit Go.Sort
set_option maxRecDepth 100000
set_option maxHeartbeats 2000000

theorem Wp.tries_down {s s1 : Wp} {n k : Nat} {q : Rq} (h : s.leads n = (s1, false)) : s.tries (k + 1) n q = (s1, .err 4) := by rw [Wp.tries, h]
theorem Wp.tries_none {s s1 s2 : Wp} {n k : Nat} {q : Rq} (h : s.leads n = (s1, true)) (h2 : s1.send n q = (s2, none)) : s.tries (k + 1) n q = s2.tries k n q := by rw [Wp.tries, h]; dsimp only; rw [h2]
theorem Wp.tries_ok {s s1 s2 : Wp} {n k : Nat} {q : Rq} {y : Ns × Rp} (h : s.leads n = (s1, true)) (h2 : s1.send n q = (s2, some y)) (h3 : y.2.code = 0) : s.tries (k + 1) n q = (s2, .ok y) := by rw [Wp.tries, h]; dsimp only; rw [h2]; dsimp only; rw [if_pos h3]
theorem Wp.tries_no {s s1 s2 : Wp} {n k : Nat} {q : Rq} {y : Ns × Rp} (h : s.leads n = (s1, true)) (h2 : s1.send n q = (s2, some y)) (h3 : y.2.code ≠ 0) : s.tries (k + 1) n q = (s2, .err y.2.code) := by rw [Wp.tries, h]; dsimp only; rw [h2]; dsimp only; rw [if_neg h3]
def Wp.Bd (s : Wp) (m : Nat) : Prop := -1000000000 ≤ s.fuse ∧ s.fuse ≤ 1000000000 ∧ s.sent ≤ m
theorem Wp.Bd.leads {s : Wp} {m : Nat} (h : s.Bd m) (n : Nat) : (s.leads n).1.Bd m := by
 obtain ⟨h1, h2, h3⟩ := h
 unfold Wp.leads
 repeat' split
 ·exact ⟨h1, h2, h3⟩
 ·exact ⟨h1, h2, h3⟩
 ·exact ⟨by dsimp only; omega, by dsimp only; omega, h3⟩
 ·exact ⟨h1, h2, h3⟩
theorem Wp.Bd.send {s : Wp} {m : Nat} (h : s.Bd m) (n : Nat) (q : Rq) : (s.send n q).1.Bd (m + 1) := by
 obtain ⟨h1, h2, h3⟩ := h
 unfold Wp.send Wp.sendF
 repeat' split
 all_goals exact ⟨h1, h2, by show s.sent + 1 ≤ m + 1; omega⟩
theorem bl_of_datN {w : World} {A : Option Addr} {n : Nat} {D : Nat → Nat} (h : DatN w A n D) : BL w A ((List.range n).map D) :=
 BL.of h (by simp) (fun j hj => by
  rw [gt_of (by simpa using hj)]
  simp)
theorem wl_fail (n c : Int) (w : World) : Calls Tryz.prog 158 #[.int .i64 n, .int .i64 c] w fun e w' => ∃ b, e = .returned (.tuple #[rpv 0 0 (.slice none 0 0) (.slice none 0 0), onv b]) ∧ w.heap.size ≤ b ∧ Below w.heap.size w w' ∧ OnE w' b n c := by
 obtain ⟨H, hH⟩ : ∃ H, w.heap.size = H := ⟨_, rfl⟩
 obtain ⟨w1, hw1⟩ : ∃ w1, w.alloc (.cells #[.int .i64 0, .int .i64 0, .slice none 0 0, .slice none 0 0] 47) = w1 := ⟨_, rfl⟩
 have HW1 := Lib.hid hw1
 have HH := Lib.hid hH
 have r1 : RV w1 H 0 0 (.slice none 0 0) (.slice none 0 0) := by rw [← hw1]; exact RV.of_new hH
 have HB1 : Hid (Below w.heap.size w w1) := Lib.hid (by rw [← hw1]; exact (Below.refl _ _).alloc (Nat.le_refl _) _)
 have HR1 := Lib.hid r1
 clear hw1 hH r1
 go_enter Tryz.func158, Tryz.ntmps158
 go_upto_region 1 with fail
 rw [HW1.out, HH.out]
 go_wp2_with fail
 refine (we_atNode n c _).mono ?_
 rintro e w2 ⟨b, rfl, hb, hb2, ho⟩
 try dsimp only
 have r2 := HR1.out.below hb2
 have HR2 := Lib.hid r2
 have rf : ∀ k, w2.frozen? ⟨H, k, none⟩ = false := r2.f
 have x0 := r2.c0
 have x1 := r2.c1
 have x2 := r2.c2
 have x3 := r2.c3
 have HX := Lib.hid (And.intro hb (And.intro hb2 ho))
 clear r2 hb hb2 ho
 go_wp2_with fail
 refine bodyPost_ret (v := .tuple #[rpv 0 0 (.slice none 0 0) (.slice none 0 0), onv b]) ?_ rfl ?_
 ·rw [results_cell_tmp rfl]
  simp [(HR2.out.put4 (code' := 0) (boot' := 0) (u' := .slice none 0 0) (v' := .slice none 0 0)).load, Result.andThen, asAddr]
 obtain ⟨hb, hb2, ho⟩ := HX.out
 have hs : w.heap.size ≤ H := Nat.le_of_eq HH.out
 have hs1 := HB1.out.size
 have hH1 : H < w1.heap.size := HR1.out.lt
 refine ⟨b, rfl, by omega, HB1.out.trans (((((hb2.mono hs1).setCell hs _).setCell hs _).setCell hs _).setCell hs _), ?_⟩
 have e : b ≠ H := by omega
 exact (((ho.keep (set_other e _ _)).keep (set_other e _ _)).keep (set_other e _ _)).keep (set_other e _ _)
theorem layReqW {w : World} (q : Rq) (A : Option Addr) (c : Nat) (hd : DatN w A q.n q.D) (t : Bool) (ht : t = true ↔ OkQ q.k q.s q.g q.i q.n) :
  Calls Tryz.prog 157 #[rqv q.k q.s q.g q.i A q.n c] w fun e w' => (∃ B m c', e = .returned (.tuple #[.slice B m c', .int .i64 (if t = true then 0 else 1)])) ∧ Below w.heap.size w w' := by
 obtain ⟨k, s, g, i, n, D⟩ := q
 dsimp only at hd ht ⊢
 cases t with
 | true =>
  have hq := ht.1 rfl
  have h1 := hq
  unfold OkQ at h1
  obtain ⟨k, rfl⟩ := Int.eq_ofNat_of_zero_le (show 0 ≤ k by omega)
  obtain ⟨s, rfl⟩ := Int.eq_ofNat_of_zero_le (show 0 ≤ s by omega)
  obtain ⟨g, rfl⟩ := Int.eq_ofNat_of_zero_le (show 0 ≤ g by omega)
  obtain ⟨i, rfl⟩ := Int.eq_ofNat_of_zero_le (show 0 ≤ i by omega)
  have hl : ((List.range n).map D).length = n := by simp
  have := clayReq k s g i ((List.range n).map D) A c w (by rw [hl]; exact hq) (bl_of_datN hd)
  rw [hl] at this
  refine this.mono ?_
  rintro e w' ⟨gg, cap, rfl, _, hb, _⟩
  exact ⟨⟨_, _, _, by rw [if_pos rfl]⟩, hb⟩
 | false =>
  refine (clayReq_no k s g i A n c w (fun hq => by have := ht.2 hq; cases this)).mono ?_
  rintro e w' ⟨rfl, hb⟩
  exact ⟨⟨_, _, _, rfl⟩, hb⟩
def CallRet (w0 v : World) (g : Nat) (nd : ND) (n : Int) (x : Wp × Ans) (e : Ending) (w' : World) : Prop :=
 ∃ r u, e = .returned (.tuple #[r, u]) ∧ WL w0 w' g nd x.1 ∧ KeepW v w' ∧ ((∃ c : Nat, x.2 = .err c ∧ r = rpv 0 0 (.slice none 0 0) (.slice none 0 0) ∧ ∃ b, u = onv b ∧ v.heap.size ≤ b ∧ OnE w' b n (c : Int)) ∨ ∃ y, x.2 = .ok y ∧ u = .nilIface ∧ RepV w' v.heap.size y r)
def Wp.call (s : Wp) (n : Nat) (q : Rq) : Wp × Ans := s.tries 3 n q
theorem OnE.set4 {w : World} {b B : Nat} {n c : Int} (h : OnE w B n c) (e : B ≠ b) (x0 x1 x2 x3 : Value) : OnE (set4 w b x0 x1 x2 x3) B n c := (((h.keep (set_other e _ _)).keep (set_other e _ _)).keep (set_other e _ _)).keep (set_other e _ _)
theorem wl_call {w0 v : World} {g : Nat} {nd : ND} {s : Wp} (h : WL w0 v g nd s) {m : Nat} (ho : s.Ok m) (hbd : s.Bd m) (hm : m ≤ 999999980) {n : Nat} (hn : n < 8) (q : Rq) (A : Option Addr) (c : Nat) (hd : DatN v A q.n q.D) (hD : ∀ j, j < q.n → q.D j < 256) (hq : OkQ q.k q.s q.g q.i q.n) :
  Calls Tryz.prog 126 #[.pointer (some ⟨g, 0, none⟩), .int .i64 (n : Int), rqv q.k q.s q.g q.i A q.n c] v (CallRet w0 v g nd (n : Int) (s.call n q)) := by
 obtain ⟨H, hH⟩ : ∃ H, v.heap.size = H := ⟨_, rfl⟩
 have HH := Lib.hid hH
 obtain ⟨v1, hv1⟩ : ∃ v1, (v.alloc (.cells #[.int .i64 q.k, .int .i64 q.s, .int .i64 q.g, .int .i64 q.i, .slice A q.n c] 50)).alloc (.cells #[.int .i64 0, .int .i64 0, .slice none 0 0, .slice none 0 0] 47) = v1 := ⟨_, rfl⟩
 have HV1 := Lib.hid hv1
 have B1 : Below v.heap.size v v1 := by rw [← hv1]; exact ((Below.refl _ _).alloc (Nat.le_refl _) _).alloc (by simp) _
 have q1 : QV v1 H q.k q.s q.g q.i A q.n c := by rw [← hv1]; exact (QV.of_new hH).below ((Below.refl _ _).alloc (Nat.le_refl _) _)
 have r1 : RV v1 (H + 1) 0 0 (.slice none 0 0) (.slice none 0 0) := by rw [← hv1]; exact RV.of_new (by simp [hH])
 have y0 := q1.c0
 have y1 := q1.c1
 have y2 := q1.c2
 have y3 := q1.c3
 have y4 := q1.c4
 have HL := Lib.hid (layReqW q A c (hd.below B1) true ⟨fun _ => hq, fun _ => rfl⟩)
 unfold rqv at HL
 have HW1 := Lib.hid (h.below B1)
 have HK1 := Lib.hid (KeepW.of B1)
 have HD1 := Lib.hid (hd.below B1)
 have HDV := Lib.hid hd
 have HDB := Lib.hid hD
 have HQ1 := Lib.hid q1
 have HR1 := Lib.hid r1
 have HN : Hid (w0.heap.size ≤ H ∧ nd.B ≤ H) := Lib.hid (by rw [← hH]; exact ⟨h.blw.size, h.zB⟩)
 have HO := Lib.hid ho
 have HBD := Lib.hid hbd
 obtain ⟨xx, hxx⟩ : ∃ xx, s.call n q = xx := ⟨_, rfl⟩
 rw [hxx]
 have HX : Hid (s.tries 3 n q = xx) := Lib.hid hxx
 clear h hd hD ho hH hv1 B1 q1 r1 hbd hq hxx
 go_enter Tryz.func126, Tryz.ntmps126
 go_upto_region 1 with fail
 rw [HV1.out, HH.out]
 go_wp2_with fail
 refine HL.out.mono ?_
 rintro e w2 ⟨⟨B, mm, cc, rfl⟩, hb2⟩
 try dsimp only
 have W2 := HW1.out.below hb2
 have HW2 := Lib.hid W2
 have K2 := HK1.out.trans (KeepW.of hb2)
 have q2 := HQ1.out.below hb2
 have HQ2 := Lib.hid q2
 have HR2 := Lib.hid (HR1.out.below hb2)
 have HD2 := Lib.hid (HD1.out.below hb2)
 have HH2 := Lib.hid (wl_has W2 hn)
 have HK2 := Lib.hid K2
 clear W2 K2 q2 hb2 y0 y1 y2 y3 y4 HL
 go_wp2_with fail
 refine HH2.out.mono ?_
 rintro e w3 ⟨rfl, hw⟩
 obtain rfl := hw.symm
 go_wp2_with fail
 go_loopg [29] 3 (fun k s29 wr => ∃ (i : Nat) (s' : Wp), s29 = .int .i64 (i : Int) ∧ i ≤ 3 ∧ k = 3 - i ∧ Hid (WL w0 wr g nd s' ∧ KeepW w2 wr ∧ s'.Ok (m + i) ∧ s'.Bd (m + i) ∧ s'.tries (3 - i) n q = xx))
 case atStart => exact ⟨0, s, rfl, by omega, rfl, Lib.hid ⟨HW2.out, KeepW.refl _, HO.out, HBD.out, HX.out⟩⟩
 case round =>
  obtain ⟨i, s', rfl, hi, rfl, HS⟩ := hrel
  obtain ⟨wo, rfl⟩ : ∃ wo : World, wo = wr := ⟨wr, rfl⟩
  have HVo : Hid (KeepW v wo) := Lib.hid (HK2.out.trans HS.out.2.1)
  have HRo := Lib.hid (HS.out.2.1.rv HR2.out)
  have HQo := Lib.hid (HS.out.2.1.qv HQ2.out)
  have HHo : Hid (v.heap.size = H) := HH
  by_cases h3 : i < 3
  ·have h3' : (i : Int) < 3 := by omega
   obtain ⟨j, hj⟩ : ∃ j, 3 - i = j + 1 := ⟨2 - i, by omega⟩
   have HXX : Hid (s'.tries (j + 1) n q = xx) := Lib.hid (by rw [← hj]; exact HS.out.2.2.2.2)
   have HLD := Lib.hid (wl_leads HS.out.1 hn HS.out.2.2.2.1.2.1 HS.out.2.2.2.1.1)
   obtain ⟨s1, b, hl⟩ : ∃ s1 b, s'.leads n = (s1, b) := ⟨_, _, rfl⟩
   have ho1 : s1.Ok (m + i) := by have := HS.out.2.2.1.congr (s'.leads_N n); rw [hl] at this; exact this
   have hb1 : s1.Bd (m + i) := by have := HS.out.2.2.2.1.leads n; rw [hl] at this; exact this
   rw [hl] at HLD
   dsimp only at HLD
   have HLL := Lib.hid hl
   have HOB := Lib.hid (And.intro ho1 hb1)
   clear hl ho1 hb1
   go_wp2_with fail
   refine HLD.out.mono ?_
   rintro e w4 ⟨rfl, W4, K4⟩
   try dsimp only
   have HW4 := Lib.hid W4
   have HK4 := Lib.hid (HVo.out.trans K4)
   have HKo4 := Lib.hid K4
   have HR4 := Lib.hid (K4.rv HRo.out)
   have q4 := K4.qv HQo.out
   have HQ4 := Lib.hid q4
   clear W4 K4
   cases b with
   | false =>
    have HY : Hid (xx = (s1, .err 4)) := Lib.hid (HXX.out.symm.trans (Wp.tries_down HLL.out))
    go_wp2_with fail
    refine (wl_fail (n : Int) 4 _).mono ?_
    rintro e w5 ⟨b, rfl, hb, hb5, ho5⟩
    try dsimp only
    have r5 := HR4.out.below hb5
    have HR5 := Lib.hid r5
    have rf : ∀ k, w5.frozen? ⟨H + 1, k, none⟩ = false := r5.f
    have x0 := r5.c0
    have x1 := r5.c1
    have x2 := r5.c2
    have x3 := r5.c3
    have HZ := Lib.hid (And.intro (HW4.out.below hb5) (And.intro (HK4.out.trans (KeepW.of hb5)) (And.intro hb ho5)))
    clear r5 hb5 hb ho5
    go_wp2_with fail
    refine bodyPost_ret (v := .tuple #[rpv 0 0 (.slice none 0 0) (.slice none 0 0), onv b]) ?_ rfl ?_
    ·rw [results_cell_tmp rfl]
     simp [(HR5.out.put4 (code' := 0) (boot' := 0) (u' := .slice none 0 0) (v' := .slice none 0 0)).load, Result.andThen, asAddr]
    obtain ⟨z1, z2, z3, z4⟩ := HZ.out
    have hlt := HR4.out.lt
    rw [HY.out]
    exact ⟨_, _, rfl, z1.set4 HR5.out (by have := HN.out; omega) _ _ _ _, z2.set4 (by have := HHo.out; omega) _ _ _ _, Or.inl ⟨4, rfl, rfl, b, rfl, by have := HHo.out; omega, z4.set4 (by omega) _ _ _ _⟩⟩
   | true =>
    have HSD := Lib.hid (wl_send HW4.out HOB.out.1 (by omega) hn (Nat.le_trans HOB.out.2.2.2 (by omega)) q A c (HK4.out.b.datN HDV.out) HDB.out)
    unfold rqv at HSD
    obtain ⟨s2, o, hsd⟩ : ∃ s2 o, s1.send n q = (s2, o) := ⟨_, _, rfl⟩
    have ho2 : s2.Ok (m + (i + 1)) := by have := HOB.out.1.send (q := q) hn HDB.out; rw [hsd] at this; exact this
    have hb2 : s2.Bd (m + (i + 1)) := by have := HOB.out.2.send n q; rw [hsd] at this; exact this
    rw [hsd] at HSD
    have HSS := Lib.hid hsd
    have HOB2 := Lib.hid (And.intro ho2 hb2)
    have y0 := q4.c0
    have y1 := q4.c1
    have y2 := q4.c2
    have y3 := q4.c3
    have y4 := q4.c4
    clear hsd ho2 hb2 HLD q4
    go_wp2_with fail
    refine HSD.out.mono ?_
    rintro e w5 ⟨r, b, rfl, W5, K5, hx⟩
    try dsimp only at W5 hx ⊢
    have HW5 := Lib.hid W5
    have HK5 := Lib.hid (HK4.out.trans K5)
    have HKo := Lib.hid K5
    have HR5 := Lib.hid (K5.rv HR4.out)
    have HS4 : Hid (v.heap.size ≤ w4.heap.size) := Lib.hid HK4.out.1
    clear W5 K5 y0 y1 y2 y3 y4 HSD
    rcases hx with ⟨rfl, rfl, rfl⟩ | ⟨y, rfl, rfl, hp⟩
    ·have HY : Hid (s2.tries j n q = xx) := Lib.hid (by rw [← HXX.out, Wp.tries_none HLL.out HSS.out])
     go_wp2_with fail
     go_roundg j
     case measure => omega
     case rel =>
      refine ⟨i + 1, s2, by go_num, by omega, by omega, Lib.hid ⟨HW5.out.below ?_, ?_, HOB2.out.1, HOB2.out.2, by rw [show 3 - (i + 1) = j by omega]; exact HY.out⟩⟩
      ·exact (Below.refl _ _).alloc (Nat.le_refl _) _
      ·exact (HS.out.2.1.trans (HKo4.out.trans HKo.out)).trans (KeepW.of ((Below.refl _ _).alloc (Nat.le_refl _) _))
    ·obtain ⟨A1, c1, A2, c2, rfl, hp'⟩ := hp
     have hp : RepV w5 w4.heap.size y (rpv (y.2.code : Int) (y.1.boot : Int) (.slice A1 y.2.ps.length c1) (.slice A2 y.2.its.length c2)) := ⟨A1, c1, A2, c2, rfl, hp'⟩
     clear hp'
     obtain ⟨P, hP⟩ : ∃ P, w5.heap.size = P := ⟨_, rfl⟩
     have HP := Lib.hid hP
     obtain ⟨k0, hk0⟩ : ∃ k0 : Nat, y.2.code = k0 := ⟨_, rfl⟩
     obtain ⟨k1, hk1⟩ : ∃ k1 : Nat, y.1.boot = k1 := ⟨_, rfl⟩
     obtain ⟨l0, hl0⟩ : ∃ l0, y.2.ps.length = l0 := ⟨_, rfl⟩
     obtain ⟨l1, hl1⟩ : ∃ l1, y.2.its.length = l1 := ⟨_, rfl⟩
     rw [hk0, hk1, hl0, hl1] at hp
     rw [hk0, hk1, hl0, hl1]
     have HYK : Hid (y.2.code = k0) := Lib.hid hk0
     obtain ⟨w6, hw6⟩ : ∃ w6, w5.alloc (.cells #[.int .i64 (k0 : Int), .int .i64 (k1 : Int), .slice A1 l0 c1, .slice A2 l1 c2] 47) = w6 := ⟨_, rfl⟩
     have B6 : Below w5.heap.size w5 w6 := by rw [← hw6]; exact (Below.refl _ _).alloc (Nat.le_refl _) _
     have p6 : RV w6 P (k0 : Int) (k1 : Int) (.slice A1 l0 c1) (.slice A2 l1 c2) := by rw [← hw6]; exact RV.of_new hP
     have r6 := HR5.out.below B6
     have HP6 := Lib.hid (hp.keep (KeepB.of B6))
     have HW6 := Lib.hid (HW5.out.below B6)
     have HK6 := Lib.hid (HK5.out.trans (KeepW.of B6))
     have HR6 := Lib.hid r6
     have HV6 := Lib.hid hw6
     have x0 := r6.c0
     have x1 := r6.c1
     have x2 := r6.c2
     have x3 := r6.c3
     have rf : ∀ k, w6.frozen? ⟨H + 1, k, none⟩ = false := r6.f
     have u0 := p6.c0
     have u1 := p6.c1
     have u2 := p6.c2
     have u3 := p6.c3
     have hne : ¬ P = H + 1 := by have := HR5.out.lt; omega
     have hlt := HR4.out.lt
     clear hP hk0 hk1 hl0 hl1 hp hw6 B6 p6 r6
     go_upto_region 10 with fail
     rw [HV6.out, HP.out]
     by_cases h0 : k0 = 0
     ·subst h0
      have HY : Hid (xx = (s2, .ok y)) := Lib.hid (HXX.out.symm.trans (Wp.tries_ok HLL.out HSS.out HYK.out))
      go_wp2_with fail
      refine bodyPost_ret (v := .tuple #[rpv 0 (k1 : Int) (.slice A1 l0 c1) (.slice A2 l1 c2), .nilIface]) ?_ rfl ?_
      ·rw [results_cell_tmp rfl]
       simp [(HR6.out.put4 (code' := 0) (boot' := (k1 : Int)) (u' := .slice A1 l0 c1) (v' := .slice A2 l1 c2)).load, Result.andThen, asAddr]
      rw [HY.out]
      exact ⟨_, _, rfl, HW6.out.set4 HR6.out (by have := HN.out; omega) _ _ _ _, HK6.out.set4 (by have := HHo.out; omega) _ _ _ _, Or.inr ⟨y, rfl, rfl, (HP6.out.set4 HR6.out _ _ _ _).mono HS4.out⟩⟩
     ·have hk : ((k0 : Int) != 0) = true := by simp [h0]
      have HY : Hid (xx = (s2, .err k0)) := Lib.hid (by rw [← HYK.out]; exact HXX.out.symm.trans (Wp.tries_no HLL.out HSS.out (by rw [HYK.out]; exact h0)))
      clear h0
      go_wp2_with fail
      refine (wl_fail (n : Int) (k0 : Int) _).mono ?_
      rintro e w7 ⟨b, rfl, hb, hb7, ho7⟩
      try dsimp only
      have r7 := HR6.out.below hb7
      have HR7 := Lib.hid r7
      have hlt6 := HR6.out.lt
      have HZ := Lib.hid (And.intro (HW6.out.below hb7) (And.intro (HK6.out.trans (KeepW.of hb7)) (And.intro hb ho7)))
      clear x0 x1 x2 x3 rf u0 u1 u2 u3
      have rf : ∀ k, w7.frozen? ⟨H + 1, k, none⟩ = false := r7.f
      have x0 := r7.c0
      have x1 := r7.c1
      have x2 := r7.c2
      have x3 := r7.c3
      have HHL : Hid (H + 1 < w6.heap.size) := Lib.hid hlt6
      clear r7 hb7 hb ho7
      go_wp2_with fail
      refine bodyPost_ret (v := .tuple #[rpv 0 0 (.slice none 0 0) (.slice none 0 0), onv b]) ?_ rfl ?_
      ·rw [results_cell_tmp rfl]
       simp [(HR7.out.put4 (code' := 0) (boot' := 0) (u' := .slice none 0 0) (v' := .slice none 0 0)).load, Result.andThen, asAddr]
      obtain ⟨z1, z2, z3, z4⟩ := HZ.out
      rw [HY.out]
      exact ⟨_, _, rfl, z1.set4 HR7.out (by have := HN.out; omega) _ _ _ _, z2.set4 (by have := HHo.out; omega) _ _ _ _, Or.inl ⟨k0, rfl, rfl, b, rfl, by have := HHo.out; omega, z4.set4 (by omega) _ _ _ _⟩⟩
  ·obtain rfl : i = 3 := by omega
   have HY : Hid (xx = (s', .err 5)) := Lib.hid HS.out.2.2.2.2.symm
   go_wp2_with fail
   refine (wl_fail (n : Int) 5 _).mono ?_
   rintro e w5 ⟨b, rfl, hb, hb5, ho5⟩
   try dsimp only
   have r5 := HRo.out.below hb5
   have HR5 := Lib.hid r5
   have rf : ∀ k, w5.frozen? ⟨H + 1, k, none⟩ = false := r5.f
   have x0 := r5.c0
   have x1 := r5.c1
   have x2 := r5.c2
   have x3 := r5.c3
   have HZ := Lib.hid (And.intro (HS.out.1.below hb5) (And.intro (HVo.out.trans (KeepW.of hb5)) (And.intro hb ho5)))
   clear r5 hb5 hb ho5
   go_wp2_with fail
   refine bodyPost_ret (v := .tuple #[rpv 0 0 (.slice none 0 0) (.slice none 0 0), onv b]) ?_ rfl ?_
   ·rw [results_cell_tmp rfl]
    simp [(HR5.out.put4 (code' := 0) (boot' := 0) (u' := .slice none 0 0) (v' := .slice none 0 0)).load, Result.andThen, asAddr]
   obtain ⟨z1, z2, z3, z4⟩ := HZ.out
   have hlt := HRo.out.lt
   rw [HY.out]
   exact ⟨_, _, rfl, z1.set4 HR5.out (by have := HN.out; omega) _ _ _ _, z2.set4 (by have := HHo.out; omega) _ _ _ _, Or.inl ⟨5, rfl, rfl, b, rfl, by have := HHo.out; omega, z4.set4 (by omega) _ _ _ _⟩⟩
end Go.Proofs.YtelmcchleclklaaGreat
namespace Go.Proofs.YtelmcchleclklaaGreat
open Go.RowKit Go.Sort
set_option maxRecDepth 100000
set_option maxHeartbeats 2000000

theorem WM.add {v v' : World} {g m : Nat} {nd : Nat → Nat} {T : Nat → List Nat} {fv : Value} {s : Wp} (h : WM v g m nd T fv s) (hm : m < 8) (b : Below v.heap.size v v') {n r p sb : Nat} {S : List Nat} (hn : NdM v' n r p sb S (s.N m)) (ho : (s.N m).Ok) (hge : ∀ k ∈ n :: r :: p :: sb :: S, v.heap.size ≤ k) :
  WM (v'.setCell ⟨g, m, none⟩ (.pointer (some ⟨n, 0, none⟩))) g (m + 1) (fun j => if j = m then n else nd j) (fun j => if j = m then n :: r :: p :: sb :: S else T j) fv s := by
 have h' := h.below b
 refine ⟨?_, h'.fat.keep (fun j hj => set_other (fun e => ?_) _ _), fun i hi => ?_, fun i j hi hj hij k hki hkj => ?_⟩
 ·rw [set_block h'.hd]
  rcases (by omega : m = 0 ∨ m = 1 ∨ m = 2 ∨ m = 3 ∨ m = 4 ∨ m = 5 ∨ m = 6 ∨ m = 7) with rfl | rfl | rfl | rfl | rfl | rfl | rfl | rfl <;> simp [whead, nptr]
 ·subst e
  obtain ⟨row, hr⟩ := h'.fat.type j hj
  rw [h'.hd] at hr
  injection hr with hr
  injection hr with _ hr
  exact absurd hr (by decide)
 ·by_cases e : i = m
  ·subst e
   simp only [if_true]
   exact ⟨r, p, sb, S, hn.set h'.hd (by decide) (by decide) (by decide) (by decide) (by decide) (by decide) (by decide), ho, rfl⟩
  ·obtain ⟨ri, pi, sbi, Si, q1, q2, q3⟩ := h'.node i (by omega)
   simp only [if_neg e]
   exact ⟨ri, pi, sbi, Si, q1.set h'.hd (by decide) (by decide) (by decide) (by decide) (by decide) (by decide) (by decide), q2, q3⟩
 ·by_cases e : i = m
  ·rw [if_pos e] at hki
   rw [if_neg (fun e2 => hij (e.trans e2.symm))] at hkj
   have := h.Tlt (i := j) (by omega) hkj
   have := hge k hki
   omega
  ·rw [if_neg e] at hki
   by_cases e2 : j = m
   ·rw [if_pos e2] at hkj
    have := h.Tlt (i := i) (by omega) hki
    have := hge k hkj
    omega
   ·rw [if_neg e2] at hkj
    exact h.sep i j (by omega) (by omega) hij k hki hkj
theorem wl_new {w0 : World} (w : World) (hb0 : Below w0.heap.size w0 w) : Calls Tryz.prog 32 #[] w fun e w' => ∃ g nd, e = .returned (.pointer (some ⟨g, 0, none⟩)) ∧ WL w0 w' g nd Wp.new ∧ Below w.heap.size w w' := by
 obtain ⟨H, hH⟩ : ∃ H, w.heap.size = H := ⟨_, rfl⟩
 have HH := Lib.hid hH
 have HB0 := Lib.hid hb0
 clear hH hb0
 go_enter Tryz.func32, Tryz.ntmps32
 go_upto_region 2 with fail
 rw [HH.out]
 go_wp2_with fail
 go_loopg [5] 8 (fun k s5 wr => ∃ (i : Nat) (nd : Nat → Nat) (T : Nat → List Nat), s5 = .int .i64 (i : Int) ∧ i ≤ 8 ∧ k = 8 - i ∧ Hid (WM wr H i nd T (.slice none 0 0) Wp.new ∧ Below H w wr ∧ ∀ j, j < i → ∀ k ∈ T j, H ≤ k))
 case atStart =>
  refine ⟨0, fun _ => 0, fun _ => [], rfl, by omega, rfl, Lib.hid ⟨⟨?_, FatV.nil _, fun i hi => absurd hi (by omega), fun i j hi => absurd hi (by omega)⟩, by rw [← HH.out]; exact (Below.refl _ _).alloc (Nat.le_refl _) _, fun j hj => absurd hj (by omega)⟩⟩
  rw [← HH.out, alloc_block]
  rfl
 case round =>
  obtain ⟨i, nd, T, rfl, hi, rfl, HS⟩ := hrel
  obtain ⟨wo, rfl⟩ : ∃ wo : World, wo = wr := ⟨wr, rfl⟩
  by_cases h8 : i < 8
  ·have h8' : (i : Int) < 8 := by omega
   have HN := Lib.hid (nnew wo.drew)
   have BD := Lib.hid (below_drewN 1 wo)
   go_upto_region 5 with fail
   go_region_with (first | (go_at_call 72; (with_reducible refine HN.out.mono ?_); rintro e w2 ⟨n, r, p, sb, S, rfl, hn, hb2, hge⟩; (try dsimp only); have HZ := Lib.hid (HS.out.1.add h8 (BD.out.trans (hb2.mono BD.out.size)) hn Ns.new_ok.1 (fun k hk => Nat.le_trans BD.out.size (hge k hk))); have HB2 : Hid (Below H w w2) := Lib.hid (HS.out.2.1.trans ((BD.out.trans (hb2.mono BD.out.size)).mono (Nat.le_of_lt HS.out.1.lt))); have HG : Hid (∀ k ∈ n :: r :: p :: sb :: S, H ≤ k) := Lib.hid (fun k hk => Nat.le_trans (Nat.le_trans (Nat.le_of_lt HS.out.1.lt) BD.out.size) (hge k hk)); have cp := (HS.out.1.below (BD.out.trans (hb2.mono BD.out.size))).cp h8; have fp := (HS.out.1.below (BD.out.trans (hb2.mono BD.out.size))).f i; clear hn hb2 hge))
   all_goals
    go_wp2_with fail
    go_roundg (8 - (i + 1))
    case measure => omega
    case rel =>
     refine ⟨i + 1, _, _, by go_num, by omega, rfl, Lib.hid ⟨HZ.out, ?_, ?_⟩⟩
     ·exact HB2.out.setCell (p := ⟨H, i, none⟩) (Nat.le_refl _) _
     ·intro j hj k hk
      by_cases e : j = i
      ·rw [if_pos e] at hk
       exact HG.out k hk
      ·rw [if_neg e] at hk
       exact HS.out.2.2 j (by omega) k hk
  ·obtain rfl : i = 8 := by omega
   go_wp2_with fail
   go_ret
   refine ⟨H, ⟨nd, fun _ => False, fun _ => none, 0⟩, rfl, ⟨T, _, HS.out.1, HB0.out.trans (HS.out.2.1.mono (by rw [← HH.out]; exact HB0.out.size)), by rw [← HH.out]; exact HB0.out.size, fun k hk => by simp [fatB] at hk, fun j hj k hk => Nat.le_trans (by rw [← HH.out]; exact HB0.out.size) (HS.out.2.2 j hj k hk), Nat.zero_le _, fun k hk => hk.elim⟩, by rw [HH.out]; exact HS.out.2.1⟩
end Go.Proofs.YtelmcchleclklaaGreat
namespace Go.Proofs.YtelmcchleclklaaGreat
open Go.RowKit Go.Sort
set_option maxRecDepth 100000
set_option maxHeartbeats 1000000

theorem lsame (A1 A2 : Option Addr) (xs ys : List Int) (c1 c2 : Nat) (w : World) (h1 : Nums w A1 xs) (h2 : Nums w A2 ys) (l1 : xs.length ≤ 1000000000) (t : Bool) (ht : t = true ↔ xs = ys) :
  Calls Tryz.prog 34 #[.slice A1 xs.length c1, .slice A2 ys.length c2] w fun e w' => e = .returned (.bool t) ∧ Below w.heap.size w w' := by
 by_cases hl : xs.length = ys.length
 ·obtain ⟨n, hn⟩ : ∃ n, xs.length = n := ⟨_, rfl⟩
  have e2 : ys.length = n := by omega
  rw [e2, hn]
  have H1 := Lib.hid h1
  have H2 := Lib.hid h2
  have HN := Lib.hid hn
  have HM := Lib.hid e2
  have HT := Lib.hid ht
  rw [hn] at l1
  clear hl hn e2 h1 h2 ht
  go_enter Tryz.func34, Tryz.ntmps34
  go_wp2_with fail
  go_loopg [5] n (fun q s5 v => ∃ i : Nat, s5 = .int .i64 (i : Int) ∧ i ≤ n ∧ q = n - i ∧ Hid (xs.take i = ys.take i ∧ Below w.heap.size w v))
  case atStart => exact ⟨0, rfl, by omega, rfl, Lib.hid ⟨rfl, Below.refl _ _⟩⟩
  case round =>
   obtain ⟨i, rfl, hi, rfl, HS⟩ := hrel
   generalize wr = v at *
   by_cases hlt : i < n
   ·have hl3 : (i : Int) < (n : Int) := by omega
    obtain ⟨x, hx⟩ : ∃ x, xs[i]? = some x := ⟨_, List.getElem?_eq_getElem (by rw [HN.out]; exact hlt)⟩
    obtain ⟨y, hy⟩ : ∃ y, ys[i]? = some y := ⟨_, List.getElem?_eq_getElem (by rw [HM.out]; exact hlt)⟩
    obtain ⟨g, o, rfl, hg, hc⟩ := H1.out i x hx
    obtain ⟨g', o', rfl, hg', hc'⟩ := H2.out i y hy
    have d1 : ∀ k, (v.drewN k).cell? ⟨g, o + i, none⟩ = some (.int .i64 x) := fun k => (HS.out.2.cell (p := ⟨g, o + i, none⟩) hg).trans hc
    have d2 : ∀ k, (v.drewN k).cell? ⟨g', o' + i, none⟩ = some (.int .i64 y) := fun k => (HS.out.2.cell (p := ⟨g', o' + i, none⟩) hg').trans hc'
    have d1' := d1 0
    have d2' := d2 0
    have HX := Lib.hid hx
    have HY := Lib.hid hy
    clear hx hy hc hc' hg hg'
    by_cases e : x = y
    ·subst e
     have t1 : (x != x) = false := by simp
     go_wp2_with fail
     go_big_quiet (fail)
     go_wp2_with fail
     go_roundg (n - (i + 1))
     case measure => omega
     case rel => exact ⟨i + 1, by go_num, by omega, rfl, Lib.hid ⟨by rw [List.take_add_one, List.take_add_one, HX.out, HY.out, HS.out.1], HS.out.2.trans ((below_drewN _ _).mono HS.out.2.size)⟩⟩
    ·have t1 : (x != y) = true := by simpa using e
     have HF : Hid (t = false) := Lib.hid (by
      cases t with
      | false => rfl
      | true =>
       have := HT.out.1 rfl
       subst this
       have h := HX.out
       rw [HY.out] at h
       cases h
       exact absurd rfl e)
     clear e
     go_wp2_with fail
     go_big_quiet (fail)
     go_wp2_with fail
     go_ret
     exact ⟨congrArg (fun b => Ending.returned (Value.bool b)) HF.out.symm, HS.out.2.trans ((below_drewN _ _).mono HS.out.2.size)⟩
   ·obtain rfl : i = n := by omega
    have hge : ¬ (i : Int) < (i : Int) := by omega
    have HF : Hid (t = true) := Lib.hid (HT.out.2 (by
     have := HS.out.1
     rwa [List.take_of_length_le (by rw [HN.out]; omega), List.take_of_length_le (by rw [HM.out]; omega)] at this))
    clear hlt
    go_wp2_with fail
    go_ret
    exact ⟨congrArg (fun b => Ending.returned (Value.bool b)) HF.out.symm, HS.out.2⟩
 ·have e1 : ((xs.length : Int) != (ys.length : Int)) = true := by rw [bne_iff_ne]; omega
  have HF : Hid (t = false) := Lib.hid (by
   cases t with
   | false => rfl
   | true => exact absurd (congrArg List.length (ht.1 rfl)) hl)
  clear hl ht h1 h2
  generalize xs.length = n at *
  generalize ys.length = m at *
  go_enter Tryz.func34, Tryz.ntmps34
  go_wp2_with fail
  go_ret
  exact ⟨congrArg (fun b => Ending.returned (Value.bool b)) HF.out.symm, Below.refl _ _⟩
end Go.Proofs.YtelmcchleclklaaGreat
namespace Go.Proofs.YtelmcchleclklaaGreat
open Go.RowKit Go.Sort
set_option maxRecDepth 100000
set_option maxHeartbeats 2000000

theorem wf_block (g : Nat) (t : TypeId) (fr : Nat × Nat) : ∀ (vs : List Value) (o : Nat) (w : World) (cur : Array Value), w.heap[g]? = some (.cells cur t fr) → o + vs.length ≤ cur.size →
  ∃ cur', (w.setCells g o vs).heap[g]? = some (.cells cur' t fr) ∧ cur'.size = cur.size ∧ (∀ j, j < vs.length → cur'[o + j]? = vs[j]?) ∧ ∀ j, j < o ∨ o + vs.length ≤ j → cur'[j]? = cur[j]?
 | [], o, w, cur, h, _ => ⟨cur, h, rfl, fun j hj => absurd hj (by simp), fun _ _ => rfl⟩
 | v :: r, o, w, cur, h, hs => by
  rw [List.length_cons] at hs
  obtain ⟨c', h1, h2, h3, h4⟩ := wf_block g t fr r (o + 1) (w.setCell ⟨g, o, none⟩ v) (cur.setIfInBounds o v) (set_block h o v) (by rw [Array.size_setIfInBounds]; omega)
  refine ⟨c', h1, by rw [h2, Array.size_setIfInBounds], fun j hj => ?_, fun j hj => ?_⟩
  ·cases j with
   | zero =>
    rw [Nat.add_zero, h4 o (Or.inl (by omega))]
    simp [show o < cur.size by omega]
   | succ j =>
    rw [List.length_cons] at hj
    rw [show o + (j + 1) = o + 1 + j by omega, h3 j (by omega)]
    rfl
  ·rw [List.length_cons] at hj
   rw [h4 j (by omega), Array.getElem?_setIfInBounds]
   rw [if_neg (by omega)]
theorem wf_turn (g : Nat) : ∀ (vs : List Value) (o : Nat) (w : World), Turn [g] w (w.setCells g o vs)
 | [], _, w => Turn.refl _ w
 | v :: r, o, w => (Turn.set [g] w ⟨g, o, none⟩ v (by simp)).trans (wf_turn g r (o + 1) _)
theorem wf_own {w : World} {base n : Nat} {v : Value} {F : List Int} (h : w.ownsRow base 3 1 v n (intsV F)) : FatV w v F ∧ ∀ k ∈ fatB v, base ≤ k := by
 have hl : F.length = n := by have := h.1; simpa [intsV] using this
 subst hl
 rcases h.2 with ⟨rfl, h0⟩ | ⟨g, cap, cur, rfl, hb, hg, h1, h2, h3, h4⟩
 ·have : F = [] := List.eq_nil_of_length_eq_zero h0
  subst this
  exact ⟨FatV.nil w, fun k hk => by simp [fatB] at hk⟩
 ·refine ⟨⟨_, cap, rfl, h1, h2, fun _ => ⟨g, 0, cur, rfl, hg, by omega, fun i x hx => ?_⟩⟩, fun k hk => ?_⟩
  ·have := h.cells (g := g) rfl i (.int .i64 x) (by simp [intsV, hx])
   rw [addr_add, cell_of_block hg] at this
   exact this
  ·unfold fatB at hk
   dsimp only at hk
   split at hk
   ·simp at hk; omega
   ·simp at hk
theorem run_append_fat (w : World) (ty : TypeId) {v : Value} {F : List Int} (hf : FatV w v F) (A : Option Addr) (n c : Nat) (xs : List Int) (hn : xs.length = n) (hN : Nums w A xs) (hlen : F.length + n ≤ 1000000) :
  ∃ v' w', (Builtin.append_ #[29, 29] ty #[v, .slice A n c]).run Tryz.prog w = .ok v' w' ∧ FatV w' v' (F ++ xs) ∧ Turn (fatB v) w w' ∧ ∀ k ∈ fatB v', k ∈ fatB v ∨ w.heap.size ≤ k := by
 obtain ⟨i0, hi0, hz0, hz1, hz2⟩ := info_parts infoInt
 obtain ⟨A0, c0, rfl, h1, h2, h3⟩ := hf
 by_cases h0 : n = 0
 ·subst h0
  obtain rfl : xs = [] := List.eq_nil_of_length_eq_zero hn
  refine ⟨.slice A0 F.length c0, w, ?_, by rw [List.append_nil]; exact ⟨A0, c0, rfl, h1, h2, h3⟩, Turn.refl _ _, fun k hk => Or.inl hk⟩
  have hld : ∀ a : Addr, Sem.run Tryz.prog (loadCells a 0) w = .ok #[] w := fun a => rfl
  cases A <;> cases A0 <;> simp [Builtin.append_, run_underlying Tryz.underlying29, sizeOf, typeInfo, hi0, Builtin.lenOf, Builtin.firstCells, h1, storeCells, hld, Result.andThen]
 ·obtain ⟨x0, hx0⟩ : ∃ x, xs[0]? = some x := ⟨_, List.getElem?_eq_getElem (by omega)⟩
  obtain ⟨g, o, rfl, hg, _⟩ := hN 0 x0 hx0
  have hnews : ∀ j u, (intsV xs)[j]? = some u → w.cell? ((⟨g, o, none⟩ : Addr).add j) = some u := by
   intro j u hu
   unfold intsV at hu
   rw [List.getElem?_map] at hu
   cases hx : xs[j]? with
   | none => rw [hx] at hu; cases hu
   | some x =>
    rw [hx] at hu
    cases hu
    obtain ⟨g', o', e, _, hc⟩ := hN j x hx
    cases e
    rw [addr_add]
    exact hc
  have hone : ∀ u ∈ intsV xs, u.oneCell' = true := fun u hu => by
   unfold intsV at hu
   obtain ⟨x, _, rfl⟩ := List.mem_map.1 hu
   rfl
  have hl : (intsV xs).length = n * 1 := by simp [intsV, hn]
  have hm1 : F.length + n ≤ maxLen := by unfold maxLen; omega
  by_cases hc : F.length + n ≤ c0
  ·obtain ⟨gf, of, row, rfl, r1, r2, r3⟩ := h3 (by omega)
   have hrun := run_append_room_cells (P := Tryz.prog) w 29 ty 3 i0 Tryz.underlying29 hi0 gf of F.length c0 ⟨g, o, none⟩ n c (intsV xs) (by rw [hz1]; exact hl) hnews hone hc (fun j hj => by
    rw [hz1, cell_of_block r1, Nat.mul_one]
    rw [hl] at hj
    rw [Array.getElem?_eq_getElem (by omega)]
    rfl) (fun j _ => free_of_block r1)
   rw [hz1, Nat.mul_one] at hrun
   obtain ⟨row', k1, k2, k3, k4⟩ := wf_block gf 3 (0, 0) (intsV xs) (of + F.length) w row r1 (by rw [hl]; omega)
   have hfb : fatB (.slice (some ⟨gf, of, none⟩) F.length c0) = [gf] := by simp [fatB]; omega
   refine ⟨_, _, hrun, ⟨_, c0, by rw [List.length_append, hn], by rw [List.length_append, hn]; exact hc, h2, fun _ => ⟨gf, of, row', rfl, k1, by omega, fun i x hx => ?_⟩⟩, ?_, fun k hk => Or.inl ?_⟩
   ·by_cases hi : i < F.length
    ·rw [k4 _ (Or.inl (by omega))]
     rw [List.getElem?_append_left hi] at hx
     exact r3 i x hx
    ·rw [List.getElem?_append_right (by omega)] at hx
     have hlt := (List.getElem?_eq_some_iff.1 hx).1
     have := k3 (i - F.length) (by rw [hl]; omega)
     rw [show of + F.length + (i - F.length) = of + i by omega] at this
     rw [this]
     simp [intsV, hx]
   ·rw [hfb]
    exact wf_turn gf _ _ _
   ·rw [hfb]
    have : 0 < c0 := by omega
    simp [fatB, this] at hk
    simp [hk]
  ·have key : ∃ v' w', (Builtin.append_ #[29, 29] ty #[.slice A0 F.length c0, .slice (some ⟨g, o, none⟩) n c]).run Tryz.prog w = .ok v' w' ∧ w'.ownsRow w.heap.size 3 1 v' (F.length + n) (intsV F ++ intsV xs) ∧ w.grownBy w' none := by
    cases A0 with
    | some b =>
     refine run_append_arg_grows (P := Tryz.prog) w 29 ty 3 i0 (.int .i64 0) 1 8 Tryz.underlying29 hi0 hz0 hz1 hz2 rfl (by decide) b F.length c0 (intsV F) (by simp [intsV]) (fun j u hu => ?_) ⟨g, o, none⟩ n c (intsV xs) hl hnews (by omega) hm1 (by omega)
     unfold intsV at hu
     rw [List.getElem?_map] at hu
     cases hx : F[j]? with
     | none => rw [hx] at hu; cases hu
     | some x =>
      rw [hx] at hu
      cases hu
      have := (List.getElem?_eq_some_iff.1 hx).1
      obtain ⟨gf, of, row, e, r1, r2, r3⟩ := h3 (by omega)
      cases e
      rw [addr_add, cell_of_block r1]
      exact r3 j x hx
    | none =>
     have hc0 : c0 = 0 := by
      rcases Nat.eq_zero_or_pos c0 with h | h
      ·exact h
      ·obtain ⟨_, _, _, e, _⟩ := h3 h
       cases e
     subst hc0
     obtain rfl : F = [] := List.eq_nil_of_length_eq_zero (by omega)
     obtain ⟨v', w', hrun, q1, q2, _⟩ := run_append_own (P := Tryz.prog) w w.heap.size 29 ty 3 i0 (.int .i64 0) 1 8 Tryz.underlying29 hi0 hz0 hz1 hz2 rfl (by decide) (.slice none 0 0) 0 [] (World.ownsRow_nil _ _ _ _) ⟨g, o, none⟩ n c (intsV xs) hl hnews hone (by unfold maxLen; simp at hlen; omega) (by simp at hlen; omega) (Nat.le_refl _)
     exact ⟨v', w', hrun, by simpa [intsV] using q1, q2⟩
   obtain ⟨v', w', hrun, q1, q2⟩ := key
   rw [← show intsV (F ++ xs) = intsV F ++ intsV xs by simp [intsV]] at q1
   obtain ⟨z1, z2⟩ := wf_own q1
   exact ⟨v', w', hrun, z1, ⟨q2.os, q2.tape, q2.output, q2.size, fun k hk _ => q2.block k hk (by simp)⟩, fun k hk => Or.inr (z2 k hk)⟩
theorem step_append_fat (w : World) {ops : Array Oper} {o : Oper} {a : Act} {K : Act → World → Prop} {Q : Exit → Act → World → Prop} {E : Prop} (hgd : o.guard = none) (s x : Operand)
  (ho : o.op = .call { callee := .builtin .append, args := #[s, x], argTypes := #[29, 29] })
  (v : Value) (F : List Int) (hs : a.eval s = v) (hf : FatV w v F) (A : Option Addr) (n c : Nat) (xs : List Int) (hx : a.eval x = .slice A n c) (hn : xs.length = n) (hN : Nums w A xs) (hlen : F.length + n ≤ 1000000)
  (h : ∀ A' l c' w', FatV w' (.slice A' l c') (F ++ xs) → Turn (fatB v) w w' → (∀ k ∈ fatB (.slice A' l c'), k ∈ fatB v ∨ w.heap.size ≤ k) → K (a.put o.dst (.slice A' l c')) w') :
  if Region.wanted o (yielded ops a.tmps) = true then Oper.wp Tryz.prog o a w K Q else E := by
 have hw : Region.wanted o (yielded ops a.tmps) = true := by simp [Region.wanted, hgd]
 rw [if_pos hw]
 obtain ⟨v', w', hrun, r1, r2, r3⟩ := run_append_fat w o.type hf A n c xs hn hN hlen
 unfold Oper.wp
 simp [execOp, ho, resolve, invoke, builtin, hs, hx, hrun, Result.andThen]
 have r1' := r1
 obtain ⟨A', c', rfl, _⟩ := r1'
 exact h A' _ c' w' r1 r2 r3
end Go.Proofs.YtelmcchleclklaaGreat
