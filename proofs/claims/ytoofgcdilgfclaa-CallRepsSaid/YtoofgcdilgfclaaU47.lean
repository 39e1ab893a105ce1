import Derived.Test.YtoofgcdilgfclaaU46
namespace Go.Proofs.Ytoofgcdilgfclaa
open Go.RowKit Go.Sort
set_option maxRecDepth 100000
set_option maxHeartbeats 4000000

theorem hpick (a m : Int) (hm : 1 ≤ m) (hm2 : m ≤ 1000000) : ∃ p : Nat, (p : Int) < m ∧ ∀ w : World, Calls Try.prog 20 #[.int .i64 a, .int .i64 m] w fun e w' => e = .returned (.int .i64 (p : Int)) ∧ w' = w := by
  obtain ⟨k, rfl⟩ := Int.eq_ofNat_of_zero_le (show 0 ≤ m by omega)
  obtain ⟨p, hp, h⟩ := rpickN a k (by omega) (by omega)
  exact ⟨p, by omega, h⟩
theorem RVal.block {w w3 : World} {p : Rx} {A1 A2 : Option Addr} {n1 n2 c1 c2 : Nat} (h : RVal w (rpv p.code p.boot (.slice A1 n1 c1) (.slice A2 n2 c2)) p) (e : w.alloc (.cells #[.int .i64 p.code, .int .i64 p.boot, .slice A1 n1 c1, .slice A2 n2 c2] 39) = w3) :
    RV w3 w.heap.size p.code p.boot (.slice A1 n1 c1) (.slice A2 n2 c2) ∧ RVal w3 (rpv p.code p.boot (.slice A1 n1 c1) (.slice A2 n2 c2)) p ∧ Below w.heap.size w w3 := by
  subst e
  have hb : Below w.heap.size w (w.alloc (.cells #[.int .i64 p.code, .int .i64 p.boot, .slice A1 n1 c1, .slice A2 n2 c2] 39)) := (Below.refl _ _).alloc (Nat.le_refl _) _
  exact ⟨RV.of_new rfl, h.below hb, hb⟩
theorem RVal.form {w : World} {v : Value} {p : Rx} (h : RVal w v p) : ∃ A1 c1 A2 c2, v = rpv p.code p.boot (.slice A1 p.ps.length c1) (.slice A2 p.xs.length c2) := by
  obtain ⟨A1, c1, A2, c2, e, _⟩ := h
  exact ⟨A1, c1, A2, c2, e⟩
theorem OwnL.empty (w : World) : OwnL (w.alloc (.cells #[] 5)) w.heap.size (.slice (some ⟨w.heap.size, 0, none⟩) 0 0) [] := own_empty (alloc_block w _) (Nat.le_refl _)
theorem BL.one (w : World) (y : Nat) : BL (w.alloc (.cells #[.int .u8 (y : Int)] 5)) (some ⟨w.heap.size, 0, none⟩) [y] := by
  refine BL.of (n := 1) (F := fun _ => y) (Or.inr ⟨w.heap.size, 0, _, rfl, alloc_block w _, fun j hj => ?_⟩) rfl (fun j hj => ?_)
  · obtain rfl : j = 0 := by omega
    exact cell_of_block (alloc_block w _)
  · obtain rfl : j = 0 := by omega
    rfl
theorem ReadQ.no {w : World} {e : Ending} {w' : World} (h : ReadQ none w e w') : ∃ B c, e = .returned (.tuple #[rqv 0 0 0 0 B 0 c, .int .i64 2]) ∧ Below w.heap.size w w' := by
  obtain ⟨v, rfl, ⟨B, c, rfl, _, _⟩, hb⟩ := h
  exact ⟨B, c, rfl, hb⟩
theorem ReadR.no {w : World} {e : Ending} {w' : World} (h : ReadR none w e w') : ∃ A a B b, e = .returned (.tuple #[rpv 0 0 (.slice A 0 a) (.slice B 0 b), .int .i64 2]) ∧ Below w.heap.size w w' := by
  obtain ⟨v, rfl, ⟨A, a, B, b, rfl, _, _⟩, hb⟩ := h
  exact ⟨A, a, B, b, rfl, hb⟩
theorem By.one {y : Nat} (h : y < 256) : By [y] := fun x hx => by rw [List.mem_singleton] at hx; omega
theorem gt_app_left {A B : List Nat} {j : Nat} (h : j < A.length) : gt (A ++ B) j = gt A j := by rw [gt_app, if_pos h]
/-- a request is as long as it is; one byte less, or more, is none: what the first half of CallSizes leaves. -/
theorem callSizes (x0 x1 x2 x3 x4 x5 pn xn seed : Int) (y : Nat) (w : World) (hy : y < 256) :
    Calls Try.prog 7 #[rawv x0 x1 x2 x3 x4 x5, .int .i64 pn, .int .i64 xn, .int .i64 seed, .int .u8 (y : Int)] w fun e w' => e = .returned (.bool true) ∧ Below w.heap.size w w' := by
  obtain ⟨H, hH⟩ : ∃ H, w.heap.size = H := ⟨_, rfl⟩
  have HH := Lib.hid hH
  obtain ⟨w1, hw1⟩ : ∃ w1, w.alloc (.cells #[.int .i64 x0, .int .i64 x1, .int .i64 x2, .int .i64 x3, .int .i64 x4, .int .i64 x5] 46) = w1 := ⟨_, rfl⟩
  have HW1 := Lib.hid hw1
  have HB1 : Hid (Below H w w1) := Lib.hid (by rw [← hw1, ← hH]; exact (Below.refl _ _).alloc (Nat.le_refl _) _)
  have HX1 : Hid (XV w1 H x0 x1 x2 x3 x4 x5) := Lib.hid (by rw [← hw1]; exact XV.of_new hH)
  have HZ1 : Hid (H ≤ w1.heap.size) := Lib.hid (Nat.le_of_lt HX1.out.lt)
  have HY : Hid (y < 256) := Lib.hid hy
  have HKN := Lib.hid (lknown11 w1)
  obtain ⟨k1, hk1, HP1⟩ := hpick pn 3 (by omega) (by omega)
  obtain ⟨k2, hk2, HP2⟩ := hpick xn 17 (by omega) (by omega)
  have HPK1 := Lib.hid HP1
  have HPK2 := Lib.hid HP2
  clear hw1 hH hy HP1 HP2
  unfold rawv
  go_enter Try.func7, Try.ntmps7
  go_wp2_with fail
  rw [HW1.out, HH.out]
  refine HKN.out.mono ?_
  rintro e w2 ⟨rfl, hb2⟩
  try dsimp only
  have HB2 : Hid (Below H w w2) := Lib.hid (HB1.out.trans (hb2.mono HZ1.out))
  have HZ2 : Hid (H ≤ w2.heap.size) := Lib.hid (Nat.le_trans HZ1.out hb2.size)
  obtain ⟨r0, r1, r2, r3, r4, r5⟩ := (HX1.out.below hb2).cells
  have HRX := Lib.hid (hreq x0 x1 x2 x3 x4 x5 w2)
  unfold rawv at HRX
  clear hb2 HKN
  go_wp2_with fail
  refine HRX.out.mono ?_
  rintro e w3 ⟨v, q, rfl, ⟨A1, d1, rfl, hq, hqb⟩, hb3⟩
  try dsimp only
  clear r0 r1 r2 r3 r4 r5 HRX
  unfold rqv
  obtain ⟨w4, hw4⟩ : ∃ w4, w3.alloc (.cells #[.int .i64 q.k, .int .i64 q.s, .int .i64 q.g, .int .i64 q.i, .slice A1 q.D.length d1] 27) = w4 := ⟨_, rfl⟩
  have HQ := Lib.hid (QVal.block ⟨hq, hqb⟩ hw4)
  have HB4 : Hid (Below H w w4) := Lib.hid (HB2.out.trans ((hb3.trans (HQ.out.2.2.mono hb3.size)).mono HZ2.out))
  obtain ⟨q0, hq0⟩ : ∃ q0, w3.heap.size = q0 := ⟨_, rfl⟩
  have HW4 := Lib.hid hw4
  have HQ0 := Lib.hid hq0
  rw [hq0] at HQ
  have HBY : Hid (By q.lay) := Lib.hid (Qx.lay_by hqb)
  have HLQ := Lib.hid (layQ HQ.out.2.1)
  have HZ4 : Hid (H ≤ w4.heap.size) := Lib.hid (by have := HB4.out.size; have := HH.out; omega)
  clear hq hqb hb3 hw4 hq0
  have k0 := HQ.out.1.c0
  have k1' := HQ.out.1.c1
  have k2' := HQ.out.1.c2
  have k3 := HQ.out.1.c3
  have k4 := HQ.out.1.c4
  unfold rqv at HLQ
  go_upto_region 4 with fail
  rw [HW4.out, HQ0.out]
  go_wp2_with fail
  refine HLQ.out.mono ?_
  rintro e w5 hl
  obtain ⟨A5, n5, c5, e5, rfl, hb5, hkey⟩ : ∃ (A5 : Option Addr) (n5 c5 : Nat) (e5 : Int), e = .returned (.tuple #[.slice A5 n5 c5, .int .i64 e5]) ∧ Below w4.heap.size w4 w5 ∧ (e5 = 0 → q.Right ∧ n5 = q.lay.length ∧ BL w5 A5 q.lay ∧ n5 ≤ c5) := by
    rcases hl with ⟨hr, ga, ca, h1, h2, h3, h4⟩ | ⟨hr, h1, h2⟩
    · exact ⟨_, _, _, _, h1, h4, fun _ => ⟨hr, rfl, h2, h3⟩⟩
    · exact ⟨none, 0, 0, 1, h1, h2, fun h => by cases h⟩
  try dsimp only
  clear hl k0 k1' k2' k3 k4 HLQ
  have HKEY := Lib.hid hkey
  have HB5 := Lib.hid hb5
  have HQ5 := Lib.hid (HQ.out.1.below hb5)
  clear hkey hb5
  go_upto_if 39 with fail
  go_cut [14, 15, 16, 17] from 40 to 74 (fun s14 s15 s16 s17 wx => Hid (Below w5.heap.size w5 wx))
  case first =>
    by_cases he : e5 = 0
    · subst he
      obtain ⟨hr, hn5, hba, hc5⟩ := HKEY.out rfl
      have HR := Lib.hid hr
      have HBA := Lib.hid hba
      have hlen := q.lay_len
      obtain ⟨n, hnn⟩ : ∃ n, q.D.length = n := ⟨_, rfl⟩
      have HN := Lib.hid hnn
      have hn128 : n ≤ 128 := by rw [← hnn]; exact hr.2.2.2.2.2.2.2.2
      rw [hnn] at hlen
      have e12 : n5 = 12 + n := by omega
      subst e12
      have HC5 := Lib.hid hc5
      have hS : (q.lay.take (11 + n)).length = 11 + n := by rw [List.length_take]; omega
      have HRS := Lib.hid (creadReq A5 (q.lay.take (11 + n)) c5 w5 (hba.take _) (by omega) (HBY.out.take _) (by omega))
      rw [projQ_off hr (HBY.out.take _) (by rw [hS]; omega) (fun j h1 h2 => gt_take (by omega)), hS] at HRS
      have m1 : max (0 : Int) ((12 : Int) + (n : Int) - 1) = ((11 + n : Nat) : Int) := by omega
      have m2 : ((12 + n : Nat) : Int) - 1 = ((11 + n : Nat) : Int) := by omega
      have m3 : (11 + n : Nat) ≤ c5 := by omega
      have m4 : max (0 : Int) ((11 + n : Nat) : Int) = ((11 + n : Nat) : Int) := by omega
      have HLEN := Lib.hid hlen
      clear hr hn5 hba hc5 hnn hlen hS HKEY
      go_wp2_with fail
      refine HRS.out.mono ?_
      rintro e w6 h6
      obtain ⟨B6, d6, rfl, hb6⟩ := h6.no
      try dsimp only
      unfold rqv
      obtain ⟨w7, hw7⟩ : ∃ w7, w6.alloc (.cells #[.int .i64 0, .int .i64 0, .int .i64 0, .int .i64 0, .slice B6 0 d6] 27) = w7 := ⟨_, rfl⟩
      have HB7 : Hid (Below w5.heap.size w5 w7) := Lib.hid (by rw [← hw7]; exact hb6.alloc hb6.size _)
      have HW7 := Lib.hid hw7
      clear hw7 hb6 h6 HRS m1 m2 m3 m4
      obtain ⟨b7, hb7⟩ : ∃ b7, w7.heap.size = b7 := ⟨_, rfl⟩
      have HB7s := Lib.hid hb7
      have HE7 : Hid (OwnL (w7.alloc (.cells #[] 5)) b7 (.slice (some ⟨b7, 0, none⟩) 0 0) []) := Lib.hid (by rw [← hb7]; exact OwnL.empty w7)
      have HA7 : Hid (Below b7 w7 (w7.alloc (.cells #[] 5))) := Lib.hid (by rw [← hb7]; exact (Below.refl _ _).alloc (Nat.le_refl _) _)
      have HZ7 : Hid (b7 ≤ (w7.alloc (.cells #[] 5)).heap.size) := Lib.hid (by rw [← hb7]; simp)
      have HBA7 := Lib.hid ((HBA.out.below HB7.out).below (by rw [hb7]; exact HA7.out))
      clear hb7
      go_upto_region 7 with fail
      rw [HW7.out]
      go_wp2_with (first
        | (at_builtin; rw [HB7s.out]; refine append_L _ rfl (.tmp 51) (.tmp 52) 22 rfl Try.underlying22 (.slice (some ⟨b7, 0, none⟩) 0 0) [] rfl HE7.out A5 (12 + n) c5 q.lay rfl HLEN.out HBA7.out (by simp; omega) HA7.out HZ7.out ?_; intro v8 w8 own8 hb8 hz8 hne8; have HO8 := Lib.hid own8; have HB8 := Lib.hid hb8; have HZ8 := Lib.hid hz8; have HN8 : Hid (v8 ≠ .slice none 0 0) := Lib.hid (hne8 (by simp)); have HY8 := Lib.hid (BL.one w8 y); have HX8 : Hid (Below w8.heap.size w8 (w8.alloc (.cells #[.int .u8 (y : Int)] 5))) := Lib.hid ((Below.refl _ _).alloc (Nat.le_refl _) _); have HO8' := Lib.hid (HO8.out.keep HX8.out); have HB8' := Lib.hid (HB8.out.trans (HX8.out.mono HZ8.out)); have HZ8' := Lib.hid (Nat.le_trans HZ8.out HX8.out.size); clear own8 hb8 hz8 hne8)
        | (at_builtin; refine append_L _ rfl (.tmp 53) (.tmp 55) 22 rfl Try.underlying22 v8 ([] ++ q.lay) rfl HO8'.out (some ⟨w8.heap.size, 0, none⟩) 1 1 [y] rfl rfl HY8.out (by rw [List.nil_append, HLEN.out]; omega) HB8'.out HZ8'.out ?_; intro v9 w9 own9 hb9 hz9 hne9; have HO9 := Lib.hid own9; have HB9 := Lib.hid hb9; have HZ9 := Lib.hid hz9; have HN9 := Lib.hid (hne9 HN8.out); clear own9 hb9 hz9 hne9))
      have hT : ([] ++ q.lay ++ [y]).length = 13 + n := by simp; rw [HLEN.out]; omega
      obtain ⟨g9, c9, hv9, hk9, _, _, hc9⟩ := HO9.out.some_ HN9.out
      rw [hT] at hv9 hc9
      obtain rfl := hv9
      have HRL := Lib.hid (creadReq (some ⟨g9, 0, none⟩) ([] ++ q.lay ++ [y]) c9 w9 (BL.blk hk9 rfl (fun _ _ => rfl)) (by rw [hT]; exact hc9) ((By.nil.app HBY.out).app (By.one HY.out)) (by rw [hT]; omega))
      rw [projQ_off HR.out ((By.nil.app HBY.out).app (By.one HY.out)) (by rw [hT, HLEN.out]; omega) (fun j h1 h2 => gt_app_left (by rw [List.nil_append, HLEN.out]; omega)), hT] at HRL
      clear hT hk9 hc9
      go_wp2_with fail
      refine HRL.out.mono ?_
      rintro e wa ha
      obtain ⟨Ba, da, rfl, hba⟩ := ha.no
      try dsimp only
      unfold rqv
      obtain ⟨wb, hwb⟩ : ∃ wb, wa.alloc (.cells #[.int .i64 0, .int .i64 0, .int .i64 0, .int .i64 0, .slice Ba 0 da] 27) = wb := ⟨_, rfl⟩
      have HBb : Hid (Below w9.heap.size w9 wb) := Lib.hid (by rw [← hwb]; exact hba.alloc hba.size _)
      have HWb := Lib.hid hwb
      clear hwb hba ha HRL
      have HBF : Hid (Below w5.heap.size w5 wb) := Lib.hid (HB7.out.trans ((HB9.out.trans (HBb.out.mono HZ9.out)).mono (by rw [← HB7s.out]; exact HB7.out.size)))
      have hQb := HQ5.out.below HBF.out
      have j4 := hQb.c4
      rw [HN.out] at j4
      clear hQb
      go_upto_region 8 with fail
      rw [HWb.out]
      go_wp2_with fail
      go_meet
      exact HBF
    · have e1 : (e5 == 0) = false := beq_eq_false_iff_ne.2 he
      go_wp2_with fail
      go_meet
      exact Lib.hid (Below.refl _ _)
  case rest =>
    have HWC : Hid (Below H w wc) := Lib.hid (HB4.out.trans ((HB5.out.trans (hcut.out.mono HB5.out.size)).mono HZ4.out))
    have HZC : Hid (H ≤ wc.heap.size) := Lib.hid (Nat.le_trans HZ4.out (Nat.le_trans HB5.out.size hcut.out.size))
    clear HKEY HBY HQ5
    obtain ⟨P, hP⟩ : ∃ P, wc.heap.size = P := ⟨_, rfl⟩
    have HPP := Lib.hid hP
    obtain ⟨wp, hwp⟩ : ∃ wp, wc.alloc (.cells #[.int .i64 0, .int .i64 0, .slice none 0 0, .slice none 0 0] 39) = wp := ⟨_, rfl⟩
    have HWP := Lib.hid hwp
    have HR0 : Hid (RPS w H P wp 0 0 (.slice none 0 0) (.slice none 0 0) [] []) := Lib.hid (by
      rw [← hwp]
      exact ⟨RV.of_new hP, PL1.nil, IL1.nil, HWC.out.alloc HZC.out _, by rw [← hP]; exact HZC.out⟩)
    clear hP hwp
    go_upto_region 11 with fail
    rw [HWP.out, HPP.out]
    go_wp2_with fail
    go_loopg [19] k1 (fun q s19 v => ∃ (i : Nat) (u1 : Value) (l : List Px), s19 = .int .i64 (i : Int) ∧ i ≤ k1 ∧ q = k1 - i ∧ l.length = i ∧ Hid (RPS w H P v 0 0 u1 (.slice none 0 0) l [] ∧ ∀ x ∈ l, x.Right))
    case atStart => exact ⟨0, _, [], rfl, by omega, rfl, rfl, Lib.hid ⟨HR0.out, fun x hx => by cases hx⟩⟩
    case round =>
      obtain ⟨i, u1, l, rfl, hi, rfl, hli, HV⟩ := hrel
      have HLI := Lib.hid hli
      clear hli
      have HPK := Lib.hid (HPK1.out wr)
      by_cases hlt : i < k1
      · have hlt' : (i : Int) < (k1 : Int) := by omega
        go_wp2_with fail
        refine HPK.out.mono ?_
        rintro e wx ⟨rfl, hw⟩
        obtain rfl := hw.symm
        try dsimp only
        obtain ⟨x, hxr, hxb, hxc⟩ := hpiece0 seed (i : Int) (i : Int) seed
        have HVd : Hid (RPS w H P wr.drew 0 0 u1 (.slice none 0 0) l []) := Lib.hid (HV.out.1.below (below_drewN 1 wr))
        have HPC := Lib.hid (hxc wr.drew)
        have HXR := Lib.hid hxr
        have c2 : wr.drew.cell? ⟨P, 2, none⟩ = some u1 := HVd.out.cur.c2
        have HLN : Hid (l.length ≤ 1000000) := Lib.hid (by rw [HLI.out]; omega)
        clear hxr hxb hxc
        go_wp2_with fail
        go_region_law
          (first
            | (refine step_append_P _ rfl (.tmp 82) (.tmp 88) rfl u1 l x rfl (HT6.out _).ps w5'.heap.size rfl ⟨A5', d5, PV.new w5' _ _ _ _ _ _, HD5.out.below ((Below.refl _ _).alloc (Nat.le_refl _) _), HY5.out⟩ HLN.out (by have h1 := (HT6.out (.cells #[.int .i64 x.s, .int .i64 x.g, .int .i64 x.i, .slice A5' x.D.length d5] 31)).cur.lt; have h2 := HT5.out.big; omega) ?_; intro v9 w9 hl9 hb9 hz9 ht9; obtain ⟨A9, c9, hv9⟩ := hl9.form; subst hv9; obtain ⟨q3, q4⟩ := (HT6.out _).appP hb9 ht9 hl9; have HT9 := Lib.hid q4; have qf := q3.f; have q3c := q3.c2; clear q3 q4 hl9 hb9 hz9 ht9)
            | (go_simp; go_at_call 10; (with_reducible refine HPC.out.mono ?_); rintro e w5' ⟨v5, rfl, ⟨A5', d5, rfl, hd5, hy5⟩, hb5⟩; (try dsimp only); have HT5 := Lib.hid (HVd.out.below hb5); have y2 := HT5.out.cur.c2; have y2' : ∀ o, (w5'.alloc o).cell? ⟨P, 2, none⟩ = some u1 := fun o => (HT5.out.below ((Below.refl _ _).alloc (Nat.le_refl _) o)).cur.c2; have HT6 := Lib.hid (fun o => HT5.out.below ((Below.refl _ _).alloc (Nat.le_refl _) o)); have HD5 := Lib.hid hd5; have HY5 := Lib.hid hy5; clear hd5 hy5 hb5)
            )
        all_goals
          go_wp2_with fail
          go_roundg (k1 - (i + 1))
          case measure => omega
          case rel => exact ⟨i + 1, _, l ++ [x], by go_num, by omega, rfl, by rw [List.length_append, HLI.out]; rfl, Lib.hid ⟨by
            have h := HT9.out
            rw [List.length_append] at h
            exact h, fun z hz => by
            rcases List.mem_append.1 hz with h | h
            · exact HV.out.2 z h
            · rw [List.mem_singleton] at h; subst h; exact HXR.out⟩⟩
      · obtain rfl : i = k1 := by omega
        obtain ⟨ww, rfl⟩ : ∃ ww : World, ww = wr := ⟨wr, rfl⟩
        have HVw := Lib.hid HV.out.1
        have HPR := Lib.hid HV.out.2
        clear HV HR0
        go_wp2_with fail
        refine HPK.out.mono ?_
        rintro e wx ⟨rfl, hw⟩
        obtain rfl := hw.symm
        try dsimp only
        go_wp2_with fail
        go_loopg [20] k2 (fun q s20 v => ∃ (j : Nat) (u2 : Value) (m : List Ix), s20 = .int .i64 (j : Int) ∧ j ≤ k2 ∧ q = k2 - j ∧ m.length = j ∧ Hid (RPS w H P v 0 0 u1 u2 l m ∧ ∀ x ∈ m, x.Right))
        case atStart => exact ⟨0, _, [], rfl, by omega, rfl, rfl, Lib.hid ⟨HVw.out, fun x hx => by cases hx⟩⟩
        case round =>
          obtain ⟨j, u2, m, rfl, hj, rfl, hmj, HV⟩ := hrel
          have HMJ := Lib.hid hmj
          clear hmj
          have HPKj := Lib.hid (HPK2.out wr)
          by_cases hlt2 : j < k2
          · have hlt' : (j : Int) < (k2 : Int) := by omega
            go_wp2_with fail
            refine HPKj.out.mono ?_
            rintro e wx ⟨rfl, hw⟩
            obtain rfl := hw.symm
            try dsimp only
            obtain ⟨yy, hyy⟩ : ∃ yy, IntKind.i64.wrap (seed + (j : Int)) = yy := ⟨_, rfl⟩
            obtain ⟨x, hxr, hxb, hxc⟩ := hintent0 (j : Int) (j : Int) yy
            have HVd : Hid (RPS w H P wr.drew 0 0 u1 u2 l m) := Lib.hid (HV.out.1.below (below_drewN 1 wr))
            have HPC := Lib.hid (hxc wr.drew)
            have HXR := Lib.hid hxr
            have c2 : wr.drew.cell? ⟨P, 3, none⟩ = some u2 := HVd.out.cur.c3
            have HLN : Hid (m.length ≤ 1000000) := Lib.hid (by rw [HMJ.out]; omega)
            clear hxr hxb hxc
            go_wp2_with fail
            go_region_law
              (first
                | (refine step_append_I _ rfl (.tmp 98) (.tmp 105) rfl u2 m x rfl (HT6.out _).xs w5'.heap.size rfl ⟨A5', d5, IV.new w5' _ _ _ _ _, HD5.out.below ((Below.refl _ _).alloc (Nat.le_refl _) _), HY5.out⟩ HLN.out (by have h1 := (HT6.out (.cells #[.int .i64 x.s, .int .i64 x.g, .slice A5' x.D.length d5] 35)).cur.lt; have h2 := HT5.out.big; omega) ?_; intro v9 w9 hl9 hb9 hz9 ht9; obtain ⟨A9, c9, hv9⟩ := hl9.form; subst hv9; obtain ⟨q3, q4⟩ := (HT6.out _).appI hb9 ht9 hl9; have HT9 := Lib.hid q4; have qf := q3.f; have q3c := q3.c3; clear q3 q4 hl9 hb9 hz9 ht9)
                | (go_simp; go_at_call 11; (with_reducible refine HPC.out.mono ?_); rintro e w5' ⟨v5, rfl, ⟨A5', d5, rfl, hd5, hy5⟩, hb5⟩; (try dsimp only); have HT5 := Lib.hid (HVd.out.below hb5); have y2 := HT5.out.cur.c3; have y2' : ∀ o, (w5'.alloc o).cell? ⟨P, 3, none⟩ = some u2 := fun o => (HT5.out.below ((Below.refl _ _).alloc (Nat.le_refl _) o)).cur.c3; have HT6 := Lib.hid (fun o => HT5.out.below ((Below.refl _ _).alloc (Nat.le_refl _) o)); have HD5 := Lib.hid hd5; have HY5 := Lib.hid hy5; clear hd5 hy5 hb5)
                )
            all_goals
              go_wp2_with fail
              go_roundg (k2 - (j + 1))
              case measure => omega
              case rel => exact ⟨j + 1, _, m ++ [x], by go_num, by omega, rfl, by rw [List.length_append, HMJ.out]; rfl, Lib.hid ⟨by
                have h := HT9.out
                rw [List.length_append] at h
                exact h, fun z hz => by
                rcases List.mem_append.1 hz with h | h
                · exact HV.out.2 z h
                · rw [List.mem_singleton] at h; subst h; exact HXR.out⟩⟩
          · obtain rfl : j = k2 := by omega
            obtain ⟨wt, rfl⟩ : ∃ wt : World, wt = wr := ⟨wr, rfl⟩
            have HT := Lib.hid HV.out.1
            have HIR := Lib.hid HV.out.2
            clear HV HVw
            go_wp2_with fail
            refine HPKj.out.mono ?_
            rintro e wx ⟨rfl, hw⟩
            obtain rfl := hw.symm
            try dsimp only
            obtain ⟨B1, d1', hu1⟩ := HT.out.ps.form
            obtain ⟨B2, d2', hu2⟩ := HT.out.xs.form
            rw [HLI.out] at hu1
            rw [HMJ.out] at hu2
            subst hu1
            subst hu2
            have hRight : (⟨0, 0, l, m⟩ : Rx).Right := ⟨⟨by dsimp only; omega, by dsimp only; omega⟩, ⟨by dsimp only; omega, by dsimp only; omega⟩, by dsimp only; rw [HLI.out]; omega, by dsimp only; rw [HMJ.out]; omega, HPR.out, HIR.out⟩
            have hVal : RVal wt (rpv 0 0 (.slice B1 i d1') (.slice B2 j d2')) ⟨0, 0, l, m⟩ := HT.out.val HLI.out HMJ.out
            have HLR := Lib.hid (clayRep hVal hRight)
            have hTL : (⟨0, 0, l, m⟩ : Rx).lay.length = 7 + 40 * i + 135 * j := by rw [Rx.lay_len hRight]; dsimp only; rw [HLI.out, HMJ.out]
            have HTB : Hid (By (⟨0, 0, l, m⟩ : Rx).lay) := Lib.hid (Rx.lay_by HT.out.ps.by_ HT.out.xs.by_)
            have HRG := Lib.hid hRight
            have HVL := Lib.hid hVal
            have HOff : Hid (∀ M : List Nat, By M → M.length ≠ (⟨0, 0, l, m⟩ : Rx).lay.length → (∀ j, j < (⟨0, 0, l, m⟩ : Rx).lay.length → j < M.length → gt M j = gt (⟨0, 0, l, m⟩ : Rx).lay j) → projR M = none) := Lib.hid (fun M a b c => projR_off hRight a b c)
            have HPL : Hid (projR (⟨0, 0, l, m⟩ : Rx).lay = some ⟨0, 0, l, m⟩) := Lib.hid (projR_lay hRight)
            obtain ⟨T, hT⟩ : ∃ T, (⟨0, 0, l, m⟩ : Rx).lay = T := ⟨_, rfl⟩
            rw [hT] at HLR hTL HTB HOff HPL
            obtain ⟨tl, htl⟩ : ∃ tl, 7 + 40 * i + 135 * j = tl := ⟨_, rfl⟩
            have htl2 : (7 : Int) + 40 * (i : Int) + 135 * (j : Int) = (tl : Int) := by omega
            have htl7 : 7 ≤ tl ∧ tl ≤ 10000 := by omega
            rw [htl] at hTL
            have HTL := Lib.hid hTL
            clear hRight hVal hT hTL htl hw
            have z0 := HT.out.cur.c0
            have z1 := HT.out.cur.c1
            have z2 := HT.out.cur.c2
            have z3 := HT.out.cur.c3
            have HTC := Lib.hid (show i ≤ 1000 ∧ j ≤ 1000 by omega)
            unfold rpv at HLR
            go_wp2_with fail
            refine HLR.out.mono ?_
            rintro e w20 ⟨g20, c20, rfl, hk20, hb20, hc20⟩
            try dsimp only
            rw [HTL.out] at hc20 ⊢
            have HK20 : Hid (BL w20 (some ⟨g20, 0, none⟩) T) := Lib.hid (BL.blk hk20 rfl (fun _ _ => rfl))
            have HB20 := Lib.hid hb20
            have HT20 := Lib.hid (HT.out.below hb20)
            have HC20 := Lib.hid hc20
            have HVL20 := Lib.hid (HVL.out.below hb20)
            clear z0 z1 z2 z3 hk20 hb20 hc20 HLR
            have z0 := HT20.out.cur.c0
            have z1 := HT20.out.cur.c1
            have z2 := HT20.out.cur.c2
            have z3 := HT20.out.cur.c3
            have hS : (T.take (tl - 1)).length = tl - 1 := by rw [List.length_take, HTL.out]; omega
            have HRS := Lib.hid (creadRep (some ⟨g20, 0, none⟩) (T.take (tl - 1)) c20 w20 (HK20.out.take _) (by have := HC20.out; omega) (HTB.out.take _) (by omega))
            rw [HOff.out _ (HTB.out.take _) (by rw [hS, HTL.out]; omega) (fun q h1 h2 => gt_take (by omega)), hS] at HRS
            have m2 : (tl : Int) - 1 = ((tl - 1 : Nat) : Int) := by omega
            have m3 : tl - 1 ≤ c20 := by have := HC20.out; omega
            clear hS
            go_wp2_with fail
            refine HRS.out.mono ?_
            rintro e w21 h6
            obtain ⟨B6, b6, D6, d6, rfl, hb6⟩ := h6.no
            try dsimp only
            unfold rpv
            obtain ⟨w22, hw22⟩ : ∃ w22, w21.alloc (.cells #[.int .i64 0, .int .i64 0, .slice B6 0 b6, .slice D6 0 d6] 39) = w22 := ⟨_, rfl⟩
            have HB22 : Hid (Below w20.heap.size w20 w22) := Lib.hid (by rw [← hw22]; exact hb6.alloc hb6.size _)
            have HW22 := Lib.hid hw22
            clear hw22 hb6 h6 HRS m2 m3 z0 z1 z2 z3
            obtain ⟨b7, hb7⟩ : ∃ b7, w22.heap.size = b7 := ⟨_, rfl⟩
            have HB7s := Lib.hid hb7
            have HE7 : Hid (OwnL (w22.alloc (.cells #[] 5)) b7 (.slice (some ⟨b7, 0, none⟩) 0 0) []) := Lib.hid (by rw [← hb7]; exact OwnL.empty w22)
            have HA7 : Hid (Below b7 w22 (w22.alloc (.cells #[] 5))) := Lib.hid (by rw [← hb7]; exact (Below.refl _ _).alloc (Nat.le_refl _) _)
            have HZ7 : Hid (b7 ≤ (w22.alloc (.cells #[] 5)).heap.size) := Lib.hid (by rw [← hb7]; simp)
            have HK22 := Lib.hid (HK20.out.below HB22.out)
            have HBA7 := Lib.hid (HK22.out.below (by rw [hb7]; exact HA7.out))
            clear hb7
            go_upto_region 23 with fail
            rw [HW22.out]
            go_wp2_with (first
              | (at_builtin; rw [HB7s.out]; refine append_L _ rfl (.tmp 140) (.tmp 141) 22 rfl Try.underlying22 (.slice (some ⟨b7, 0, none⟩) 0 0) [] rfl HE7.out (some ⟨g20, 0, none⟩) tl c20 T rfl HTL.out HBA7.out (by simp; omega) HA7.out HZ7.out ?_; intro v8 w8 own8 hb8 hz8 hne8; have HO8 := Lib.hid own8; have HB8 := Lib.hid hb8; have HZ8 := Lib.hid hz8; have HN8 : Hid (v8 ≠ .slice none 0 0) := Lib.hid (hne8 (by simp)); have HY8 := Lib.hid (BL.one w8 y); have HX8 : Hid (Below w8.heap.size w8 (w8.alloc (.cells #[.int .u8 (y : Int)] 5))) := Lib.hid ((Below.refl _ _).alloc (Nat.le_refl _) _); have HO8' := Lib.hid (HO8.out.keep HX8.out); have HB8' := Lib.hid (HB8.out.trans (HX8.out.mono HZ8.out)); have HZ8' := Lib.hid (Nat.le_trans HZ8.out HX8.out.size); clear own8 hb8 hz8 hne8)
              | (at_builtin; refine append_L _ rfl (.tmp 142) (.tmp 144) 22 rfl Try.underlying22 v8 ([] ++ T) rfl HO8'.out (some ⟨w8.heap.size, 0, none⟩) 1 1 [y] rfl rfl HY8.out (by rw [List.nil_append, HTL.out]; omega) HB8'.out HZ8'.out ?_; intro v9 w9 own9 hb9 hz9 hne9; have HO9 := Lib.hid own9; have HB9 := Lib.hid hb9; have HZ9 := Lib.hid hz9; have HN9 := Lib.hid (hne9 HN8.out); clear own9 hb9 hz9 hne9))
            have hT : ([] ++ T ++ [y]).length = tl + 1 := by simp; exact HTL.out
            obtain ⟨g9, c9, hv9, hk9, _, _, hc9⟩ := HO9.out.some_ HN9.out
            rw [hT] at hv9 hc9
            obtain rfl := hv9
            have HRL := Lib.hid (creadRep (some ⟨g9, 0, none⟩) ([] ++ T ++ [y]) c9 w9 (BL.blk hk9 rfl (fun _ _ => rfl)) (by rw [hT]; exact hc9) ((By.nil.app HTB.out).app (By.one HY.out)) (by rw [hT]; omega))
            rw [HOff.out _ ((By.nil.app HTB.out).app (By.one HY.out)) (by rw [hT, HTL.out]; omega) (fun q h1 h2 => gt_app_left (by simpa using h1)), hT] at HRL
            clear hT hk9 hc9
            go_wp2_with fail
            refine HRL.out.mono ?_
            rintro e wa ha
            obtain ⟨Ba, ba, Da, da, rfl, hba⟩ := ha.no
            try dsimp only
            unfold rpv
            obtain ⟨wb, hwb⟩ : ∃ wb, wa.alloc (.cells #[.int .i64 0, .int .i64 0, .slice Ba 0 ba, .slice Da 0 da] 39) = wb := ⟨_, rfl⟩
            have HBb : Hid (Below w9.heap.size w9 wb) := Lib.hid (by rw [← hwb]; exact hba.alloc hba.size _)
            have HWb := Lib.hid hwb
            clear hwb hba ha HRL
            have HBF : Hid (Below w20.heap.size w20 wb) := Lib.hid (HB22.out.trans ((HB9.out.trans (HBb.out.mono HZ9.out)).mono (by rw [← HB7s.out]; exact HB22.out.size)))
            have HRK := Lib.hid (creadRep (some ⟨g20, 0, none⟩) T c20 wb (HK20.out.below HBF.out) (by rw [HTL.out]; exact HC20.out) HTB.out (by rw [HTL.out]; omega))
            rw [HPL.out, HTL.out] at HRK
            go_upto_region 24 with fail
            rw [HWb.out]
            go_wp2_with fail
            refine HRK.out.mono ?_
            rintro e wd ⟨v, rfl, hv, hbd⟩
            rw [show (some (⟨0, 0, l, m⟩ : Rx)).getD Rx.no = ⟨0, 0, l, m⟩ from rfl] at hv
            have hv0 := hv
            obtain ⟨E1, e1', E2, e2', hvv⟩ := hv.form
            dsimp only at hvv
            rw [HLI.out, HMJ.out] at hvv
            subst hvv
            try dsimp only
            simp only [Option.isSome_some, if_true]
            unfold rpv
            obtain ⟨we, hwe⟩ : ∃ we, wd.alloc (.cells #[.int .i64 0, .int .i64 0, .slice E1 i e1', .slice E2 j e2'] 39) = we := ⟨_, rfl⟩
            have HVE := Lib.hid (RVal.block (p := ⟨0, 0, l, m⟩) hv0 hwe)
            obtain ⟨pe, hpe⟩ : ∃ pe, wd.heap.size = pe := ⟨_, rfl⟩
            have HWE := Lib.hid hwe
            have HPE := Lib.hid hpe
            rw [hpe] at HVE
            have HBE : Hid (Below w20.heap.size w20 we) := Lib.hid (HBF.out.trans ((hbd.trans (HVE.out.2.2.mono (by rw [← hpe]; exact hbd.size))).mono HBF.out.size))
            clear hv hv0 hbd hwe hpe HRK
            have HTE := Lib.hid (HT20.out.below HBE.out)
            have z0 := HTE.out.cur.c0
            have z1 := HTE.out.cur.c1
            have z2 := HTE.out.cur.c2
            have z3 := HTE.out.cur.c3
            have y0 := HVE.out.1.c0
            have y1 := HVE.out.1.c1
            have y2 := HVE.out.1.c2
            have y3 := HVE.out.1.c3
            have HSR := Lib.hid (rsameRep (HVL20.out.below HBE.out) HVE.out.2.1 (by dsimp only; rw [HLI.out]; have := HTC.out; omega) (by dsimp only; rw [HMJ.out]; have := HTC.out; omega) (by dsimp only; rw [HLI.out]; have := HTC.out; omega) (by dsimp only; rw [HMJ.out]; have := HTC.out; omega) true ⟨fun _ => rfl, fun _ => rfl⟩)
            unfold rpv at HSR
            dsimp only at HSR y0 y1
            go_upto_region 25 with fail
            rw [HWE.out, HPE.out]
            go_wp2_with fail
            refine HSR.out.mono ?_
            rintro e wf ⟨rfl, hbf⟩
            try dsimp only
            go_wp2_with fail
            go_ret
            exact ⟨rfl, by rw [HH.out]; exact (HTE.out.below hbf).blw⟩
end Go.Proofs.Ytoofgcdilgfclaa
