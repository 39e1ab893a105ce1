import Derived.Test.YtoofgcdilgfclaaW49
namespace Go.Proofs.Ytoofgcdilgfclaa
open Go.RowKit Go.Sort
set_option maxRecDepth 100000
set_option maxHeartbeats 4000000

theorem PR.one {w : World} {b : Nat} {x : Px} {A : Option Addr} {c : Nat} (h : PV w b x.s x.g x.i A x.D.length c) (hd : BL w A x.D) (hy : By x.D) : PR w (.slice (some ⟨b, 0, none⟩) 1 1) [x] := by
  refine ⟨some ⟨b, 0, none⟩, 1, rfl, fun i p hi => ?_⟩
  obtain ⟨hl, e⟩ := List.getElem?_eq_some_iff.1 hi
  obtain rfl : i = 0 := by simpa using hl
  simp at e
  subst e
  exact ⟨b, A, c, rfl, h.lt, h.c0, h.c1, h.c2, h.c3, hd, hy⟩
theorem IR.one {w : World} {b : Nat} {x : Ix} {A : Option Addr} {c : Nat} (h : IV w b x.s x.g A x.D.length c) (hd : BL w A x.D) (hy : By x.D) : IR w (.slice (some ⟨b, 0, none⟩) 1 1) [x] := by
  refine ⟨some ⟨b, 0, none⟩, 1, rfl, fun i p hi => ?_⟩
  obtain ⟨hl, e⟩ := List.getElem?_eq_some_iff.1 hi
  obtain rfl : i = 0 := by simpa using hl
  simp at e
  subst e
  exact ⟨b, A, c, rfl, h.lt, h.c0, h.c1, h.c2, hd, hy⟩
def P3 (w : World) (b : Nat) (s g i : Int) (A : Option Addr) (n c : Nat) : Prop := w.heap[b]? = some (.cells #[.int .i64 s, .int .i64 g, .int .i64 i, .slice A n c, .int .i64 s, .int .i64 g, .int .i64 i, .slice A n c, .int .i64 s, .int .i64 g, .int .i64 i, .slice A n c] 31 (0, 0))
theorem PR.three {w : World} {b : Nat} {x : Px} {A : Option Addr} {c : Nat} (h : P3 w b x.s x.g x.i A x.D.length c) (hd : BL w A x.D) (hy : By x.D) : PR w (.slice (some ⟨b, 0, none⟩) 3 3) [x, x, x] := by
  refine ⟨some ⟨b, 0, none⟩, 3, rfl, fun i p hi => ?_⟩
  obtain ⟨hl, e⟩ := List.getElem?_eq_some_iff.1 hi
  have hb : b < w.heap.size := heap_lt h
  have hl3 : i < 3 := by simpa using hl
  have ep : p = x := by
    clear e hl
    match i, hl3, hi with
    | 0, _, e => simpa using e.symm
    | 1, _, e => simpa using e.symm
    | 2, _, e => simpa using e.symm
  subst ep
  clear e hl hi
  match i, hl3 with
  | 0, _ => exact ⟨b, A, c, rfl, hb, cell_of_block h, cell_of_block h, cell_of_block h, cell_of_block h, hd, hy⟩
  | 1, _ => exact ⟨b, A, c, rfl, hb, cell_of_block h, cell_of_block h, cell_of_block h, cell_of_block h, hd, hy⟩
  | 2, _ => exact ⟨b, A, c, rfl, hb, cell_of_block h, cell_of_block h, cell_of_block h, cell_of_block h, hd, hy⟩
theorem projQ_nil : projQ [] = none := by
  rw [proj_ref By.nil]
  exact if_neg (by simp)
theorem callKnown (w : World) : Calls Try.prog 3 #[] w fun e w' => e = .returned (.bool true) ∧ Below w.heap.size w w' := by
  obtain ⟨H, hH⟩ : ∃ H, w.heap.size = H := ⟨_, rfl⟩
  have HH := Lib.hid hH
  have H1 := Lib.hid (clayReq_no 0 0 0 0 none 0 0 w (by unfold OkQ; omega))
  obtain ⟨zs, z0, z1, z2⟩ := make8s 129 (by omega)
  have z3 : ∀ W : World, Sem.run Try.prog (Instr.makeSlice 22 (.int .i64 129) (.int .i64 129)) W = .ok (.slice (some ⟨W.heap.size, 0, none⟩) 129 129) (W.alloc (.cells zs 5)) := z2
  clear hH z0 z1 z2
  unfold rqv at H1
  go_enter Try.func3, Try.ntmps3
  go_wp2_with fail
  refine H1.out.mono ?_
  rintro e w1 ⟨rfl, hb1⟩
  try dsimp only
  rw [HH.out] at hb1
  obtain ⟨w2, hw2⟩ : ∃ w2, w1.alloc (.cells zs 5) = w2 := ⟨_, rfl⟩
  have hz1 : H ≤ w1.heap.size := by have := hb1.size; have := HH.out; omega
  have hb2 : Below H w w2 := by rw [← hw2]; exact hb1.alloc hz1 _
  have hz2 : H ≤ w2.heap.size := by have := hb2.size; have := HH.out; omega
  have HW2 := Lib.hid hw2
  have HB2 := Lib.hid hb2
  have HZ2 := Lib.hid hz2
  have H2 := Lib.hid (clayReq_no 2 0 0 0 (some ⟨w1.heap.size, 0, none⟩) 129 129 w2 (by unfold OkQ; omega))
  unfold rqv at H2
  clear hb1 hz1 hw2 hb2 hz2 H1
  go_wp2_with fail
  rw [HW2.out]
  refine H2.out.mono ?_
  rintro e w3 ⟨rfl, hb3⟩
  try dsimp only
  have HB3 : Hid (Below H w w3) := Lib.hid (HB2.out.trans (hb3.mono HZ2.out))
  have HZ3 : Hid (H ≤ w3.heap.size) := Lib.hid (Nat.le_trans HZ2.out hb3.size)
  have H3 := Lib.hid (creadReq none [] 0 w3 BL.nil (Nat.le_refl _) By.nil (by simp))
  rw [projQ_nil, show ([] : List Nat).length = 0 from rfl] at H3
  clear hb3 H2 z3
  go_wp2_with fail
  refine H3.out.mono ?_
  rintro e w4 h4
  obtain ⟨B4, b4, rfl, hb4⟩ := h4.no
  try dsimp only
  unfold rqv
  obtain ⟨w5, hw5⟩ : ∃ w5, w4.alloc (.cells #[.int .i64 0, .int .i64 0, .int .i64 0, .int .i64 0, .slice B4 0 b4] 27) = w5 := ⟨_, rfl⟩
  have HB5 : Hid (Below H w w5) := Lib.hid (by rw [← hw5]; exact (HB3.out.trans (hb4.mono HZ3.out)).alloc (Nat.le_trans HZ3.out hb4.size) _)
  have HZ5 : Hid (H ≤ w5.heap.size) := Lib.hid (by have := HB5.out.size; have := HH.out; omega)
  have HW5 := Lib.hid hw5
  clear hw5 hb4 h4 H3
  obtain ⟨x, hxr, hxb, hxc⟩ := hpiece0 1 2 3 4
  have HX5 := Lib.hid (hxc w5)
  have HXR := Lib.hid hxr
  have HXB := Lib.hid hxb
  clear hxr hxb hxc
  go_upto_region 4 with fail
  rw [HW5.out]
  go_wp2_with fail
  refine HX5.out.mono ?_
  rintro e w6 ⟨v6, rfl, ⟨A6, d6, rfl, hd6, _⟩, hb6⟩
  try dsimp only
  unfold pv
  obtain ⟨w7, hw7⟩ : ∃ w7, w6.alloc (.cells #[.int .i64 x.s, .int .i64 x.g, .int .i64 x.i, .slice A6 x.D.length d6] 31) = w7 := ⟨_, rfl⟩
  obtain ⟨b7, hb7⟩ : ∃ b7, w6.heap.size = b7 := ⟨_, rfl⟩
  have HB67 : Hid (Below w5.heap.size w5 w7) := Lib.hid (by rw [← hw7]; exact hb6.alloc hb6.size _)
  have HP7 : Hid (PV w7 b7 x.s x.g x.i A6 x.D.length d6) := Lib.hid (by rw [← hw7, ← hb7]; exact PV.new w6 _ _ _ _ _ _)
  have HD7 : Hid (BL w7 A6 x.D) := Lib.hid (by rw [← hw7]; exact hd6.below ((Below.refl _ _).alloc (Nat.le_refl _) _))
  have HW7 := Lib.hid hw7
  have HB7 := Lib.hid hb7
  obtain ⟨z, hzr, hzb, hzc⟩ := hintent0 1 2 3
  have HI7 := Lib.hid (hzc w7)
  have HZR := Lib.hid hzr
  have HZB := Lib.hid hzb
  clear hw7 hb7 hd6 hb6 HX5 hzr hzb hzc
  go_wp2_with fail
  rw [HW7.out, HB7.out]
  refine HI7.out.mono ?_
  rintro e w8 ⟨v8, rfl, ⟨A8, d8, rfl, hd8, _⟩, hb8⟩
  try dsimp only
  unfold iv
  obtain ⟨w9, hw9⟩ : ∃ w9, w8.alloc (.cells #[.int .i64 z.s, .int .i64 z.g, .slice A8 z.D.length d8] 35) = w9 := ⟨_, rfl⟩
  obtain ⟨b9, hb9⟩ : ∃ b9, w8.heap.size = b9 := ⟨_, rfl⟩
  have HB89 : Hid (Below w7.heap.size w7 w9) := Lib.hid (by rw [← hw9]; exact hb8.alloc hb8.size _)
  have HI9 : Hid (IV w9 b9 z.s z.g A8 z.D.length d8) := Lib.hid (by rw [← hw9, ← hb9]; exact IV.new w8 _ _ _ _ _)
  have HD9 : Hid (BL w9 A8 z.D) := Lib.hid (by rw [← hw9]; exact hd8.below ((Below.refl _ _).alloc (Nat.le_refl _) _))
  obtain ⟨wa, hwa⟩ : ∃ wa, w9.alloc (.cells #[.int .i64 7, .int .i64 2147483647, .slice (some ⟨b7, 0, none⟩) 1 1, .slice (some ⟨b9, 0, none⟩) 1 1] 39) = wa := ⟨_, rfl⟩
  obtain ⟨P, hP⟩ : ∃ P, w9.heap.size = P := ⟨_, rfl⟩
  have HB9a : Hid (Below w9.heap.size w9 wa) := Lib.hid (by rw [← hwa]; exact (Below.refl _ _).alloc (Nat.le_refl _) _)
  have HRa : Hid (RV wa P 7 2147483647 (.slice (some ⟨b7, 0, none⟩) 1 1) (.slice (some ⟨b9, 0, none⟩) 1 1)) := Lib.hid (by rw [← hwa]; exact RV.of_new hP)
  have HPa := Lib.hid ((HP7.out.below HB89.out).below HB9a.out)
  have HDa := Lib.hid ((HD7.out.below HB89.out).below HB9a.out)
  have HVa : Hid (RVal wa (rpv 7 2147483647 (.slice (some ⟨b7, 0, none⟩) 1 1) (.slice (some ⟨b9, 0, none⟩) 1 1)) ⟨7, 2147483647, [x], [z]⟩) := Lib.hid ⟨some ⟨b7, 0, none⟩, 1, some ⟨b9, 0, none⟩, 1, rfl, PR.one HPa.out HDa.out HXB.out, IR.one (HI9.out.below HB9a.out) (HD9.out.below HB9a.out) HZB.out⟩
  have HBa : Hid (Below H w wa) := Lib.hid (HB5.out.trans ((HB67.out.trans ((HB89.out.trans (HB9a.out.mono HB89.out.size)).mono HB67.out.size)).mono HZ5.out))
  have HZa : Hid (H ≤ wa.heap.size) := Lib.hid (by have := HBa.out.size; have := HH.out; omega)
  have HWA := Lib.hid (show (w8.alloc (.cells #[.int .i64 z.s, .int .i64 z.g, .slice A8 z.D.length d8] 35)).alloc (.cells #[.int .i64 7, .int .i64 2147483647, .slice (some ⟨b7, 0, none⟩) 1 1, .slice (some ⟨b9, 0, none⟩) 1 1] 39) = wa by rw [hw9]; exact hwa)
  have HB9s := Lib.hid hb9
  have HPs : Hid (b9 + 1 = P) := Lib.hid (by rw [← hP, ← hw9, ← hb9]; simp)
  have hRight : (⟨7, 2147483647, [x], [z]⟩ : Rx).Right := ⟨⟨by dsimp only; omega, by dsimp only; omega⟩, ⟨by dsimp only; omega, by dsimp only; omega⟩, by simp, by simp, fun y hy => by rw [List.mem_singleton] at hy; subst hy; exact HXR.out, fun y hy => by rw [List.mem_singleton] at hy; subst hy; exact HZR.out⟩
  have HLR := Lib.hid (clayRep HVa.out hRight)
  have hTL : (⟨7, 2147483647, [x], [z]⟩ : Rx).lay.length = 182 := by rw [Rx.lay_len hRight]; rfl
  have HTB : Hid (By (⟨7, 2147483647, [x], [z]⟩ : Rx).lay) := Lib.hid (Rx.lay_by (fun y hy => by rw [List.mem_singleton] at hy; subst hy; exact HXB.out) (fun y hy => by rw [List.mem_singleton] at hy; subst hy; exact HZB.out))
  have HOff : Hid (∀ M : List Nat, By M → M.length ≠ (⟨7, 2147483647, [x], [z]⟩ : Rx).lay.length → (∀ j, j < (⟨7, 2147483647, [x], [z]⟩ : Rx).lay.length → j < M.length → gt M j = gt (⟨7, 2147483647, [x], [z]⟩ : Rx).lay j) → projR M = none) := Lib.hid (fun M a b c => projR_off hRight a b c)
  have HPL : Hid (projR (⟨7, 2147483647, [x], [z]⟩ : Rx).lay = some ⟨7, 2147483647, [x], [z]⟩) := Lib.hid (projR_lay hRight)
  obtain ⟨T, hT⟩ : ∃ T, (⟨7, 2147483647, [x], [z]⟩ : Rx).lay = T := ⟨_, rfl⟩
  rw [hT] at HLR hTL HTB HOff HPL
  have HTL := Lib.hid hTL
  clear hw9 hb9 hd8 hb8 HI7 hwa hP hRight hT hTL HP7 HD7 HI9 HD9
  have z0 := HRa.out.c0
  have z1 := HRa.out.c1
  have z2 := HRa.out.c2
  have z3 := HRa.out.c3
  unfold rpv at HLR
  go_upto_region 5 with fail
  simp only [HWA.out, HB9s.out, HPs.out]
  go_wp2_with fail
  refine HLR.out.mono ?_
  rintro e wb ⟨g0, c0, rfl, hk, hbb, hc⟩
  try dsimp only
  rw [HTL.out] at hc ⊢
  have HK : Hid (BL wb (some ⟨g0, 0, none⟩) T) := Lib.hid (BL.blk hk rfl (fun _ _ => rfl))
  have HBb : Hid (Below wa.heap.size wa wb) := Lib.hid hbb
  have HC := Lib.hid hc
  have HRD := Lib.hid (creadRep (some ⟨g0, 0, none⟩) T c0 wb HK.out (by rw [HTL.out]; exact hc) HTB.out (by rw [HTL.out]; omega))
  rw [HPL.out, HTL.out] at HRD
  clear z0 z1 z2 z3 hk hbb hc HLR
  go_wp2_with fail
  refine HRD.out.mono ?_
  rintro e wc ⟨v, rfl, hv, hbc⟩
  rw [show (some (⟨7, 2147483647, [x], [z]⟩ : Rx)).getD Rx.no = ⟨7, 2147483647, [x], [z]⟩ from rfl] at hv
  have hv0 := hv
  obtain ⟨E1, e1, E2, e2, hvv⟩ := hv.form
  subst hvv
  try dsimp only
  simp only [Option.isSome_some, if_true, List.length_cons, List.length_nil, Nat.zero_add] at hv hv0 ⊢
  unfold rpv
  obtain ⟨wd, hwd⟩ : ∃ wd, wc.alloc (.cells #[.int .i64 7, .int .i64 2147483647, .slice E1 1 e1, .slice E2 1 e2] 39) = wd := ⟨_, rfl⟩
  have HVE := Lib.hid (RVal.block (p := ⟨7, 2147483647, [x], [z]⟩) hv0 hwd)
  obtain ⟨pd, hpd⟩ : ∃ pd, wc.heap.size = pd := ⟨_, rfl⟩
  have HWD := Lib.hid hwd
  have HPD := Lib.hid hpd
  rw [hpd] at HVE
  have HBbd : Hid (Below wb.heap.size wb wd) := Lib.hid (hbc.trans (HVE.out.2.2.mono (by rw [← hpd]; exact hbc.size)))
  have HBad : Hid (Below wa.heap.size wa wd) := Lib.hid (HBb.out.trans ((hbc.trans (HVE.out.2.2.mono (by rw [← hpd]; exact hbc.size))).mono HBb.out.size))
  have HRd := Lib.hid (HRa.out.below HBad.out)
  clear hv hv0 hbc hwd hpd HRD
  -- three := p
  obtain ⟨we, hwe⟩ : ∃ we, wd.alloc (.cells #[.int .i64 7, .int .i64 2147483647, .slice (some ⟨b7, 0, none⟩) 1 1, .slice (some ⟨b9, 0, none⟩) 1 1] 39) = we := ⟨_, rfl⟩
  obtain ⟨R, hR⟩ : ∃ R, wd.heap.size = R := ⟨_, rfl⟩
  have HBde : Hid (Below wd.heap.size wd we) := Lib.hid (by rw [← hwe]; exact (Below.refl _ _).alloc (Nat.le_refl _) _)
  have HRe : Hid (RV we R 7 2147483647 (.slice (some ⟨b7, 0, none⟩) 1 1) (.slice (some ⟨b9, 0, none⟩) 1 1)) := Lib.hid (by rw [← hwe]; exact RV.of_new hR)
  have HRR : Hid (P < R) := Lib.hid (by rw [← hR]; exact HRd.out.lt)
  have HWE := Lib.hid hwe
  have HRs := Lib.hid hR
  clear hwe hR
  have z0 := HRd.out.c0
  have z1 := HRd.out.c1
  have z2 := HRd.out.c2
  have z3 := HRd.out.c3
  go_upto_region 7 with fail
  rw [HWD.out, HPD.out]
  go_upto_region 8 with fail
  rw [HWE.out, HRs.out]
  have HBae : Hid (Below wa.heap.size wa we) := Lib.hid (HBad.out.trans (HBde.out.mono HBad.out.size))
  have HPe := Lib.hid (HPa.out.below HBae.out)
  have HDe := Lib.hid (HDa.out.below HBae.out)
  have hb0 : Below we.heap.size we we.drew := below_drewN 1 we
  have HSY : Hid (∀ W, Below we.heap.size we W → W.cell? ⟨P, 2, none⟩ = some (.slice (some ⟨b7, 0, none⟩) 1 1) ∧ W.cell? ⟨b7, 0, none⟩ = some (.int .i64 x.s) ∧ W.cell? ⟨b7, 1, none⟩ = some (.int .i64 x.g) ∧ W.cell? ⟨b7, 2, none⟩ = some (.int .i64 x.i) ∧ W.cell? ⟨b7, 3, none⟩ = some (.slice A6 x.D.length d6)) := Lib.hid (fun W hW => by
    have a := (HRa.out.below HBae.out).below hW
    have b := HPe.out.below hW
    exact ⟨a.c2, b.c0, b.c1, b.c2, b.c3⟩)
  have HbP : Hid (b7 ≠ R ∧ P ≠ R) := Lib.hid ⟨by
    rintro rfl
    have a := HPe.out
    have b := HRe.out
    unfold PV at a
    unfold RV at b
    rw [a] at b
    injection b with b
    injection b with _ b
    exact absurd b (by decide), Nat.ne_of_lt HRR.out⟩
  obtain ⟨wf, hwf⟩ : ∃ wf, (we.alloc (.cells #[.int .i64 x.s, .int .i64 x.g, .int .i64 x.i, .slice A6 x.D.length d6, .int .i64 x.s, .int .i64 x.g, .int .i64 x.i, .slice A6 x.D.length d6, .int .i64 x.s, .int .i64 x.g, .int .i64 x.i, .slice A6 x.D.length d6] 31)) = wf := ⟨_, rfl⟩
  have HSZ : Hid (∀ W v, Below we.heap.size we W → (W.setCell ⟨R, 2, none⟩ v).cell? ⟨P, 2, none⟩ = some (.slice (some ⟨b7, 0, none⟩) 1 1) ∧ (W.setCell ⟨R, 2, none⟩ v).cell? ⟨b7, 0, none⟩ = some (.int .i64 x.s) ∧ (W.setCell ⟨R, 2, none⟩ v).cell? ⟨b7, 1, none⟩ = some (.int .i64 x.g) ∧ (W.setCell ⟨R, 2, none⟩ v).cell? ⟨b7, 2, none⟩ = some (.int .i64 x.i) ∧ (W.setCell ⟨R, 2, none⟩ v).cell? ⟨b7, 3, none⟩ = some (.slice A6 x.D.length d6)) := Lib.hid (fun W v hW => by
    obtain ⟨a, b, c, d, e⟩ := HSY.out W hW
    obtain ⟨n1, n2⟩ := HbP.out
    rw [cell_far (Or.inl n2), cell_far (Or.inl n1), cell_far (Or.inl n1), cell_far (Or.inl n1), cell_far (Or.inl n1)]
    exact ⟨a, b, c, d, e⟩)
  have HSW : Hid (∀ v o, (((we.setCell ⟨R, 2, none⟩ v).alloc o).drew).cell? ⟨P, 2, none⟩ = some (.slice (some ⟨b7, 0, none⟩) 1 1) ∧ (((we.setCell ⟨R, 2, none⟩ v).alloc o).drew).cell? ⟨b7, 0, none⟩ = some (.int .i64 x.s) ∧ (((we.setCell ⟨R, 2, none⟩ v).alloc o).drew).cell? ⟨b7, 1, none⟩ = some (.int .i64 x.g) ∧ (((we.setCell ⟨R, 2, none⟩ v).alloc o).drew).cell? ⟨b7, 2, none⟩ = some (.int .i64 x.i) ∧ (((we.setCell ⟨R, 2, none⟩ v).alloc o).drew).cell? ⟨b7, 3, none⟩ = some (.slice A6 x.D.length d6)) := Lib.hid (fun v o => by
    obtain ⟨a, b, c, d, e⟩ := HSZ.out we v (Below.refl _ _)
    have hB : Below (we.setCell ⟨R, 2, none⟩ v).heap.size (we.setCell ⟨R, 2, none⟩ v) ((we.setCell ⟨R, 2, none⟩ v).alloc o).drew := ((Below.refl _ _).alloc (Nat.le_refl _) o).drew
    have l1 : b7 < (we.setCell ⟨R, 2, none⟩ v).heap.size := cell?_lt b
    have l2 : P < (we.setCell ⟨R, 2, none⟩ v).heap.size := cell?_lt a
    exact ⟨(hB.cell (p := ⟨P, 2, none⟩) l2).trans a, (hB.cell (p := ⟨b7, 0, none⟩) l1).trans b, (hB.cell (p := ⟨b7, 1, none⟩) l1).trans c, (hB.cell (p := ⟨b7, 2, none⟩) l1).trans d, (hB.cell (p := ⟨b7, 3, none⟩) l1).trans e⟩)
  have HAL : Hid (∀ o, Below we.heap.size we (we.drew.alloc o) ∧ Below we.heap.size we (we.alloc o).drew) := Lib.hid (fun o => ⟨hb0.alloc (Nat.le_refl _) _, ((Below.refl _ _).alloc (Nat.le_refl _) o).drew⟩)
  have hRd := HRe.out.c2
  have hRf := HRe.out.f
  have hRl := HRe.out.lt
  have hRl2 : ¬ R = we.heap.size := by omega
  have u01 : (0 : Int) < 1 := by decide
  clear z0 z1 z2 z3 hwf
  go_wp2_with fail
  go_region_held (fun W => W.cell? ⟨P, 2, none⟩ = some (.slice (some ⟨b7, 0, none⟩) 1 1) ∧ W.cell? ⟨b7, 0, none⟩ = some (.int .i64 x.s) ∧ W.cell? ⟨b7, 1, none⟩ = some (.int .i64 x.g) ∧ W.cell? ⟨b7, 2, none⟩ = some (.int .i64 x.i) ∧ W.cell? ⟨b7, 3, none⟩ = some (.slice A6 x.D.length d6))
    (first | (with_reducible assumption) | (with_reducible exact HSY.out _ hb0) | (with_reducible exact HSY.out _ (HAL.out _).1) | (with_reducible exact HSY.out _ (HAL.out _).2) | (with_reducible exact HSZ.out _ _ (HAL.out _).1) | (with_reducible exact HSZ.out _ _ (HAL.out _).2) | (with_reducible exact HSW.out _ _))
    (fail)
  obtain ⟨wg, hwg⟩ : ∃ wg, ((we.setCell ⟨R, 2, none⟩ (.slice (some ⟨we.heap.size, 0, none⟩) 3 3)).alloc (.cells #[.int .i64 x.s, .int .i64 x.g, .int .i64 x.i, .slice A6 x.D.length d6, .int .i64 x.s, .int .i64 x.g, .int .i64 x.i, .slice A6 x.D.length d6, .int .i64 x.s, .int .i64 x.g, .int .i64 x.i, .slice A6 x.D.length d6] 31)).drew = wg := ⟨_, rfl⟩
  obtain ⟨b3, hb3⟩ : ∃ b3, we.heap.size = b3 := ⟨_, rfl⟩
  have hs1 : (we.setCell ⟨R, 2, none⟩ (.slice (some ⟨we.heap.size, 0, none⟩) 3 3)).heap.size = we.heap.size := by simp [World.setCell]
  have hBs : Below (we.setCell ⟨R, 2, none⟩ (.slice (some ⟨we.heap.size, 0, none⟩) 3 3)).heap.size (we.setCell ⟨R, 2, none⟩ (.slice (some ⟨we.heap.size, 0, none⟩) 3 3)) wg := by
    rw [← hwg]
    exact ((Below.refl _ _).alloc (Nat.le_refl _) _).drew
  have HRg : Hid (RV wg R 7 2147483647 (.slice (some ⟨b3, 0, none⟩) 3 3) (.slice (some ⟨b9, 0, none⟩) 1 1)) := Lib.hid (by rw [← hb3]; exact (HRe.out.put2 (u' := .slice (some ⟨we.heap.size, 0, none⟩) 3 3)).below hBs)
  have hTu : Turn [R] we wg := (Turn.set [R] we ⟨R, 2, none⟩ _ (by simp)).trans (Turn.of hBs)
  have HRPg : Hid (RV wg P 7 2147483647 (.slice (some ⟨b7, 0, none⟩) 1 1) (.slice (some ⟨b9, 0, none⟩) 1 1)) := Lib.hid ((HRa.out.below HBae.out).keep (hTu.block P (HRa.out.below HBae.out).lt (by simp; exact HbP.out.2)))
  have HDg : Hid (BL wg A6 x.D) := Lib.hid (HDe.out.turn HRe.out (by decide) hTu)
  have HP3 : Hid (P3 wg b3 x.s x.g x.i A6 x.D.length d6) := Lib.hid (by
    have h1 := alloc_block (we.setCell ⟨R, 2, none⟩ (.slice (some ⟨we.heap.size, 0, none⟩) 3 3)) (.cells #[.int .i64 x.s, .int .i64 x.g, .int .i64 x.i, .slice A6 x.D.length d6, .int .i64 x.s, .int .i64 x.g, .int .i64 x.i, .slice A6 x.D.length d6, .int .i64 x.s, .int .i64 x.g, .int .i64 x.i, .slice A6 x.D.length d6] 31)
    rw [hs1, hb3] at h1
    rw [← hwg, hb3]
    exact h1)
  have HBag : Hid (Below wa.heap.size wa wg) := Lib.hid (by
    have hR : wa.heap.size ≤ R := by rw [← HRs.out]; exact HBad.out.size
    exact Below.of_turn HBae.out hTu (fun k hk => by rw [List.mem_singleton] at hk; subst hk; exact hR) HBae.out.size)
  have HBbg : Hid (Below wb.heap.size wb wg) := Lib.hid (by
    have h2 := HBbd.out.trans (HBde.out.mono HBbd.out.size)
    have hR : wb.heap.size ≤ R := by rw [← HRs.out]; exact HBbd.out.size
    exact Below.of_turn h2 hTu (fun k hk => by rw [List.mem_singleton] at hk; subst hk; exact hR) h2.size)
  have HVg : Hid (RVal wg (rpv 7 2147483647 (.slice (some ⟨b7, 0, none⟩) 1 1) (.slice (some ⟨b9, 0, none⟩) 1 1)) ⟨7, 2147483647, [x], [z]⟩) := Lib.hid (HVa.out.below HBag.out)
  have HIg : Hid (IR wg (.slice (some ⟨b9, 0, none⟩) 1 1) [z]) := Lib.hid (by
    obtain ⟨A1', c1', A2', c2', e, _, h⟩ := HVg.out
    injection e with e
    injection e with e
    injection e with _ e
    injection e with _ e
    injection e with _ e
    injection e with e _
    rw [e]
    exact h)
  have HV3 : Hid (RVal wg (rpv 7 2147483647 (.slice (some ⟨b3, 0, none⟩) 3 3) (.slice (some ⟨b9, 0, none⟩) 1 1)) ⟨7, 2147483647, [x, x, x], [z]⟩) := Lib.hid ⟨some ⟨b3, 0, none⟩, 3, some ⟨b9, 0, none⟩, 1, rfl, PR.three HP3.out HDg.out HXB.out, HIg.out⟩
  have HVB : Hid (RVal wg (rpv 7 2147483647 (.slice E1 1 e1) (.slice E2 1 e2)) ⟨7, 2147483647, [x], [z]⟩ ∧ RV wg pd 7 2147483647 (.slice E1 1 e1) (.slice E2 1 e2)) := Lib.hid (by
    have hpdR : pd ≠ R := by have := HVE.out.1.lt; have := HRs.out; omega
    have hk : Below wd.heap.size wd wg := by
      have hR : wd.heap.size ≤ R := Nat.le_of_eq HRs.out
      exact Below.of_turn HBde.out hTu (fun k hk => by rw [List.mem_singleton] at hk; subst hk; exact hR) HBde.out.size
    exact ⟨HVE.out.2.1.below hk, HVE.out.1.below hk⟩)
  have HL3 := Lib.hid (clayRep_no HV3.out (by simp) (by simp) (fun h => by have := h.2.2.1; simp at this))
  have HWG := Lib.hid hwg
  have HB3s := Lib.hid hb3
  clear hwg hb3 hs1 hBs hTu hRd hRf hRl hRl2 HSY HSZ HSW HAL hb0
  have z0 := HRg.out.c0
  have z1 := HRg.out.c1
  have z2 := HRg.out.c2
  have z3 := HRg.out.c3
  unfold rpv at HL3
  go_upto_region 9 with fail
  rw [HWG.out, HB3s.out]
  go_wp2_with fail
  refine HL3.out.mono ?_
  rintro e wh ⟨rfl, hbh⟩
  try dsimp only
  have HBgh : Hid (Below wg.heap.size wg wh) := Lib.hid hbh
  have HL4 := Lib.hid (clayRep_no (w := wh) (v := rpv 0 (-1) (.slice none 0 0) (.slice none 0 0)) (p := ⟨0, -1, [], []⟩) ⟨none, 0, none, 0, rfl, PR.nil, IR.nil⟩ (by simp) (by simp) (fun h => by have := h.2.1.1; dsimp only at this; omega))
  clear z0 z1 z2 z3 hbh HL3
  unfold rpv at HL4
  go_wp2_with fail
  refine HL4.out.mono ?_
  rintro e wi ⟨rfl, hbi⟩
  try dsimp only
  have HBgi : Hid (Below wg.heap.size wg wi) := Lib.hid (HBgh.out.trans (hbi.mono HBgh.out.size))
  have HKN := Lib.hid (lknown11 wi)
  clear hbi HL4
  go_wp2_with fail
  refine HKN.out.mono ?_
  rintro e wj ⟨rfl, hbj⟩
  try dsimp only
  have HBgj : Hid (Below wg.heap.size wg wj) := Lib.hid (HBgi.out.trans (hbj.mono HBgi.out.size))
  have HBaj : Hid (Below wa.heap.size wa wj) := Lib.hid (HBag.out.trans (HBgj.out.mono HBag.out.size))
  clear hbj HKN
  have hS : (T.take 181).length = 181 := by rw [List.length_take, HTL.out]; rfl
  have HKj := Lib.hid (HK.out.below (w' := wj) (by
    have h1 := HBbg.out
    exact h1.trans (HBgj.out.mono h1.size)))
  have HRS := Lib.hid (creadRep (some ⟨g0, 0, none⟩) (T.take 181) c0 wj (HKj.out.take _) (by have := HC.out; omega) (HTB.out.take _) (by omega))
  rw [HOff.out _ (HTB.out.take _) (by rw [hS, HTL.out]; omega) (fun q h1 h2 => gt_take (by omega)), hS] at HRS
  have m3 : 181 ≤ c0 := by have := HC.out; omega
  have m4 : (181 : Int) ≤ (c0 : Int) := by omega
  clear hS
  go_wp2_with fail
  refine HRS.out.mono ?_
  rintro e wk h6
  obtain ⟨B6, b6, D6, f6, rfl, hb6⟩ := h6.no
  try dsimp only
  unfold rpv
  obtain ⟨wl, hwl⟩ : ∃ wl, wk.alloc (.cells #[.int .i64 0, .int .i64 0, .slice B6 0 b6, .slice D6 0 f6] 39) = wl := ⟨_, rfl⟩
  have HBjl : Hid (Below wj.heap.size wj wl) := Lib.hid (by rw [← hwl]; exact hb6.alloc hb6.size _)
  have HWL := Lib.hid hwl
  clear hwl hb6 h6 HRS m3 m4
  have HBgl : Hid (Below wg.heap.size wg wl) := Lib.hid (HBgj.out.trans (HBjl.out.mono HBgj.out.size))
  have HRl := Lib.hid (HRPg.out.below HBgl.out)
  have HR3 := Lib.hid (HRg.out.below HBgl.out)
  have HRB := Lib.hid (HVB.out.2.below HBgl.out)
  have HS1 := Lib.hid (csameRep (HVg.out.below HBgl.out) (HVB.out.1.below HBgl.out) (by simp) (by simp) (by simp) (by simp) true ⟨fun _ => rfl, fun _ => rfl⟩)
  have HS2 : Hid (∀ W, Below wg.heap.size wg W → _) := Lib.hid (fun W hW => csameRep (w := W) (HVg.out.below hW) (HV3.out.below hW) (by simp) (by simp) (by simp) (by simp) false ⟨fun h => (by cases h), fun h => (by simp at h)⟩)
  have z0 := HRl.out.c0
  have z1 := HRl.out.c1
  have z2 := HRl.out.c2
  have z3 := HRl.out.c3
  have y0 := HRB.out.c0
  have y1 := HRB.out.c1
  have y2 := HRB.out.c2
  have y3 := HRB.out.c3
  unfold rpv at HS1 HS2
  try dsimp only at HS1 HS2
  go_upto_region 14 with fail
  rw [HWL.out]
  go_wp2_with fail
  refine HS1.out.mono ?_
  rintro e wm ⟨rfl, hbm⟩
  try dsimp only
  have HBgm : Hid (Below wg.heap.size wg wm) := Lib.hid (HBgl.out.trans (hbm.mono HBgl.out.size))
  clear z0 z1 z2 z3 y0 y1 y2 y3 hbm HS1
  have z0 := (HRPg.out.below HBgm.out).c0
  have z1 := (HRPg.out.below HBgm.out).c1
  have z2 := (HRPg.out.below HBgm.out).c2
  have z3 := (HRPg.out.below HBgm.out).c3
  have y0 := (HRg.out.below HBgm.out).c0
  have y1 := (HRg.out.below HBgm.out).c1
  have y2 := (HRg.out.below HBgm.out).c2
  have y3 := (HRg.out.below HBgm.out).c3
  go_wp2_with fail
  refine (HS2.out _ HBgm.out).mono ?_
  rintro e wn ⟨rfl, hbn⟩
  try dsimp only
  go_wp2_with fail
  go_ret
  exact ⟨rfl, by rw [HH.out]; exact HBa.out.trans ((HBag.out.trans ((HBgm.out.trans (hbn.mono HBgm.out.size)).mono HBag.out.size)).mono HZa.out)⟩
end Go.Proofs.Ytoofgcdilgfclaa
