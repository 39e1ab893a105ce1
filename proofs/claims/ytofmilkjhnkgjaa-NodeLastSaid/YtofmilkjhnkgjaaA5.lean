import Derived.Test.YtofmilkjhnkgjaaA4
namespace Go.Proofs.Ytofmilkjhnkgjaa
open Go.RowKit Go.Sort
set_option maxRecDepth 100000
set_option maxHeartbeats 1000000

theorem num4_eq (F : Nat → Nat) : num4 F 156 = numF (fun j => F (156 + j)) 4 := by rw [numF_4]; unfold num4; rfl
/-- mark.Open of other than 160 bytes. -/
theorem mopen_len (A : Option Addr) (n cap : Nat) (w : World) (hn : n ≠ 160) :
    Calls Try.prog 67 #[.slice A n cap] w fun e w' => e = .returned (.tuple #[.int .i64 0, .slice none 0 0, .int .i64 2]) ∧ w' = w := by
  have e1 : ((n : Int) != 160) = true := by rw [bne_iff_ne]; omega
  clear hn
  go_enter Try.func67, Try.ntmps67
  go_wp2_with fail
  go_ret3
  exact ⟨rfl, rfl⟩
theorem mopen_mark (g q cap : Nat) (F : Nat → Nat) (w : World) (h : Rd w (some ⟨g, q, none⟩) 160 F) (hc : 160 ≤ cap) (hF : ∀ j, j < 160 → F j < 256) (hne : num4 F 156 ≠ sumF F 156) :
    Calls Try.prog 67 #[.slice (some ⟨g, q, none⟩) 160 cap] w fun e w' => e = .returned (.tuple #[.int .i64 0, .slice none 0 0, .int .i64 3]) ∧ Below w.heap.size w w' := by
  have HN := Lib.hid (nof (some ⟨g, q + 156, none⟩) 4 (cap - 156) (fun j => F (156 + j)) w.drew (h.cut (k := 156) (by omega)).drew (fun j hj => hF _ (by omega)) (by omega))
  have HS := Lib.hid (msum (some ⟨g, q, none⟩) 156 cap F w.drew (h.less (by omega)).drew (fun j hj => hF _ (by omega)) (by omega))
  rw [← num4_eq] at HN
  have e1 : (((num4 F 156 : Nat) : Int) != ((sumF F 156 : Nat) : Int)) = true := by rw [bne_iff_ne]; omega
  have c1 : (156 : Int) ≤ (cap : Int) := by omega
  have c2 : ¬ cap = 156 := by omega
  clear hne hF h
  generalize num4 F 156 = x at *
  generalize sumF F 156 = y at *
  go_enter Try.func67, Try.ntmps67
  go_wp2_with fail
  refine wp_region_still_tail 6 (by kernel_rfl) (by kernel_rfl) ?_
  simp only [List.take_succ_cons, List.take_zero, List.drop_succ_cons, List.drop_zero]
  repeat still_step
  still_call HN.out
  repeat still_step
  still_call HS.out
  repeat still_step
  refine wpStill_nil ?_
  change wpList _ _ _ _ _ w.drew
  go_wp2_with fail
  go_ret3
  exact ⟨rfl, below_drewN 1 w⟩

def OpenRet (F : Nat → Nat) (w : World) (e : Ending) (w' : World) : Prop := ∃ g cap, e = .returned (.tuple #[.int .i64 (F 0 : Nat), .slice (some ⟨g, 0, none⟩) (F 1 * 256 + F 2) cap, .int .i64 0]) ∧ Blk8 w' g (F 1 * 256 + F 2) (fun k => F (3 + k)) ∧ Below w.heap.size w w' ∧ F 1 * 256 + F 2 ≤ cap
theorem mopen_rest (g q cap : Nat) (F : Nat → Nat) (w : World) (Q : Ending → World → Prop) (h : Rd w (some ⟨g, q, none⟩) 160 F) (hc : 160 ≤ cap) (hF : ∀ j, j < 160 → F j < 256) (heq : num4 F 156 = sumF F 156)
    (hbad : ¬ OpenOk F → ∀ w', Below w.heap.size w w' → Q (.returned (.tuple #[.int .i64 0, .slice none 0 0, .int .i64 2])) w') (hgood : OpenOk F → ∀ e w', OpenRet F w e w' → Q e w') :
    Calls Try.prog 67 #[.slice (some ⟨g, q, none⟩) 160 cap] w Q := by
  have HN := Lib.hid (nof (some ⟨g, q + 156, none⟩) 4 (cap - 156) (fun j => F (156 + j)) w.drew (h.cut (k := 156) (by omega)).drew (fun j hj => hF _ (by omega)) (by omega))
  have HS := Lib.hid (msum (some ⟨g, q, none⟩) 156 cap F w.drew (h.less (by omega)).drew (fun j hj => hF _ (by omega)) (by omega))
  have HL := Lib.hid (nof (some ⟨g, q + 1, none⟩) 2 (cap - 1) (fun j => F (1 + j)) w.drew (h.cut (k := 1) (by omega)).drew (fun j hj => hF _ (by omega)) (by omega))
  rw [← num4_eq, heq] at HN
  rw [numF_2] at HL
  have c1 : (156 : Int) ≤ (cap : Int) := by omega
  have c2 : ¬ cap = 156 := by omega
  have c3 : ¬ cap = 1 := by omega
  have HH := Lib.hid h
  have HF := Lib.hid hF
  have HB := Lib.hid hbad
  have HG := Lib.hid hgood
  have hls := sumF_lt F 156
  have l1 := hF 1 (by omega)
  have l2 := hF 2 (by omega)
  have l0 := hF 0 (by omega)
  obtain ⟨L, hL⟩ : ∃ L, F 1 * 256 + F 2 = L := ⟨_, rfl⟩
  have HLL := Lib.hid hL
  have hLb : L ≤ 65535 := by omega
  simp only [show (1 + 0 : Nat) = 1 from rfl, show (1 + 1 : Nat) = 2 from rfl, hL] at HL
  generalize sumF F 156 = y at *
  clear hL h hF heq hbad hgood l1 l2
  by_cases hbig : 153 < L
  · have hbi : (153 : Int) < (L : Int) := by omega
    have HNO : Hid (¬ OpenOk F) := Lib.hid (fun h => by have := h.2.1; rw [HLL.out] at this; omega)
    go_enter Try.func67, Try.ntmps67
    go_wp2_with fail
    refine wp_region_still_tail 6 (by kernel_rfl) (by kernel_rfl) ?_
    simp only [List.take_succ_cons, List.take_zero, List.drop_succ_cons, List.drop_zero]
    repeat still_step
    still_call HN.out
    repeat still_step
    still_call HS.out
    repeat still_step
    refine wpStill_nil ?_
    change wpList _ _ _ _ _ w.drew
    go_wp2_with fail
    refine HL.out.mono ?_
    rintro e w' ⟨rfl, hw⟩
    obtain rfl := hw.symm
    go_wp2_with fail
    go_ret3
    exact HB.out HNO.out _ (below_drewN 1 w)
  · have hbi : (L : Int) ≤ 153 := by omega
    have hL0 : (0 : Int) ≤ (L : Int) := by omega
    have HK := Lib.hid (nof (some ⟨g, q, none⟩) 1 cap F w.drew.drew (HH.out.less (by omega)).drew.drew (fun j hj => HF.out _ (by omega)) (by omega))
    rw [numF_1] at HK
    have HC := Lib.hid (bclone ⟨g, q + 3, none⟩ L (cap - 3) (fun j => F (3 + j)) w.drew.drew ((HH.out.cut (k := 3) (m := L) (by omega)).drew.drew) (by omega))
    obtain ⟨kd, hkd⟩ : ∃ kd, F 0 = kd := ⟨_, rfl⟩
    have HKD := Lib.hid hkd
    have c4 : ¬ cap = 3 := by omega
    have c5 : (1 : Int) ≤ (cap : Int) := by omega
    have c6 : (3 : Int) ≤ (cap : Int) := by omega
    have m1 : IntKind.i64.wrap (3 + (L : Int)) = 3 + (L : Int) := IntWalk.i64_in _ (by omega)
    have m2 : (3 + (L : Int)).toNat = 3 + L := by omega
    have m3 : (0 : Int) ≤ 3 + (L : Int) := by omega
    have m4 : (3 : Int) ≤ 3 + (L : Int) := by omega
    have m5 : 3 + (L : Int) ≤ (cap : Int) := by omega
    rw [hkd] at l0 HK
    clear hkd
    go_enter Try.func67, Try.ntmps67
    go_wp2_with fail
    refine wp_region_still_tail 6 (by kernel_rfl) (by kernel_rfl) ?_
    simp only [List.take_succ_cons, List.take_zero, List.drop_succ_cons, List.drop_zero]
    repeat still_step
    still_call HN.out
    repeat still_step
    still_call HS.out
    repeat still_step
    refine wpStill_nil ?_
    change wpList _ _ _ _ _ w.drew
    go_wp2_with fail
    refine HL.out.mono ?_
    rintro e w' ⟨rfl, hw⟩
    obtain rfl := hw.symm
    go_wp2_with fail
    refine wp_region_still_tail 7 (by kernel_rfl) (by kernel_rfl) ?_
    simp only [List.take_succ_cons, List.take_zero, List.drop_succ_cons, List.drop_zero]
    repeat still_step
    still_call HK.out
    repeat still_step
    refine wpStill_nil ?_
    change wpList _ _ _ _ _ w.drew.drew
    clear m1 m2 m3 m4 m5
    go_wp2_with fail
    refine HC.out.mono ?_
    rintro e w2 ⟨b, cb, rfl, ho, hb, hbg, hbl, hcb⟩
    try dsimp only
    have HO := Lib.hid (own_rd ho)
    have HOB := Lib.hid (own_blk ho)
    have HB2 : Hid (Below w.heap.size w w2) := Lib.hid ((below_drewN 2 w).trans hb)
    have HR2 : Hid (Rd w2 (some ⟨g, q, none⟩) 160 F) := Lib.hid (HH.out.keep HB2.out)
    clear ho hb
    by_cases hk0 : kd = 0
    · have HNO : Hid (¬ OpenOk F) := Lib.hid (fun h => by have := h.1; rw [HKD.out] at this; omega)
      have HSE := Lib.hid (mseal_no (kd : Int) L cb (some ⟨b, 0, none⟩) w2 (by omega) (by omega))
      have HEQ := Lib.hid (bequal none (some ⟨g, q, none⟩) 0 160 0 cap (fun _ => 0) F w2 Rd.none_ HR2.out (fun j hj => absurd hj (by omega)) HF.out false ⟨fun h => (by cases h), fun h => by omega⟩)
      clear hk0
      go_wp2_with fail
      refine HSE.out.mono ?_
      rintro e w3 ⟨rfl, hw⟩
      obtain rfl := hw.symm
      go_wp2_with fail
      refine HEQ.out.mono ?_
      rintro e w3 ⟨rfl, hw⟩
      obtain rfl := hw.symm
      go_wp2_with fail
      go_ret3
      exact HB.out HNO.out _ HB2.out
    · have HSE := Lib.hid (mseal kd L cb (some ⟨b, 0, none⟩) (fun k => F (3 + k)) w2 (by omega) l0 (by omega) HO.out (fun j hj => HF.out _ (by omega)))
      have hS := sealF_lt (kind := kd) (n := L) (B := fun k => F (3 + k)) l0 (fun j hj => HF.out _ (by omega))
      go_wp2_with fail
      refine HSE.out.mono ?_
      rintro e w3 ⟨gs, rfl, k3, hb3, _⟩
      try dsimp only
      have HK3 := Lib.hid k3.rd
      have HS3 := Lib.hid hS
      have HB3 : Hid (Below w.heap.size w w3) := Lib.hid (HB2.out.trans (hb3.mono HB2.out.size))
      have HO3 := Lib.hid (HOB.out.below hb3)
      have HR3 := Lib.hid (HR2.out.keep hb3)
      clear k3 hb3 hS HB2 HR2 HO
      by_cases hall : ∀ j, j < 160 → sealF kd L (fun k => F (3 + k)) j = F j
      · have HOK : Hid (OpenOk F) := Lib.hid ⟨by rw [HKD.out]; omega, by rw [HLL.out]; omega, by rw [HKD.out, HLL.out]; exact hall⟩
        have HEQ := Lib.hid (bequal (some ⟨gs, 0, none⟩) (some ⟨g, q, none⟩) 160 160 160 cap _ F w3 HK3.out HR3.out (fun j hj => HS3.out j) HF.out true ⟨fun _ => ⟨rfl, hall⟩, fun _ => rfl⟩)
        clear hall
        go_wp2_with fail
        refine HEQ.out.mono ?_
        rintro e w4 ⟨rfl, hw⟩
        obtain rfl := hw.symm
        go_wp2_with fail
        go_ret3
        exact HG.out HOK.out _ _ ⟨b, cb, by rw [HKD.out, HLL.out]; rfl, by rw [HLL.out]; exact HO3.out, HB3.out, by rw [HLL.out]; exact hcb⟩
      · have HNO : Hid (¬ OpenOk F) := Lib.hid (fun h => hall (by have := h.2.2; rwa [HKD.out, HLL.out] at this))
        have HEQ := Lib.hid (bequal (some ⟨gs, 0, none⟩) (some ⟨g, q, none⟩) 160 160 160 cap _ F w3 HK3.out HR3.out (fun j hj => HS3.out j) HF.out false ⟨fun h => (by cases h), fun h => absurd h.2 hall⟩)
        clear hall
        go_wp2_with fail
        refine HEQ.out.mono ?_
        rintro e w4 ⟨rfl, hw⟩
        obtain rfl := hw.symm
        go_wp2_with fail
        go_ret3
        exact HB.out HNO.out _ HB3.out
end Go.Proofs.Ytofmilkjhnkgjaa
