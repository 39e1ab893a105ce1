import Derived.Test.YtjbicpekpgaokaaA6
namespace Go.Proofs.Ytjbicpekpgaokaa
open Go.RowKit Go.Sort
set_option maxRecDepth 100000
set_option maxHeartbeats 1000000

/-- corbelref3.Open. -/
theorem ropen_len (A : Option Addr) (n cap : Nat) (w : World) (hn : n ≠ 160) :
    Calls Try.prog 19 #[.slice A n cap] w fun e w' => e = .returned (.tuple #[.int .i64 0, .slice none 0 0, .int .i64 2]) ∧ w' = w := by
  have e1 : ((n : Int) != 160) = true := by rw [bne_iff_ne]; omega
  clear hn
  go_enter Try.func19, Try.ntmps19
  go_wp2_with fail
  go_ret3
  exact ⟨rfl, rfl⟩
theorem ropen_all (g q cap : Nat) (F : Nat → Nat) (w : World) (Q : Ending → World → Prop) (h : Rd w (some ⟨g, q, none⟩) 160 F) (hc : 160 ≤ cap) (hF : ∀ j, j < 160 → F j < 256)
    (hmark : num4 F 156 ≠ sumF F 156 → ∀ w', Below w.heap.size w w' → Q (.returned (.tuple #[.int .i64 0, .slice none 0 0, .int .i64 3])) w')
    (hbad : num4 F 156 = sumF F 156 → ¬ OpenOk F → ∀ w', Below w.heap.size w w' → Q (.returned (.tuple #[.int .i64 0, .slice none 0 0, .int .i64 2])) w') (hgood : num4 F 156 = sumF F 156 → OpenOk F → ∀ e w', OpenRet F w e w' → Q e w') :
    Calls Try.prog 19 #[.slice (some ⟨g, q, none⟩) 160 cap] w Q := by
  have HS := Lib.hid (rsum (some ⟨g, q, none⟩) 156 cap F w (h.less (by omega)) (fun j hj => hF _ (by omega)) (by omega))
  have c1 : (156 : Int) ≤ (cap : Int) := by omega
  have HH := Lib.hid h
  have HF := Lib.hid hF
  have HM := Lib.hid hmark
  have HB := Lib.hid hbad
  have HG := Lib.hid hgood
  have hls := sumF_lt F 156
  have l1 := hF 1 (by omega)
  have l2 := hF 2 (by omega)
  have l0 := hF 0 (by omega)
  have a0 := h.some_ (k := 0) (by omega)
  have a1 := h.some_ (k := 1) (by omega)
  have a2 := h.some_ (k := 2) (by omega)
  have HOR := Lib.hid (bits_or_i64 (F 1) (F 2) (by omega) l2)
  clear h hF hmark hbad hgood
  go_enter Try.func19, Try.ntmps19
  go_wp2_with fail
  go_loopg [6, 7] 4 (fun q' s6 s7 v => ∃ k : Nat, s6 = .int .i64 (numF (fun j => F (156 + j)) k : Nat) ∧ s7 = .int .i64 ((156 + k : Nat) : Int) ∧ k ≤ 4 ∧ q' = 4 - k ∧ w = v)
  case atStart => exact ⟨0, by unfold numF; rfl, rfl, by omega, rfl, rfl⟩
  case round =>
    obtain ⟨k, rfl, rfl, hk, rfl, rfl⟩ := hrel
    by_cases hlt : k < 4
    · have hl : ((156 + k : Nat) : Int) < 160 := by omega
      have hl0 : (0 : Int) ≤ ((156 + k : Nat) : Int) := by omega
      have b1 := HH.out.some_ (k := 156 + k) (by omega)
      have HN := Lib.hid (numF_succ (fun j => F (156 + j)) k)
      have hx := HF.out (156 + k) (by omega)
      have hs : numF (fun j => F (156 + j)) k < 16777216 := by
        have h1 := numF_lt (F := fun j => F (156 + j)) (k := k) (fun j hj => HF.out _ (by omega))
        have h2 : (256 : Nat) ^ k ≤ 256 ^ 3 := Nat.pow_le_pow_right (by decide) (by omega)
        omega
      generalize numF (fun j => F (156 + j)) k = s at *
      generalize F (156 + k) = x at *
      have hor := bits_or_i64 s x (by omega) hx
      clear a0 a1 a2 HOR
      go_wp2_with fail
      go_roundg (4 - (k + 1))
      case measure => omega
      case rel => exact ⟨k + 1, by rw [HN.out]; congr 1, by go_num, by omega, rfl, rfl⟩
    · obtain rfl : k = 4 := by omega
      have hge : ¬ ((156 + 4 : Nat) : Int) < 160 := by omega
      have HNE := Lib.hid (num4_eq F)
      obtain ⟨y, hy⟩ : ∃ y, sumF F 156 = y := ⟨_, rfl⟩
      have HY := Lib.hid hy
      rw [hy] at hls HS
      have hnb : numF (fun j => F (156 + j)) 4 < 4294967296 := by
        exact numF_lt (F := fun j => F (156 + j)) (k := 4) (fun j hj => HF.out _ (by omega))
      rw [← HNE.out] at hnb ⊢
      obtain ⟨x, hx⟩ : ∃ x, num4 F 156 = x := ⟨_, rfl⟩
      have HX := Lib.hid hx
      rw [hx] at hnb ⊢
      clear hx
      clear hy
      by_cases hne : y = x
      · obtain rfl := hne
        have HNX : Hid (num4 F 156 = sumF F 156) := Lib.hid (by rw [HY.out, HX.out])
        obtain ⟨L, hL⟩ : ∃ L, F 1 * 256 + F 2 = L := ⟨_, rfl⟩
        have HLL := Lib.hid hL
        have hor : bits .or .i64 (((F 1 : Nat) : Int) * 256) ((F 2 : Nat) : Int) = (L : Int) := by rw [HOR.out]; omega
        have hLb : L ≤ 65535 := by omega
        obtain ⟨f1, hf1⟩ : ∃ f1, F 1 = f1 := ⟨_, rfl⟩
        obtain ⟨f2, hf2⟩ : ∃ f2, F 2 = f2 := ⟨_, rfl⟩
        obtain ⟨kd, hkd⟩ : ∃ kd, F 0 = kd := ⟨_, rfl⟩
        have HKD := Lib.hid hkd
        rw [hf1] at a1 hor l1
        rw [hf2] at a2 hor l2
        rw [hkd] at a0 l0
        clear hL hf1 hf2 hkd HOR
        by_cases hbig : 153 < L
        · have hbi : (153 : Int) < (L : Int) := by omega
          have HNO : Hid (¬ OpenOk F) := Lib.hid (fun h => by have := h.2.1; rw [HLL.out] at this; omega)
          clear a0
          go_wp2_with fail
          refine HS.out.mono ?_
          rintro e w' ⟨rfl, d, rfl⟩
          try dsimp only
          go_wp2_with fail
          go_big_quiet (fail)
          go_wp2_with fail
          go_ret3
          exact HB.out HNX.out HNO.out _ (by first | exact below_drewN _ w | (rw [World.drewN_drewN]; exact below_drewN _ w))
        · have hbi : (L : Int) ≤ 153 := by omega
          have hL0 : (0 : Int) ≤ (L : Int) := by omega
          have m1 : (3 : Int) + (L : Int) ≤ (cap : Int) := by omega
          have M2 : Hid ((3 + (L : Int)).toNat = 3 + L) := Lib.hid (by omega)
          have M3 : Hid (((3 : Int) + (L : Int) - 3).toNat = L) := Lib.hid (by omega)
          have c4 : ¬ cap = 3 := by omega
          have c5 : (3 : Int) ≤ (cap : Int) := by omega
          have HE0 : Hid (∀ w2 : World, Rd w2 (some ⟨g, q, none⟩) 160 F → (w2.alloc (.cells #[] 5)).ownsRow w2.heap.size 5 1 (.slice (some ⟨w2.heap.size, 0, none⟩) 0 0) 0 (rowL 0 (fun _ => 0)) ∧ Below w2.heap.size w2 (w2.alloc (.cells #[] 5)) ∧ Rd (w2.alloc (.cells #[] 5)) (some ⟨g, q + 3, none⟩) L (fun j => F (3 + j))) := Lib.hid (fun w2 hr => by
            have hb : Below w2.heap.size w2 (w2.alloc (.cells #[] 5)) := (Below.refl _ _).alloc (Nat.le_refl _) _
            exact ⟨own_empty (alloc_block w2 _) (Nat.le_refl _), hb, (hr.cut (k := 3) (m := L) (by omega)).keep hb⟩)
          go_wp2_with fail
          refine HS.out.mono ?_
          rintro e w' ⟨rfl, d, rfl⟩
          try dsimp only
          go_wp2_with fail
          go_big_quiet (fail)
          obtain ⟨w2, hw2⟩ : ∃ w2, (w.drewN d).drewN nq = w2 := ⟨_, rfl⟩
          have HB2 : Hid (Below w.heap.size w w2) := Lib.hid (by rw [← hw2]; exact ⟨rfl, rfl, rfl, Nat.le_refl _, fun _ _ => rfl⟩)
          have HR2 : Hid (Rd w2 (some ⟨g, q, none⟩) 160 F) := Lib.hid (HH.out.keep HB2.out)
          have b0 : w2.cell? ⟨g, q, none⟩ = some (.int .u8 (kd : Int)) := (HB2.out.cell (p := ⟨g, q, none⟩) (cell?_lt a0)).trans a0
          rw [hw2]
          clear hw2 a0 a1 a2 hor
          obtain ⟨ho0, hb0, hr0⟩ := HE0.out w2 HR2.out
          have HO0 := Lib.hid ho0
          have HB0 := Lib.hid hb0
          have HR0 := Lib.hid hr0
          clear ho0 hb0 hr0 HE0
          have HCB : Hid (∀ w4 : World, Below w2.heap.size w2 w4 → w4.cell? ⟨g, q, none⟩ = some (.int .u8 (kd : Int))) := Lib.hid (fun w4 h => (h.cell (p := ⟨g, q, none⟩) (cell?_lt b0)).trans b0)
          clear b0
          have m2 := M2.out
          have m3 := M3.out
          go_wp2_with (at_builtin; refine append_rd _ rfl (.tmp 46) (.tmp 50) 22 rfl Try.underlying22 w2.heap.size (.slice (some ⟨w2.heap.size, 0, none⟩) 0 0) 0 (fun _ => 0) rfl HO0.out (some ⟨g, q + 3, none⟩) L (cap - 3) (fun j => F (3 + j)) rfl HR0.out (by omega) HB0.out.size ?_; intro v1 w3 own gr _ hne; rw [Nat.zero_add] at own; have HO3 : Hid (w3.ownsRow w2.heap.size 5 1 v1 L (rowL L (fun j => F (3 + j)))) := Lib.hid (own_congr own (fun j hj => if_neg (Nat.not_lt_zero j))); have HB3 : Hid (Below w2.heap.size w2 w3) := Lib.hid (Below.grown HB0.out gr HB0.out.size (fun k hk => by cases hk; exact Nat.le_refl _)); obtain ⟨gb, cb, hv, _, _, hlc⟩ := own_some own (hne (by simp)); have HV1 := Lib.hid hv; have HLC := Lib.hid hlc; clear own gr hne hv hlc; have b0 := HCB.out w3 HB3.out)
          obtain rfl := HV1.out
          have HR3 : Hid (Rd w3 (some ⟨g, q, none⟩) 160 F) := Lib.hid (HR2.out.keep HB3.out)
          have HW3 : Hid (Below w.heap.size w w3) := Lib.hid (HB2.out.trans (HB3.out.mono HB2.out.size))
          have HRB := Lib.hid (own_rd HO3.out)
          have HRBB := Lib.hid (own_blk HO3.out)
          clear m2 m3 HO0 HB0 HR0 HCB HO3 HV1
          by_cases hk0 : kd = 0
          · have HNO : Hid (¬ OpenOk F) := Lib.hid (fun h => by have := h.1; rw [HKD.out] at this; omega)
            have HSE := Lib.hid (rseal_no (kd : Int) L cb (some ⟨gb, 0, none⟩) w3 (by omega) (by omega))
            clear hk0
            refine HSE.out.mono ?_
            rintro e w4 ⟨rfl, hw⟩
            obtain rfl := hw.symm
            try dsimp only
            go_wp2_with fail
            go_ret3
            exact HB.out HNX.out HNO.out _ HW3.out
          · have HSE := Lib.hid (rseal kd L cb (some ⟨gb, 0, none⟩) (fun k => F (3 + k)) w3 (by omega) l0 (by omega) HRB.out (fun j hj => HF.out _ (by omega)))
            have hS := sealF_lt (kind := kd) (n := L) (B := fun k => F (3 + k)) l0 (fun j hj => HF.out _ (by omega))
            have HS3 := Lib.hid hS
            clear hS b0
            refine HSE.out.mono ?_
            rintro e w4 ⟨gs, cs, rfl, k4, hb4, _⟩
            try dsimp only
            have HW4 : Hid (Below w.heap.size w w4) := Lib.hid (HW3.out.trans (hb4.mono HW3.out.size))
            have HRB4 := Lib.hid (HRBB.out.below hb4)
            have hr4 := HR3.out.keep hb4
            have b0 := hr4.some_ (k := 0) (by omega)
            rw [Nat.add_zero, HKD.out] at b0
            have v1 := conv_rd (cap := cs) k4
            have v2 := conv_rd (cap := cap) hr4
            by_cases hall : ∀ j, j < 160 → sealF kd L (fun k => F (3 + k)) j = F j
            · have HOK : Hid (OpenOk F) := Lib.hid ⟨by rw [HKD.out]; omega, by rw [HLL.out]; omega, by rw [HKD.out, HLL.out]; exact hall⟩
              have e1 := beq_iff_eq.2 ((str_eq (n := 160) (m := 160) (fun j _ => HS3.out j) HF.out).2 ⟨rfl, hall⟩)
              have e2 : ((strOf ((List.range 160).map (sealF kd L (fun k => F (3 + k))))).toList != (strOf ((List.range 160).map F)).toList) = false := by rw [bne, e1]; rfl
              generalize strOf ((List.range 160).map (sealF kd L (fun k => F (3 + k)))) = s1 at *
              generalize strOf ((List.range 160).map F) = s2 at *
              clear hall hr4 k4 hb4
              go_wp2_with fail
              go_ret3
              exact HG.out HNX.out HOK.out _ _ ⟨gb, cb, by rw [HKD.out, HLL.out]; rfl, by rw [HLL.out]; exact HRB4.out, HW4.out, by rw [HLL.out]; exact HLC.out⟩
            · have HNO : Hid (¬ OpenOk F) := Lib.hid (fun h => hall (by have := h.2.2; rwa [HKD.out, HLL.out] at this))
              have e1 : ((strOf ((List.range 160).map (sealF kd L (fun k => F (3 + k))))).toList == (strOf ((List.range 160).map F)).toList) = false := beq_eq_false_iff_ne.2 (fun e => hall ((str_eq (n := 160) (m := 160) (fun j _ => HS3.out j) HF.out).1 e).2)
              have e2 : ((strOf ((List.range 160).map (sealF kd L (fun k => F (3 + k))))).toList != (strOf ((List.range 160).map F)).toList) = true := by rw [bne, e1]; rfl
              generalize strOf ((List.range 160).map (sealF kd L (fun k => F (3 + k)))) = s1 at *
              generalize strOf ((List.range 160).map F) = s2 at *
              clear hall hr4 k4 hb4
              go_wp2_with fail
              go_ret3
              exact HB.out HNX.out HNO.out _ HW4.out
      · have e1 : ((y : Int) != (x : Int)) = true := by rw [bne_iff_ne]; omega
        have HNX := Lib.hid hne
        clear hne a0 a1 a2 HOR
        go_wp2_with fail
        refine HS.out.mono ?_
        rintro e w' ⟨rfl, d, rfl⟩
        go_wp2_with fail
        go_ret3
        exact HM.out (by rw [HY.out, HX.out]; exact fun e => HNX.out e.symm) _ (below_drewN d w)
end Go.Proofs.Ytjbicpekpgaokaa
