import Derived.Test.YtofmilkjhnkgjaaGreatW31
import Derived.Test.YtofmilkjhnkgjaaGreatW07
namespace Go.Proofs.YtofmilkjhnkgjaaGreat
open Go.RowKit Go.Sort
set_option maxRecDepth 100000
set_option maxHeartbeats 4000000

/-- corbelref7.ReadPiece of 160 bytes. -/
theorem rreadp (g q cap : Nat) (F : Nat → Nat) (w : World) (Q : Ending → World → Prop) (h : Rd w (some ⟨g, q, none⟩) 160 F) (hc : 160 ≤ cap) (hF : ∀ j, j < 160 → F j < 256)
    (hbad : ¬ IsPc F → ∀ w', Below w.heap.size w w' → Q (.returned (.tuple #[pv 0 0 0 none 0 0, .bool false])) w')
    (hgood : IsPc F → ∀ A c w', Dat w' A (rdP F).D → Below w.heap.size w w' → Q (.returned (.tuple #[pv ((rdP F).s : Int) ((rdP F).g : Int) ((rdP F).i : Int) A 32 c, .bool true])) w') :
    Calls Tryz.prog 76 #[.slice (some ⟨g, q, none⟩) 160 cap] w Q := by
  have HB := Lib.hid hbad
  have HG := Lib.hid hgood
  have HF := Lib.hid hF
  obtain ⟨w0, hw0⟩ : ∃ w0, w.alloc (.cells #[.int .i64 0, .int .i64 0, .int .i64 0, .slice none 0 0] 74) = w0 := ⟨_, rfl⟩
  have HW0 := Lib.hid hw0
  obtain ⟨H, hH⟩ : ∃ H, w.heap.size = H := ⟨_, rfl⟩
  have HH := Lib.hid hH
  have HB0 : Hid (Below H w w0) := Lib.hid (by rw [← hw0, ← hH]; exact (Below.refl _ _).alloc (Nat.le_refl _) _)
  have HR0 : Hid (Rd w0 (some ⟨g, q, none⟩) 160 F) := Lib.hid (h.keep (by rw [hH]; exact HB0.out))
  have HK0 : Hid (PV w0 H 0 0 0 none 0 0) := Lib.hid (by rw [← hw0]; exact PV.of_new hH)
  have HL0 : Hid (H < w0.heap.size) := Lib.hid HK0.out.lt
  clear hbad hgood hF h hw0 hH
  have HRET : Hid (∀ w1, Below H w w1 → H ≤ w.heap.size) := Lib.hid (fun _ _ => Nat.le_of_eq HH.out.symm)
  by_cases hmk : num4 F 156 = sumF F 156
  · have HMK := Lib.hid hmk
    have HMO := Lib.hid (ropen_all g q cap F w0 (fun e w' => ((¬ OpenOk F) ∧ e = .returned (.tuple #[.int .i64 0, .slice none 0 0, .int .i64 2]) ∧ Below w0.heap.size w0 w') ∨ (OpenOk F ∧ OpenRet F w0 e w')) HR0.out hc HF.out (fun n => absurd hmk n) (fun _ a w' b => Or.inl ⟨a, rfl, b⟩) (fun _ a e w' b => Or.inr ⟨a, b⟩))
    clear hmk
    unfold pv at HB HG
    by_cases hok : OpenOk F
    · have HOK := Lib.hid hok
      have HMO2 : Hid (Calls Tryz.prog 83 #[.slice (some ⟨g, q, none⟩) 160 cap] w0 (OpenRet F w0)) := Lib.hid (HMO.out.mono (by
        rintro e w' (⟨a, _⟩ | ⟨_, b⟩)
        · exact absurd hok a
        · exact b))
      clear hok HMO
      by_cases hk1 : F 0 = 1
      · obtain ⟨L, hL⟩ : ∃ L, F 1 * 256 + F 2 = L := ⟨_, rfl⟩
        have HLL := Lib.hid hL
        clear hL
        by_cases h8 : L < 8
        · have HNO : Hid (¬ IsPc F) := Lib.hid (fun h => by unfold IsPc at h; have := h.2.2.2.1; rw [HLL.out] at this; omega)
          have h8' : (L : Int) < 8 := by omega
          go_enter Tryz.func76, Tryz.ntmps76
          go_wp2_with fail
          rw [HW0.out]
          refine HMO2.out.mono ?_
          rintro e w1 ⟨b, cb, rfl, hr1, hb1, hcb⟩
          try dsimp only
          rw [hk1, HLL.out]
          have HB1 : Hid (Below H w w1) := Lib.hid (HB0.out.trans (hb1.mono (by have := HL0.out; omega)))
          have HK1 := Lib.hid (HK0.out.below hb1)
          have c0 := HK1.out.c0
          have c1 := HK1.out.c1
          have c2 := HK1.out.c2
          have c3 := HK1.out.c3
          have f0 := HK1.out.f
          clear hb1 hr1 hcb
          have hHs := HH.out
          go_wp2_with fail
          refine bodyPost_ret (v := .tuple #[pv 0 0 0 none 0 0, .bool false]) ?_ rfl ?_
          · rw [results_cell_tmp rfl]
            simp [hHs, HK1.out.put.load, Result.andThen, asAddr]
          exact HB.out HNO.out _ (by rw [hHs]; exact below_put4 HB1.out (Nat.le_refl _) _ _ _ _)
        · have h8' : ¬ (L : Int) < 8 := by omega
          have h8n : 8 ≤ L := by omega
          have HIFF := Lib.hid (isPc_iff HF.out HOK.out HMK.out hk1 (by rw [HLL.out]; exact h8n))
          rw [HLL.out] at HIFF
          have hL153 : L ≤ 153 := by have := HOK.out.2.1; rw [HLL.out] at this; exact this
          have HSE := Lib.hid (rdP_s F)
          have HGE := Lib.hid (rdP_g F)
          have HIE := Lib.hid (rdP_i F)
          obtain ⟨sG, hsG⟩ : ∃ sG, numF (fun j => F (3 + (1 + j))) 6 = sG := ⟨_, rfl⟩
          have HSG := Lib.hid hsG
          have bG : sG < 281474976710656 := by
            have h1 := numF_lt (F := fun j => F (3 + (1 + j))) (k := 6) (fun j hj => HF.out _ (by omega))
            have h2 : (256 : Nat) ^ 6 = 281474976710656 := by decide
            rw [h2] at h1
            omega
          obtain ⟨sS, hsS⟩ : ∃ sS, F 3 = sS := ⟨_, rfl⟩
          obtain ⟨sI, hsI⟩ : ∃ sI, F 10 = sI := ⟨_, rfl⟩
          have HSS := Lib.hid hsS
          have HSI := Lib.hid hsI
          rw [hsG] at HIFF HGE
          rw [hsS] at HIFF HSE
          rw [hsI] at HIFF HIE
          clear hsG hsS hsI
          go_enter Tryz.func76, Tryz.ntmps76
          go_wp2_with fail
          rw [HW0.out]
          refine HMO2.out.mono ?_
          rintro e w1 ⟨b, cb, rfl, hr1, hb1, hcb⟩
          try dsimp only
          rw [hk1, HLL.out, HH.out, show ((1 : Nat) : Int) = 1 from rfl]
          rw [HLL.out] at hr1 hcb
          have HB1 : Hid (Below H w w1) := Lib.hid (HB0.out.trans (hb1.mono (by have := HL0.out; omega)))
          have HK1 := Lib.hid (HK0.out.below hb1)
          have HR1 := Lib.hid hr1.rd
          have HBK1 := Lib.hid hr1
          have hbO := hb1
          have HPC := Lib.hid (rpiece b L cb (fun k => F (3 + k)) w1 hr1.rd (fun j hj => HF.out _ (by omega)) h8n (by omega) hcb)
          clear hb1 hr1
          go_wp2_with fail
          refine HPC.out.mono ?_
          rintro e w2 ⟨gp, cp, rfl, kp, hb2⟩
          try dsimp only
          rw [show F (3 + 0) = sS from HSS.out, HSG.out, show F (3 + 7) = sI from HSI.out]
          have HB2 : Hid (Below H w w2) := Lib.hid (HB1.out.trans (hb2.mono (Nat.le_of_lt HK1.out.lt)))
          have HK2 := Lib.hid (HK1.out.below hb2)
          have HKP := Lib.hid kp
          have HR2 : Hid (Rd w2 (some ⟨g, q, none⟩) 160 F) := Lib.hid (HR0.out.keep (by first | exact (hbO.trans (hb2.mono hbO.size))))
          clear kp hb2 hbO
          go_wp2_with fail
          obtain ⟨w3, hw3⟩ : ∃ w3, w2.alloc (.cells #[.int .i64 (sS : Int), .int .i64 (sG : Int), .int .i64 (sI : Int), .slice (some ⟨gp, 0, none⟩) (L - 8) cp] 74) = w3 := ⟨_, rfl⟩
          have hb3 : Below w2.heap.size w2 w3 := by rw [← hw3]; exact (Below.refl _ _).alloc (Nat.le_refl _) _
          have HP3 : Hid (PV w3 w2.heap.size (sS : Int) (sG : Int) (sI : Int) (some ⟨gp, 0, none⟩) (L - 8) cp) := Lib.hid (by rw [← hw3]; exact PV.new w2 _ _ _ _ _ _)
          have HB3 : Hid (Below H w w3) := Lib.hid (HB2.out.trans (hb3.mono (Nat.le_of_lt HK2.out.lt)))
          have HK3 := Lib.hid (HK2.out.below hb3)
          have HKP3 := Lib.hid (HKP.out.below hb3)
          have HR3 := Lib.hid (HR2.out.keep hb3)
          obtain ⟨pb, hpb⟩ : ∃ pb, w2.heap.size = pb := ⟨_, rfl⟩
          have hHp : H < pb := by rw [← hpb]; exact HK2.out.lt
          rw [hw3]
          rw [hpb] at HP3 ⊢
          clear hw3 hb3 hpb
          by_cases hr : OkI ((sS : Nat) : Int) ((sG : Nat) : Int) ((sI : Nat) : Int) (L - 8)
          · have HOKP := Lib.hid (HIFF.out.1 hr)
            have hL40 : L = 40 := by have := hr.2.2.2.2.2.2; omega
            subst hL40
            have hOk : (rdP F).Ok := by have h := HOKP.out; unfold IsPc at h; exact h.2.2.2.2
            have HRD : Hid (Rd w3 (some ⟨gp, 0, none⟩) 32 (rdP F).D) := Lib.hid (HKP3.out.rd.congr (fun j _ => (rdP_D F j).symm))
            have HLA := Lib.hid (rlay (rdP F) (some ⟨gp, 0, none⟩) cp w3 hOk HRD.out)
            rw [HSE.out, HGE.out, HIE.out] at HLA
            have HDT : Hid (Dat w3 (some ⟨gp, 0, none⟩) (rdP F).D) := Lib.hid (Dat.of HKP3.out HRD.out)
            have HPF := Lib.hid (isPc_pcS HF.out HOKP.out)
            have HPL := Lib.hid (pcS_lt hOk)
            clear hr hOk
            unfold pv at HLA
            refine HLA.out.mono ?_
            rintro e w4 ⟨g4, k4, rfl, hr4, hb4, hc4⟩
            try dsimp only
            have HB4 : Hid (Below H w w4) := Lib.hid (HB3.out.trans (hb4.mono (Nat.le_of_lt HK3.out.lt)))
            have HK4 := Lib.hid (HK3.out.below hb4)
            have HP4 := Lib.hid (HP3.out.below hb4)
            have HD4 := Lib.hid (HDT.out.below hb4)
            have v1 := conv_rd (cap := k4) hr4
            have v2 := conv_rd (cap := cap) (HR3.out.keep hb4)
            have e1 := beq_iff_eq.2 ((str_eq (n := 160) (m := 160) (fun j _ => HPL.out j) HF.out).2 ⟨rfl, fun j hj => (HPF.out j hj).symm⟩)
            have e2 : ((strOf ((List.range 160).map (pcS (rdP F)))).toList != (strOf ((List.range 160).map F)).toList) = false := by rw [bne, e1]; rfl
            generalize strOf ((List.range 160).map (pcS (rdP F))) = s1 at *
            generalize strOf ((List.range 160).map F) = s2 at *
            clear hr4 hb4 hc4
            have z0 := HK4.out.c0
            have z1 := HK4.out.c1
            have z2 := HK4.out.c2
            have z3 := HK4.out.c3
            have fz := HK4.out.f
            have c0 := HP4.out.c0
            have c1 := HP4.out.c1
            have c2 := HP4.out.c2
            have c3 := HP4.out.c3
            go_wp2_with fail
            refine bodyPost_ret (v := .tuple #[pv (sS : Int) (sG : Int) (sI : Int) (some ⟨gp, 0, none⟩) 32 cp, .bool true]) ?_ rfl ?_
            · rw [results_cell_tmp rfl]
              simp [HK4.out.put.load, Result.andThen, asAddr]
            have hg := HG.out HOKP.out (some ⟨gp, 0, none⟩) cp _ (HD4.out.far4 HK4.out) (by rw [HH.out]; exact below_put4 HB4.out (Nat.le_refl _) (.int .i64 (sS : Int)) (.int .i64 (sG : Int)) (.int .i64 (sI : Int)) (.slice (some ⟨gp, 0, none⟩) 32 cp))
            rw [HSE.out, HGE.out, HIE.out] at hg
            exact hg
          · have HLA := Lib.hid (rlay_no ((sS : Nat) : Int) ((sG : Nat) : Int) ((sI : Nat) : Int) (some ⟨gp, 0, none⟩) (L - 8) cp w3 hr)
            have HNO : Hid (¬ IsPc F) := Lib.hid (fun h => hr (HIFF.out.2 h))
            clear hr
            unfold pv at HLA
            refine HLA.out.mono ?_
            rintro e w4 ⟨rfl, hb4⟩
            try dsimp only
            have HB4 : Hid (Below H w w4) := Lib.hid (HB3.out.trans (hb4.mono (Nat.le_of_lt HK3.out.lt)))
            have HK4 := Lib.hid (HK3.out.below hb4)
            clear hb4
            have z0 := HK4.out.c0
            have z1 := HK4.out.c1
            have z2 := HK4.out.c2
            have z3 := HK4.out.c3
            have fz := HK4.out.f
            go_wp2_with fail
            refine bodyPost_ret (v := .tuple #[pv 0 0 0 none 0 0, .bool false]) ?_ rfl ?_
            · rw [results_cell_tmp rfl]
              simp [HK4.out.put.load, Result.andThen, asAddr]
            exact HB.out HNO.out _ (by rw [HH.out]; exact below_put4 HB4.out (Nat.le_refl _) _ _ _ _)
      · have HNO : Hid (¬ IsPc F) := Lib.hid (fun h => by unfold IsPc at h; exact hk1 h.2.2.1)
        obtain ⟨kd, hkd⟩ : ∃ kd, F 0 = kd := ⟨_, rfl⟩
        have HKD := Lib.hid hkd
        have e1 : ((kd : Int) != 1) = true := by rw [bne_iff_ne]; omega
        clear hkd hk1
        go_enter Tryz.func76, Tryz.ntmps76
        go_wp2_with fail
        rw [HW0.out]
        refine HMO2.out.mono ?_
        rintro e w1 ⟨b, cb, rfl, hr1, hb1, hcb⟩
        try dsimp only
        rw [HKD.out]
        have HB1 : Hid (Below H w w1) := Lib.hid (HB0.out.trans (hb1.mono (by have := HL0.out; omega)))
        have HK1 := Lib.hid (HK0.out.below hb1)
        have c0 := HK1.out.c0
        have c1 := HK1.out.c1
        have c2 := HK1.out.c2
        have c3 := HK1.out.c3
        have f0 := HK1.out.f
        clear hb1 hr1 hcb
        have hHs := HH.out
        go_wp2_with fail
        refine bodyPost_ret (v := .tuple #[pv 0 0 0 none 0 0, .bool false]) ?_ rfl ?_
        · rw [results_cell_tmp rfl]
          simp [hHs, HK1.out.put.load, Result.andThen, asAddr]
        exact HB.out HNO.out _ (by rw [hHs]; exact below_put4 HB1.out (Nat.le_refl _) _ _ _ _)
    · have HNO : Hid (¬ IsPc F) := Lib.hid (fun h => by unfold IsPc at h; exact hok h.1)
      have HMO2 : Hid (Calls Tryz.prog 83 #[.slice (some ⟨g, q, none⟩) 160 cap] w0 fun e w' => e = .returned (.tuple #[.int .i64 0, .slice none 0 0, .int .i64 2]) ∧ Below w0.heap.size w0 w') := Lib.hid (HMO.out.mono (by
        rintro e w' (⟨_, b⟩ | ⟨a, _⟩)
        · exact b
        · exact absurd a hok))
      clear hok HMO
      go_enter Tryz.func76, Tryz.ntmps76
      go_wp2_with fail
      rw [HW0.out]
      refine HMO2.out.mono ?_
      rintro e w1 ⟨rfl, hb1⟩
      try dsimp only
      have HB1 : Hid (Below H w w1) := Lib.hid (HB0.out.trans (hb1.mono (by have := HL0.out; omega)))
      have HK1 := Lib.hid (HK0.out.below hb1)
      have c0 := HK1.out.c0
      have c1 := HK1.out.c1
      have c2 := HK1.out.c2
      have c3 := HK1.out.c3
      have f0 := HK1.out.f
      clear hb1
      have hHs := HH.out
      go_wp2_with fail
      refine bodyPost_ret (v := .tuple #[pv 0 0 0 none 0 0, .bool false]) ?_ rfl ?_
      · rw [results_cell_tmp rfl]
        simp [hHs, HK1.out.put.load, Result.andThen, asAddr]
      exact HB.out HNO.out _ (by rw [hHs]; exact below_put4 HB1.out (Nat.le_refl _) _ _ _ _)
  · have HNO : Hid (¬ IsPc F) := Lib.hid (fun h => by unfold IsPc at h; exact hmk h.2.1)
    have HMO2 : Hid (Calls Tryz.prog 83 #[.slice (some ⟨g, q, none⟩) 160 cap] w0 fun e w' => e = .returned (.tuple #[.int .i64 0, .slice none 0 0, .int .i64 3]) ∧ Below w0.heap.size w0 w') := Lib.hid (ropen_all g q cap F w0 _ HR0.out hc HF.out (fun _ w' b => ⟨rfl, b⟩) (fun n => absurd n hmk) (fun n => absurd n hmk))
    clear hmk
    unfold pv at HB HG
    go_enter Tryz.func76, Tryz.ntmps76
    go_wp2_with fail
    rw [HW0.out]
    refine HMO2.out.mono ?_
    rintro e w1 ⟨rfl, hb1⟩
    try dsimp only
    have HB1 : Hid (Below H w w1) := Lib.hid (HB0.out.trans (hb1.mono (by have := HL0.out; omega)))
    have HK1 := Lib.hid (HK0.out.below hb1)
    have c0 := HK1.out.c0
    have c1 := HK1.out.c1
    have c2 := HK1.out.c2
    have c3 := HK1.out.c3
    have f0 := HK1.out.f
    clear hb1
    have hHs := HH.out
    go_wp2_with fail
    refine bodyPost_ret (v := .tuple #[pv 0 0 0 none 0 0, .bool false]) ?_ rfl ?_
    · rw [results_cell_tmp rfl]
      simp [hHs, HK1.out.put.load, Result.andThen, asAddr]
    exact HB.out HNO.out _ (by rw [hHs]; exact below_put4 HB1.out (Nat.le_refl _) _ _ _ _)
end Go.Proofs.YtofmilkjhnkgjaaGreat
