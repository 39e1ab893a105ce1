import Derived.Test.YtmnfgbfajhinlaaI9
namespace Go.Proofs.Ytmnfgbfajhinlaa
open Go.RowKit Go.Sort
set_option maxRecDepth 100000
set_option maxHeartbeats 4000000

theorem rws_keep {w w' : World} {o n c : Nat} {G Q C : Nat → Nat} {M : Mx} (h : Rws w o n c G Q C M) (b : Below w.heap.size w w') (hc : 0 < c) : Rws w' o n c G Q C M := fun r hr =>
  ⟨(b.cell (p := ⟨o, r, none⟩) (cell?_lt (h r hr).1)).trans (h r hr).1, fun j hj => (b.cell (p := ⟨G r, Q r + j, none⟩) (h.lt hc hr)).trans ((h r hr).2 j hj)⟩

theorem matrixRows (x0 : Int) (a1 : Option Addr) (xs1 : List Int) (c1 : Nat) (x2 x3 : Int) (w : World) (hn1 : Nums w a1 xs1) (hl1 : xs1.length ≤ 9223372036854775807) :
    Calls Try.prog 6 #[.int .i64 x0, .slice a1 xs1.length c1, .int .i64 x2, .int .i64 x3] w fun e w' => e = .returned (.bool true) ∧ Below w.heap.size w w' := by
  obtain ⟨n, hn⟩ : ∃ n : Nat, (n : Int) = 2 + x0 % 5 := ⟨(2 + x0 % 5).toNat, by omega⟩
  have n1 : 2 ≤ n := by omega
  have n2 : n ≤ 64 := by omega
  have HN := Lib.hid hn
  have HP := Lib.hid (rpick x0 5 (by omega) (by omega))
  have HP2 := Lib.hid (rpick x2 n (by omega) (by omega))
  have HP3 := Lib.hid (rpick x3 n (by omega) (by omega))
  obtain ⟨i, hi⟩ : ∃ i : Nat, (i : Int) = x2 % n := ⟨(x2 % n).toNat, by have := Int.emod_nonneg x2 (show (n : Int) ≠ 0 by omega); omega⟩
  obtain ⟨k, hk⟩ : ∃ k : Nat, (k : Int) = x3 % n := ⟨(x3 % n).toNat, by have := Int.emod_nonneg x3 (show (n : Int) ≠ 0 by omega); omega⟩
  have hin : i < n := by have := Int.emod_lt_of_pos x2 (show (0 : Int) < n by omega); omega
  have hkn : k < n := by have := Int.emod_lt_of_pos x3 (show (0 : Int) < n by omega); omega
  rw [← hi] at HP2
  rw [← hk] at HP3
  have HN1 := Lib.hid hn1
  have hm1 : -9223372036854775808 ≤ x0 % 5 ∧ x0 % 5 < 5 ∧ 0 ≤ x0 % 5 := by omega
  obtain ⟨A, hA⟩ : ∃ A, A = ofv xs1 n := ⟨_, rfl⟩
  have BA : Hid (Bd n n A) := Lib.hid (by rw [hA]; exact ofv_sq _ _ _)
  have HA := Lib.hid hA
  clear hA hn hn1 hi hk
  obtain ⟨zs, z1, z2⟩ := make8 n (by omega)
  have HZ := Lib.hid z1
  clear z1
  have hin' : (i : Int) < (n : Int) := by omega
  have hkn' : (k : Int) < (n : Int) := by omega
  go_enter Try.func6, Try.ntmps6
  go_wp2_with fail
  refine (fnew0 _).mono ?_
  rintro e w1 ⟨f, rfl, HF⟩
  have K1 : Hid (Kept w w1 f []) := Lib.hid ⟨HF.out.1, HF.out.2.1, fun p hp => by cases hp⟩
  clear HF
  go_wp2_with fail
  refine (HP.out _).mono ?_
  rintro e w' ⟨rfl, hw⟩
  obtain rfl := hw.symm
  generalize x0 % 5 = m at *
  go_wp2_with fail
  generalize hnn : (2 : Int) + m = nn at *
  obtain rfl : nn = (n : Int) := by rw [HN.out]
  clear hnn
  go_wp2_with fail
  refine (ofC n n a1 xs1 c1 w1 (by omega) n2 (by omega) n2 (nums_keep HN1.out K1.out.below) hl1).mono ?_
  rintro e w2 ⟨oa, ca, rfl, HM2⟩
  rw [← HA.out] at HM2
  have K2 := Lib.hid (K1.out.add HM2.out.2 HM2.out.1)
  clear HM2 K1
  go_wp2_with fail
  refine (HP2.out _).mono ?_
  rintro e w' ⟨rfl, hw⟩
  obtain rfl := hw.symm
  go_wp2_with fail
  refine (HP3.out _).mono ?_
  rintro e w' ⟨rfl, hw⟩
  obtain rfl := hw.symm
  go_wp2_with fail
  refine (mknown w2).mono ?_
  rintro e w3 ⟨rfl, hb⟩
  have K3 := Lib.hid (K2.out.go hb)
  clear hb K2
  by_cases hik : i = k
  · subst hik
    have t1 : ((i : Int) == (i : Int)) = true := beq_iff_eq.2 rfl
    go_wp2_with fail
    refine (mknown w3).mono ?_
    rintro e w4 ⟨rfl, hb⟩
    have K4 := Lib.hid (K3.out.go hb)
    clear hb K3
    go_wp2_with fail
    go_ret
    exact ⟨rfl, K4.out.below⟩
  · have t1 : ((i : Int) == (k : Int)) = false := beq_eq_false_iff_ne.2 (by omega)
    have HIK := Lib.hid hik
    clear hik
    obtain ⟨G, Q, C, hR⟩ := raw_rws (K3.out.at_ (oa, rowsOf n n A) (by simp)) (by omega)
    have HR := Lib.hid hR
    clear hR
    go_wp2_with (at_builtin; refine clone_at _ w3 rfl _ _ rfl rfl rfl oa n ca rfl G Q C A HR.out (by omega) n2 ?_; intro g cap w4 HC; have s1 := (HC.out.rows k hkn).1; have s2 := HC.out.free k; have s3 := (HC.out.old i hin).1)
    have HS : Hid (RawIn (w4.setCell ⟨g, k, none⟩ (.slice (some ⟨G i, Q i, none⟩) n (C i))) (some ⟨g, 0, none⟩) (rowsOf n n (setr A k (A i))) ∧ Below w3.heap.size w3 (w4.setCell ⟨g, k, none⟩ (.slice (some ⟨G i, Q i, none⟩) n (C i))) ∧ Rws (w4.setCell ⟨g, k, none⟩ (.slice (some ⟨G i, Q i, none⟩) n (C i))) oa n n G Q C A) :=
      Lib.hid ⟨(HC.out.set (by have := HC.out.small i hin; have := HC.out.ge; omega) (HC.out.rows i hin).2).raw, HC.out.below.setCell HC.out.ge _, fun r hr => by
        have := HC.out.small r hr
        have := HC.out.oalt
        have := HC.out.ge
        exact ⟨by rw [cell_far (Or.inl (by omega))]; exact (HC.out.old r hr).1, fun j hj => by rw [cell_far (Or.inl (by omega))]; exact (HC.out.old r hr).2 j hj⟩⟩
    clear HC s1 s2 s3
    generalize w4.setCell ⟨g, k, none⟩ (.slice (some ⟨G i, Q i, none⟩) n (C i)) = w5 at HS ⊢
    have K5 := Lib.hid (K3.out.add HS.out.2.1 HS.out.1)
    have HR5 := Lib.hid HS.out.2.2
    clear HS K3 HR
    have BS : Hid (Bd n n (setr A k (A i))) := Lib.hid (setr_bd BA.out (fun j hj => BA.out i hin j hj))
    refine (invC f g _ n (setr A k (A i)) w5 K5.out.fld (K5.out.at_ (g, rowsOf n n (setr A k (A i))) (by simp)) (by omega) n2 BS.out).mono ?_
    rintro e w6 (⟨rfl, HM6⟩ | ⟨ox, X, rfl, HM6⟩)
    · have K6 := Lib.hid (K5.out.go HM6.out.2)
      have HR6 : Hid (Rws w6 oa n n G Q C A) := Lib.hid (rws_keep HR5.out HM6.out.2 (by omega))
      clear HM6 K5 HR5
      go_wp2_with (at_builtin; refine clone_at _ w6 rfl _ _ rfl rfl rfl oa n ca rfl G Q C A HR6.out (by omega) n2 ?_; intro g7 cap7 w7 HC; have s1 := (HC.out.rows k hkn).1; have s2 := HC.out.free k; have s3 := HC.out.lt; have s4 := (World.cell?_of_block (alloc_old w7 (.cells zs 5) HC.out.lt)).trans s1; have s5 := (World.frozen?_of_block (alloc_old w7 (.cells zs 5) HC.out.lt)).trans s2)
      have HS : Hid (RawIn ((w7.setCell ⟨g7, k, none⟩ (.slice (some ⟨w7.heap.size, 0, none⟩) n n)).alloc (.cells zs 5)) (some ⟨g7, 0, none⟩) (rowsOf n n (setr A k (fun _ => 0))) ∧ Below w6.heap.size w6 ((w7.setCell ⟨g7, k, none⟩ (.slice (some ⟨w7.heap.size, 0, none⟩) n n)).alloc (.cells zs 5)) ∧ Rws ((w7.setCell ⟨g7, k, none⟩ (.slice (some ⟨w7.heap.size, 0, none⟩) n n)).alloc (.cells zs 5)) oa n n G Q C A) := by
        have HCA := HC.out.alloc (.cells zs 5)
        have hne : w7.heap.size ≠ g7 := by have := HC.out.lt; omega
        rw [← World.setCell_alloc_past (.cells zs 5) g7 k _ HC.out.lt]
        refine Lib.hid ⟨(HCA.set (k := k) (F := fun _ => 0) (q2 := 0) (c2 := n) hne (fun j hj => ?_)).raw, HCA.below.setCell HCA.ge _, fun r hr => ?_⟩
        · rw [Nat.zero_add, cell_of_block (alloc_block w7 _)]; exact HZ.out j hj
        · have := HCA.small r hr
          have := HCA.oalt
          have := HCA.ge
          exact ⟨by rw [cell_far (Or.inl (by omega))]; exact (HCA.old r hr).1, fun j hj => by rw [cell_far (Or.inl (by omega))]; exact (HCA.old r hr).2 j hj⟩
      clear HC s1 s2 s3 s4 s5
      generalize (w7.setCell ⟨g7, k, none⟩ (.slice (some ⟨w7.heap.size, 0, none⟩) n n)).alloc (.cells zs 5) = w8 at HS ⊢
      have K8 := Lib.hid (K6.out.add HS.out.2.1 HS.out.1)
      have HR8 := Lib.hid HS.out.2.2
      clear HS K6 HR6
      have BT : Hid (Bd n n (setr A k (fun _ => 0))) := Lib.hid (setr_bd BA.out (fun j hj => by decide))
      refine (invC f g7 _ n (setr A k (fun _ => 0)) w8 K8.out.fld (K8.out.at_ (g7, rowsOf n n (setr A k (fun _ => 0))) (by simp)) (by omega) n2 BT.out).mono ?_
      rintro e w9 (⟨rfl, HM9⟩ | ⟨ox, X, rfl, HM9⟩)
      · have K9 := Lib.hid (K8.out.go HM9.out.2)
        have HR9 : Hid (Rws w9 oa n n G Q C A) := Lib.hid (rws_keep HR8.out HM9.out.2 (by omega))
        clear HM9 K8 HR8
        go_wp2_with (at_builtin; refine clone_at _ w9 rfl _ _ rfl rfl rfl oa n ca rfl G Q C A HR9.out (by omega) n2 ?_; intro g10 cap10 w10 HC)
        have s1 := (HC.out.rows k hkn).1
        have s2 := HC.out.free k
        have s3 := (HC.out.rows i hin).1
        have s4 := HC.out.free i
        have s5 := (HC.out.old i hin).1
        have s6 := (HC.out.old k hkn).1
        have s7 : (w10.setCell ⟨g10, i, none⟩ (.slice (some ⟨G k, Q k, none⟩) n (C k))).cell? ⟨g10, k, none⟩ = some (.slice (some ⟨G k, Q k, none⟩) n (C k)) := by rw [cell_far (Or.inr (fun e => HIK.out e.symm))]; exact s1
        go_region
        have HS : Hid (RawIn ((w10.setCell ⟨g10, i, none⟩ (.slice (some ⟨G k, Q k, none⟩) n (C k))).setCell ⟨g10, k, none⟩ (.slice (some ⟨G i, Q i, none⟩) n (C i))).drew (some ⟨g10, 0, none⟩) (rowsOf n n (fun r j => A (sw i k r) j)) ∧ Below w9.heap.size w9 ((w10.setCell ⟨g10, i, none⟩ (.slice (some ⟨G k, Q k, none⟩) n (C k))).setCell ⟨g10, k, none⟩ (.slice (some ⟨G i, Q i, none⟩) n (C i))).drew) :=
          Lib.hid ⟨(HC.out.swap hin hkn HIK.out).raw, ((HC.out.below.setCell HC.out.ge _).setCell HC.out.ge _).drew⟩
        clear HC s1 s2 s3 s4 s5 s6 s7
        generalize ((w10.setCell ⟨g10, i, none⟩ (.slice (some ⟨G k, Q k, none⟩) n (C k))).setCell ⟨g10, k, none⟩ (.slice (some ⟨G i, Q i, none⟩) n (C i))).drew = w11 at HS ⊢
        have K11 := Lib.hid (K9.out.add HS.out.2 HS.out.1)
        clear HS K9 HR9
        obtain ⟨D, hD⟩ : ∃ D : Mx, D = (fun r j => A (sw i k r) j) := ⟨_, rfl⟩
        rw [← hD] at K11
        have BD : Hid (Bd n n D) := Lib.hid (by rw [hD]; exact fun r hr j hj => BA.out _ (sw_lt hin hkn hr) j hj)
        have HD : Hid (EqM n n D (fun r j => A (sw i k r) j)) := Lib.hid (by rw [hD]; exact EqM.refl _ _ _)
        clear hD
        go_wp2_with fail
        refine (invC f oa _ n A w11 K11.out.fld (K11.out.at_ (oa, rowsOf n n A) (by simp)) (by omega) n2 BA.out).mono ?_
        rintro e w12 (⟨rfl, HM12⟩ | ⟨ox, X, rfl, HM12⟩)
        · have K12 := Lib.hid (K11.out.go HM12.out.2)
          go_wp2_with fail
          refine (invC f g10 _ n D w12 K12.out.fld (K12.out.at_ (g10, rowsOf n n D) (by simp)) (by omega) n2 BD.out).mono ?_
          rintro e w13 (⟨rfl, HM13⟩ | ⟨oy, Y, rfl, HM13⟩)
          · have K13 := Lib.hid (K12.out.go HM13.out.2)
            clear HM12 HM13 K11 K12
            go_wp2_with fail
            refine wp_loop_rounds 1 ?_
            rw [rounds_succ]
            go_wp2_with fail
            go_ret
            exact ⟨rfl, K13.out.below⟩
          · exfalso
            obtain ⟨Z, hz⟩ := HM12.out.1
            have h := (Found.swapped BA.out hin hkn HD.out hz HM13.out.1).1
            exact absurd h (by decide)
        · have K12 := Lib.hid (K11.out.add HM12.out.2.2 HM12.out.2.1)
          go_wp2_with fail
          refine (invC f g10 _ n D w12 K12.out.fld (K12.out.at_ (g10, rowsOf n n D) (by simp)) (by omega) n2 BD.out).mono ?_
          rintro e w13 (⟨rfl, HM13⟩ | ⟨oy, Y, rfl, HM13⟩)
          · exfalso
            obtain ⟨Z, hz⟩ := HM13.out.1
            have h := (Found.swapped BA.out hin hkn HD.out HM12.out.1 hz).1
            exact absurd h (by decide)
          · have K13 := Lib.hid (K12.out.add HM13.out.2.2 HM13.out.2.1)
            have HXY : Hid (∀ r, r < n → X r i = Y r k ∧ X r k = Y r i) := Lib.hid (fun r hr => by
              have h := (Found.swapped BA.out hin hkn HD.out HM12.out.1 HM13.out.1).2 rfl
              have h1 := h r hr k hkn
              have h2 := h r hr i hin
              dsimp only at h1 h2
              rw [show sw i k k = i from by unfold sw; rw [if_neg (fun e => HIK.out e.symm), if_pos rfl]] at h1
              rw [sw_left] at h2
              exact ⟨h1.symm, h2.symm⟩)
            clear HM12 HM13 K11 K12
            have tn : ((n : Int) != (n : Int)) = false := by rw [bne_eq_false_iff_eq]
            obtain ⟨GX, QX, CX, hX⟩ := raw_rws (K13.out.at_ (ox, rowsOf n n X) (by simp)) (by omega)
            obtain ⟨GY, QY, CY, hY⟩ := raw_rws (K13.out.at_ (oy, rowsOf n n Y) (by simp)) (by omega)
            have HX := Lib.hid hX
            have HY := Lib.hid hY
            clear hX hY
            go_wp2_with fail
            go_loopg [22] n (fun q s v => ∃ r : Nat, s = .int .i64 (r : Int) ∧ r ≤ n ∧ q = n - r ∧ Hid (Below w13.heap.size w13 v))
            case atStart => exact ⟨0, rfl, Nat.zero_le _, rfl, Lib.hid (Below.refl _ _)⟩
            case round =>
              obtain ⟨r, rfl, hr, rfl, HK⟩ := hrel
              by_cases hlt : r < n
              · have hr' : (r : Int) < (n : Int) := by omega
                have kx : ∀ (b o : Nat) v, w13.cell? ⟨b, o, none⟩ = some v → wr.cell? ⟨b, o, none⟩ = some v := fun b o v h => (HK.out.cell (p := ⟨b, o, none⟩) (cell?_lt h)).trans h
                have d1 := kx _ _ _ (HX.out r hlt).1
                have d2 := kx _ _ _ (HY.out r hlt).1
                have d3 := kx _ _ _ ((HX.out r hlt).2 i hin)
                have d4 := kx _ _ _ ((HX.out r hlt).2 k hkn)
                have d5 := kx _ _ _ ((HY.out r hlt).2 i hin)
                have d6 := kx _ _ _ ((HY.out r hlt).2 k hkn)
                rw [(HXY.out r hlt).1] at d3
                rw [(HXY.out r hlt).2] at d4
                clear kx
                generalize Y r k = y1 at d3 d6
                generalize Y r i = y2 at d4 d5
                have t3 : ((y1 : Int) != (y1 : Int)) = false := by rw [bne_eq_false_iff_eq]
                have t4 : ((y2 : Int) != (y2 : Int)) = false := by rw [bne_eq_false_iff_eq]
                go_wp2_with fail
                go_big_quiet (fail)
                go_wp2_with fail
                go_roundg (n - (r + 1))
                case measure => omega
                case rel => exact ⟨r + 1, by go_num, by omega, rfl, Lib.hid (HK.out.trans ((below_drewN _ _).mono HK.out.size))⟩
              · have hge : ¬ (r : Int) < (n : Int) := by omega
                go_wp2_with fail
                go_ret
                exact ⟨rfl, K13.out.below.trans (HK.out.mono K13.out.below.size)⟩
      · exfalso
        have h := HM9.out.1.none hkn (fun j hj => by unfold setr; rw [if_pos rfl])
        exact absurd h (by decide)
    · exfalso
      have h := HM6.out.1.alike BS.out hin hkn HIK.out (fun j hj => by unfold setr; rw [if_neg HIK.out, if_pos rfl])
      exact absurd h (by decide)
end Go.Proofs.Ytmnfgbfajhinlaa
