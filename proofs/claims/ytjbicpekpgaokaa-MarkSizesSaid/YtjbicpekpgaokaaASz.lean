import Derived.Test.YtjbicpekpgaokaaA9
import Derived.Test.YtjbicpekpgaokaaA1b
namespace Go.Proofs.Ytjbicpekpgaokaa
open Go.RowKit Go.Sort
set_option maxRecDepth 100000
set_option maxHeartbeats 1000000

theorem sealF_zero {kind n : Nat} (B : Nat → Nat) {m : Nat} (hm : 3 + n ≤ m) (h : m < 156) : sealF kind n B m = 0 := by
  rw [sealF_head h]
  unfold headF
  rw [if_neg (by omega), if_neg (by omega), if_neg (by omega), if_neg (by omega)]
theorem markSizes (x0 x1 x2 : Int) (w : World) : Calls Try.prog 7 #[.int .i64 x0, .int .i64 x1, .int .i64 x2] w fun e w' => e = .returned (.bool true) ∧ Below w.heap.size w w' := by
  obtain ⟨p0, lp0, hp0⟩ := rpickN x0 255 (by omega) (by omega)
  obtain ⟨n, ln, hp1⟩ := rpickN x1 173 (by omega) (by omega)
  have P0 := Lib.hid hp0
  have P1 := Lib.hid hp1
  have e0 : (1 : Int) + (p0 : Int) = ((1 + p0 : Nat) : Int) := by omega
  obtain ⟨kd, hkd⟩ : ∃ kd, 1 + p0 = kd := ⟨_, rfl⟩
  rw [hkd] at e0
  have k0 : 1 ≤ kd ∧ kd < 256 := by omega
  clear hkd lp0 hp0 hp1
  go_enter Try.func7, Try.ntmps7
  go_wp2_with fail
  refine (P0.out w).mono ?_
  rintro e w' ⟨rfl, hw⟩
  obtain rfl := hw.symm
  go_wp2_with fail
  refine (P1.out w).mono ?_
  rintro e w' ⟨rfl, hw⟩
  obtain rfl := hw.symm
  clear e0
  go_wp2_with fail
  refine (rbytes x2 n w (by omega)).mono ?_
  rintro e w1 ⟨g, B, rfl, hB, hBl, hb1, _⟩
  try dsimp only
  have W1 := Lib.hid hb1
  have K1 := Lib.hid hB
  have BL := Lib.hid hBl
  clear hb1 hB hBl
  by_cases hn : n ≤ 153
  · have S1 := Lib.hid (mseal kd n n (some ⟨g, 0, none⟩) B w1 k0.1 k0.2 hn K1.out.rd (fun j _ => BL.out j))
    have hn' : (n : Int) ≤ 153 := by omega
    go_wp2_with fail
    refine S1.out.mono ?_
    rintro e w2 ⟨gb, rfl, kb, hb2, _⟩
    try dsimp only
    have W2 : Hid (Below w.heap.size w w2) := Lib.hid (W1.out.trans (hb2.mono W1.out.size))
    have K2 := Lib.hid (K1.out.below hb2)
    have KB2 := Lib.hid kb
    clear kb hb2 K1 W1 S1
    go_wp2_with fail
    refine (lknown w2).mono ?_
    rintro e w3 ⟨rfl, hb3⟩
    have W3 : Hid (Below w.heap.size w w3) := Lib.hid (W2.out.trans (hb3.mono W2.out.size))
    have K3 := Lib.hid (K2.out.below hb3)
    have KB3 := Lib.hid (KB2.out.below hb3)
    clear hb3 K2 KB2 W2
    obtain ⟨f1, hf1⟩ : ∃ f1, sealF kd n B 1 = f1 := ⟨_, rfl⟩
    obtain ⟨f2, hf2⟩ : ∃ f2, sealF kd n B 2 = f2 := ⟨_, rfl⟩
    have e12 := sealF_12 (kind := kd) B (show n < 65536 by omega)
    have b0 := KB3.out.row8.cell 0 (by omega)
    have b1 := KB3.out.row8.cell 1 (by omega)
    have b2 := KB3.out.row8.cell 2 (by omega)
    have l1 : f1 < 256 := by rw [← hf1]; exact sealF_lt k0.2 (fun j _ => BL.out j) 1
    have l2 : f2 < 256 := by rw [← hf2]; exact sealF_lt k0.2 (fun j _ => BL.out j) 2
    rw [sealF_0] at b0
    rw [hf1] at b1
    rw [hf2] at b2
    rw [hf1, hf2] at e12
    have t1 : ((f1 : Int) * 256 + (f2 : Int) != (n : Int)) = false := by rw [bne_eq_false_iff_eq]; omega
    have v1 : ∀ d, Sem.run Try.prog (convert 22 9 (.slice (some ⟨gb, 3, none⟩) n 157)) (w3.drewN d) = .ok (.string (strOf ((List.range n).map B))) (w3.drewN d) := fun d => conv_rd (w := w3.drewN d) (((KB3.out.rd.cut (k := 3) (m := n) (by omega)).congr (fun j hj => sealF_body hn hj)).drewN d)
    have v2 : ∀ d, Sem.run Try.prog (convert 22 9 (.slice (some ⟨g, 0, none⟩) n n)) (w3.drewN d) = .ok (.string (strOf ((List.range n).map B))) (w3.drewN d) := fun d => conv_rd (w := w3.drewN d) (K3.out.rd.drewN d)
    generalize strOf ((List.range n).map B) = s1 at *
    have m0 : (0 : Int) ≤ (n : Int) := by omega
    have m1 : IntKind.i64.wrap (3 + (n : Int)) = 3 + (n : Int) := IntWalk.i64_in _ (by omega)
    have m2 : (3 + (n : Int)).toNat = 3 + n := by omega
    have m3 : (0 : Int) ≤ 3 + (n : Int) := by omega
    have m4 : (3 : Int) ≤ 3 + (n : Int) := by omega
    have m5 : 3 + (n : Int) ≤ 160 := by omega
    clear hf1 hf2 e12
    go_wp2_with fail
    go_big_quiet (fail)
    obtain ⟨w4, hw4⟩ : ∃ w4, w3.drewN nq = w4 := ⟨_, rfl⟩
    have W4 : Hid (Below w.heap.size w w4) := Lib.hid (by rw [← hw4]; exact W3.out.trans ((below_drewN nq w3).mono W3.out.size))
    have K4 : Hid (Blk8 w4 gb 160 (sealF kd n B)) := Lib.hid (by rw [← hw4]; exact KB3.out.drewN nq)
    rw [hw4]
    clear hw4 v1 v2 b0 b1 b2 t1 K3 KB3 W3
    have m6 : (3 + (n : Int)) ≤ 156 := by omega
    have m7 : ((156 : Int) - (3 + (n : Int))).toNat = 153 - n := by omega
    have m8 : ¬ 160 = 3 + n := by omega
    have M9 : Hid ((sumF (sealF kd n B) 156 : Nat) = num4 (sealF kd n B) 156) := Lib.hid (sealF_num kd n B).symm
    clear m1
    go_wp2_with fail
    go_loopg [11, 84] (153 - n) (fun q s11 s84 v => ∃ k : Nat, s84 = .int .i64 (k : Int) ∧ k ≤ 153 - n ∧ q = 153 - n - k ∧ w4 = v)
    case atStart => exact ⟨0, rfl, by omega, rfl, rfl⟩
    case round =>
      obtain ⟨k, rfl, hk, rfl, rfl⟩ := hrel
      by_cases hlt : k < 153 - n
      · have hl : (k : Int) < ((153 - n : Nat) : Int) := by omega
        have hl2 : (k : Int) < 153 - (n : Int) := by omega
        have c1 := K4.out.row8.cell (3 + n + k) (by omega)
        rw [sealF_zero B (show 3 + n ≤ 3 + n + k by omega) (by omega)] at c1
        clear m7
        go_wp2_with fail
        go_roundg (153 - n - (k + 1))
        case measure => omega
        case rel => exact ⟨k + 1, by go_num, by omega, rfl, rfl⟩
      · obtain rfl : k = 153 - n := by omega
        have hge : ¬ 153 - n < 156 - (3 + n) := by omega
        clear m2 m3 m4 m5 m6 m7 m8
        obtain ⟨z0, hz0⟩ : ∃ z, sealF kd n B 156 = z := ⟨_, rfl⟩
        obtain ⟨z1, hz1⟩ : ∃ z, sealF kd n B 157 = z := ⟨_, rfl⟩
        obtain ⟨z2, hz2⟩ : ∃ z, sealF kd n B 158 = z := ⟨_, rfl⟩
        obtain ⟨z3, hz3⟩ : ∃ z, sealF kd n B 159 = z := ⟨_, rfl⟩
        have q0 := K4.out.row8.cell 156 (by omega)
        have q1 := K4.out.row8.cell 157 (by omega)
        have q2 := K4.out.row8.cell 158 (by omega)
        have q3 := K4.out.row8.cell 159 (by omega)
        have l0 : z0 < 256 := by rw [← hz0]; exact sealF_lt k0.2 (fun j _ => BL.out j) 156
        have l3 : z1 < 256 := by rw [← hz1]; exact sealF_lt k0.2 (fun j _ => BL.out j) 157
        have l4 : z2 < 256 := by rw [← hz2]; exact sealF_lt k0.2 (fun j _ => BL.out j) 158
        have l5 : z3 < 256 := by rw [← hz3]; exact sealF_lt k0.2 (fun j _ => BL.out j) 159
        rw [hz0] at q0
        rw [hz1] at q1
        rw [hz2] at q2
        rw [hz3] at q3
        have S2 := Lib.hid (msum (some ⟨gb, 0, none⟩) 156 160 (sealF kd n B) w4.drew (K4.out.drew.rd.less (by omega)) (fun j _ => sealF_lt k0.2 (fun j _ => BL.out j) j) (by omega))
        have t2 : (((z0 : Int) * 16777216 + (z1 : Int) * 65536 + (z2 : Int) * 256 + (z3 : Int)) == ((sumF (sealF kd n B) 156 : Nat) : Int)) = true := by
          rw [beq_iff_eq, M9.out]
          unfold num4
          simp only [Nat.reduceAdd, hz0, hz1, hz2, hz3]
          omega
        clear hz0 hz1 hz2 hz3
        have T2 := Lib.hid (beq_iff_eq.1 t2)
        generalize sumF (sealF kd n B) 156 = sm at *
        go_wp2_with fail
        refine wp_region_still_tail 25 (by kernel_rfl) (by kernel_rfl) ?_
        simp only [List.take_succ_cons, List.take_zero, List.drop_succ_cons, List.drop_zero]
        repeat still_step
        still_call S2.out
        repeat still_step
        refine wpStill_nil ?_
        change wpList _ _ _ _ _ w4.drew
        go_wp2_with fail
        go_ret
        exact ⟨by first | rfl | (simp; exact T2.out), W4.out.drew⟩
  · have S1 := Lib.hid (mseal_no (kd : Int) n n (some ⟨g, 0, none⟩) w1 (by omega) (by omega))
    have hn' : (153 : Int) < (n : Int) := by omega
    go_wp2_with fail
    refine S1.out.mono ?_
    rintro e w2 ⟨rfl, hw⟩
    obtain rfl := hw.symm
    go_wp2_with fail
    refine (lknown w1).mono ?_
    rintro e w3 ⟨rfl, hb3⟩
    have W3 : Hid (Below w.heap.size w w3) := Lib.hid (W1.out.trans (hb3.mono W1.out.size))
    clear hb3
    go_wp2_with fail
    go_ret
    exact ⟨rfl, W3.out⟩
end Go.Proofs.Ytjbicpekpgaokaa
