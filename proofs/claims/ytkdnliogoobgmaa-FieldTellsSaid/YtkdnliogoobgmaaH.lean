import Derived.Test.YtkdnliogoobgmaaG
namespace Go.Proofs.Ytkdnliogoobgmaa
open Go.RowKit Go.Sort
set_option maxRecDepth 100000
set_option maxHeartbeats 1000000

theorem rmul16 (a b : Nat) (w : World) (ha : a < 256) (hb : b < 256) : Calls Try.prog 16 #[.int .u8 (a : Int), .int .u8 (b : Int)] w
    fun e w' => e = .returned (.int .u8 (mul a b : Nat)) ∧ w' = w := by
  have := mul16 a b w ha hb
  rw [acc_mul ha hb] at this
  exact this

/-- The reference's inverse: by trying. -/
theorem rinv15 (a : Nat) (w : World) (ha : a < 256) : Calls Try.prog 15 #[.int .u8 (a : Int)] w
    fun e w' => e = .returned (.tuple #[.int .u8 (if a = 0 then 0 else inv a : Nat), .bool (decide (a ≠ 0))]) ∧ w' = w := by
  have HA := Lib.hid ha
  clear ha
  obtain ⟨r, hr⟩ : ∃ r, r = (if a = 0 then 0 else inv a) := ⟨_, rfl⟩
  obtain ⟨t, ht⟩ : ∃ t, t = decide (a ≠ 0) := ⟨_, rfl⟩
  rw [← hr, ← ht]
  have HR := Lib.hid hr
  have HT := Lib.hid ht
  clear hr ht
  go_enter Try.func15, Try.ntmps15
  go_wp2_with fail
  go_loopg [4] 255 (fun q s4 v => ∃ k : Nat, s4 = .int .i64 (k : Int) ∧ 1 ≤ k ∧ k ≤ 256 ∧ q = 256 - k ∧ v = w ∧ Hid (∀ j, 1 ≤ j → j < k → mul a j ≠ 1))
  case atStart => exact ⟨1, rfl, by omega, by omega, rfl, rfl, Lib.hid (fun j h1 h2 => by omega)⟩
  case round =>
    obtain ⟨k, rfl, hk1, hk, rfl, rfl, HJ⟩ := hrel
    by_cases hlt : k < 256
    · have hl : (k : Int) < 256 := by omega
      go_wp2_with fail
      refine (rmul16 a k _ HA.out hlt).mono ?_
      rintro e wz ⟨rfl, rfl⟩
      by_cases h1 : mul a k = 1
      · have HK : Hid (r = k ∧ t = true) := Lib.hid (by
          have a0 : a ≠ 0 := by rintro rfl; rw [zero_mul] at h1; exact absurd h1 (by decide)
          refine ⟨?_, by rw [HT.out]; exact decide_eq_true a0⟩
          rw [HR.out, if_neg a0]
          exact (inv_unique HA.out hlt h1).symm)
        rw [h1]
        clear h1
        go_wp2_with fail
        go_ret2
        rw [HK.out.1, HK.out.2]
        exact ⟨rfl, rfl⟩
      · have e1 : ((mul a k : Int) == 1) = false := beq_eq_false_iff_ne.2 (by omega)
        have HJ2 : Hid (∀ j, 1 ≤ j → j < k + 1 → mul a j ≠ 1) := Lib.hid (fun j j1 j2 => by
          by_cases e : j = k
          · subst e; exact h1
          · exact HJ.out j j1 (by omega))
        clear h1
        go_wp2_with fail
        go_roundg (256 - (k + 1))
        case measure => omega
        case rel => exact ⟨k + 1, by go_num, by omega, by omega, rfl, rfl, HJ2⟩
    · have hge : ¬ (k : Int) < 256 := by omega
      have HK : Hid (r = 0 ∧ t = false) := Lib.hid (by
        have a0 : a = 0 := by
          refine Classical.byContradiction fun a0 => ?_
          refine HJ.out (inv a) ?_ ?_ (mul_inv HA.out a0)
          · have := inv_pos a; omega
          · have := inv_lt a; omega
        rw [HR.out, HT.out, if_pos a0, a0]
        exact ⟨rfl, rfl⟩)
      go_wp2_with fail
      go_ret2
      rw [HK.out.1, HK.out.2]
      exact ⟨rfl, rfl⟩

theorem rexp19 (n : Int) (w : World) : Calls Try.prog 19 #[.int .i64 n] w
    fun e w' => e = .returned (.int .u8 (pw (n % 255).toNat : Nat)) ∧ w' = w := by
  have hr : (n.tmod 255 = n % 255 ∧ 0 ≤ n.tmod 255) ∨ (n.tmod 255 < 0 ∧ n.tmod 255 + 255 = n % 255) := by
    rw [Int.tmod_eq_emod]
    split
    · left; omega
    · right
      rename_i hc
      have : ¬ (n % 255 = 0) := fun e => hc (Or.inr (Int.dvd_of_emod_eq_zero e))
      omega
  obtain ⟨m, hm, em⟩ : ∃ m : Nat, m < 255 ∧ n % 255 = m := ⟨(n % 255).toNat, by omega, by omega⟩
  have et : (n % 255).toNat = m := by omega
  rw [et]
  rw [em] at hr
  clear em et
  rcases hr with ⟨hr, hr0⟩ | ⟨hr0, hr⟩
  · have hs : ¬ n.tmod 255 < 0 := by omega
    clear hr0
    go_enter Try.func19, Try.ntmps19
    go_wp2_with fail
    go_loopg [3, 4] m (fun q s3 s4 v => ∃ i : Nat, s3 = .int .u8 (pw i : Nat) ∧ s4 = .int .i64 (i : Int) ∧ i ≤ m ∧ q = m - i ∧ v = w)
    case atStart => exact ⟨0, by rw [pw_zero]; rfl, rfl, by omega, rfl, rfl⟩
    case round =>
      obtain ⟨i, rfl, rfl, hi, rfl, rfl⟩ := hrel
      have HP := Lib.hid (pw_lt i)
      have HN := Lib.hid (show mul (pw i) 2 = pw (i + 1) by rw [mul_two (pw_lt i), pw_succ])
      by_cases hlt : i < m
      · have hl : (i : Int) < (m : Int) := by omega
        go_wp2_with fail
        refine (rmul16 (pw i) 2 _ HP.out (by omega)).mono ?_
        rintro e wz ⟨rfl, rfl⟩
        rw [HN.out]
        go_wp2_with fail
        go_roundg (m - (i + 1))
        case measure => omega
        case rel => exact ⟨i + 1, rfl, by go_num, by omega, rfl, rfl⟩
      · have hge : ¬ (i : Int) < (m : Int) := by omega
        have e : i = m := by omega
        subst e
        go_wp2_with fail
        go_ret
        exact ⟨rfl, rfl⟩
  · have hl : -255 ≤ n.tmod 255 := by omega
    go_enter Try.func19, Try.ntmps19
    go_wp2_with fail
    go_loopg [3, 4] m (fun q s3 s4 v => ∃ i : Nat, s3 = .int .u8 (pw i : Nat) ∧ s4 = .int .i64 (i : Int) ∧ i ≤ m ∧ q = m - i ∧ v = w)
    case atStart => exact ⟨0, by rw [pw_zero]; rfl, rfl, by omega, rfl, rfl⟩
    case round =>
      obtain ⟨i, rfl, rfl, hi, rfl, rfl⟩ := hrel
      have HP := Lib.hid (pw_lt i)
      have HN := Lib.hid (show mul (pw i) 2 = pw (i + 1) by rw [mul_two (pw_lt i), pw_succ])
      by_cases hlt : i < m
      · have hl : (i : Int) < (m : Int) := by omega
        go_wp2_with fail
        refine (rmul16 (pw i) 2 _ HP.out (by omega)).mono ?_
        rintro e wz ⟨rfl, rfl⟩
        rw [HN.out]
        go_wp2_with fail
        go_roundg (m - (i + 1))
        case measure => omega
        case rel => exact ⟨i + 1, rfl, by go_num, by omega, rfl, rfl⟩
      · have hge : ¬ (i : Int) < (m : Int) := by omega
        have e : i = m := by omega
        subst e
        go_wp2_with fail
        go_ret
        exact ⟨rfl, rfl⟩

theorem rlog17 (a : Nat) (w : World) (ha : a < 256) : Calls Try.prog 17 #[.int .u8 (a : Int)] w
    fun e w' => e = .returned (.tuple #[.int .i64 (if a = 0 then 0 else lg a : Nat), .bool (decide (a ≠ 0))]) ∧ w' = w := by
  have HA := Lib.hid ha
  clear ha
  obtain ⟨r, hr⟩ : ∃ r, r = (if a = 0 then 0 else lg a) := ⟨_, rfl⟩
  obtain ⟨t, ht⟩ : ∃ t, t = decide (a ≠ 0) := ⟨_, rfl⟩
  rw [← hr, ← ht]
  have HR := Lib.hid hr
  have HT := Lib.hid ht
  clear hr ht
  go_enter Try.func17, Try.ntmps17
  go_wp2_with fail
  go_loopg [4, 5] 255 (fun q s4 s5 v => ∃ k : Nat, s4 = .int .u8 (pw k : Nat) ∧ s5 = .int .i64 (k : Int) ∧ k ≤ 255 ∧ q = 255 - k ∧ v = w ∧ Hid (∀ j, j < k → pw j ≠ a))
  case atStart => exact ⟨0, by rw [pw_zero]; rfl, rfl, by omega, rfl, rfl, Lib.hid (fun j h1 => by omega)⟩
  case round =>
    obtain ⟨k, rfl, rfl, hk, rfl, rfl, HJ⟩ := hrel
    have HP := Lib.hid (pw_lt k)
    have HN := Lib.hid (show mul (pw k) 2 = pw (k + 1) by rw [mul_two (pw_lt k), pw_succ])
    by_cases hlt : k < 255
    · have hl : (k : Int) < 255 := by omega
      by_cases h1 : pw k = a
      · have HK : Hid (r = k ∧ t = true) := Lib.hid (by
          have a0 : a ≠ 0 := fun e => pw_pos k (h1.trans e)
          refine ⟨?_, by rw [HT.out]; exact decide_eq_true a0⟩
          rw [HR.out, if_neg a0, ← h1, lg_pw hlt])
        rw [h1]
        clear h1
        go_wp2_with fail
        go_ret2
        rw [HK.out.1, HK.out.2]
        exact ⟨rfl, rfl⟩
      · have e1 : ((pw k : Int) == (a : Int)) = false := beq_eq_false_iff_ne.2 (by omega)
        have HJ2 : Hid (∀ j, j < k + 1 → pw j ≠ a) := Lib.hid (fun j j2 => by
          by_cases e : j = k
          · subst e; exact h1
          · exact HJ.out j (by omega))
        clear h1
        go_wp2_with fail
        refine (rmul16 (pw k) 2 _ HP.out (by omega)).mono ?_
        rintro e wz ⟨rfl, rfl⟩
        rw [HN.out]
        go_wp2_with fail
        go_roundg (255 - (k + 1))
        case measure => omega
        case rel => exact ⟨k + 1, rfl, by go_num, by omega, rfl, rfl, HJ2⟩
    · have hge : ¬ (k : Int) < 255 := by omega
      have HK : Hid (r = 0 ∧ t = false) := Lib.hid (by
        have a0 : a = 0 := by
          refine Classical.byContradiction fun a0 => ?_
          have := lg_ok HA.out a0
          exact HJ.out (lg a) (by omega) this.1
        rw [HR.out, HT.out, if_pos a0, a0]
        exact ⟨rfl, rfl⟩)
      go_wp2_with fail
      go_ret2
      rw [HK.out.1, HK.out.2]
      exact ⟨rfl, rfl⟩

end Go.Proofs.Ytkdnliogoobgmaa
