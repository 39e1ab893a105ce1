import Derived.Test.YtajpnbmfeapmcaaM5
namespace Go.Proofs.Ytajpnbmfeapmcaa
open Go.RowKit Go.Sort
set_option maxRecDepth 100000
set_option maxHeartbeats 1000000

/-- The sum of the shifts of a at b's first k bits. -/
def acc (a b : Nat) : Nat → Nat
  | 0 => 0
  | k + 1 => if b / 2 ^ k % 2 = 1 then acc a b k ^^^ dbls k a else acc a b k
theorem acc_zero (a b : Nat) : acc a b 0 = 0 := rfl
theorem acc_succ (a b k : Nat) : acc a b (k + 1) = if b / 2 ^ k % 2 = 1 then acc a b k ^^^ dbls k a else acc a b k := rfl
theorem acc_lt {a : Nat} (b k : Nat) (ha : a < 256) : acc a b k < 256 := by
  induction k with
  | zero => rw [acc_zero]; decide
  | succ k ih =>
    rw [acc_succ]
    split
    · exact xor_lt ih (dbls_lt k ha)
    · exact ih
attribute [irreducible] acc

theorem and_one (n : Nat) (h : n < 256) : bits .and .u8 (n : Int) 1 = ((n % 2 : Nat) : Int) := by
  have h3 := bits_mask .u8 8 (by decide) wraps_u8 1 (by decide) (n : Int) (by omega) (by omega)
  have h4 : ((2 : Int) ^ 1 - 1) = 1 := by decide
  rw [h4] at h3
  rw [h3]
  omega
theorem xor_pow {k r : Nat} (hk : k < 8) (hr : r < 2 ^ k) : r ^^^ 2 ^ k = r + 2 ^ k := by
  have h : all 8 (fun k => all (2 ^ k) fun r => Nat.beq (r ^^^ 2 ^ k) (r + 2 ^ k)) = true := by kernel_rfl
  exact Nat.eq_of_beq_eq_true (all_of (all_of h k hk) r hr)

theorem rmulacc (a b : Nat) (w : World) (ha : a < 256) (hb : b < 256) : Calls Try.prog 36 #[.int .u8 (a : Int), .int .u8 (b : Int)] w
    fun e w' => e = .returned (.int .u8 (acc a b 8 : Nat)) ∧ w' = w := by
  have HA := Lib.hid ha
  have HB := Lib.hid hb
  have ia : (a : Int) < 256 := by omega
  clear ha hb
  go_enter Try.func36, Try.ntmps36
  go_wp2_with fail
  clear ia
  go_loopg [5, 6, 7] 8 (fun q s5 s6 s7 v => ∃ k : Nat, s5 = .int .i64 (dbls k a : Nat) ∧ s6 = .int .i64 (acc a b k : Nat) ∧ s7 = .int .i64 (k : Int) ∧ k ≤ 8 ∧ q = 8 - k ∧ v = w)
  case atStart => exact ⟨0, by rw [dbls_base], by rw [acc_zero]; rfl, rfl, by omega, rfl, rfl⟩
  case round =>
    obtain ⟨k, rfl, rfl, rfl, hk, rfl, rfl⟩ := hrel
    by_cases hlt : k < 8
    · have hl : (k : Int) < 8 := by omega
      have HX := Lib.hid (dbls_lt k HA.out)
      have HY := Lib.hid (acc_lt b k HA.out)
      have HS := Lib.hid (acc_succ a b k)
      have HD := Lib.hid (dbls_succ k a)
      generalize dbls k a = x at *
      generalize acc a b k = y at *
      have hx := HX.out
      have hxi : (x : Int) < 256 := by omega
      have HXY := Lib.hid (bits_xor_i64 y x (by have := HY.out; omega) (by omega))
      have hd := dbl_eq x
      have hb2 : bits .and .u8 ((b : Int) / 2 ^ k) 1 = ((b / 2 ^ k % 2 : Nat) : Int) := by
        have h1 : b / 2 ^ k < 256 := Nat.lt_of_le_of_lt (Nat.div_le_self _ _) HB.out
        have h2 : ((b : Int) / 2 ^ k) = ((b / 2 ^ k : Nat) : Int) := by push_cast; rfl
        rw [h2, and_one _ h1]
      have hx2 := bits_xor_i64 (2 * x) 285 (by omega) (by decide)
      have e2 : ((2 * x : Nat) : Int) = (x : Int) * 2 := by omega
      have e3 : ((285 : Nat) : Int) = 285 := rfl
      rw [e2, e3] at hx2
      clear e2 e3
      by_cases hbit : b / 2 ^ k % 2 = 1
      · have eb : (bits .and .u8 ((b : Int) / 2 ^ k) 1 == 1) = true := by rw [hb2, hbit]; rfl
        have hs : acc a b (k + 1) = y ^^^ x := by rw [HS.out, if_pos hbit]
        clear hb2 hbit
        by_cases hbig : 256 ≤ 2 * x
        · have hbi : (255 : Int) < (x : Int) * 2 := by omega
          have hD : dbls (k + 1) a = 2 * x ^^^ 285 := by rw [HD.out, hd, if_pos hbig]
          have hxy := HXY.out
          have Hs := Lib.hid hs
          have HDD := Lib.hid hD
          clear hs hD hd hbig
          generalize 2 * x ^^^ 285 = z at *
          generalize y ^^^ x = u at *
          go_wp2_with fail
          go_roundg (8 - (k + 1))
          case measure => omega
          case rel => exact ⟨k + 1, by rw [HDD.out], by rw [Hs.out], by go_num, by omega, rfl, rfl⟩
        · have hbi : ¬ (255 : Int) < (x : Int) * 2 := by omega
          have hD : dbls (k + 1) a = 2 * x := by rw [HD.out, hd, if_neg hbig]
          have hxy := HXY.out
          have Hs := Lib.hid hs
          have HDD := Lib.hid hD
          clear hs hD hd hbig hx2
          generalize y ^^^ x = u at *
          go_wp2_with fail
          go_roundg (8 - (k + 1))
          case measure => omega
          case rel => exact ⟨k + 1, by rw [HDD.out]; congr 1; omega, by rw [Hs.out], by go_num, by omega, rfl, rfl⟩
      · have eb : (bits .and .u8 ((b : Int) / 2 ^ k) 1 == 1) = false := by rw [hb2]; exact beq_eq_false_iff_ne.2 (by omega)
        have hs : acc a b (k + 1) = y := by rw [HS.out, if_neg hbit]
        clear hb2 hbit
        by_cases hbig : 256 ≤ 2 * x
        · have hbi : (255 : Int) < (x : Int) * 2 := by omega
          have hD : dbls (k + 1) a = 2 * x ^^^ 285 := by rw [HD.out, hd, if_pos hbig]
          have Hs := Lib.hid hs
          have HDD := Lib.hid hD
          clear hs hD hd hbig
          generalize 2 * x ^^^ 285 = z at *
          go_wp2_with fail
          go_roundg (8 - (k + 1))
          case measure => omega
          case rel => exact ⟨k + 1, by rw [HDD.out], by rw [Hs.out], by go_num, by omega, rfl, rfl⟩
        · have hbi : ¬ (255 : Int) < (x : Int) * 2 := by omega
          have hD : dbls (k + 1) a = 2 * x := by rw [HD.out, hd, if_neg hbig]
          have Hs := Lib.hid hs
          have HDD := Lib.hid hD
          clear hs hD hd hbig hx2
          go_wp2_with fail
          go_roundg (8 - (k + 1))
          case measure => omega
          case rel => exact ⟨k + 1, by rw [HDD.out]; congr 1; omega, by rw [Hs.out], by go_num, by omega, rfl, rfl⟩
    · have e : k = 8 := by omega
      subst e
      have HY := acc_lt b 8 HA.out
      have hy : (acc a b 8 : Int) < 256 := by omega
      clear HY
      go_wp2_with fail
      go_ret
      exact ⟨rfl, rfl⟩

/-- The bits of b, as powers: their sum is b, so the sum of the shifts is the product. -/
theorem acc_mul {a b : Nat} (ha : a < 256) (hb : b < 256) : acc a b 8 = mul a b := by
  have key : ∀ k, k ≤ 8 → acc a b k = mul a (b % 2 ^ k) := by
    intro k
    induction k with
    | zero => intro _; rw [acc_zero, Nat.pow_zero, Nat.mod_one, mul_zero]
    | succ k ih =>
      intro hk
      have hlt : b % 2 ^ k < 256 := Nat.lt_of_le_of_lt (Nat.mod_le _ _) hb
      have h2k : (2 : Nat) ^ k < 256 := by
        have : (2 : Nat) ^ k ≤ 2 ^ 7 := Nat.pow_le_pow_right (by decide) (by omega)
        omega
      have hpw : pw k = 2 ^ k := by
        have : k < 8 := by omega
        have h : all 8 (fun k => Nat.beq (pw k) (2 ^ k)) = true := by kernel_rfl
        exact Nat.eq_of_beq_eq_true (all_of h k this)
      rw [acc_succ, ih (by omega), Nat.mod_pow_succ]
      by_cases h : b / 2 ^ k % 2 = 1
      · rw [if_pos h, h, Nat.mul_one]
        have hm : dbls k a = mul a (2 ^ k) := by
          rw [← hpw, mul_comm]
          by_cases a0 : a = 0
          · subst a0; rw [mul_zero, dbls_zero]
          · obtain ⟨j, -, rfl⟩ := as_pw ha a0
            rw [mul_pw, pw_add]
        rw [hm, ← mul_xor ha hlt h2k]
        congr 1
        exact (xor_pow (by omega) (Nat.mod_lt _ (Nat.two_pow_pos k)))
      · have h0 : b / 2 ^ k % 2 = 0 := by omega
        rw [if_neg h, h0, Nat.mul_zero, Nat.add_zero]
  have := key 8 (Nat.le_refl _)
  rw [this, Nat.mod_eq_of_lt hb]
end Go.Proofs.Ytajpnbmfeapmcaa
