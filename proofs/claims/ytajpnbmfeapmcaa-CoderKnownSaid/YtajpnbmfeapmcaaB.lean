import Derived.Test.YtajpnbmfeapmcaaRows
namespace Go.Proofs.Ytajpnbmfeapmcaa

/-- Twice a number, in the field of 256. -/
def dbl (x : Nat) : Nat := bif Nat.ble 256 (2 * x) then (2 * x) ^^^ 285 else 2 * x
/-- The powers of 2. -/
def pw : Nat → Nat
  | 0 => 1
  | n + 1 => dbl (pw n)
/-- What 'dbl' does n times. -/
def dbls : Nat → Nat → Nat
  | 0, x => x
  | n + 1, x => dbl (dbls n x)
/-- The first of the powers from x on that is a: its number. -/
def lgFrom (a : Nat) : Nat → Nat → Nat → Nat
  | 0, _, n => n
  | fuel + 1, x, n => bif Nat.beq x a then n else lgFrom a fuel (dbl x) (n + 1)
def lg (a : Nat) : Nat := lgFrom a 255 1 0

def all (n : Nat) (p : Nat → Bool) : Bool := Nat.rec true (fun k ih => p k && ih) n

theorem all_of {n : Nat} {p : Nat → Bool} (h : all n p = true) : ∀ k, k < n → p k = true := by
  induction n with
  | zero => intro k hk; omega
  | succ n ih =>
    have h' : (p n && all n p) = true := h
    rw [Bool.and_eq_true] at h'
    intro k hk
    rcases Nat.lt_or_eq_of_le (Nat.le_of_lt_succ hk) with hl | rfl
    · exact ih h'.2 k hl
    · exact h'.1

theorem check_dbl : all 256 (fun x => Nat.ble (dbl x) 255) = true := by kernel_rfl
theorem check_lg : all 256 (fun a => Nat.beq a 0 || (Nat.beq (pw (lg a)) a && Nat.ble (lg a) 254)) = true := by kernel_rfl
theorem check_pw : all 255 (fun n => Nat.beq (lg (pw n)) n) = true := by kernel_rfl
theorem pw_255 : pw 255 = 1 := by kernel_rfl

theorem dbl_lt {x : Nat} (h : x < 256) : dbl x < 256 := by
  have := all_of check_dbl x h
  have := Nat.le_of_ble_eq_true this
  omega
theorem pw_lt (n : Nat) : pw n < 256 := by
  induction n with
  | zero => decide
  | succ n ih => exact dbl_lt ih
theorem dbls_lt (n : Nat) {x : Nat} (h : x < 256) : dbls n x < 256 := by
  induction n with
  | zero => exact h
  | succ n ih => exact dbl_lt ih
theorem lg_ok {a : Nat} (h : a < 256) (h0 : a ≠ 0) : pw (lg a) = a ∧ lg a < 255 := by
  have := all_of check_lg a h
  rw [Bool.or_eq_true, Bool.and_eq_true] at this
  rcases this with h1 | ⟨h1, h2⟩
  · exact absurd (Nat.eq_of_beq_eq_true h1) h0
  · exact ⟨Nat.eq_of_beq_eq_true h1, by have := Nat.le_of_ble_eq_true h2; omega⟩
theorem lg_pw {n : Nat} (h : n < 255) : lg (pw n) = n := Nat.eq_of_beq_eq_true (all_of check_pw n h)
theorem pw_inj {n m : Nat} (hn : n < 255) (hm : m < 255) (e : pw n = pw m) : n = m := by rw [← lg_pw hn, ← lg_pw hm, e]
theorem pw_add (n m : Nat) : pw (n + m) = dbls n (pw m) := by
  induction n with
  | zero => rw [Nat.zero_add]; rfl
  | succ n ih => rw [Nat.succ_add]; show dbl (pw (n + m)) = dbl (dbls n (pw m)); rw [ih]
theorem pw_period (n : Nat) : pw (n + 255) = pw n := by rw [pw_add, pw_255]; exact (pw_add n 0).symm
theorem pw_mod (n : Nat) : pw (n % 255) = pw n := by
  have h : ∀ k, pw (n % 255 + 255 * k) = pw (n % 255) := by
    intro k
    induction k with
    | zero => rfl
    | succ k ih => rw [Nat.mul_succ, ← Nat.add_assoc, pw_period, ih]
  have := h (n / 255)
  rw [Nat.mod_add_div] at this
  exact this.symm
theorem dbl_zero : dbl 0 = 0 := rfl
theorem dbls_zero (n : Nat) : dbls n 0 = 0 := by
  induction n with
  | zero => rfl
  | succ n ih => show dbl (dbls n 0) = 0; rw [ih]; rfl
theorem dbl_eq (x : Nat) : dbl x = if 256 ≤ 2 * x then (2 * x) ^^^ 285 else 2 * x := by
  unfold dbl
  by_cases h : 256 ≤ 2 * x
  · rw [if_pos h, Nat.ble_eq_true_of_le h]; rfl
  · rw [if_neg h]
    cases e : Nat.ble 256 (2 * x)
    · rfl
    · exact absurd (Nat.le_of_ble_eq_true e) h
theorem pw_pos (n : Nat) : pw n ≠ 0 := by
  rw [← pw_mod]
  have h : all 255 (fun n => !(Nat.beq (pw n) 0)) = true := by kernel_rfl
  have := all_of h (n % 255) (Nat.mod_lt _ (by decide))
  intro e
  rw [e] at this
  exact absurd this (by decide)

theorem two_xor (x y : Nat) : 2 * (x ^^^ y) = (2 * x) ^^^ (2 * y) := by
  have := Nat.shiftLeft_xor_distrib (a := x) (b := y) (i := 1)
  rw [Nat.shiftLeft_eq, Nat.shiftLeft_eq, Nat.shiftLeft_eq, Nat.mul_comm, Nat.mul_comm x, Nat.mul_comm y] at this
  exact this
theorem big_testBit {x : Nat} (h : x < 512) : (256 ≤ x) ↔ x.testBit 8 = true := by
  rw [Nat.testBit_eq_decide_div_mod_eq]
  simp
  omega
theorem dbl_xor {x y : Nat} (hx : x < 256) (hy : y < 256) : dbl (x ^^^ y) = dbl x ^^^ dbl y := by
  have hxy : x ^^^ y < 256 := Nat.xor_lt_two_pow (n := 8) hx hy
  rw [dbl_eq, dbl_eq, dbl_eq, two_xor]
  have e : (256 ≤ (2 * x) ^^^ (2 * y)) ↔ ((2 * x).testBit 8 ^^ (2 * y).testBit 8) = true := by
    rw [big_testBit (by rw [← two_xor]; omega), Nat.testBit_xor]
  have e1 := big_testBit (x := 2 * x) (by omega)
  have e2 := big_testBit (x := 2 * y) (by omega)
  by_cases h1 : 256 ≤ 2 * x <;> by_cases h2 : 256 ≤ 2 * y
  · rw [if_neg (by rw [e, e1.1 h1, e2.1 h2]; decide), if_pos h1, if_pos h2]
    apply Nat.eq_of_testBit_eq
    intro i
    simp only [Nat.testBit_xor]
    cases (2 * x).testBit i <;> cases (2 * y).testBit i <;> cases Nat.testBit 285 i <;> rfl
  · have n2 : (2 * y).testBit 8 = false := by cases h : (2 * y).testBit 8; rfl; exact absurd (e2.2 h) h2
    rw [if_pos (by rw [e, e1.1 h1, n2]; decide), if_pos h1, if_neg h2]
    apply Nat.eq_of_testBit_eq
    intro i
    simp only [Nat.testBit_xor]
    cases (2 * x).testBit i <;> cases (2 * y).testBit i <;> cases Nat.testBit 285 i <;> rfl
  · have n1 : (2 * x).testBit 8 = false := by cases h : (2 * x).testBit 8; rfl; exact absurd (e1.2 h) h1
    rw [if_pos (by rw [e, n1, e2.1 h2]; decide), if_neg h1, if_pos h2]
    apply Nat.eq_of_testBit_eq
    intro i
    simp only [Nat.testBit_xor]
    cases (2 * x).testBit i <;> cases (2 * y).testBit i <;> cases Nat.testBit 285 i <;> rfl
  · have n1 : (2 * x).testBit 8 = false := by cases h : (2 * x).testBit 8; rfl; exact absurd (e1.2 h) h1
    have n2 : (2 * y).testBit 8 = false := by cases h : (2 * y).testBit 8; rfl; exact absurd (e2.2 h) h2
    rw [if_neg (by rw [e, n1, n2]; decide), if_neg h1, if_neg h2]
theorem xor_lt {x y : Nat} (hx : x < 256) (hy : y < 256) : x ^^^ y < 256 := Nat.xor_lt_two_pow (n := 8) hx hy
theorem dbls_xor (n : Nat) {x y : Nat} (hx : x < 256) (hy : y < 256) : dbls n (x ^^^ y) = dbls n x ^^^ dbls n y := by
  induction n with
  | zero => rfl
  | succ n ih => show dbl _ = dbl _ ^^^ dbl _; rw [ih, dbl_xor (dbls_lt n hx) (dbls_lt n hy)]

/-- The product. -/
def mul (a b : Nat) : Nat := if a = 0 ∨ b = 0 then 0 else pw ((lg a + lg b) % 255)
def inv (a : Nat) : Nat := pw ((255 - lg a) % 255)

theorem mul_lt (a b : Nat) : mul a b < 256 := by
  unfold mul
  split
  · decide
  · exact pw_lt _
theorem mul_comm (a b : Nat) : mul a b = mul b a := by unfold mul; simp only [Or.comm (a := a = 0), Nat.add_comm (lg a)]
theorem zero_mul (a : Nat) : mul 0 a = 0 := by unfold mul; rw [if_pos (Or.inl rfl)]
theorem mul_zero (a : Nat) : mul a 0 = 0 := by unfold mul; rw [if_pos (Or.inr rfl)]
theorem mul_dbls {a b : Nat} (_ha : a < 256) (hb : b < 256) (h0 : a ≠ 0) : mul a b = dbls (lg a) b := by
  by_cases hb0 : b = 0
  · subst hb0; rw [mul_zero, dbls_zero]
  · unfold mul
    rw [if_neg (by simp [h0, hb0]), pw_mod, pw_add, (lg_ok hb hb0).1]
theorem mul_pw (n m : Nat) : mul (pw n) (pw m) = pw (n + m) := by
  rw [← pw_mod n, ← pw_mod m]
  unfold mul
  rw [if_neg (by simp [pw_pos]), lg_pw (Nat.mod_lt _ (by decide)), lg_pw (Nat.mod_lt _ (by decide)), ← Nat.add_mod, pw_mod]
theorem as_pw {a : Nat} (h : a < 256) (h0 : a ≠ 0) : ∃ n, n < 255 ∧ a = pw n := ⟨lg a, (lg_ok h h0).2, (lg_ok h h0).1.symm⟩
theorem mul_assoc {a b c : Nat} (ha : a < 256) (hb : b < 256) (hc : c < 256) : mul a (mul b c) = mul (mul a b) c := by
  by_cases a0 : a = 0
  · subst a0; rw [zero_mul, zero_mul, zero_mul]
  by_cases b0 : b = 0
  · subst b0; rw [zero_mul, mul_zero, zero_mul]
  by_cases c0 : c = 0
  · subst c0; rw [mul_zero, mul_zero, mul_zero]
  obtain ⟨i, -, rfl⟩ := as_pw ha a0
  obtain ⟨j, -, rfl⟩ := as_pw hb b0
  obtain ⟨k, -, rfl⟩ := as_pw hc c0
  rw [mul_pw, mul_pw, mul_pw, mul_pw, Nat.add_assoc]
theorem mul_xor {a b c : Nat} (ha : a < 256) (hb : b < 256) (hc : c < 256) : mul a (b ^^^ c) = mul a b ^^^ mul a c := by
  by_cases a0 : a = 0
  · subst a0; rw [zero_mul, zero_mul, zero_mul]; rfl
  rw [mul_dbls ha (xor_lt hb hc) a0, mul_dbls ha hb a0, mul_dbls ha hc a0, dbls_xor _ hb hc]
theorem mul_one {a : Nat} (ha : a < 256) : mul a 1 = a := by
  by_cases a0 : a = 0
  · subst a0; rw [zero_mul]
  obtain ⟨i, -, rfl⟩ := as_pw ha a0
  exact mul_pw i 0
theorem mul_eq_zero {a b : Nat} : mul a b = 0 ↔ a = 0 ∨ b = 0 := by
  unfold mul
  split
  · simp [*]
  · simp only [pw_pos, false_iff]; assumption
theorem inv_lt (a : Nat) : inv a < 256 := pw_lt _
theorem inv_pos (a : Nat) : inv a ≠ 0 := pw_pos _
theorem inv_pw {n : Nat} (h : n < 255) : inv (pw n) = pw (255 - n) := by unfold inv; rw [lg_pw h, pw_mod]
theorem mul_inv {a : Nat} (ha : a < 256) (h0 : a ≠ 0) : mul a (inv a) = 1 := by
  obtain ⟨i, hi, rfl⟩ := as_pw ha h0
  rw [inv_pw hi, mul_pw, show i + (255 - i) = 0 + 255 by omega, pw_period]; rfl
theorem mul_two {a : Nat} (ha : a < 256) : mul a 2 = dbl a := by
  rw [mul_comm, mul_dbls (by decide) ha (by decide), show lg 2 = 1 from by kernel_rfl]; rfl
theorem inv_unique {a b : Nat} (ha : a < 256) (hb : b < 256) (h : mul a b = 1) : b = inv a := by
  have a0 : a ≠ 0 := by rintro rfl; rw [zero_mul] at h; exact absurd h (by decide)
  have : mul (inv a) (mul a b) = mul (inv a) 1 := by rw [h]
  rw [mul_assoc (inv_lt a) ha hb, mul_comm (inv a) a, mul_inv ha a0, mul_one (inv_lt a), mul_comm, mul_one hb] at this
  exact this
theorem inv_inv {a : Nat} (ha : a < 256) (h0 : a ≠ 0) : inv (inv a) = a := (inv_unique (inv_lt a) ha (by rw [mul_comm]; exact mul_inv ha h0)).symm
theorem inv_mul {a b : Nat} (ha : a < 256) (hb : b < 256) (a0 : a ≠ 0) (b0 : b ≠ 0) : inv (mul a b) = mul (inv a) (inv b) := by
  refine (inv_unique (mul_lt a b) (mul_lt _ _) ?_).symm
  rw [mul_comm (inv a), mul_assoc (mul_lt a b) (inv_lt b) (inv_lt a), ← mul_assoc ha hb (inv_lt b), mul_inv hb b0, mul_one ha, mul_inv ha a0]
theorem pw_zero : pw 0 = 1 := rfl
theorem pw_succ (n : Nat) : pw (n + 1) = dbl (pw n) := rfl
theorem mul_def (a b : Nat) : mul a b = if a = 0 ∨ b = 0 then 0 else pw ((lg a + lg b) % 255) := rfl
theorem inv_def (a : Nat) : inv a = pw ((255 - lg a) % 255) := rfl
theorem dbls_succ (n x : Nat) : dbls (n + 1) x = dbl (dbls n x) := rfl
theorem dbls_base (x : Nat) : dbls 0 x = x := rfl
attribute [irreducible] pw lg lgFrom inv mul dbls dbl
end Go.Proofs.Ytajpnbmfeapmcaa
