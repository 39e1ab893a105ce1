import Derived.Test.YtkdnliogoobgmaaD
namespace Go.Proofs.Ytkdnliogoobgmaa
open Go.RowKit Go.Sort
set_option maxRecDepth 100000
set_option maxHeartbeats 8000000

theorem inv10n (f a : Nat) (w : World) (h : Fld w f) (ha : a < 256) (h0 : a ≠ 0) : Calls Try.prog 10 #[.pointer (some ⟨f, 0, none⟩), .int .u8 (a : Int)] w
    fun e w' => e = .returned (.tuple #[.int .u8 (inv a : Nat), .bool true]) ∧ w' = w := by
  have := inv10 f a w h ha
  rw [if_neg h0, show decide (a ≠ 0) = true from decide_eq_true h0] at this
  exact this
theorem log12n (f a : Nat) (w : World) (h : Fld w f) (ha : a < 256) (h0 : a ≠ 0) : Calls Try.prog 12 #[.pointer (some ⟨f, 0, none⟩), .int .u8 (a : Int)] w
    fun e w' => e = .returned (.tuple #[.int .i64 (lg a : Nat), .bool true]) ∧ w' = w := by
  have := log12 f a w h ha
  rw [if_neg h0, show decide (a ≠ 0) = true from decide_eq_true h0] at this
  exact this
theorem div11n (f a b : Nat) (w : World) (h : Fld w f) (ha : a < 256) (hb : b < 256) (h0 : b ≠ 0) : Calls Try.prog 11 #[.pointer (some ⟨f, 0, none⟩), .int .u8 (a : Int), .int .u8 (b : Int)] w
    fun e w' => e = .returned (.tuple #[.int .u8 (mul a (inv b) : Nat), .bool true]) ∧ w' = w := by
  have := div11 f a b w h ha hb
  rw [if_neg h0, show decide (b ≠ 0) = true from decide_eq_true h0] at this
  exact this

theorem fieldInverses7a (b : Nat) (w : World) (_HB0 : Hid (b < 256)) : Calls Try.prog 7 #[.int .u8 0, .int .u8 (b : Int)] w fun e w' => e = .returned (.bool true) ∧ Below w.heap.size w w' := by
  go_enter Try.func7, Try.ntmps7
  go_wp2_with fail
  refine (new8 _).mono ?_
  rintro e w2 ⟨rfl, hf, hb⟩
  have HF := Lib.hid hf
  have HB := Lib.hid hb
  clear hf hb
  go_wp2_with fail
  refine (known9 _).mono ?_
  rintro e w3 ⟨rfl, hb⟩
  have HF := Lib.hid (HF.out.keep hb)
  have HB := Lib.hid (HB.out.trans (hb.mono HB.out.size))
  clear hb
  go_wp2_with fail
  refine (inv10 w.heap.size 0 _ HF.out (by omega)).mono ?_
  rintro e wz ⟨rfl, rfl⟩
  go_wp2_with fail
  go_ret
  exact ⟨rfl, HB.out⟩

theorem fieldInverses7b (a : Nat) (w : World) (h0 : ¬ a = 0) (_HA : Hid (a < 256)) : Calls Try.prog 7 #[.int .u8 (a : Int), .int .u8 0] w fun e w' => e = .returned (.bool true) ∧ Below w.heap.size w w' := by
  go_enter Try.func7, Try.ntmps7
  go_wp2_with fail
  refine (new8 _).mono ?_
  rintro e w2 ⟨rfl, hf, hb⟩
  have HF := Lib.hid hf
  have HB := Lib.hid hb
  clear hf hb
  go_wp2_with fail
  refine (known9 _).mono ?_
  rintro e w3 ⟨rfl, hb⟩
  have HF := Lib.hid (HF.out.keep hb)
  have HB := Lib.hid (HB.out.trans (hb.mono HB.out.size))
  clear hb
  go_wp2_with fail
  refine (inv10 w.heap.size 0 _ HF.out (by omega)).mono ?_
  rintro e wz ⟨rfl, rfl⟩
  go_wp2_with fail
  go_ret
  exact ⟨rfl, HB.out⟩

theorem fieldInverses7n (a b : Nat) (w : World) (h0 : ¬ a = 0) (h1 : ¬ b = 0) (HA : Hid (a < 256)) (HB0 : Hid (b < 256)) : Calls Try.prog 7 #[.int .u8 (a : Int), .int .u8 (b : Int)] w fun e w' => e = .returned (.bool true) ∧ Below w.heap.size w w' := by
  have ea : ((a : Int) == 0) = false := beq_eq_false_iff_ne.2 (by omega)
  have eb : ((b : Int) == 0) = false := beq_eq_false_iff_ne.2 (by omega)
  go_enter Try.func7, Try.ntmps7
  go_wp2_with fail
  refine (new8 _).mono ?_
  rintro e w2 ⟨rfl, hf, hb⟩
  have HF := Lib.hid hf
  have HB := Lib.hid hb
  clear hf hb
  go_wp2_with fail
  refine (known9 _).mono ?_
  rintro e w3 ⟨rfl, hb⟩
  have HF := Lib.hid (HF.out.keep hb)
  have HB := Lib.hid (HB.out.trans (hb.mono HB.out.size))
  clear hb
  have HM : Hid (mul a b ≠ 0) := Lib.hid (fun h => (mul_eq_zero.1 h).elim h0 h1)
  have E1 := Lib.hid (inv_inv HA.out h0)
  have E2 := Lib.hid (inv_mul HA.out HB0.out h0 h1)
  have E3 := Lib.hid (mul_inv HA.out h0)
  go_wp2_with fail
  refine (inv10n w.heap.size a _ HF.out HA.out h0).mono ?_
  rintro e wz ⟨rfl, rfl⟩
  go_wp2_with fail
  refine (inv10n w.heap.size (inv a) _ HF.out (inv_lt a) (inv_pos a)).mono ?_
  rintro e wz ⟨rfl, rfl⟩
  rw [E1.out]
  go_wp2_with fail
  refine (mul14 w.heap.size a b _ HF.out HA.out HB0.out).mono ?_
  rintro e wz ⟨rfl, rfl⟩
  go_wp2_with fail
  refine (inv10n w.heap.size (mul a b) _ HF.out (mul_lt a b) HM.out).mono ?_
  rintro e wz ⟨rfl, rfl⟩
  rw [E2.out]
  go_wp2_with fail
  refine (inv10n w.heap.size b _ HF.out HB0.out h1).mono ?_
  rintro e wz ⟨rfl, rfl⟩
  go_wp2_with fail
  refine (div11n w.heap.size a a _ HF.out HA.out HA.out h0).mono ?_
  rintro e wz ⟨rfl, rfl⟩
  rw [E3.out]
  go_wp2_with fail
  refine (mul14 w.heap.size (inv a) (inv b) _ HF.out (inv_lt a) (inv_lt b)).mono ?_
  rintro e wz ⟨rfl, rfl⟩
  go_wp2_with fail
  refine (mul14 w.heap.size a (inv a) _ HF.out HA.out (inv_lt a)).mono ?_
  rintro e wz ⟨rfl, rfl⟩
  rw [E3.out]
  go_wp2_with fail
  go_ret
  exact ⟨rfl, HB.out⟩

theorem fieldInverses7 (a b : Nat) (w : World) (ha : a < 256) (hb : b < 256) : Calls Try.prog 7 #[.int .u8 (a : Int), .int .u8 (b : Int)] w fun e w' => e = .returned (.bool true) ∧ Below w.heap.size w w' := by
  by_cases h0 : a = 0
  · subst h0; exact fieldInverses7a b w (Lib.hid hb)
  by_cases h1 : b = 0
  · subst h1; exact fieldInverses7b a w h0 (Lib.hid ha)
  exact fieldInverses7n a b w h0 h1 (Lib.hid ha) (Lib.hid hb)

end Go.Proofs.Ytkdnliogoobgmaa
