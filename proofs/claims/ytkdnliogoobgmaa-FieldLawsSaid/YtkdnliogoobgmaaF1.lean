import Derived.Test.YtkdnliogoobgmaaF
namespace Go.Proofs.Ytkdnliogoobgmaa
open Go.RowKit Go.Sort
set_option maxRecDepth 100000
set_option maxHeartbeats 8000000

theorem fieldLaws5nn (a b c : Nat) (n m : Int) (w : World) (h0 : ¬ a = 0) (HA : Hid (a < 256)) (h1 : ¬ b = 0) (HB0 : Hid (b < 256)) (HC : Hid (c < 256)) : Calls Try.prog 5 #[.int .u8 (a : Int), .int .u8 (b : Int), .int .u8 (c : Int), .int .i64 n, .int .i64 m] w fun e w' => e = .returned (.bool true) ∧ Below w.heap.size w w' := by
  have n1 : -100000 < n.tmod 100000 := by have := Int.lt_tmod_of_pos n (show (0 : Int) < 100000 by decide); omega
  have n2 : n.tmod 100000 < 100000 := Int.tmod_lt_of_pos n (by decide)
  have m1 : -100000 < m.tmod 100000 := by have := Int.lt_tmod_of_pos m (show (0 : Int) < 100000 by decide); omega
  have m2 : m.tmod 100000 < 100000 := Int.tmod_lt_of_pos m (by decide)
  have la : (lg a : Int) < 255 := by have := (lg_ok HA.out h0).2; omega
  have ea : ((a : Int) == 0) = false := beq_eq_false_iff_ne.2 (by omega)
  have eb : ((b : Int) == 0) = false := beq_eq_false_iff_ne.2 (by omega)
  go_enter Try.func5, Try.ntmps5
  go_wp2_with fail
  refine (new8 _).mono ?_
  rintro e w2 ⟨rfl, hf, hb⟩
  have HF := Lib.hid hf
  have HB := Lib.hid hb
  clear hf hb
  go_wp2_with fail
  refine (known9 _).mono ?_
  rintro e w3 ⟨rfl, hb⟩
  have HF := Lib.hid (HF.out.keep hb)
  have HB := Lib.hid (HB.out.trans (hb.mono HB.out.size))
  clear hb
  go_wp2_with fail
  refine (div11n w.heap.size a b _ HF.out HA.out HB0.out h1).mono ?_
  rintro e wz ⟨rfl, rfl⟩
  go_wp2_with fail
  refine (log12n w.heap.size a _ HF.out HA.out h0).mono ?_
  rintro e wz ⟨rfl, rfl⟩
  go_wp2_with fail
  refine (mul14 w.heap.size a b _ HF.out HA.out HB0.out).mono ?_
  rintro e wz ⟨rfl, rfl⟩
  go_wp2_with fail
  refine (mul14 w.heap.size b a _ HF.out HB0.out HA.out).mono ?_
  rintro e wz ⟨rfl, rfl⟩
  rw [mul_comm b a]
  go_wp2_with fail
  refine (mul14 w.heap.size b c _ HF.out HB0.out HC.out).mono ?_
  rintro e wz ⟨rfl, rfl⟩
  go_wp2_with fail
  refine (mul14 w.heap.size a (mul b c) _ HF.out HA.out (mul_lt _ _)).mono ?_
  rintro e wz ⟨rfl, rfl⟩
  rw [mul_assoc (a := a) (b := b) HA.out HB0.out HC.out]
  go_wp2_with fail
  refine (mul14 w.heap.size a b _ HF.out HA.out HB0.out).mono ?_
  rintro e wz ⟨rfl, rfl⟩
  go_wp2_with fail
  refine (mul14 w.heap.size (mul a b) c _ HF.out (mul_lt _ _) HC.out).mono ?_
  rintro e wz ⟨rfl, rfl⟩
  go_wp2_with fail
  refine (add18 w.heap.size b c _ HF.out HB0.out HC.out).mono ?_
  rintro e wz ⟨rfl, rfl⟩
  go_wp2_with fail
  refine (mul14 w.heap.size a (b ^^^ c) _ HF.out HA.out (xor_lt HB0.out HC.out)).mono ?_
  rintro e wz ⟨rfl, rfl⟩
  rw [mul_xor (a := a) (b := b) HA.out HB0.out HC.out]
  go_wp2_with fail
  refine (mul14 w.heap.size a b _ HF.out HA.out HB0.out).mono ?_
  rintro e wz ⟨rfl, rfl⟩
  go_wp2_with fail
  refine (mul14 w.heap.size a c _ HF.out HA.out HC.out).mono ?_
  rintro e wz ⟨rfl, rfl⟩
  go_wp2_with fail
  refine (add18 w.heap.size (mul a b) (mul a c) _ HF.out (mul_lt _ _) (mul_lt _ _)).mono ?_
  rintro e wz ⟨rfl, rfl⟩
  go_wp2_with fail
  refine (mul14 w.heap.size a 1 _ HF.out HA.out (by omega)).mono ?_
  rintro e wz ⟨rfl, rfl⟩
  rw [mul_one (a := a) HA.out]
  go_wp2_with fail
  refine (add18 w.heap.size a a _ HF.out HA.out HA.out).mono ?_
  rintro e wz ⟨rfl, rfl⟩
  rw [Nat.xor_self]
  go_wp2_with fail
  refine (mul14 w.heap.size (mul a (inv b)) b _ HF.out (mul_lt _ _) HB0.out).mono ?_
  rintro e wz ⟨rfl, rfl⟩
  rw [div_mul (a := a) HA.out HB0.out h1]
  go_wp2_with fail
  refine (exp13 w.heap.size _ _ HF.out (by omega)).mono ?_
  rintro e wz ⟨rfl, rfl⟩
  go_wp2_with fail
  refine (exp13 w.heap.size _ _ HF.out (by omega)).mono ?_
  rintro e wz ⟨rfl, rfl⟩
  go_wp2_with fail
  refine (mul14 w.heap.size _ _ _ HF.out (pw_lt _) (pw_lt _)).mono ?_
  rintro e wz ⟨rfl, rfl⟩
  rw [pw_sum]
  go_wp2_with fail
  refine (exp13 w.heap.size _ _ HF.out (by omega)).mono ?_
  rintro e wz ⟨rfl, rfl⟩
  go_wp2_with fail
  refine (exp13 w.heap.size _ _ HF.out (by have := (lg_ok HA.out h0).2; omega)).mono ?_
  rintro e wz ⟨rfl, rfl⟩
  rw [pw_lg HA.out h0]
  go_wp2_with fail
  refine (mul14 w.heap.size a b _ HF.out HA.out HB0.out).mono ?_
  rintro e wz ⟨rfl, rfl⟩
  go_wp2_with fail
  go_ret
  refine ⟨?_, HB.out⟩
  have hm : ¬ mul a b = 0 := fun h => (mul_eq_zero.1 h).elim h0 h1
  simp [h0, h1, hm]

end Go.Proofs.Ytkdnliogoobgmaa
