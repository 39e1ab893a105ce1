import Derived.Test.YtkdnliogoobgmaaF
namespace Go.Proofs.Ytkdnliogoobgmaa
open Go.RowKit Go.Sort
set_option maxRecDepth 100000
set_option maxHeartbeats 8000000

theorem fieldLaws5zz (c : Nat) (n m : Int) (w : World) (HC : Hid (c < 256)) : Calls Try.prog 5 #[.int .u8 0, .int .u8 0, .int .u8 (c : Int), .int .i64 n, .int .i64 m] w fun e w' => e = .returned (.bool true) ∧ Below w.heap.size w w' := by
  have n1 : -100000 < n.tmod 100000 := by have := Int.lt_tmod_of_pos n (show (0 : Int) < 100000 by decide); omega
  have n2 : n.tmod 100000 < 100000 := Int.tmod_lt_of_pos n (by decide)
  have m1 : -100000 < m.tmod 100000 := by have := Int.lt_tmod_of_pos m (show (0 : Int) < 100000 by decide); omega
  have m2 : m.tmod 100000 < 100000 := Int.tmod_lt_of_pos m (by decide)
  go_enter Try.func5, Try.ntmps5
  go_wp2_with fail
  refine (new8 _).mono ?_
  rintro e w2 ⟨rfl, hf, hb⟩
  have HF := Lib.hid hf
  have HB := Lib.hid hb
  clear hf hb
  go_wp2_with fail
  refine (known9 _).mono ?_
  rintro e w3 ⟨rfl, hb⟩
  have HF := Lib.hid (HF.out.keep hb)
  have HB := Lib.hid (HB.out.trans (hb.mono HB.out.size))
  clear hb
  go_wp2_with fail
  refine (div11 w.heap.size 0 0 _ HF.out (by omega) (by omega)).mono ?_
  rintro e wz ⟨rfl, rfl⟩
  go_wp2_with fail
  refine (log12 w.heap.size 0 _ HF.out (by omega)).mono ?_
  rintro e wz ⟨rfl, rfl⟩
  go_wp2_with fail
  refine (mul14 w.heap.size 0 0 _ HF.out (by omega) (by omega)).mono ?_
  rintro e wz ⟨rfl, rfl⟩
  rw [zero_mul]
  go_wp2_with fail
  refine (mul14 w.heap.size 0 0 _ HF.out (by omega) (by omega)).mono ?_
  rintro e wz ⟨rfl, rfl⟩
  rw [zero_mul]
  go_wp2_with fail
  refine (mul14 w.heap.size 0 c _ HF.out (by omega) HC.out).mono ?_
  rintro e wz ⟨rfl, rfl⟩
  rw [zero_mul]
  go_wp2_with fail
  refine (mul14 w.heap.size 0 0 _ HF.out (by omega) (by omega)).mono ?_
  rintro e wz ⟨rfl, rfl⟩
  rw [zero_mul]
  go_wp2_with fail
  refine (mul14 w.heap.size 0 0 _ HF.out (by omega) (by omega)).mono ?_
  rintro e wz ⟨rfl, rfl⟩
  rw [zero_mul]
  go_wp2_with fail
  refine (mul14 w.heap.size 0 c _ HF.out (by omega) HC.out).mono ?_
  rintro e wz ⟨rfl, rfl⟩
  rw [zero_mul]
  go_wp2_with fail
  refine (add18 w.heap.size 0 c _ HF.out (by omega) HC.out).mono ?_
  rintro e wz ⟨rfl, rfl⟩
  rw [Nat.zero_xor]
  go_wp2_with fail
  refine (mul14 w.heap.size 0 c _ HF.out (by omega) HC.out).mono ?_
  rintro e wz ⟨rfl, rfl⟩
  rw [zero_mul]
  go_wp2_with fail
  refine (mul14 w.heap.size 0 0 _ HF.out (by omega) (by omega)).mono ?_
  rintro e wz ⟨rfl, rfl⟩
  rw [zero_mul]
  go_wp2_with fail
  refine (mul14 w.heap.size 0 c _ HF.out (by omega) HC.out).mono ?_
  rintro e wz ⟨rfl, rfl⟩
  rw [zero_mul]
  go_wp2_with fail
  refine (add18 w.heap.size 0 0 _ HF.out (by omega) (by omega)).mono ?_
  rintro e wz ⟨rfl, rfl⟩
  rw [Nat.xor_self]
  go_wp2_with fail
  refine (mul14 w.heap.size 0 1 _ HF.out (by omega) (by omega)).mono ?_
  rintro e wz ⟨rfl, rfl⟩
  rw [zero_mul]
  go_wp2_with fail
  refine (add18 w.heap.size 0 0 _ HF.out (by omega) (by omega)).mono ?_
  rintro e wz ⟨rfl, rfl⟩
  rw [Nat.xor_self]
  go_wp2_with fail
  refine (exp13 w.heap.size _ _ HF.out (by omega)).mono ?_
  rintro e wz ⟨rfl, rfl⟩
  go_wp2_with fail
  refine (exp13 w.heap.size _ _ HF.out (by omega)).mono ?_
  rintro e wz ⟨rfl, rfl⟩
  go_wp2_with fail
  refine (mul14 w.heap.size _ _ _ HF.out (pw_lt _) (pw_lt _)).mono ?_
  rintro e wz ⟨rfl, rfl⟩
  rw [pw_sum]
  go_wp2_with fail
  refine (exp13 w.heap.size _ _ HF.out (by omega)).mono ?_
  rintro e wz ⟨rfl, rfl⟩
  go_wp2_with fail
  all_goals (
    refine (mul14 w.heap.size 0 0 _ HF.out (by omega) (by omega)).mono ?_
    rintro e wz ⟨rfl, rfl⟩
    rw [zero_mul]
    go_wp2_with fail
    go_ret
    refine ⟨?_, HB.out⟩
    first | rfl | simp)

end Go.Proofs.Ytkdnliogoobgmaa
