import Derived.Test.YtkdnliogoobgmaaE
import Derived.Test.YtkdnliogoobgmaaH
namespace Go.Proofs.Ytkdnliogoobgmaa
open Go.RowKit Go.Sort
set_option maxRecDepth 100000
set_option maxHeartbeats 4000000

theorem fieldTells4n (a b : Nat) (n : Int) (w : World) (HA : Hid (a < 256)) (HB0 : Hid (b < 256)) (h1 : ¬ b = 0) (hn : -9223372036854775808 ≤ n ∧ n ≤ 9223372036854775807) :
    Calls Try.prog 4 #[.int .u8 (a : Int), .int .u8 (b : Int), .int .i64 n] w fun e w' => e = .returned (.bool true) ∧ Below w.heap.size w w' := by
  have HN := Lib.hid hn
  clear hn
  have C1 := Lib.hid (fun (w : World) f (h : Fld w f) => inv10 f a w h HA.out)
  have C2 := Lib.hid (fun (w : World) => rinv15 a w HA.out)
  have C3 := Lib.hid (fun (w : World) f (h : Fld w f) => log12 f a w h HA.out)
  have C4 := Lib.hid (fun (w : World) => rlog17 a w HA.out)
  have C5 := Lib.hid (fun (w : World) => rinv15 b w HB0.out)
  rw [if_neg h1, show decide (b ≠ 0) = true from decide_eq_true h1] at C5
  generalize (if a = 0 then 0 else inv a) = ra at *
  generalize (if a = 0 then 0 else lg a) = la at *
  generalize decide (a ≠ 0) = ta at *
  go_enter Try.func4, Try.ntmps4
  go_wp2_with fail
  refine (new8 _).mono ?_
  rintro e w2 ⟨rfl, hf, hb⟩
  have HF := Lib.hid hf
  have HB := Lib.hid hb
  clear hf hb
  go_wp2_with fail
  refine (known9 _).mono ?_
  rintro e w3 ⟨rfl, hb⟩
  have HF := Lib.hid (HF.out.keep hb)
  have HB := Lib.hid (HB.out.trans (hb.mono HB.out.size))
  clear hb
  go_wp2_with fail
  refine (C1.out _ w.heap.size HF.out).mono ?_
  rintro e wz ⟨rfl, rfl⟩
  go_wp2_with fail
  refine (C2.out _).mono ?_
  rintro e wz ⟨rfl, rfl⟩
  go_wp2_with fail
  refine (div11n w.heap.size a b _ HF.out HA.out HB0.out h1).mono ?_
  rintro e wz ⟨rfl, rfl⟩
  go_wp2_with fail
  refine (C5.out _).mono ?_
  rintro e wz ⟨rfl, rfl⟩
  go_wp2_with fail
  refine (rmul16 a (inv b) _ HA.out (inv_lt b)).mono ?_
  rintro e wz ⟨rfl, rfl⟩
  go_wp2_with fail
  refine (C3.out _ w.heap.size HF.out).mono ?_
  rintro e wz ⟨rfl, rfl⟩
  go_wp2_with fail
  refine (C4.out _).mono ?_
  rintro e wz ⟨rfl, rfl⟩
  go_wp2_with fail
  refine (add18 w.heap.size a b _ HF.out HA.out HB0.out).mono ?_
  rintro e wz ⟨rfl, rfl⟩
  rw [← bits_xor_u8 a b HA.out HB0.out]
  go_wp2_with fail
  refine (mul14 w.heap.size a b _ HF.out HA.out HB0.out).mono ?_
  rintro e wz ⟨rfl, rfl⟩
  go_wp2_with fail
  refine (rmul16 a b _ HA.out HB0.out).mono ?_
  rintro e wz ⟨rfl, rfl⟩
  go_wp2_with fail
  refine (exp13 w.heap.size n _ HF.out HN.out).mono ?_
  rintro e wz ⟨rfl, rfl⟩
  go_wp2_with fail
  refine (rexp19 n _).mono ?_
  rintro e wz ⟨rfl, rfl⟩
  go_wp2_with fail
  go_ret
  exact ⟨rfl, HB.out⟩

theorem fieldTells4z (a : Nat) (n : Int) (w : World) (HA : Hid (a < 256)) (hn : -9223372036854775808 ≤ n ∧ n ≤ 9223372036854775807) :
    Calls Try.prog 4 #[.int .u8 (a : Int), .int .u8 0, .int .i64 n] w fun e w' => e = .returned (.bool true) ∧ Below w.heap.size w w' := by
  have HN := Lib.hid hn
  clear hn
  have C1 := Lib.hid (fun (w : World) f (h : Fld w f) => inv10 f a w h HA.out)
  have C2 := Lib.hid (fun (w : World) => rinv15 a w HA.out)
  have C3 := Lib.hid (fun (w : World) f (h : Fld w f) => log12 f a w h HA.out)
  have C4 := Lib.hid (fun (w : World) => rlog17 a w HA.out)
  generalize (if a = 0 then 0 else inv a) = ra at *
  generalize (if a = 0 then 0 else lg a) = la at *
  generalize decide (a ≠ 0) = ta at *
  go_enter Try.func4, Try.ntmps4
  go_wp2_with fail
  refine (new8 _).mono ?_
  rintro e w2 ⟨rfl, hf, hb⟩
  have HF := Lib.hid hf
  have HB := Lib.hid hb
  clear hf hb
  go_wp2_with fail
  refine (known9 _).mono ?_
  rintro e w3 ⟨rfl, hb⟩
  have HF := Lib.hid (HF.out.keep hb)
  have HB := Lib.hid (HB.out.trans (hb.mono HB.out.size))
  clear hb
  go_wp2_with fail
  refine (C1.out _ w.heap.size HF.out).mono ?_
  rintro e wz ⟨rfl, rfl⟩
  go_wp2_with fail
  refine (C2.out _).mono ?_
  rintro e wz ⟨rfl, rfl⟩
  go_wp2_with fail
  refine (div11 w.heap.size a 0 _ HF.out HA.out (by omega)).mono ?_
  rintro e wz ⟨rfl, rfl⟩
  go_wp2_with fail
  refine (rinv15 0 _ (by omega)).mono ?_
  rintro e wz ⟨rfl, rfl⟩
  go_wp2_with fail
  refine (C3.out _ w.heap.size HF.out).mono ?_
  rintro e wz ⟨rfl, rfl⟩
  go_wp2_with fail
  refine (C4.out _).mono ?_
  rintro e wz ⟨rfl, rfl⟩
  go_wp2_with fail
  refine (add18 w.heap.size a 0 _ HF.out HA.out (by omega)).mono ?_
  rintro e wz ⟨rfl, rfl⟩
  rw [← bits_xor_u8 a 0 HA.out (by omega)]
  go_wp2_with fail
  refine (mul14 w.heap.size a 0 _ HF.out HA.out (by omega)).mono ?_
  rintro e wz ⟨rfl, rfl⟩
  rw [mul_zero]
  go_wp2_with fail
  refine (rmul16 a 0 _ HA.out (by omega)).mono ?_
  rintro e wz ⟨rfl, rfl⟩
  rw [mul_zero]
  go_wp2_with fail
  refine (exp13 w.heap.size n _ HF.out HN.out).mono ?_
  rintro e wz ⟨rfl, rfl⟩
  go_wp2_with fail
  refine (rexp19 n _).mono ?_
  rintro e wz ⟨rfl, rfl⟩
  go_wp2_with fail
  go_ret
  exact ⟨rfl, HB.out⟩

theorem fieldTells4 (a b : Nat) (n : Int) (w : World) (ha : a < 256) (hb : b < 256) (hn : -9223372036854775808 ≤ n ∧ n ≤ 9223372036854775807) :
    Calls Try.prog 4 #[.int .u8 (a : Int), .int .u8 (b : Int), .int .i64 n] w fun e w' => e = .returned (.bool true) ∧ Below w.heap.size w w' := by
  by_cases h1 : b = 0
  · subst h1; exact fieldTells4z a n w (Lib.hid ha) hn
  · exact fieldTells4n a b n w (Lib.hid ha) (Lib.hid hb) h1 hn
end Go.Proofs.Ytkdnliogoobgmaa
