import Derived.Test.YtkdnliogoobgmaaC
namespace Go.Proofs.Ytkdnliogoobgmaa
open Go.RowKit Go.Sort
set_option maxRecDepth 100000

theorem known9 (w : World) : Calls Try.prog 9 #[] w fun e w' => e = .returned (.bool true) ∧ Below w.heap.size w w' := by
  have m1 : mul 128 2 = 29 := by kernel_rfl
  have m2 : pw ((8 : Int) % 255).toNat = 29 := by kernel_rfl
  have m3 : (5 : Nat) ^^^ 3 = 6 := by decide
  have HM1 := Lib.hid m1
  have HM2 := Lib.hid m2
  have HM3 := Lib.hid m3
  clear m1 m2 m3
  go_enter Try.func9, Try.ntmps9
  go_wp2_with fail
  refine (new8 _).mono ?_
  rintro e w2 ⟨rfl, hf, hb⟩
  have HF := Lib.hid hf
  have HB := Lib.hid hb
  clear hf hb
  go_wp2_with fail
  refine (mul14 w.heap.size 128 2 _ HF.out (by omega) (by omega)).mono ?_
  rintro e w3 ⟨rfl, rfl⟩
  rw [HM1.out]
  go_wp2_with fail
  refine (exp13 w.heap.size 8 _ HF.out (by omega)).mono ?_
  rintro e w4 ⟨rfl, rfl⟩
  rw [HM2.out]
  go_wp2_with fail
  refine (add18 w.heap.size 5 3 _ HF.out (by omega) (by omega)).mono ?_
  rintro e w5 ⟨rfl, rfl⟩
  rw [HM3.out]
  go_wp2_with fail
  go_ret
  exact ⟨rfl, HB.out⟩

theorem fieldKnown3 (w : World) : Calls Try.prog 3 #[] w fun e w' => e = .returned (.bool true) ∧ Below w.heap.size w w' := by
  have HM1 := Lib.hid (show mul 0 200 = 0 by kernel_rfl)
  have HM2 := Lib.hid (show mul 1 200 = 200 by kernel_rfl)
  have HM3 := Lib.hid (show mul 0 (inv 7) = 0 by kernel_rfl)
  have HM4 := Lib.hid (show pw ((255 : Int) % 255).toNat = 1 by kernel_rfl)
  have HM5 := Lib.hid (show pw ((-1 : Int) % 255).toNat = 142 by kernel_rfl)
  have HM6 := Lib.hid (show pw ((254 : Int) % 255).toNat = 142 by kernel_rfl)
  have HM7 := Lib.hid (show pw ((-255 : Int) % 255).toNat = 1 by kernel_rfl)
  have HM8 := Lib.hid (show lg 1 = 0 by kernel_rfl)
  have HM9 := Lib.hid (show inv 1 = 1 by kernel_rfl)
  go_enter Try.func3, Try.ntmps3
  go_wp2_with fail
  refine (new8 _).mono ?_
  rintro e w2 ⟨rfl, hf, hb⟩
  have HF := Lib.hid hf
  have HB := Lib.hid hb
  clear hf hb
  go_wp2_with fail
  refine (known9 _).mono ?_
  rintro e w3 ⟨rfl, hb⟩
  have HF := Lib.hid (HF.out.keep hb)
  have HB := Lib.hid (HB.out.trans (hb.mono HB.out.size))
  clear hb
  go_wp2_with fail
  refine (inv10 w.heap.size 0 _ HF.out (by omega)).mono ?_
  rintro e w4 ⟨rfl, rfl⟩
  go_wp2_with fail
  refine (div11 w.heap.size 7 0 _ HF.out (by omega) (by omega)).mono ?_
  rintro e w4 ⟨rfl, rfl⟩
  go_wp2_with fail
  refine (div11 w.heap.size 0 7 _ HF.out (by omega) (by omega)).mono ?_
  rintro e w4 ⟨rfl, rfl⟩
  rw [HM3.out]
  go_wp2_with fail
  refine (log12 w.heap.size 0 _ HF.out (by omega)).mono ?_
  rintro e w4 ⟨rfl, rfl⟩
  go_wp2_with fail
  refine (log12 w.heap.size 1 _ HF.out (by omega)).mono ?_
  rintro e w4 ⟨rfl, rfl⟩
  rw [HM8.out]
  go_wp2_with fail
  refine (inv10 w.heap.size 1 _ HF.out (by omega)).mono ?_
  rintro e w4 ⟨rfl, rfl⟩
  rw [HM9.out]
  go_wp2_with fail
  refine (exp13 w.heap.size 255 _ HF.out (by omega)).mono ?_
  rintro e w4 ⟨rfl, rfl⟩
  rw [HM4.out]
  go_wp2_with fail
  refine (exp13 w.heap.size (-1) _ HF.out (by omega)).mono ?_
  rintro e w4 ⟨rfl, rfl⟩
  rw [HM5.out]
  go_wp2_with fail
  refine (exp13 w.heap.size 254 _ HF.out (by omega)).mono ?_
  rintro e w4 ⟨rfl, rfl⟩
  rw [HM6.out]
  go_wp2_with fail
  refine (mul14 w.heap.size 0 200 _ HF.out (by omega) (by omega)).mono ?_
  rintro e w4 ⟨rfl, rfl⟩
  rw [HM1.out]
  go_wp2_with fail
  refine (mul14 w.heap.size 1 200 _ HF.out (by omega) (by omega)).mono ?_
  rintro e w4 ⟨rfl, rfl⟩
  rw [HM2.out]
  go_wp2_with fail
  refine (exp13 w.heap.size (-255) _ HF.out (by omega)).mono ?_
  rintro e w4 ⟨rfl, rfl⟩
  rw [HM7.out]
  go_wp2_with fail
  go_ret
  exact ⟨rfl, HB.out⟩
end Go.Proofs.Ytkdnliogoobgmaa
