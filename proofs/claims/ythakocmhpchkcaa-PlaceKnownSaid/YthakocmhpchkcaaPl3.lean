import Derived.Test.YthakocmhpchkcaaPl2
namespace Go.Proofs.Ythakocmhpchkcaa
open Go.RowKit Go.Sort
set_option maxRecDepth 100000
set_option maxHeartbeats 1000000

theorem litNums {w : World} {cs : Array Value} {xs : List Int} (h : cs.toList = intsV xs) : Nums (w.alloc (.cells cs 3)) (some ⟨w.heap.size, 0, none⟩) xs := fun i x hx => by
  refine ⟨w.heap.size, 0, rfl, by rw [alloc_size]; omega, ?_⟩
  rw [cell_of_block (alloc_block w _), Nat.zero_add, ← Array.getElem?_toList, h]
  simp [intsV, hx]
/-- corbellaw13.known. -/
theorem lknown13 (w : World) : Calls Try.prog 7 #[] w fun e w' => e = .returned (.bool true) ∧ Below w.heap.size w w' := by
  have e1 : logsF 0 = [5, 6, 7, 0, 1, 2, 3, 4] := by decide +kernel
  have HG := Lib.hid (llogs 0 w)
  have HN := Lib.hid (fun v => lnode 3 5 v)
  have HI := Lib.hid (fun v => lindex 3 0 v)
  rw [show nodeF 3 5 = 0 by decide +kernel] at HN
  rw [show indexF 3 0 = 5 by decide +kernel] at HI
  unfold LogsRet at HG
  rw [e1] at HG
  clear e1
  go_enter Try.func7, Try.ntmps7
  go_wp2_with fail
  refine HG.out.mono ?_
  rintro e w1 ⟨A, c, rfl, n1, b1, _⟩
  try dsimp only
  have HB1 := Lib.hid b1
  have HN1 := Lib.hid n1
  have HS := Lib.hid (fun v (hv : Below w1.heap.size w1 v) (A2 : Option Addr) (h2 : Nums v A2 [5, 6, 7, 0, 1, 2, 3, 4]) => lsame A A2 [5, 6, 7, 0, 1, 2, 3, 4] [5, 6, 7, 0, 1, 2, 3, 4] c 8 v (n1.keep hv) h2 (by simp) true (by simp))
  clear b1 n1 HG
  go_wp2_with fail
  refine (HS.out _ ((Below.refl _ _).alloc (Nat.le_refl _) _) _ (litNums rfl)).mono ?_
  rintro e w2 ⟨rfl, b2⟩
  try dsimp only
  have HB2 : Hid (Below w.heap.size w w2) := Lib.hid ((HB1.out.alloc HB1.out.size _).trans (b2.mono (by have := HB1.out.size; simp; omega)))
  clear b2
  go_wp2_with fail
  refine (HN.out w2).mono ?_
  rintro e w' ⟨rfl, hw⟩
  obtain rfl := hw.symm
  go_wp2_with fail
  refine (HI.out w2).mono ?_
  rintro e w' ⟨rfl, hw⟩
  obtain rfl := hw.symm
  go_wp2_with fail
  go_ret
  exact ⟨rfl, HB2.out⟩
end Go.Proofs.Ythakocmhpchkcaa
