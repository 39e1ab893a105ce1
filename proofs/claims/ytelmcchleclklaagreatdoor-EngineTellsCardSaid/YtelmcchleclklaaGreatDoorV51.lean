import Derived.Test.YtelmcchleclklaaGreatDoorV50
namespace Go.Proofs.YtelmcchleclklaaGreatDoor
open Go.ChangeShapes Go.WideShapes Go.ChangeAt Go.WideMaps Go.WideElems Go.RowKit


set_option maxHeartbeats 20000000 in
theorem engineTells_holds : Rows.EngineTellsSaid := by
 refine OpenClaim.holds_of_wide 5 Tryz.f5 rfl rfl rfl rfl rfl rfl rfl ⟨rfl, rfl, rfl, rfl, rfl⟩ rfl rfl rfl rfl rfl ?_ Tryz.func5 ?_
  ?_ ?_ (fun os started H enc _ => engineTells_lifted os started H enc)
 ·as_aux_lemma => kernel_rfl
 ·unfold joinedFacts
  repeat' (with_reducible refine (Bool.and_eq_true_iff.2 ⟨?_, ?_⟩))
  all_goals (as_aux_lemma => kernel_rfl)
 ·as_aux_lemma => exact (of_decide_eq_true (by kernel_rfl))
 ·as_aux_lemma =>
   unfold Func.isWrapper
   first
    | (rw [if_pos (by decide +kernel)]; kernel_rfl)
    | (rw [if_neg (by decide +kernel)]; exact ⟨rfl, rfl⟩)
end Go.Proofs.YtelmcchleclklaaGreatDoor
