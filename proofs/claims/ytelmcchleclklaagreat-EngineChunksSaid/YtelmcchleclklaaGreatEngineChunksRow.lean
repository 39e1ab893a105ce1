/- Whatever is written, whatever fates calls have, whoever is down or falls: a stripe that was written with no error and is neither pending nor in doubt stands on its six nodes, flushed; of a pending one three nodes have the intent. No condition. -/
import Derived.Test.YtelmcchleclklaaGreatV51
namespace Go.Proofs.YtelmcchleclklaaGreat
open Go.ChangeShapes Go.WideShapes Go.ChangeAt Go.WideMaps Go.WideElems Go.RowKit

set_option maxHeartbeats 20000000 in
theorem engineChunks_holds : Rows.EngineChunksSaid := by
 refine OpenClaim.holds_of_wide 3 Tryz.f3 rfl rfl rfl rfl rfl rfl rfl ⟨rfl, rfl, rfl, rfl, rfl⟩ rfl rfl rfl rfl rfl ?_ Tryz.func3 ?_
  ?_ ?_ (fun os started H enc _ => engineChunks_lifted os started H enc)
 ·as_aux_lemma => kernel_rfl
 ·unfold joinedFacts
  repeat' (with_reducible refine (Bool.and_eq_true_iff.2 ⟨?_, ?_⟩))
  all_goals (as_aux_lemma => kernel_rfl)
 ·as_aux_lemma => exact (of_decide_eq_true (by kernel_rfl))
 ·as_aux_lemma =>
   unfold Func.isWrapper
   first
    | (rw [if_pos (by decide +kernel)]; kernel_rfl)
    | (rw [if_neg (by decide +kernel)]; exact ⟨rfl, rfl⟩)
end Go.Proofs.YtelmcchleclklaaGreat
