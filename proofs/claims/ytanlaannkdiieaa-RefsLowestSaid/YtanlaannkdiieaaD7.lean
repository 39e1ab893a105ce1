import Derived.Test.YtanlaannkdiieaaD6
namespace Go.Proofs.Ytanlaannkdiieaa
open Go.RowKit Go.Sort
set_option maxRecDepth 100000
set_option maxHeartbeats 1000000

theorem kept_no (l : List (Nat × Blk)) (D : Nat → Blk) : (keptAt (keepF []) 0 l).foldl upd D = D := by
  have : keepF [] = fun _ => false := by funext j; simp [keepF]
  rw [this, keptAt_none]
  rfl
end Go.Proofs.Ytanlaannkdiieaa
