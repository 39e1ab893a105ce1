import Derived.Test.YtanlaannkdiieaaD1
namespace Go.Proofs.Ytanlaannkdiieaa
open Go.RowKit Go.Sort
set_option maxRecDepth 100000
set_option maxHeartbeats 1000000

/-- Read. -/
def DReadRet (F : Blk) (w : World) (e : Ending) (w' : World) : Prop := ∃ g cap, e = .returned (.tuple #[.slice (some ⟨g, 0, none⟩) 160 cap, .bool true]) ∧ Blk8 w' g 160 F ∧ Below w.heap.size w w' ∧ w.heap.size ≤ g ∧ 160 ≤ cap
end Go.Proofs.Ytanlaannkdiieaa
