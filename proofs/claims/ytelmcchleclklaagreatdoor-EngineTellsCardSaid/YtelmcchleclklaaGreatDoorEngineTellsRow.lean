/- Whatever is written, read, taken away and brought back: an error of an engine tells just such nodes as were down, or were full; a generation only rises; what is in doubt has been written, and is not what was read. No condition. -/
import Derived.Test.YtelmcchleclklaaGreatDoorV51
import Derived.Test.YtelmcchleclklaaGreatDoorCards
import Derived.Test.YtelmcchleclklaaGreatDoorTie
import Derived.SevenTiedAt
namespace Go.Proofs.YtelmcchleclklaaGreatDoor
open Go.ChangeShapes Go.WideShapes Go.ChangeAt Go.WideMaps Go.WideElems Go.RowKit


theorem engineTells_card : Rows.EngineTellsCardSaid :=
 Claim7.holds_tied_plain_at .later [] [.handle] true (true, "3a31a09b092d89ad80d72761a542328135b67ddab05140226f0af4a41b809407") true
  engineTells_holds (fun _ h => by cases h) (by kernel_rfl) (fun _ h => by cases h) engineTells_row_tie rfl ⟨rfl, rfl⟩ (by kernel_rfl) rfl
  (fun f fn hf hfn => by
   obtain rfl : f = 5 := Option.some.inj ((show Tryz.prog.funcNamed "corbel/corbellaw14.EngineTells" = some 5 by kernel_rfl).symm.trans hf) |>.symm
   obtain rfl : fn = Tryz.f5 := (Option.some.inj (Tryz.func5.symm.trans hfn)).symm
   exact ⟨by kernel_rfl, fun j t ht => by
    rw [Tryz.params5] at ht
    have hm : t ∈ [47] := by simpa using Array.mem_of_getElem? ht
    have hall : ([47].all fun u => !Tryz.prog.wantsStandIn u) = true := by kernel_rfl
    exact (show Tryz.prog.wantsStandIn t = false by simpa using List.all_eq_true.1 hall t hm)⟩)
  (by kernel_rfl)

end Go.Proofs.YtelmcchleclklaaGreatDoor
