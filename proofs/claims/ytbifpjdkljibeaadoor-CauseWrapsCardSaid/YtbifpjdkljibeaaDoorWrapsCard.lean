/- For every input: corbellaw1.CauseWraps (at the commit in COMMIT) returns true and leaves its arguments as they were; the one package variable that its code reads, errors.errorType, is tied to the program's text by the card. No condition. -/
import Derived.Test.YtbifpjdkljibeaaDoorG8
import Derived.Test.YtbifpjdkljibeaaDoorCards
import Derived.Test.YtbifpjdkljibeaaDoorTie
import Derived.SevenTiedAt
namespace Go.Proofs.YtbifpjdkljibeaaDoor
open Go

theorem causeWraps_card : Rows.CauseWrapsCardSaid :=
  Claim7.holds_tied_plain_at .later [] [.handle] true (true, "5f58898c6e8f1a1b7434ea555eb671066e2a3382c6f8d2097edfa9f788d9bc96") true
    causeWraps_holds (fun _ h => by cases h) (by kernel_rfl) (fun _ h => by cases h) causeWraps_row_tie rfl ⟨rfl, rfl⟩ (by kernel_rfl) rfl
    (fun f fn hf hfn => by
      obtain rfl : f = 5 := Option.some.inj ((show Tryd.prog.funcNamed "corbel/corbellaw1.CauseWraps" = some 5 by kernel_rfl).symm.trans hf) |>.symm
      obtain rfl : fn = Tryd.f5 := (Option.some.inj (Tryd.func5.symm.trans hfn)).symm
      exact ⟨by kernel_rfl, fun j t ht => by
        rw [Tryd.params5] at ht
        have hm : t ∈ [46, 3, 3] := by simpa using Array.mem_of_getElem? ht
        have hall : ([46, 3, 3].all fun u => !Tryd.prog.wantsStandIn u) = true := by kernel_rfl
        exact (show Tryd.prog.wantsStandIn t = false by simpa using List.all_eq_true.1 hall t hm)⟩)
    (by kernel_rfl)

end Go.Proofs.YtbifpjdkljibeaaDoor
