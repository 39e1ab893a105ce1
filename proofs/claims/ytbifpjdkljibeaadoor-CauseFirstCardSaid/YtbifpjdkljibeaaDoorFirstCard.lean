/- For every input: corbellaw1.CauseFirst (at the commit in COMMIT) returns true and leaves its arguments as they were; the one package variable that its code reads, errors.errorType, is tied to the program's text by the card. No condition. -/
import Derived.Test.YtbifpjdkljibeaaDoorZ2
import Derived.Test.YtbifpjdkljibeaaDoorCards
import Derived.Test.YtbifpjdkljibeaaDoorTie
import Derived.SevenTiedAt
namespace Go.Proofs.YtbifpjdkljibeaaDoor
open Go

theorem causeFirst_card : Rows.CauseFirstCardSaid :=
  Claim7.holds_tied_plain_at .later [] [.handle] true (true, "5f58898c6e8f1a1b7434ea555eb671066e2a3382c6f8d2097edfa9f788d9bc96") true
    causeFirst_holds (fun _ h => by cases h) (by kernel_rfl) (fun _ h => by cases h) causeFirst_row_tie rfl ⟨rfl, rfl⟩ (by kernel_rfl) rfl
    (fun f fn hf hfn => by
      obtain rfl : f = 7 := Option.some.inj ((show Tryd.prog.funcNamed "corbel/corbellaw1.CauseFirst" = some 7 by kernel_rfl).symm.trans hf) |>.symm
      obtain rfl : fn = Tryd.f7 := (Option.some.inj (Tryd.func7.symm.trans hfn)).symm
      exact ⟨by kernel_rfl, fun j t ht => by
        rw [Tryd.params7] at ht
        have hm : t ∈ [44, 62] := by simpa using Array.mem_of_getElem? ht
        have hall : ([44, 62].all fun u => !Tryd.prog.wantsStandIn u) = true := by kernel_rfl
        exact (show Tryd.prog.wantsStandIn t = false by simpa using List.all_eq_true.1 hall t hm)⟩)
    (by kernel_rfl)

end Go.Proofs.YtbifpjdkljibeaaDoor
