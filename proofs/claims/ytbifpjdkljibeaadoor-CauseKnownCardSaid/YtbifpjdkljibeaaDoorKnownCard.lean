/- For every input: corbellaw1.CauseKnown (at the commit in COMMIT) returns true and leaves its arguments as they were; the package variables that its code reads (errors.errorType; three tables of the library) are tied to the program's text by the card. No condition. -/
import Derived.Test.YtbifpjdkljibeaaDoorN6
import Derived.Test.YtbifpjdkljibeaaDoorCards
import Derived.Test.YtbifpjdkljibeaaDoorTie
import Derived.SevenTiedAt
namespace Go.Proofs.YtbifpjdkljibeaaDoor
open Go

theorem causeKnown_card : Rows.CauseKnownCardSaid :=
  Claim7.holds_tied_plain_at .later [] [.data, .data, .data, .handle] true (true, "5f58898c6e8f1a1b7434ea555eb671066e2a3382c6f8d2097edfa9f788d9bc96") true
    causeKnown_holds (fun _ h => by cases h) (by kernel_rfl) (fun _ h => by cases h) causeKnown_row_tie rfl ⟨rfl, rfl⟩ (by kernel_rfl) rfl
    (fun f fn hf hfn => by
      obtain rfl : f = 3 := Option.some.inj ((show Tryd.prog.funcNamed "corbel/corbellaw1.CauseKnown" = some 3 by kernel_rfl).symm.trans hf) |>.symm
      obtain rfl : fn = Tryd.f3 := (Option.some.inj (Tryd.func3.symm.trans hfn)).symm
      exact ⟨by kernel_rfl, fun j t ht => by
        rw [Tryd.params3] at ht
        simp at ht⟩)
    (by kernel_rfl)

end Go.Proofs.YtbifpjdkljibeaaDoor
