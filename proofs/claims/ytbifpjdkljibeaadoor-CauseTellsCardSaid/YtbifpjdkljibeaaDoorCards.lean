/-
  DERIVED. GIVEN WITH THE SEED: THE CARDS: each row of YtbifpjdkljibeaaDoorRows.lean that lists a variable, with what it lists TIED to the program's text (the seventh form; the later family's looks); each row that meets fmt, with fmt's text TOLD by the authors' own Lean function (tested against real Go, not proved from fmt's source: count such statements apart). THE CARD IS WHAT COUNTS. Prove the row's statement (the work); the ties are given (YtbifpjdkljibeaaDoorTie.lean); close each card by the builder's one call (the guide's Derived/Test/ToyasCard.lean, 'card_holds'). Laid BY PROGRAM, IN A SANDBOX (cutbox-door.mjs). By AI agents, Wed Nov 11 2026. No macro, syntax, notation, axiom, sorry.
-/
import Derived.Test.YtbifpjdkljibeaaDoorRows
import GoSem.ClaimSeven
namespace Go.Proofs.YtbifpjdkljibeaaDoor
namespace Rows

/-- THE TIED CARD OF 'corbellaw1.CauseKnown'. -/
def causeKnownCard : Claim7 := { stood := { row := causeKnownRow, standIns := [], harness := (true, "5f58898c6e8f1a1b7434ea555eb671066e2a3382c6f8d2097edfa9f788d9bc96"), looks := true }, kinds := [], alts := [], laidByText := true, laidKinds := [.data, .data, .data, .handle], laidTests := true, laidLooks := .later }
def CauseKnownCardSaid : Prop := Claim7.holds Tryd.pinned (.plain (OpenSpec.ofChange causeKnownSpec)) causeKnownCard

/-- THE TIED CARD OF 'corbellaw1.CauseTells'. -/
def causeTellsCard : Claim7 := { stood := { row := causeTellsRow, standIns := [], harness := (true, "5f58898c6e8f1a1b7434ea555eb671066e2a3382c6f8d2097edfa9f788d9bc96"), looks := true }, kinds := [], alts := [], laidByText := true, laidKinds := [.handle], laidTests := true, laidLooks := .later }
def CauseTellsCardSaid : Prop := Claim7.holds Tryd.pinned (.plain (OpenSpec.ofChange causeTellsSpec)) causeTellsCard

/-- THE TIED CARD OF 'corbellaw1.CauseWraps'. -/
def causeWrapsCard : Claim7 := { stood := { row := causeWrapsRow, standIns := [], harness := (true, "5f58898c6e8f1a1b7434ea555eb671066e2a3382c6f8d2097edfa9f788d9bc96"), looks := true }, kinds := [], alts := [], laidByText := true, laidKinds := [.handle], laidTests := true, laidLooks := .later }
def CauseWrapsCardSaid : Prop := Claim7.holds Tryd.pinned (.plain (OpenSpec.ofChange causeWrapsSpec)) causeWrapsCard

/-- THE TIED CARD OF 'corbellaw1.CauseNodes'. -/
def causeNodesCard : Claim7 := { stood := { row := causeNodesRow, standIns := [], harness := (true, "5f58898c6e8f1a1b7434ea555eb671066e2a3382c6f8d2097edfa9f788d9bc96"), looks := true }, kinds := [], alts := [], laidByText := true, laidKinds := [.handle], laidTests := true, laidLooks := .later }
def CauseNodesCardSaid : Prop := Claim7.holds Tryd.pinned (.plain (OpenSpec.ofChange causeNodesSpec)) causeNodesCard

/-- THE TIED CARD OF 'corbellaw1.CauseFirst'. -/
def causeFirstCard : Claim7 := { stood := { row := causeFirstRow, standIns := [], harness := (true, "5f58898c6e8f1a1b7434ea555eb671066e2a3382c6f8d2097edfa9f788d9bc96"), looks := true }, kinds := [], alts := [], laidByText := true, laidKinds := [.handle], laidTests := true, laidLooks := .later }
def CauseFirstCardSaid : Prop := Claim7.holds Tryd.pinned (.plain (OpenSpec.ofChange causeFirstSpec)) causeFirstCard

/-- THE SECOND FORM's CARD OF 'corbellaw1.CauseKnown'. -/
def causeKnownUptoCard : Claim7 := { stood := { row := causeKnownUptoRow, standIns := [], harness := (true, "5f58898c6e8f1a1b7434ea555eb671066e2a3382c6f8d2097edfa9f788d9bc96"), looks := true }, kinds := [], alts := [], laidByText := true, laidKinds := [.data, .data, .data, .handle], laidTests := true, laidLooks := .later }
def CauseKnownUptoCardSaid : Prop := Claim7.holds Tryd.pinned (.plain (OpenSpec.upto causeKnownSpec)) causeKnownUptoCard

/-- THE SECOND FORM's CARD OF 'corbellaw1.CauseTells'. -/
def causeTellsUptoCard : Claim7 := { stood := { row := causeTellsUptoRow, standIns := [], harness := (true, "5f58898c6e8f1a1b7434ea555eb671066e2a3382c6f8d2097edfa9f788d9bc96"), looks := true }, kinds := [], alts := [], laidByText := true, laidKinds := [.handle], laidTests := true, laidLooks := .later }
def CauseTellsUptoCardSaid : Prop := Claim7.holds Tryd.pinned (.plain (OpenSpec.upto causeTellsSpec)) causeTellsUptoCard

/-- THE SECOND FORM's CARD OF 'corbellaw1.CauseWraps'. -/
def causeWrapsUptoCard : Claim7 := { stood := { row := causeWrapsUptoRow, standIns := [], harness := (true, "5f58898c6e8f1a1b7434ea555eb671066e2a3382c6f8d2097edfa9f788d9bc96"), looks := true }, kinds := [], alts := [], laidByText := true, laidKinds := [.handle], laidTests := true, laidLooks := .later }
def CauseWrapsUptoCardSaid : Prop := Claim7.holds Tryd.pinned (.plain (OpenSpec.upto causeWrapsSpec)) causeWrapsUptoCard

/-- THE SECOND FORM's CARD OF 'corbellaw1.CauseNodes'. -/
def causeNodesUptoCard : Claim7 := { stood := { row := causeNodesUptoRow, standIns := [], harness := (true, "5f58898c6e8f1a1b7434ea555eb671066e2a3382c6f8d2097edfa9f788d9bc96"), looks := true }, kinds := [], alts := [], laidByText := true, laidKinds := [.handle], laidTests := true, laidLooks := .later }
def CauseNodesUptoCardSaid : Prop := Claim7.holds Tryd.pinned (.plain (OpenSpec.upto causeNodesSpec)) causeNodesUptoCard

/-- THE SECOND FORM's CARD OF 'corbellaw1.CauseFirst'. -/
def causeFirstUptoCard : Claim7 := { stood := { row := causeFirstUptoRow, standIns := [], harness := (true, "5f58898c6e8f1a1b7434ea555eb671066e2a3382c6f8d2097edfa9f788d9bc96"), looks := true }, kinds := [], alts := [], laidByText := true, laidKinds := [.handle], laidTests := true, laidLooks := .later }
def CauseFirstUptoCardSaid : Prop := Claim7.holds Tryd.pinned (.plain (OpenSpec.upto causeFirstSpec)) causeFirstUptoCard
end Rows
end Go.Proofs.YtbifpjdkljibeaaDoor
