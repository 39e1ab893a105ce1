/-
  DERIVED. GIVEN WITH THE SEED: THE CARDS: each row of YtobkmohoepgfmaaGreatDoorRows.lean that lists a variable, with what it lists TIED to the program's text (the seventh form; the later family's looks); each row that meets fmt, with fmt's text TOLD by the authors' own Lean function (tested against real Go, not proved from fmt's source: count such statements apart). THE CARD IS WHAT COUNTS. Prove the row's statement (the work); the ties are given (YtobkmohoepgfmaaGreatDoorTie.lean); close each card by the builder's one call (the guide's Derived/Test/ToyasCard.lean, 'card_holds'). Laid BY PROGRAM, IN A SANDBOX (cutbox-door.mjs). By AI agents, Wed Nov 11 2026. No macro, syntax, notation, axiom, sorry.
-/
import Derived.Test.YtobkmohoepgfmaaGreatDoorRows
import GoSem.ClaimSeven
namespace Go.Proofs.YtobkmohoepgfmaaGreatDoor
namespace Rows

/-- THE TIED CARD OF 'corbellaw15.OpenKnown'. -/
def openKnownCard : Claim7 := { stood := { row := openKnownRow, standIns := [], harness := (true, "cc8c95f7faff6101e218d084759f89b4d18d6281f272bf8795b2f1ac8a74868e"), looks := true }, kinds := [], alts := [], laidByText := true, laidKinds := [.handle], laidTests := true, laidLooks := .later }
def OpenKnownCardSaid : Prop := Claim7.holds Tryz.pinned (.plain (OpenSpec.ofChange openKnownSpec)) openKnownCard

/-- THE TIED CARD OF 'corbellaw15.OpenNeeds'. -/
def openNeedsCard : Claim7 := { stood := { row := openNeedsRow, standIns := [], harness := (true, "cc8c95f7faff6101e218d084759f89b4d18d6281f272bf8795b2f1ac8a74868e"), looks := true }, kinds := [], alts := [], laidByText := true, laidKinds := [.handle], laidTests := true, laidLooks := .later }
def OpenNeedsCardSaid : Prop := Claim7.holds Tryz.pinned (.plain (OpenSpec.ofChange openNeedsSpec)) openNeedsCard

/-- THE SECOND FORM's CARD OF 'corbellaw15.OpenKnown'. -/
def openKnownUptoCard : Claim7 := { stood := { row := openKnownUptoRow, standIns := [], harness := (true, "cc8c95f7faff6101e218d084759f89b4d18d6281f272bf8795b2f1ac8a74868e"), looks := true }, kinds := [], alts := [], laidByText := true, laidKinds := [.handle], laidTests := true, laidLooks := .later }
def OpenKnownUptoCardSaid : Prop := Claim7.holds Tryz.pinned (.plain (OpenSpec.upto openKnownSpec)) openKnownUptoCard

/-- THE SECOND FORM's CARD OF 'corbellaw15.OpenNeeds'. -/
def openNeedsUptoCard : Claim7 := { stood := { row := openNeedsUptoRow, standIns := [], harness := (true, "cc8c95f7faff6101e218d084759f89b4d18d6281f272bf8795b2f1ac8a74868e"), looks := true }, kinds := [], alts := [], laidByText := true, laidKinds := [.handle], laidTests := true, laidLooks := .later }
def OpenNeedsUptoCardSaid : Prop := Claim7.holds Tryz.pinned (.plain (OpenSpec.upto openNeedsSpec)) openNeedsUptoCard
end Rows
end Go.Proofs.YtobkmohoepgfmaaGreatDoor
