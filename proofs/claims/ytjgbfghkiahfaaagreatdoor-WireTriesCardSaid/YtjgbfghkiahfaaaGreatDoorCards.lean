/-
  DERIVED. GIVEN WITH THE SEED: THE CARDS: each row of YtjgbfghkiahfaaaGreatDoorRows.lean that lists a variable, with what it lists TIED to the program's text (the seventh form; the later family's looks); each row that meets fmt, with fmt's text TOLD by the authors' own Lean function (tested against real Go, not proved from fmt's source: count such statements apart). THE CARD IS WHAT COUNTS. Prove the row's statement (the work); the ties are given (YtjgbfghkiahfaaaGreatDoorTie.lean); close each card by the builder's one call (the guide's Derived/Test/ToyasCard.lean, 'card_holds'). Laid BY PROGRAM, IN A SANDBOX (cutbox-door.mjs). By AI agents, Wed Nov 11 2026. No macro, syntax, notation, axiom, sorry.
-/
import Derived.Test.YtjgbfghkiahfaaaGreatDoorRows
import GoSem.ClaimSeven
namespace Go.Proofs.YtjgbfghkiahfaaaGreatDoor
namespace Rows

/-- THE TIED CARD OF 'corbellaw12.WireKnown'. -/
def wireKnownCard : Claim7 := { stood := { row := wireKnownRow, standIns := [], harness := (true, "27124b2b5009e46b9f94e35277ab9637b43325024427dd22f393f3279fba9718"), looks := true }, kinds := [], alts := [], laidByText := true, laidKinds := [.handle], laidTests := true, laidLooks := .later }
def WireKnownCardSaid : Prop := Claim7.holds Tryz.pinned (.plain (OpenSpec.ofChange wireKnownSpec)) wireKnownCard

/-- THE TIED CARD OF 'corbellaw12.WireTries'. -/
def wireTriesCard : Claim7 := { stood := { row := wireTriesRow, standIns := [], harness := (true, "27124b2b5009e46b9f94e35277ab9637b43325024427dd22f393f3279fba9718"), looks := true }, kinds := [], alts := [], laidByText := true, laidKinds := [.handle], laidTests := true, laidLooks := .later }
def WireTriesCardSaid : Prop := Claim7.holds Tryz.pinned (.plain (OpenSpec.ofChange wireTriesSpec)) wireTriesCard

/-- THE TIED CARD OF 'corbellaw12.WireDown'. -/
def wireDownCard : Claim7 := { stood := { row := wireDownRow, standIns := [], harness := (true, "27124b2b5009e46b9f94e35277ab9637b43325024427dd22f393f3279fba9718"), looks := true }, kinds := [], alts := [], laidByText := true, laidKinds := [.handle], laidTests := true, laidLooks := .later }
def WireDownCardSaid : Prop := Claim7.holds Tryz.pinned (.plain (OpenSpec.ofChange wireDownSpec)) wireDownCard

/-- THE SECOND FORM's CARD OF 'corbellaw12.WireKnown'. -/
def wireKnownUptoCard : Claim7 := { stood := { row := wireKnownUptoRow, standIns := [], harness := (true, "27124b2b5009e46b9f94e35277ab9637b43325024427dd22f393f3279fba9718"), looks := true }, kinds := [], alts := [], laidByText := true, laidKinds := [.handle], laidTests := true, laidLooks := .later }
def WireKnownUptoCardSaid : Prop := Claim7.holds Tryz.pinned (.plain (OpenSpec.upto wireKnownSpec)) wireKnownUptoCard

/-- THE SECOND FORM's CARD OF 'corbellaw12.WireTries'. -/
def wireTriesUptoCard : Claim7 := { stood := { row := wireTriesUptoRow, standIns := [], harness := (true, "27124b2b5009e46b9f94e35277ab9637b43325024427dd22f393f3279fba9718"), looks := true }, kinds := [], alts := [], laidByText := true, laidKinds := [.handle], laidTests := true, laidLooks := .later }
def WireTriesUptoCardSaid : Prop := Claim7.holds Tryz.pinned (.plain (OpenSpec.upto wireTriesSpec)) wireTriesUptoCard

/-- THE SECOND FORM's CARD OF 'corbellaw12.WireDown'. -/
def wireDownUptoCard : Claim7 := { stood := { row := wireDownUptoRow, standIns := [], harness := (true, "27124b2b5009e46b9f94e35277ab9637b43325024427dd22f393f3279fba9718"), looks := true }, kinds := [], alts := [], laidByText := true, laidKinds := [.handle], laidTests := true, laidLooks := .later }
def WireDownUptoCardSaid : Prop := Claim7.holds Tryz.pinned (.plain (OpenSpec.upto wireDownSpec)) wireDownUptoCard
end Rows
end Go.Proofs.YtjgbfghkiahfaaaGreatDoor
