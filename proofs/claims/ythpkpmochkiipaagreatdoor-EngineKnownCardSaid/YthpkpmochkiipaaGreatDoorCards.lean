/-
  DERIVED. GIVEN WITH THE SEED: THE CARDS: each row of YthpkpmochkiipaaGreatDoorRows.lean that lists a variable, with what it lists TIED to the program's text (the seventh form; the later family's looks); each row that meets fmt, with fmt's text TOLD by the authors' own Lean function (tested against real Go, not proved from fmt's source: count such statements apart). THE CARD IS WHAT COUNTS. Prove the row's statement (the work); the ties are given (YthpkpmochkiipaaGreatDoorTie.lean); close each card by the builder's one call (the guide's Derived/Test/ToyasCard.lean, 'card_holds'). Laid BY PROGRAM, IN A SANDBOX (cutbox-door.mjs). By AI agents, Wed Nov 11 2026. No macro, syntax, notation, axiom, sorry.
-/
import Derived.Test.YthpkpmochkiipaaGreatDoorRows
import GoSem.ClaimSeven
namespace Go.Proofs.YthpkpmochkiipaaGreatDoor
namespace Rows

/-- THE TIED CARD OF 'corbellaw14.EngineKnown'. -/
def engineKnownCard : Claim7 := { stood := { row := engineKnownRow, standIns := [], harness := (true, "bf145932203e9630105735b591054693a89c49c3cfe828c64dc13e2eeab67425"), looks := true }, kinds := [], alts := [], laidByText := true, laidKinds := [.handle], laidTests := true, laidLooks := .later }
def EngineKnownCardSaid : Prop := Claim7.holds Tryz.pinned (.plain (OpenSpec.ofChange engineKnownSpec)) engineKnownCard

/-- THE TIED CARD OF 'corbellaw14.EngineActs'. -/
def engineActsCard : Claim7 := { stood := { row := engineActsRow, standIns := [], harness := (true, "bf145932203e9630105735b591054693a89c49c3cfe828c64dc13e2eeab67425"), looks := true }, kinds := [], alts := [], laidByText := true, laidKinds := [.handle], laidTests := true, laidLooks := .later }
def EngineActsCardSaid : Prop := Claim7.holds Tryz.pinned (.plain (OpenSpec.ofChange engineActsSpec)) engineActsCard

/-- THE TIED CARD OF 'corbellaw14.EngineTells'. -/
def engineTellsCard : Claim7 := { stood := { row := engineTellsRow, standIns := [], harness := (true, "bf145932203e9630105735b591054693a89c49c3cfe828c64dc13e2eeab67425"), looks := true }, kinds := [], alts := [], laidByText := true, laidKinds := [.handle], laidTests := true, laidLooks := .later }
def EngineTellsCardSaid : Prop := Claim7.holds Tryz.pinned (.plain (OpenSpec.ofChange engineTellsSpec)) engineTellsCard

/-- THE SECOND FORM's CARD OF 'corbellaw14.EngineKnown'. -/
def engineKnownUptoCard : Claim7 := { stood := { row := engineKnownUptoRow, standIns := [], harness := (true, "bf145932203e9630105735b591054693a89c49c3cfe828c64dc13e2eeab67425"), looks := true }, kinds := [], alts := [], laidByText := true, laidKinds := [.handle], laidTests := true, laidLooks := .later }
def EngineKnownUptoCardSaid : Prop := Claim7.holds Tryz.pinned (.plain (OpenSpec.upto engineKnownSpec)) engineKnownUptoCard

/-- THE SECOND FORM's CARD OF 'corbellaw14.EngineActs'. -/
def engineActsUptoCard : Claim7 := { stood := { row := engineActsUptoRow, standIns := [], harness := (true, "bf145932203e9630105735b591054693a89c49c3cfe828c64dc13e2eeab67425"), looks := true }, kinds := [], alts := [], laidByText := true, laidKinds := [.handle], laidTests := true, laidLooks := .later }
def EngineActsUptoCardSaid : Prop := Claim7.holds Tryz.pinned (.plain (OpenSpec.upto engineActsSpec)) engineActsUptoCard

/-- THE SECOND FORM's CARD OF 'corbellaw14.EngineTells'. -/
def engineTellsUptoCard : Claim7 := { stood := { row := engineTellsUptoRow, standIns := [], harness := (true, "bf145932203e9630105735b591054693a89c49c3cfe828c64dc13e2eeab67425"), looks := true }, kinds := [], alts := [], laidByText := true, laidKinds := [.handle], laidTests := true, laidLooks := .later }
def EngineTellsUptoCardSaid : Prop := Claim7.holds Tryz.pinned (.plain (OpenSpec.upto engineTellsSpec)) engineTellsUptoCard
end Rows
end Go.Proofs.YthpkpmochkiipaaGreatDoor
