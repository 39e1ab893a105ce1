/-
  DERIVED. GIVEN WITH THE SEED: THE CARDS: each row of YtelmcchleclklaaGreatDoorRows.lean that lists a variable, with what it lists TIED to the program's text (the seventh form; the later family's looks); each row that meets fmt, with fmt's text TOLD by the authors' own Lean function (tested against real Go, not proved from fmt's source: count such statements apart). THE CARD IS WHAT COUNTS. Prove the row's statement (the work); the ties are given (YtelmcchleclklaaGreatDoorTie.lean); close each card by the builder's one call (the guide's Derived/Test/ToyasCard.lean, 'card_holds'). Laid BY PROGRAM, IN A SANDBOX (cutbox-door.mjs). By AI agents, Wed Nov 11 2026. No macro, syntax, notation, axiom, sorry.
-/
import Derived.Test.YtelmcchleclklaaGreatDoorRows
import GoSem.ClaimSeven
namespace Go.Proofs.YtelmcchleclklaaGreatDoor
namespace Rows

/-- THE TIED CARD OF 'corbellaw14.EngineKnown'. -/
def engineKnownCard : Claim7 := { stood := { row := engineKnownRow, standIns := [], harness := (true, "3a31a09b092d89ad80d72761a542328135b67ddab05140226f0af4a41b809407"), looks := true }, kinds := [], alts := [], laidByText := true, laidKinds := [.handle], laidTests := true, laidLooks := .later }
def EngineKnownCardSaid : Prop := Claim7.holds Tryz.pinned (.plain (OpenSpec.ofChange engineKnownSpec)) engineKnownCard

/-- THE TIED CARD OF 'corbellaw14.EngineActs'. -/
def engineActsCard : Claim7 := { stood := { row := engineActsRow, standIns := [], harness := (true, "3a31a09b092d89ad80d72761a542328135b67ddab05140226f0af4a41b809407"), looks := true }, kinds := [], alts := [], laidByText := true, laidKinds := [.handle], laidTests := true, laidLooks := .later }
def EngineActsCardSaid : Prop := Claim7.holds Tryz.pinned (.plain (OpenSpec.ofChange engineActsSpec)) engineActsCard

/-- THE TIED CARD OF 'corbellaw14.EngineTells'. -/
def engineTellsCard : Claim7 := { stood := { row := engineTellsRow, standIns := [], harness := (true, "3a31a09b092d89ad80d72761a542328135b67ddab05140226f0af4a41b809407"), looks := true }, kinds := [], alts := [], laidByText := true, laidKinds := [.handle], laidTests := true, laidLooks := .later }
def EngineTellsCardSaid : Prop := Claim7.holds Tryz.pinned (.plain (OpenSpec.ofChange engineTellsSpec)) engineTellsCard

/-- THE TIED CARD OF 'corbellaw15.OpenKnown'. -/
def openKnownCard : Claim7 := { stood := { row := openKnownRow, standIns := [], harness := (true, "3a31a09b092d89ad80d72761a542328135b67ddab05140226f0af4a41b809407"), looks := true }, kinds := [], alts := [], laidByText := true, laidKinds := [.handle], laidTests := true, laidLooks := .later }
def OpenKnownCardSaid : Prop := Claim7.holds Tryz.pinned (.plain (OpenSpec.ofChange openKnownSpec)) openKnownCard

/-- THE TIED CARD OF 'corbellaw15.OpenActs'. -/
def openActsCard : Claim7 := { stood := { row := openActsRow, standIns := [], harness := (true, "3a31a09b092d89ad80d72761a542328135b67ddab05140226f0af4a41b809407"), looks := true }, kinds := [], alts := [], laidByText := true, laidKinds := [.handle], laidTests := true, laidLooks := .later }
def OpenActsCardSaid : Prop := Claim7.holds Tryz.pinned (.plain (OpenSpec.ofChange openActsSpec)) openActsCard

/-- THE TIED CARD OF 'corbellaw15.OpenNeeds'. -/
def openNeedsCard : Claim7 := { stood := { row := openNeedsRow, standIns := [], harness := (true, "3a31a09b092d89ad80d72761a542328135b67ddab05140226f0af4a41b809407"), looks := true }, kinds := [], alts := [], laidByText := true, laidKinds := [.handle], laidTests := true, laidLooks := .later }
def OpenNeedsCardSaid : Prop := Claim7.holds Tryz.pinned (.plain (OpenSpec.ofChange openNeedsSpec)) openNeedsCard

/-- THE SECOND FORM's CARD OF 'corbellaw14.EngineKnown'. -/
def engineKnownUptoCard : Claim7 := { stood := { row := engineKnownUptoRow, standIns := [], harness := (true, "3a31a09b092d89ad80d72761a542328135b67ddab05140226f0af4a41b809407"), looks := true }, kinds := [], alts := [], laidByText := true, laidKinds := [.handle], laidTests := true, laidLooks := .later }
def EngineKnownUptoCardSaid : Prop := Claim7.holds Tryz.pinned (.plain (OpenSpec.upto engineKnownSpec)) engineKnownUptoCard

/-- THE SECOND FORM's CARD OF 'corbellaw14.EngineActs'. -/
def engineActsUptoCard : Claim7 := { stood := { row := engineActsUptoRow, standIns := [], harness := (true, "3a31a09b092d89ad80d72761a542328135b67ddab05140226f0af4a41b809407"), looks := true }, kinds := [], alts := [], laidByText := true, laidKinds := [.handle], laidTests := true, laidLooks := .later }
def EngineActsUptoCardSaid : Prop := Claim7.holds Tryz.pinned (.plain (OpenSpec.upto engineActsSpec)) engineActsUptoCard

/-- THE SECOND FORM's CARD OF 'corbellaw14.EngineTells'. -/
def engineTellsUptoCard : Claim7 := { stood := { row := engineTellsUptoRow, standIns := [], harness := (true, "3a31a09b092d89ad80d72761a542328135b67ddab05140226f0af4a41b809407"), looks := true }, kinds := [], alts := [], laidByText := true, laidKinds := [.handle], laidTests := true, laidLooks := .later }
def EngineTellsUptoCardSaid : Prop := Claim7.holds Tryz.pinned (.plain (OpenSpec.upto engineTellsSpec)) engineTellsUptoCard

/-- THE SECOND FORM's CARD OF 'corbellaw15.OpenKnown'. -/
def openKnownUptoCard : Claim7 := { stood := { row := openKnownUptoRow, standIns := [], harness := (true, "3a31a09b092d89ad80d72761a542328135b67ddab05140226f0af4a41b809407"), looks := true }, kinds := [], alts := [], laidByText := true, laidKinds := [.handle], laidTests := true, laidLooks := .later }
def OpenKnownUptoCardSaid : Prop := Claim7.holds Tryz.pinned (.plain (OpenSpec.upto openKnownSpec)) openKnownUptoCard

/-- THE SECOND FORM's CARD OF 'corbellaw15.OpenActs'. -/
def openActsUptoCard : Claim7 := { stood := { row := openActsUptoRow, standIns := [], harness := (true, "3a31a09b092d89ad80d72761a542328135b67ddab05140226f0af4a41b809407"), looks := true }, kinds := [], alts := [], laidByText := true, laidKinds := [.handle], laidTests := true, laidLooks := .later }
def OpenActsUptoCardSaid : Prop := Claim7.holds Tryz.pinned (.plain (OpenSpec.upto openActsSpec)) openActsUptoCard

/-- THE SECOND FORM's CARD OF 'corbellaw15.OpenNeeds'. -/
def openNeedsUptoCard : Claim7 := { stood := { row := openNeedsUptoRow, standIns := [], harness := (true, "3a31a09b092d89ad80d72761a542328135b67ddab05140226f0af4a41b809407"), looks := true }, kinds := [], alts := [], laidByText := true, laidKinds := [.handle], laidTests := true, laidLooks := .later }
def OpenNeedsUptoCardSaid : Prop := Claim7.holds Tryz.pinned (.plain (OpenSpec.upto openNeedsSpec)) openNeedsUptoCard
end Rows
end Go.Proofs.YtelmcchleclklaaGreatDoor
