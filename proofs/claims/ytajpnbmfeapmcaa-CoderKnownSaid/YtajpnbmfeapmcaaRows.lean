/-
  No cell of these rows narrows 'for every input' (looked for: loops, veiled, ifaces, maps, wideKeys, modest, calm, conditions, laid).
  DERIVED. THE GIVEN ROWS OF THIS SEAT. 6 by the template 'for every input the law returns true; each argument reads behind the call as it read before'; 0 by the template 'total and deterministic' (their statements: YtajpnbmfeapmcaaTotals.lean).
  GIVEN WITH THE SEED: the statements are not yours to turn. If you find one false, say at which input.
  Laid BY PROGRAM, IN A SANDBOX (cutbox-rows.mjs): the forced cells as the released guide's own fill.sh prints them over the translation c512713299c48b0c… (all of the seat's roots in one cut). By AI agents, Wed Nov 11 2026. No macro, syntax, notation, axiom, sorry.
-/
import Derived.Test.YtajpnbmfeapmcaaChecked
import GoSem.Claim
import GoSem.ClaimJoined
import GoSem.ClaimMapViews
import Derived.JoinedTies
import Derived.KernelRfl
namespace Go.Proofs.Ytajpnbmfeapmcaa
/- THE CELL 'sum', in the pinned program and in every row, IS THE sha256 OF THE DUMP (.gsa) THAT YtajpnbmfeapmcaaProg.lean LOADS. Nothing in Lean hashes anything: it is a label: what it is worth is what the hold of that sum in a sandbox is worth. -/
noncomputable def Try.pinned : Pinned := { name := "ytajpnbmfeapmcaa", sum := "c512713299c48b0c311b781ec23cd853587dab4370846ef6ecd71a9c10f9e76c", checked := Try.checked }
namespace Rows
def none {H : Type} : Left H := { results := [], args := [] }

/-- 'corbellaw5.CoderKnown': WHATEVER THE INPUT: true; the input reads as it did. -/
def coderKnownSpec : ChangeSpec := { name := "coderKnown", fn := fun _ => fun
  | [] => { results := [.lit (.bool true)], args := [] }
  | _ => none }
def coderKnownRow : OpenClaim := { program := "ytajpnbmfeapmcaa", sum := "c512713299c48b0c311b781ec23cd853587dab4370846ef6ecd71a9c10f9e76c", func := "corbel/corbellaw5.CoderKnown", spec := "coderKnown", unfollowed := true, recurses := true, apart := false }
def CoderKnownSaid : Prop := coderKnownRow.holds Try.pinned (OpenSpec.ofChange coderKnownSpec)

/-- ITS FALSE NEIGHBOUR: 'it returns false'. Refute it at one input. -/
def coderKnownWrong : ChangeSpec := { name := "coderKnown", fn := fun _ => fun
  | [] => { results := [.lit (.bool false)], args := [] }
  | _ => none }
def CoderKnownWrongFalsely : Prop := coderKnownRow.holds Try.pinned (OpenSpec.ofChange coderKnownWrong)

/-- 'corbellaw5.CoderTells': WHATEVER THE INPUT: true; the input reads as it did. -/
def coderTellsSpec : ChangeSpec := { name := "coderTells", fn := fun _ => fun
  | [d1, d2, d3, d4, d5, d6] => { results := [.lit (.bool true)], args := [d1, d2, d3, d4, d5, d6] }
  | _ => none }
def coderTellsRow : OpenClaim := { program := "ytajpnbmfeapmcaa", sum := "c512713299c48b0c311b781ec23cd853587dab4370846ef6ecd71a9c10f9e76c", func := "corbel/corbellaw5.CoderTells", spec := "coderTells", unfollowed := true, recurses := true, apart := false }
def CoderTellsSaid : Prop := coderTellsRow.holds Try.pinned (OpenSpec.ofChange coderTellsSpec)

/-- ITS FALSE NEIGHBOUR: 'it returns false'. Refute it at one input. -/
def coderTellsWrong : ChangeSpec := { name := "coderTells", fn := fun _ => fun
  | [d1, d2, d3, d4, d5, d6] => { results := [.lit (.bool false)], args := [d1, d2, d3, d4, d5, d6] }
  | _ => none }
def CoderTellsWrongFalsely : Prop := coderTellsRow.holds Try.pinned (OpenSpec.ofChange coderTellsWrong)

/-- 'corbellaw5.CoderBack': WHATEVER THE INPUT: true; the input reads as it did. -/
def coderBackSpec : ChangeSpec := { name := "coderBack", fn := fun _ => fun
  | [d1, d2, d3] => { results := [.lit (.bool true)], args := [d1, d2, d3] }
  | _ => none }
def coderBackRow : OpenClaim := { program := "ytajpnbmfeapmcaa", sum := "c512713299c48b0c311b781ec23cd853587dab4370846ef6ecd71a9c10f9e76c", func := "corbel/corbellaw5.CoderBack", spec := "coderBack", unfollowed := true, recurses := true, apart := false }
def CoderBackSaid : Prop := coderBackRow.holds Try.pinned (OpenSpec.ofChange coderBackSpec)

/-- ITS FALSE NEIGHBOUR: 'it returns false'. Refute it at one input. -/
def coderBackWrong : ChangeSpec := { name := "coderBack", fn := fun _ => fun
  | [d1, d2, d3] => { results := [.lit (.bool false)], args := [d1, d2, d3] }
  | _ => none }
def CoderBackWrongFalsely : Prop := coderBackRow.holds Try.pinned (OpenSpec.ofChange coderBackWrong)

/-- 'corbellaw5.CoderDeltas': WHATEVER THE INPUT: true; the input reads as it did. -/
def coderDeltasSpec : ChangeSpec := { name := "coderDeltas", fn := fun _ => fun
  | [d1, d2, d3] => { results := [.lit (.bool true)], args := [d1, d2, d3] }
  | _ => none }
def coderDeltasRow : OpenClaim := { program := "ytajpnbmfeapmcaa", sum := "c512713299c48b0c311b781ec23cd853587dab4370846ef6ecd71a9c10f9e76c", func := "corbel/corbellaw5.CoderDeltas", spec := "coderDeltas", unfollowed := true, recurses := true, apart := false }
def CoderDeltasSaid : Prop := coderDeltasRow.holds Try.pinned (OpenSpec.ofChange coderDeltasSpec)

/-- ITS FALSE NEIGHBOUR: 'it returns false'. Refute it at one input. -/
def coderDeltasWrong : ChangeSpec := { name := "coderDeltas", fn := fun _ => fun
  | [d1, d2, d3] => { results := [.lit (.bool false)], args := [d1, d2, d3] }
  | _ => none }
def CoderDeltasWrongFalsely : Prop := coderDeltasRow.holds Try.pinned (OpenSpec.ofChange coderDeltasWrong)

/-- 'corbellaw5.CoderAdds': WHATEVER THE INPUT: true; the input reads as it did. -/
def coderAddsSpec : ChangeSpec := { name := "coderAdds", fn := fun _ => fun
  | [d1, d2] => { results := [.lit (.bool true)], args := [d1, d2] }
  | _ => none }
def coderAddsRow : OpenClaim := { program := "ytajpnbmfeapmcaa", sum := "c512713299c48b0c311b781ec23cd853587dab4370846ef6ecd71a9c10f9e76c", func := "corbel/corbellaw5.CoderAdds", spec := "coderAdds", unfollowed := true, recurses := true, apart := false }
def CoderAddsSaid : Prop := coderAddsRow.holds Try.pinned (OpenSpec.ofChange coderAddsSpec)

/-- ITS FALSE NEIGHBOUR: 'it returns false'. Refute it at one input. -/
def coderAddsWrong : ChangeSpec := { name := "coderAdds", fn := fun _ => fun
  | [d1, d2] => { results := [.lit (.bool false)], args := [d1, d2] }
  | _ => none }
def CoderAddsWrongFalsely : Prop := coderAddsRow.holds Try.pinned (OpenSpec.ofChange coderAddsWrong)

/-- 'corbellaw5.CoderChecks': WHATEVER THE INPUT: true; the input reads as it did. -/
def coderChecksSpec : ChangeSpec := { name := "coderChecks", fn := fun _ => fun
  | [d1, d2, d3, d4] => { results := [.lit (.bool true)], args := [d1, d2, d3, d4] }
  | _ => none }
def coderChecksRow : OpenClaim := { program := "ytajpnbmfeapmcaa", sum := "c512713299c48b0c311b781ec23cd853587dab4370846ef6ecd71a9c10f9e76c", func := "corbel/corbellaw5.CoderChecks", spec := "coderChecks", unfollowed := true, recurses := true, apart := false }
def CoderChecksSaid : Prop := coderChecksRow.holds Try.pinned (OpenSpec.ofChange coderChecksSpec)

/-- ITS FALSE NEIGHBOUR: 'it returns false'. Refute it at one input. -/
def coderChecksWrong : ChangeSpec := { name := "coderChecks", fn := fun _ => fun
  | [d1, d2, d3, d4] => { results := [.lit (.bool false)], args := [d1, d2, d3, d4] }
  | _ => none }
def CoderChecksWrongFalsely : Prop := coderChecksRow.holds Try.pinned (OpenSpec.ofChange coderChecksWrong)

/- THE SECOND FORM. 'bulk': how many values and letters a reading holds, each counted each time it is reached (what is shared counts as often as it is met; a slice's spare places count too). A statement '..UptoSaid' is the law's where the arguments, and the package variables that the reading takes, are together of bulk at most 1048576: NARROWER than '..Said'. Prove '..Said' where nothing that the law and all that it calls make is longer than what came in: it says more and counts as full. Else prove '..UptoSaid'. A law counts once. -/
mutual
def uptoBulk {H : Type} : DataW H → Nat
  | .lit (.string bytes) => bytes.length + 1
  | .lit _ => 1
  | .nil => 1
  | .ptr d => uptoBulk d + 1
  | .slice elems spare => uptoBulkAll elems + uptoBulkAll spare + 1
  | .agg parts => uptoBulkAll parts + 1
  | .iface _ d => uptoBulk d + 1
  | .map entries => uptoBulkEntries entries + 1
  | .held _ => 1
def uptoBulkAll {H : Type} : List (DataW H) → Nat
  | [] => 0
  | d :: r => uptoBulk d + uptoBulkAll r
def uptoBulkEntries {H : Type} : List (Lit × DataW H) → Nat
  | [] => 0
  | x :: r => uptoBulkEntry x + uptoBulkEntries r
def uptoBulkEntry {H : Type} : Lit × DataW H → Nat
  | (.string bytes, d) => bytes.length + uptoBulk d + 1
  | (_, d) => uptoBulk d + 1
 end
def uptoSmall : (H : Type) → List (DataW H) → Bool := fun _ ds => decide (uptoBulkAll ds ≤ 1048576)
def OpenSpec.upto (s : _root_.Go.ChangeSpec) : _root_.Go.OpenSpec := { _root_.Go.OpenSpec.ofChange s with cond := some uptoSmall }

/-- 'corbellaw5.CoderKnown', WHERE WHAT IT READS IS OF BULK AT MOST 1048576: true; the input reads as it did. -/
def coderKnownUptoRow : OpenClaim := { program := "ytajpnbmfeapmcaa", sum := "c512713299c48b0c311b781ec23cd853587dab4370846ef6ecd71a9c10f9e76c", func := "corbel/corbellaw5.CoderKnown", spec := "coderKnown", unfollowed := true, recurses := true, apart := false, narrowed := true }
def CoderKnownUptoSaid : Prop := coderKnownUptoRow.holds Try.pinned (OpenSpec.upto coderKnownSpec)

/-- 'corbellaw5.CoderTells', WHERE WHAT IT READS IS OF BULK AT MOST 1048576: true; the input reads as it did. -/
def coderTellsUptoRow : OpenClaim := { program := "ytajpnbmfeapmcaa", sum := "c512713299c48b0c311b781ec23cd853587dab4370846ef6ecd71a9c10f9e76c", func := "corbel/corbellaw5.CoderTells", spec := "coderTells", unfollowed := true, recurses := true, apart := false, narrowed := true }
def CoderTellsUptoSaid : Prop := coderTellsUptoRow.holds Try.pinned (OpenSpec.upto coderTellsSpec)

/-- 'corbellaw5.CoderBack', WHERE WHAT IT READS IS OF BULK AT MOST 1048576: true; the input reads as it did. -/
def coderBackUptoRow : OpenClaim := { program := "ytajpnbmfeapmcaa", sum := "c512713299c48b0c311b781ec23cd853587dab4370846ef6ecd71a9c10f9e76c", func := "corbel/corbellaw5.CoderBack", spec := "coderBack", unfollowed := true, recurses := true, apart := false, narrowed := true }
def CoderBackUptoSaid : Prop := coderBackUptoRow.holds Try.pinned (OpenSpec.upto coderBackSpec)

/-- 'corbellaw5.CoderDeltas', WHERE WHAT IT READS IS OF BULK AT MOST 1048576: true; the input reads as it did. -/
def coderDeltasUptoRow : OpenClaim := { program := "ytajpnbmfeapmcaa", sum := "c512713299c48b0c311b781ec23cd853587dab4370846ef6ecd71a9c10f9e76c", func := "corbel/corbellaw5.CoderDeltas", spec := "coderDeltas", unfollowed := true, recurses := true, apart := false, narrowed := true }
def CoderDeltasUptoSaid : Prop := coderDeltasUptoRow.holds Try.pinned (OpenSpec.upto coderDeltasSpec)

/-- 'corbellaw5.CoderAdds', WHERE WHAT IT READS IS OF BULK AT MOST 1048576: true; the input reads as it did. -/
def coderAddsUptoRow : OpenClaim := { program := "ytajpnbmfeapmcaa", sum := "c512713299c48b0c311b781ec23cd853587dab4370846ef6ecd71a9c10f9e76c", func := "corbel/corbellaw5.CoderAdds", spec := "coderAdds", unfollowed := true, recurses := true, apart := false, narrowed := true }
def CoderAddsUptoSaid : Prop := coderAddsUptoRow.holds Try.pinned (OpenSpec.upto coderAddsSpec)

/-- 'corbellaw5.CoderChecks', WHERE WHAT IT READS IS OF BULK AT MOST 1048576: true; the input reads as it did. -/
def coderChecksUptoRow : OpenClaim := { program := "ytajpnbmfeapmcaa", sum := "c512713299c48b0c311b781ec23cd853587dab4370846ef6ecd71a9c10f9e76c", func := "corbel/corbellaw5.CoderChecks", spec := "coderChecks", unfollowed := true, recurses := true, apart := false, narrowed := true }
def CoderChecksUptoSaid : Prop := coderChecksUptoRow.holds Try.pinned (OpenSpec.upto coderChecksSpec)

end Rows
end Go.Proofs.Ytajpnbmfeapmcaa
