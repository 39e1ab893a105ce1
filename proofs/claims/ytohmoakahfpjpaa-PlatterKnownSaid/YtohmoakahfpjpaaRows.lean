/-
  No cell of these rows narrows 'for every input' (looked for: loops, veiled, ifaces, maps, wideKeys, modest, calm, conditions, laid).
  DERIVED. THE GIVEN ROWS OF THIS SEAT. 4 by the template 'for every input the law returns true; each argument reads behind the call as it read before'; 0 by the template 'total and deterministic' (their statements: YtohmoakahfpjpaaTotals.lean).
  GIVEN WITH THE SEED: the statements are not yours to turn. If you find one false, say at which input.
  Laid BY PROGRAM, IN A SANDBOX (cutbox-rows.mjs): the forced cells as the released guide's own fill.sh prints them over the translation 5d9755006dc2eb56… (all of the seat's roots in one cut). By AI agents, Wed Nov 11 2026. No macro, syntax, notation, axiom, sorry.
-/
import Derived.Test.YtohmoakahfpjpaaChecked
import GoSem.Claim
import GoSem.ClaimJoined
import GoSem.ClaimMapViews
import Derived.JoinedTies
import Derived.KernelRfl
namespace Go.Proofs.Ytohmoakahfpjpaa
/- THE CELL 'sum', in the pinned program and in every row, IS THE sha256 OF THE DUMP (.gsa) THAT YtohmoakahfpjpaaProg.lean LOADS. Nothing in Lean hashes anything: it is a label: what it is worth is what the hold of that sum in a sandbox is worth. -/
noncomputable def Try.pinned : Pinned := { name := "ytohmoakahfpjpaa", sum := "5d9755006dc2eb560bb00f3243c83f6fb8e2ec76656639765049b433b7dfe3c8", checked := Try.checked }
namespace Rows
def none {H : Type} : Left H := { results := [], args := [] }

/-- 'corbellaw7.PlatterKnown': WHATEVER THE INPUT: true; the input reads as it did. -/
def platterKnownSpec : ChangeSpec := { name := "platterKnown", fn := fun _ => fun
  | [] => { results := [.lit (.bool true)], args := [] }
  | _ => none }
def platterKnownRow : OpenClaim := { program := "ytohmoakahfpjpaa", sum := "5d9755006dc2eb560bb00f3243c83f6fb8e2ec76656639765049b433b7dfe3c8", func := "corbel/corbellaw7.PlatterKnown", spec := "platterKnown", apart := false }
def PlatterKnownSaid : Prop := platterKnownRow.holds Try.pinned (OpenSpec.ofChange platterKnownSpec)

/-- ITS FALSE NEIGHBOUR: 'it returns false'. Refute it at one input. -/
def platterKnownWrong : ChangeSpec := { name := "platterKnown", fn := fun _ => fun
  | [] => { results := [.lit (.bool false)], args := [] }
  | _ => none }
def PlatterKnownWrongFalsely : Prop := platterKnownRow.holds Try.pinned (OpenSpec.ofChange platterKnownWrong)

/-- 'corbellaw7.PlatterActs': WHATEVER THE INPUT: true; the input reads as it did. -/
def platterActsSpec : ChangeSpec := { name := "platterActs", fn := fun _ => fun
  | [d1, d2] => { results := [.lit (.bool true)], args := [d1, d2] }
  | _ => none }
def platterActsRow : OpenClaim := { program := "ytohmoakahfpjpaa", sum := "5d9755006dc2eb560bb00f3243c83f6fb8e2ec76656639765049b433b7dfe3c8", func := "corbel/corbellaw7.PlatterActs", spec := "platterActs", apart := false }
def PlatterActsSaid : Prop := platterActsRow.holds Try.pinned (OpenSpec.ofChange platterActsSpec)

/-- ITS FALSE NEIGHBOUR: 'it returns false'. Refute it at one input. -/
def platterActsWrong : ChangeSpec := { name := "platterActs", fn := fun _ => fun
  | [d1, d2] => { results := [.lit (.bool false)], args := [d1, d2] }
  | _ => none }
def PlatterActsWrongFalsely : Prop := platterActsRow.holds Try.pinned (OpenSpec.ofChange platterActsWrong)

/-- 'corbellaw7.PlatterKeeps': WHATEVER THE INPUT: true; the input reads as it did. -/
def platterKeepsSpec : ChangeSpec := { name := "platterKeeps", fn := fun _ => fun
  | [d1, d2, d3] => { results := [.lit (.bool true)], args := [d1, d2, d3] }
  | _ => none }
def platterKeepsRow : OpenClaim := { program := "ytohmoakahfpjpaa", sum := "5d9755006dc2eb560bb00f3243c83f6fb8e2ec76656639765049b433b7dfe3c8", func := "corbel/corbellaw7.PlatterKeeps", spec := "platterKeeps", apart := false }
def PlatterKeepsSaid : Prop := platterKeepsRow.holds Try.pinned (OpenSpec.ofChange platterKeepsSpec)

/-- ITS FALSE NEIGHBOUR: 'it returns false'. Refute it at one input. -/
def platterKeepsWrong : ChangeSpec := { name := "platterKeeps", fn := fun _ => fun
  | [d1, d2, d3] => { results := [.lit (.bool false)], args := [d1, d2, d3] }
  | _ => none }
def PlatterKeepsWrongFalsely : Prop := platterKeepsRow.holds Try.pinned (OpenSpec.ofChange platterKeepsWrong)

/-- 'corbellaw7.PlatterOrder': WHATEVER THE INPUT: true; the input reads as it did. -/
def platterOrderSpec : ChangeSpec := { name := "platterOrder", fn := fun _ => fun
  | [d1, d2] => { results := [.lit (.bool true)], args := [d1, d2] }
  | _ => none }
def platterOrderRow : OpenClaim := { program := "ytohmoakahfpjpaa", sum := "5d9755006dc2eb560bb00f3243c83f6fb8e2ec76656639765049b433b7dfe3c8", func := "corbel/corbellaw7.PlatterOrder", spec := "platterOrder", apart := false }
def PlatterOrderSaid : Prop := platterOrderRow.holds Try.pinned (OpenSpec.ofChange platterOrderSpec)

/-- ITS FALSE NEIGHBOUR: 'it returns false'. Refute it at one input. -/
def platterOrderWrong : ChangeSpec := { name := "platterOrder", fn := fun _ => fun
  | [d1, d2] => { results := [.lit (.bool false)], args := [d1, d2] }
  | _ => none }
def PlatterOrderWrongFalsely : Prop := platterOrderRow.holds Try.pinned (OpenSpec.ofChange platterOrderWrong)

/- THE SECOND FORM. 'bulk': how many values and letters a reading holds, each counted each time it is reached (what is shared counts as often as it is met; a slice's spare places count too). A statement '..UptoSaid' is the law's where the arguments, and the package variables that the reading takes, are together of bulk at most 1048576: NARROWER than '..Said'. Prove '..Said' where nothing that the law and all that it calls make is longer than what came in: it says more and counts as full. Else prove '..UptoSaid'. A law counts once. -/
mutual
def uptoBulk {H : Type} : DataW H → Nat
  | .lit (.string bytes) => bytes.length + 1
  | .lit _ => 1
  | .nil => 1
  | .ptr d => uptoBulk d + 1
  | .slice elems spare => uptoBulkAll elems + uptoBulkAll spare + 1
  | .agg parts => uptoBulkAll parts + 1
  | .iface _ d => uptoBulk d + 1
  | .map entries => uptoBulkEntries entries + 1
  | .held _ => 1
def uptoBulkAll {H : Type} : List (DataW H) → Nat
  | [] => 0
  | d :: r => uptoBulk d + uptoBulkAll r
def uptoBulkEntries {H : Type} : List (Lit × DataW H) → Nat
  | [] => 0
  | x :: r => uptoBulkEntry x + uptoBulkEntries r
def uptoBulkEntry {H : Type} : Lit × DataW H → Nat
  | (.string bytes, d) => bytes.length + uptoBulk d + 1
  | (_, d) => uptoBulk d + 1
 end
def uptoSmall : (H : Type) → List (DataW H) → Bool := fun _ ds => decide (uptoBulkAll ds ≤ 1048576)
def OpenSpec.upto (s : _root_.Go.ChangeSpec) : _root_.Go.OpenSpec := { _root_.Go.OpenSpec.ofChange s with cond := some uptoSmall }

/-- 'corbellaw7.PlatterKnown', WHERE WHAT IT READS IS OF BULK AT MOST 1048576: true; the input reads as it did. -/
def platterKnownUptoRow : OpenClaim := { program := "ytohmoakahfpjpaa", sum := "5d9755006dc2eb560bb00f3243c83f6fb8e2ec76656639765049b433b7dfe3c8", func := "corbel/corbellaw7.PlatterKnown", spec := "platterKnown", apart := false, narrowed := true }
def PlatterKnownUptoSaid : Prop := platterKnownUptoRow.holds Try.pinned (OpenSpec.upto platterKnownSpec)

/-- 'corbellaw7.PlatterActs', WHERE WHAT IT READS IS OF BULK AT MOST 1048576: true; the input reads as it did. -/
def platterActsUptoRow : OpenClaim := { program := "ytohmoakahfpjpaa", sum := "5d9755006dc2eb560bb00f3243c83f6fb8e2ec76656639765049b433b7dfe3c8", func := "corbel/corbellaw7.PlatterActs", spec := "platterActs", apart := false, narrowed := true }
def PlatterActsUptoSaid : Prop := platterActsUptoRow.holds Try.pinned (OpenSpec.upto platterActsSpec)

/-- 'corbellaw7.PlatterKeeps', WHERE WHAT IT READS IS OF BULK AT MOST 1048576: true; the input reads as it did. -/
def platterKeepsUptoRow : OpenClaim := { program := "ytohmoakahfpjpaa", sum := "5d9755006dc2eb560bb00f3243c83f6fb8e2ec76656639765049b433b7dfe3c8", func := "corbel/corbellaw7.PlatterKeeps", spec := "platterKeeps", apart := false, narrowed := true }
def PlatterKeepsUptoSaid : Prop := platterKeepsUptoRow.holds Try.pinned (OpenSpec.upto platterKeepsSpec)

/-- 'corbellaw7.PlatterOrder', WHERE WHAT IT READS IS OF BULK AT MOST 1048576: true; the input reads as it did. -/
def platterOrderUptoRow : OpenClaim := { program := "ytohmoakahfpjpaa", sum := "5d9755006dc2eb560bb00f3243c83f6fb8e2ec76656639765049b433b7dfe3c8", func := "corbel/corbellaw7.PlatterOrder", spec := "platterOrder", apart := false, narrowed := true }
def PlatterOrderUptoSaid : Prop := platterOrderUptoRow.holds Try.pinned (OpenSpec.upto platterOrderSpec)

end Rows
end Go.Proofs.Ytohmoakahfpjpaa
