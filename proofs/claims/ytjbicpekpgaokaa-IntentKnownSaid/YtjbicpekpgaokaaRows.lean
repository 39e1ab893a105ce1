/-
  No cell of these rows narrows 'for every input' (looked for: loops, veiled, ifaces, maps, wideKeys, modest, calm, conditions, laid).
  DERIVED. THE GIVEN ROWS OF THIS SEAT. 9 by the template 'for every input the law returns true; each argument reads behind the call as it read before'; 0 by the template 'total and deterministic' (their statements: YtjbicpekpgaokaaTotals.lean).
  GIVEN WITH THE SEED: the statements are not yours to turn. If you find one false, say at which input.
  Laid BY PROGRAM, IN A SANDBOX (cutbox-rows.mjs): the forced cells as the released guide's own fill.sh prints them over the translation c5ef99bd0a4dd2a4… (all of the seat's roots in one cut). By AI agents, Wed Nov 11 2026. No macro, syntax, notation, axiom, sorry.
-/
import Derived.Test.YtjbicpekpgaokaaChecked
import GoSem.Claim
import GoSem.ClaimJoined
import GoSem.ClaimMapViews
import Derived.JoinedTies
import Derived.KernelRfl
namespace Go.Proofs.Ytjbicpekpgaokaa
/- THE CELL 'sum', in the pinned program and in every row, IS THE sha256 OF THE DUMP (.gsa) THAT YtjbicpekpgaokaaProg.lean LOADS. Nothing in Lean hashes anything: it is a label: what it is worth is what the hold of that sum in a sandbox is worth. -/
noncomputable def Try.pinned : Pinned := { name := "ytjbicpekpgaokaa", sum := "c5ef99bd0a4dd2a48b088e00472385fbd1e398954bd468c96f8c2627adf1eabd", checked := Try.checked }
namespace Rows
def none {H : Type} : Left H := { results := [], args := [] }

/-- 'corbellaw6.MarkKnown': WHATEVER THE INPUT: true; the input reads as it did. -/
def markKnownSpec : ChangeSpec := { name := "markKnown", fn := fun _ => fun
  | [] => { results := [.lit (.bool true)], args := [] }
  | _ => none }
def markKnownRow : OpenClaim := { program := "ytjbicpekpgaokaa", sum := "c5ef99bd0a4dd2a48b088e00472385fbd1e398954bd468c96f8c2627adf1eabd", func := "corbel/corbellaw6.MarkKnown", spec := "markKnown", apart := false }
def MarkKnownSaid : Prop := markKnownRow.holds Try.pinned (OpenSpec.ofChange markKnownSpec)

/-- ITS FALSE NEIGHBOUR: 'it returns false'. Refute it at one input. -/
def markKnownWrong : ChangeSpec := { name := "markKnown", fn := fun _ => fun
  | [] => { results := [.lit (.bool false)], args := [] }
  | _ => none }
def MarkKnownWrongFalsely : Prop := markKnownRow.holds Try.pinned (OpenSpec.ofChange markKnownWrong)

/-- 'corbellaw6.MarkTells': WHATEVER THE INPUT: true; the input reads as it did. -/
def markTellsSpec : ChangeSpec := { name := "markTells", fn := fun _ => fun
  | [d1, d2, d3, d4, d5, d6] => { results := [.lit (.bool true)], args := [d1, d2, d3, d4, d5, d6] }
  | _ => none }
def markTellsRow : OpenClaim := { program := "ytjbicpekpgaokaa", sum := "c5ef99bd0a4dd2a48b088e00472385fbd1e398954bd468c96f8c2627adf1eabd", func := "corbel/corbellaw6.MarkTells", spec := "markTells", apart := false }
def MarkTellsSaid : Prop := markTellsRow.holds Try.pinned (OpenSpec.ofChange markTellsSpec)

/-- ITS FALSE NEIGHBOUR: 'it returns false'. Refute it at one input. -/
def markTellsWrong : ChangeSpec := { name := "markTells", fn := fun _ => fun
  | [d1, d2, d3, d4, d5, d6] => { results := [.lit (.bool false)], args := [d1, d2, d3, d4, d5, d6] }
  | _ => none }
def MarkTellsWrongFalsely : Prop := markTellsRow.holds Try.pinned (OpenSpec.ofChange markTellsWrong)

/-- 'corbellaw6.MarkTurns': WHATEVER THE INPUT: true; the input reads as it did. -/
def markTurnsSpec : ChangeSpec := { name := "markTurns", fn := fun _ => fun
  | [d1, d2, d3, d4, d5, d6] => { results := [.lit (.bool true)], args := [d1, d2, d3, d4, d5, d6] }
  | _ => none }
def markTurnsRow : OpenClaim := { program := "ytjbicpekpgaokaa", sum := "c5ef99bd0a4dd2a48b088e00472385fbd1e398954bd468c96f8c2627adf1eabd", func := "corbel/corbellaw6.MarkTurns", spec := "markTurns", apart := false }
def MarkTurnsSaid : Prop := markTurnsRow.holds Try.pinned (OpenSpec.ofChange markTurnsSpec)

/-- ITS FALSE NEIGHBOUR: 'it returns false'. Refute it at one input. -/
def markTurnsWrong : ChangeSpec := { name := "markTurns", fn := fun _ => fun
  | [d1, d2, d3, d4, d5, d6] => { results := [.lit (.bool false)], args := [d1, d2, d3, d4, d5, d6] }
  | _ => none }
def MarkTurnsWrongFalsely : Prop := markTurnsRow.holds Try.pinned (OpenSpec.ofChange markTurnsWrong)

/-- 'corbellaw6.MarkSums': WHATEVER THE INPUT: true; the input reads as it did. -/
def markSumsSpec : ChangeSpec := { name := "markSums", fn := fun _ => fun
  | [d1, d2] => { results := [.lit (.bool true)], args := [d1, d2] }
  | _ => none }
def markSumsRow : OpenClaim := { program := "ytjbicpekpgaokaa", sum := "c5ef99bd0a4dd2a48b088e00472385fbd1e398954bd468c96f8c2627adf1eabd", func := "corbel/corbellaw6.MarkSums", spec := "markSums", apart := false }
def MarkSumsSaid : Prop := markSumsRow.holds Try.pinned (OpenSpec.ofChange markSumsSpec)

/-- ITS FALSE NEIGHBOUR: 'it returns false'. Refute it at one input. -/
def markSumsWrong : ChangeSpec := { name := "markSums", fn := fun _ => fun
  | [d1, d2] => { results := [.lit (.bool false)], args := [d1, d2] }
  | _ => none }
def MarkSumsWrongFalsely : Prop := markSumsRow.holds Try.pinned (OpenSpec.ofChange markSumsWrong)

/-- 'corbellaw6.MarkSizes': WHATEVER THE INPUT: true; the input reads as it did. -/
def markSizesSpec : ChangeSpec := { name := "markSizes", fn := fun _ => fun
  | [d1, d2, d3] => { results := [.lit (.bool true)], args := [d1, d2, d3] }
  | _ => none }
def markSizesRow : OpenClaim := { program := "ytjbicpekpgaokaa", sum := "c5ef99bd0a4dd2a48b088e00472385fbd1e398954bd468c96f8c2627adf1eabd", func := "corbel/corbellaw6.MarkSizes", spec := "markSizes", apart := false }
def MarkSizesSaid : Prop := markSizesRow.holds Try.pinned (OpenSpec.ofChange markSizesSpec)

/-- ITS FALSE NEIGHBOUR: 'it returns false'. Refute it at one input. -/
def markSizesWrong : ChangeSpec := { name := "markSizes", fn := fun _ => fun
  | [d1, d2, d3] => { results := [.lit (.bool false)], args := [d1, d2, d3] }
  | _ => none }
def MarkSizesWrongFalsely : Prop := markSizesRow.holds Try.pinned (OpenSpec.ofChange markSizesWrong)

/-- 'corbellaw8.ChunkLays': WHATEVER THE INPUT: true; the input reads as it did. -/
def chunkLaysSpec : ChangeSpec := { name := "chunkLays", fn := fun _ => fun
  | [d1, d2, d3, d4, d5, d6, d7, d8, d9] => { results := [.lit (.bool true)], args := [d1, d2, d3, d4, d5, d6, d7, d8, d9] }
  | _ => none }
def chunkLaysRow : OpenClaim := { program := "ytjbicpekpgaokaa", sum := "c5ef99bd0a4dd2a48b088e00472385fbd1e398954bd468c96f8c2627adf1eabd", func := "corbel/corbellaw8.ChunkLays", spec := "chunkLays", unfollowed := true, recurses := true, apart := false }
def ChunkLaysSaid : Prop := chunkLaysRow.holds Try.pinned (OpenSpec.ofChange chunkLaysSpec)

/-- ITS FALSE NEIGHBOUR: 'it returns false'. Refute it at one input. -/
def chunkLaysWrong : ChangeSpec := { name := "chunkLays", fn := fun _ => fun
  | [d1, d2, d3, d4, d5, d6, d7, d8, d9] => { results := [.lit (.bool false)], args := [d1, d2, d3, d4, d5, d6, d7, d8, d9] }
  | _ => none }
def ChunkLaysWrongFalsely : Prop := chunkLaysRow.holds Try.pinned (OpenSpec.ofChange chunkLaysWrong)

/-- 'corbellaw8.ChunkPuts': WHATEVER THE INPUT: true; the input reads as it did. -/
def chunkPutsSpec : ChangeSpec := { name := "chunkPuts", fn := fun _ => fun
  | [d] => { results := [.lit (.bool true)], args := [d] }
  | _ => none }
def chunkPutsRow : OpenClaim := { program := "ytjbicpekpgaokaa", sum := "c5ef99bd0a4dd2a48b088e00472385fbd1e398954bd468c96f8c2627adf1eabd", func := "corbel/corbellaw8.ChunkPuts", spec := "chunkPuts", unfollowed := true, recurses := true, apart := false }
def ChunkPutsSaid : Prop := chunkPutsRow.holds Try.pinned (OpenSpec.ofChange chunkPutsSpec)

/-- ITS FALSE NEIGHBOUR: 'it returns false'. Refute it at one input. -/
def chunkPutsWrong : ChangeSpec := { name := "chunkPuts", fn := fun _ => fun
  | [d] => { results := [.lit (.bool false)], args := [d] }
  | _ => none }
def ChunkPutsWrongFalsely : Prop := chunkPutsRow.holds Try.pinned (OpenSpec.ofChange chunkPutsWrong)

/-- 'corbellaw9.IntentKnown': WHATEVER THE INPUT: true; the input reads as it did. -/
def intentKnownSpec : ChangeSpec := { name := "intentKnown", fn := fun _ => fun
  | [] => { results := [.lit (.bool true)], args := [] }
  | _ => none }
def intentKnownRow : OpenClaim := { program := "ytjbicpekpgaokaa", sum := "c5ef99bd0a4dd2a48b088e00472385fbd1e398954bd468c96f8c2627adf1eabd", func := "corbel/corbellaw9.IntentKnown", spec := "intentKnown", unfollowed := true, recurses := true, apart := false }
def IntentKnownSaid : Prop := intentKnownRow.holds Try.pinned (OpenSpec.ofChange intentKnownSpec)

/-- ITS FALSE NEIGHBOUR: 'it returns false'. Refute it at one input. -/
def intentKnownWrong : ChangeSpec := { name := "intentKnown", fn := fun _ => fun
  | [] => { results := [.lit (.bool false)], args := [] }
  | _ => none }
def IntentKnownWrongFalsely : Prop := intentKnownRow.holds Try.pinned (OpenSpec.ofChange intentKnownWrong)

/-- 'corbellaw9.IntentFrees': WHATEVER THE INPUT: true; the input reads as it did. -/
def intentFreesSpec : ChangeSpec := { name := "intentFrees", fn := fun _ => fun
  | [d1, d2] => { results := [.lit (.bool true)], args := [d1, d2] }
  | _ => none }
def intentFreesRow : OpenClaim := { program := "ytjbicpekpgaokaa", sum := "c5ef99bd0a4dd2a48b088e00472385fbd1e398954bd468c96f8c2627adf1eabd", func := "corbel/corbellaw9.IntentFrees", spec := "intentFrees", unfollowed := true, recurses := true, apart := false }
def IntentFreesSaid : Prop := intentFreesRow.holds Try.pinned (OpenSpec.ofChange intentFreesSpec)

/-- ITS FALSE NEIGHBOUR: 'it returns false'. Refute it at one input. -/
def intentFreesWrong : ChangeSpec := { name := "intentFrees", fn := fun _ => fun
  | [d1, d2] => { results := [.lit (.bool false)], args := [d1, d2] }
  | _ => none }
def IntentFreesWrongFalsely : Prop := intentFreesRow.holds Try.pinned (OpenSpec.ofChange intentFreesWrong)

/- THE SECOND FORM. 'bulk': how many values and letters a reading holds, each counted each time it is reached (what is shared counts as often as it is met; a slice's spare places count too). A statement '..UptoSaid' is the law's where the arguments, and the package variables that the reading takes, are together of bulk at most 1048576: NARROWER than '..Said'. Prove '..Said' where nothing that the law and all that it calls make is longer than what came in: it says more and counts as full. Else prove '..UptoSaid'. A law counts once. -/
mutual
def uptoBulk {H : Type} : DataW H → Nat
  | .lit (.string bytes) => bytes.length + 1
  | .lit _ => 1
  | .nil => 1
  | .ptr d => uptoBulk d + 1
  | .slice elems spare => uptoBulkAll elems + uptoBulkAll spare + 1
  | .agg parts => uptoBulkAll parts + 1
  | .iface _ d => uptoBulk d + 1
  | .map entries => uptoBulkEntries entries + 1
  | .held _ => 1
def uptoBulkAll {H : Type} : List (DataW H) → Nat
  | [] => 0
  | d :: r => uptoBulk d + uptoBulkAll r
def uptoBulkEntries {H : Type} : List (Lit × DataW H) → Nat
  | [] => 0
  | x :: r => uptoBulkEntry x + uptoBulkEntries r
def uptoBulkEntry {H : Type} : Lit × DataW H → Nat
  | (.string bytes, d) => bytes.length + uptoBulk d + 1
  | (_, d) => uptoBulk d + 1
 end
def uptoSmall : (H : Type) → List (DataW H) → Bool := fun _ ds => decide (uptoBulkAll ds ≤ 1048576)
def OpenSpec.upto (s : _root_.Go.ChangeSpec) : _root_.Go.OpenSpec := { _root_.Go.OpenSpec.ofChange s with cond := some uptoSmall }

/-- 'corbellaw6.MarkKnown', WHERE WHAT IT READS IS OF BULK AT MOST 1048576: true; the input reads as it did. -/
def markKnownUptoRow : OpenClaim := { program := "ytjbicpekpgaokaa", sum := "c5ef99bd0a4dd2a48b088e00472385fbd1e398954bd468c96f8c2627adf1eabd", func := "corbel/corbellaw6.MarkKnown", spec := "markKnown", apart := false, narrowed := true }
def MarkKnownUptoSaid : Prop := markKnownUptoRow.holds Try.pinned (OpenSpec.upto markKnownSpec)

/-- 'corbellaw6.MarkTells', WHERE WHAT IT READS IS OF BULK AT MOST 1048576: true; the input reads as it did. -/
def markTellsUptoRow : OpenClaim := { program := "ytjbicpekpgaokaa", sum := "c5ef99bd0a4dd2a48b088e00472385fbd1e398954bd468c96f8c2627adf1eabd", func := "corbel/corbellaw6.MarkTells", spec := "markTells", apart := false, narrowed := true }
def MarkTellsUptoSaid : Prop := markTellsUptoRow.holds Try.pinned (OpenSpec.upto markTellsSpec)

/-- 'corbellaw6.MarkTurns', WHERE WHAT IT READS IS OF BULK AT MOST 1048576: true; the input reads as it did. -/
def markTurnsUptoRow : OpenClaim := { program := "ytjbicpekpgaokaa", sum := "c5ef99bd0a4dd2a48b088e00472385fbd1e398954bd468c96f8c2627adf1eabd", func := "corbel/corbellaw6.MarkTurns", spec := "markTurns", apart := false, narrowed := true }
def MarkTurnsUptoSaid : Prop := markTurnsUptoRow.holds Try.pinned (OpenSpec.upto markTurnsSpec)

/-- 'corbellaw6.MarkSums', WHERE WHAT IT READS IS OF BULK AT MOST 1048576: true; the input reads as it did. -/
def markSumsUptoRow : OpenClaim := { program := "ytjbicpekpgaokaa", sum := "c5ef99bd0a4dd2a48b088e00472385fbd1e398954bd468c96f8c2627adf1eabd", func := "corbel/corbellaw6.MarkSums", spec := "markSums", apart := false, narrowed := true }
def MarkSumsUptoSaid : Prop := markSumsUptoRow.holds Try.pinned (OpenSpec.upto markSumsSpec)

/-- 'corbellaw6.MarkSizes', WHERE WHAT IT READS IS OF BULK AT MOST 1048576: true; the input reads as it did. -/
def markSizesUptoRow : OpenClaim := { program := "ytjbicpekpgaokaa", sum := "c5ef99bd0a4dd2a48b088e00472385fbd1e398954bd468c96f8c2627adf1eabd", func := "corbel/corbellaw6.MarkSizes", spec := "markSizes", apart := false, narrowed := true }
def MarkSizesUptoSaid : Prop := markSizesUptoRow.holds Try.pinned (OpenSpec.upto markSizesSpec)

/-- 'corbellaw8.ChunkLays', WHERE WHAT IT READS IS OF BULK AT MOST 1048576: true; the input reads as it did. -/
def chunkLaysUptoRow : OpenClaim := { program := "ytjbicpekpgaokaa", sum := "c5ef99bd0a4dd2a48b088e00472385fbd1e398954bd468c96f8c2627adf1eabd", func := "corbel/corbellaw8.ChunkLays", spec := "chunkLays", unfollowed := true, recurses := true, apart := false, narrowed := true }
def ChunkLaysUptoSaid : Prop := chunkLaysUptoRow.holds Try.pinned (OpenSpec.upto chunkLaysSpec)

/-- 'corbellaw8.ChunkPuts', WHERE WHAT IT READS IS OF BULK AT MOST 1048576: true; the input reads as it did. -/
def chunkPutsUptoRow : OpenClaim := { program := "ytjbicpekpgaokaa", sum := "c5ef99bd0a4dd2a48b088e00472385fbd1e398954bd468c96f8c2627adf1eabd", func := "corbel/corbellaw8.ChunkPuts", spec := "chunkPuts", unfollowed := true, recurses := true, apart := false, narrowed := true }
def ChunkPutsUptoSaid : Prop := chunkPutsUptoRow.holds Try.pinned (OpenSpec.upto chunkPutsSpec)

/-- 'corbellaw9.IntentKnown', WHERE WHAT IT READS IS OF BULK AT MOST 1048576: true; the input reads as it did. -/
def intentKnownUptoRow : OpenClaim := { program := "ytjbicpekpgaokaa", sum := "c5ef99bd0a4dd2a48b088e00472385fbd1e398954bd468c96f8c2627adf1eabd", func := "corbel/corbellaw9.IntentKnown", spec := "intentKnown", unfollowed := true, recurses := true, apart := false, narrowed := true }
def IntentKnownUptoSaid : Prop := intentKnownUptoRow.holds Try.pinned (OpenSpec.upto intentKnownSpec)

/-- 'corbellaw9.IntentFrees', WHERE WHAT IT READS IS OF BULK AT MOST 1048576: true; the input reads as it did. -/
def intentFreesUptoRow : OpenClaim := { program := "ytjbicpekpgaokaa", sum := "c5ef99bd0a4dd2a48b088e00472385fbd1e398954bd468c96f8c2627adf1eabd", func := "corbel/corbellaw9.IntentFrees", spec := "intentFrees", unfollowed := true, recurses := true, apart := false, narrowed := true }
def IntentFreesUptoSaid : Prop := intentFreesUptoRow.holds Try.pinned (OpenSpec.upto intentFreesSpec)

end Rows
end Go.Proofs.Ytjbicpekpgaokaa
