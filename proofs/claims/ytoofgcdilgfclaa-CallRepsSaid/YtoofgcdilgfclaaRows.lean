/-
  No cell of these rows narrows 'for every input' (looked for: loops, veiled, ifaces, maps, wideKeys, modest, calm, conditions, laid).
  DERIVED. THE GIVEN ROWS OF THIS SEAT. 5 by the template 'for every input the law returns true; each argument reads behind the call as it read before'; 0 by the template 'total and deterministic' (their statements: YtoofgcdilgfclaaTotals.lean).
  GIVEN WITH THE SEED: the statements are not yours to turn. If you find one false, say at which input.
  Laid BY PROGRAM, IN A SANDBOX (cutbox-rows.mjs): the forced cells as the released guide's own fill.sh prints them over the translation 75a8831ea969b810… (all of the seat's roots in one cut). By AI agents, Wed Nov 11 2026. No macro, syntax, notation, axiom, sorry.
-/
import Derived.Test.YtoofgcdilgfclaaChecked
import GoSem.Claim
import GoSem.ClaimJoined
import GoSem.ClaimMapViews
import Derived.JoinedTies
import Derived.KernelRfl
namespace Go.Proofs.Ytoofgcdilgfclaa
/- THE CELL 'sum', in the pinned program and in every row, IS THE sha256 OF THE DUMP (.gsa) THAT YtoofgcdilgfclaaProg.lean LOADS. Nothing in Lean hashes anything: it is a label: what it is worth is what the hold of that sum in a sandbox is worth. -/
noncomputable def Try.pinned : Pinned := { name := "ytoofgcdilgfclaa", sum := "75a8831ea969b81055207d596430ed2882f69db7b4a45180c66ccab60dec1bd0", checked := Try.checked }
namespace Rows
def none {H : Type} : Left H := { results := [], args := [] }

/-- 'corbellaw11.CallKnown': WHATEVER THE INPUT: true; the input reads as it did. -/
def callKnownSpec : ChangeSpec := { name := "callKnown", fn := fun _ => fun
  | [] => { results := [.lit (.bool true)], args := [] }
  | _ => none }
def callKnownRow : OpenClaim := { program := "ytoofgcdilgfclaa", sum := "75a8831ea969b81055207d596430ed2882f69db7b4a45180c66ccab60dec1bd0", func := "corbel/corbellaw11.CallKnown", spec := "callKnown", unfollowed := true, recurses := true, apart := false }
def CallKnownSaid : Prop := callKnownRow.holds Try.pinned (OpenSpec.ofChange callKnownSpec)

/-- ITS FALSE NEIGHBOUR: 'it returns false'. Refute it at one input. -/
def callKnownWrong : ChangeSpec := { name := "callKnown", fn := fun _ => fun
  | [] => { results := [.lit (.bool false)], args := [] }
  | _ => none }
def CallKnownWrongFalsely : Prop := callKnownRow.holds Try.pinned (OpenSpec.ofChange callKnownWrong)

/-- 'corbellaw11.CallReqs': WHATEVER THE INPUT: true; the input reads as it did. -/
def callReqsSpec : ChangeSpec := { name := "callReqs", fn := fun _ => fun
  | [d1, d2, d3, d4, d5] => { results := [.lit (.bool true)], args := [d1, d2, d3, d4, d5] }
  | _ => none }
def callReqsRow : OpenClaim := { program := "ytoofgcdilgfclaa", sum := "75a8831ea969b81055207d596430ed2882f69db7b4a45180c66ccab60dec1bd0", func := "corbel/corbellaw11.CallReqs", spec := "callReqs", apart := false }
def CallReqsSaid : Prop := callReqsRow.holds Try.pinned (OpenSpec.ofChange callReqsSpec)

/-- ITS FALSE NEIGHBOUR: 'it returns false'. Refute it at one input. -/
def callReqsWrong : ChangeSpec := { name := "callReqs", fn := fun _ => fun
  | [d1, d2, d3, d4, d5] => { results := [.lit (.bool false)], args := [d1, d2, d3, d4, d5] }
  | _ => none }
def CallReqsWrongFalsely : Prop := callReqsRow.holds Try.pinned (OpenSpec.ofChange callReqsWrong)

/-- 'corbellaw11.CallReps': WHATEVER THE INPUT: true; the input reads as it did. -/
def callRepsSpec : ChangeSpec := { name := "callReps", fn := fun _ => fun
  | [d1, d2, d3, d4, d5, d6, d7, d8] => { results := [.lit (.bool true)], args := [d1, d2, d3, d4, d5, d6, d7, d8] }
  | _ => none }
def callRepsRow : OpenClaim := { program := "ytoofgcdilgfclaa", sum := "75a8831ea969b81055207d596430ed2882f69db7b4a45180c66ccab60dec1bd0", func := "corbel/corbellaw11.CallReps", spec := "callReps", unfollowed := true, recurses := true, apart := false }
def CallRepsSaid : Prop := callRepsRow.holds Try.pinned (OpenSpec.ofChange callRepsSpec)

/-- ITS FALSE NEIGHBOUR: 'it returns false'. Refute it at one input. -/
def callRepsWrong : ChangeSpec := { name := "callReps", fn := fun _ => fun
  | [d1, d2, d3, d4, d5, d6, d7, d8] => { results := [.lit (.bool false)], args := [d1, d2, d3, d4, d5, d6, d7, d8] }
  | _ => none }
def CallRepsWrongFalsely : Prop := callRepsRow.holds Try.pinned (OpenSpec.ofChange callRepsWrong)

/-- 'corbellaw11.CallBack': WHATEVER THE INPUT: true; the input reads as it did. -/
def callBackSpec : ChangeSpec := { name := "callBack", fn := fun _ => fun
  | [d1, d2] => { results := [.lit (.bool true)], args := [d1, d2] }
  | _ => none }
def callBackRow : OpenClaim := { program := "ytoofgcdilgfclaa", sum := "75a8831ea969b81055207d596430ed2882f69db7b4a45180c66ccab60dec1bd0", func := "corbel/corbellaw11.CallBack", spec := "callBack", apart := false }
def CallBackSaid : Prop := callBackRow.holds Try.pinned (OpenSpec.ofChange callBackSpec)

/-- ITS FALSE NEIGHBOUR: 'it returns false'. Refute it at one input. -/
def callBackWrong : ChangeSpec := { name := "callBack", fn := fun _ => fun
  | [d1, d2] => { results := [.lit (.bool false)], args := [d1, d2] }
  | _ => none }
def CallBackWrongFalsely : Prop := callBackRow.holds Try.pinned (OpenSpec.ofChange callBackWrong)

/-- 'corbellaw11.CallSizes': WHATEVER THE INPUT: true; the input reads as it did. -/
def callSizesSpec : ChangeSpec := { name := "callSizes", fn := fun _ => fun
  | [d1, d2, d3, d4, d5] => { results := [.lit (.bool true)], args := [d1, d2, d3, d4, d5] }
  | _ => none }
def callSizesRow : OpenClaim := { program := "ytoofgcdilgfclaa", sum := "75a8831ea969b81055207d596430ed2882f69db7b4a45180c66ccab60dec1bd0", func := "corbel/corbellaw11.CallSizes", spec := "callSizes", apart := false }
def CallSizesSaid : Prop := callSizesRow.holds Try.pinned (OpenSpec.ofChange callSizesSpec)

/-- ITS FALSE NEIGHBOUR: 'it returns false'. Refute it at one input. -/
def callSizesWrong : ChangeSpec := { name := "callSizes", fn := fun _ => fun
  | [d1, d2, d3, d4, d5] => { results := [.lit (.bool false)], args := [d1, d2, d3, d4, d5] }
  | _ => none }
def CallSizesWrongFalsely : Prop := callSizesRow.holds Try.pinned (OpenSpec.ofChange callSizesWrong)

/- THE SECOND FORM. 'bulk': how many values and letters a reading holds, each counted each time it is reached (what is shared counts as often as it is met; a slice's spare places count too). A statement '..UptoSaid' is the law's where the arguments, and the package variables that the reading takes, are together of bulk at most 1048576: NARROWER than '..Said'. Prove '..Said' where nothing that the law and all that it calls make is longer than what came in: it says more and counts as full. Else prove '..UptoSaid'. A law counts once. -/
mutual
def uptoBulk {H : Type} : DataW H → Nat
  | .lit (.string bytes) => bytes.length + 1
  | .lit _ => 1
  | .nil => 1
  | .ptr d => uptoBulk d + 1
  | .slice elems spare => uptoBulkAll elems + uptoBulkAll spare + 1
  | .agg parts => uptoBulkAll parts + 1
  | .iface _ d => uptoBulk d + 1
  | .map entries => uptoBulkEntries entries + 1
  | .held _ => 1
def uptoBulkAll {H : Type} : List (DataW H) → Nat
  | [] => 0
  | d :: r => uptoBulk d + uptoBulkAll r
def uptoBulkEntries {H : Type} : List (Lit × DataW H) → Nat
  | [] => 0
  | x :: r => uptoBulkEntry x + uptoBulkEntries r
def uptoBulkEntry {H : Type} : Lit × DataW H → Nat
  | (.string bytes, d) => bytes.length + uptoBulk d + 1
  | (_, d) => uptoBulk d + 1
 end
def uptoSmall : (H : Type) → List (DataW H) → Bool := fun _ ds => decide (uptoBulkAll ds ≤ 1048576)
def OpenSpec.upto (s : _root_.Go.ChangeSpec) : _root_.Go.OpenSpec := { _root_.Go.OpenSpec.ofChange s with cond := some uptoSmall }

/-- 'corbellaw11.CallKnown', WHERE WHAT IT READS IS OF BULK AT MOST 1048576: true; the input reads as it did. -/
def callKnownUptoRow : OpenClaim := { program := "ytoofgcdilgfclaa", sum := "75a8831ea969b81055207d596430ed2882f69db7b4a45180c66ccab60dec1bd0", func := "corbel/corbellaw11.CallKnown", spec := "callKnown", unfollowed := true, recurses := true, apart := false, narrowed := true }
def CallKnownUptoSaid : Prop := callKnownUptoRow.holds Try.pinned (OpenSpec.upto callKnownSpec)

/-- 'corbellaw11.CallReqs', WHERE WHAT IT READS IS OF BULK AT MOST 1048576: true; the input reads as it did. -/
def callReqsUptoRow : OpenClaim := { program := "ytoofgcdilgfclaa", sum := "75a8831ea969b81055207d596430ed2882f69db7b4a45180c66ccab60dec1bd0", func := "corbel/corbellaw11.CallReqs", spec := "callReqs", apart := false, narrowed := true }
def CallReqsUptoSaid : Prop := callReqsUptoRow.holds Try.pinned (OpenSpec.upto callReqsSpec)

/-- 'corbellaw11.CallReps', WHERE WHAT IT READS IS OF BULK AT MOST 1048576: true; the input reads as it did. -/
def callRepsUptoRow : OpenClaim := { program := "ytoofgcdilgfclaa", sum := "75a8831ea969b81055207d596430ed2882f69db7b4a45180c66ccab60dec1bd0", func := "corbel/corbellaw11.CallReps", spec := "callReps", unfollowed := true, recurses := true, apart := false, narrowed := true }
def CallRepsUptoSaid : Prop := callRepsUptoRow.holds Try.pinned (OpenSpec.upto callRepsSpec)

/-- 'corbellaw11.CallBack', WHERE WHAT IT READS IS OF BULK AT MOST 1048576: true; the input reads as it did. -/
def callBackUptoRow : OpenClaim := { program := "ytoofgcdilgfclaa", sum := "75a8831ea969b81055207d596430ed2882f69db7b4a45180c66ccab60dec1bd0", func := "corbel/corbellaw11.CallBack", spec := "callBack", apart := false, narrowed := true }
def CallBackUptoSaid : Prop := callBackUptoRow.holds Try.pinned (OpenSpec.upto callBackSpec)

/-- 'corbellaw11.CallSizes', WHERE WHAT IT READS IS OF BULK AT MOST 1048576: true; the input reads as it did. -/
def callSizesUptoRow : OpenClaim := { program := "ytoofgcdilgfclaa", sum := "75a8831ea969b81055207d596430ed2882f69db7b4a45180c66ccab60dec1bd0", func := "corbel/corbellaw11.CallSizes", spec := "callSizes", apart := false, narrowed := true }
def CallSizesUptoSaid : Prop := callSizesUptoRow.holds Try.pinned (OpenSpec.upto callSizesSpec)

end Rows
end Go.Proofs.Ytoofgcdilgfclaa
