import Derived.Test.YtfhlipalfebfaaaX1
namespace Go.Proofs.Ytfhlipalfebfaaa
open Go.RowKit Go.Sort

/-- The block of that number. -/
def findBlock (n : Nat) : Code → Option Code
  | .loop c => findBlock n c
  | .seq a b => match findBlock n a with
    | some c => some c
    | none => findBlock n b
  | .block k c => if k = n then some (.block k c) else findBlock n c
  | .scope c => findBlock n c
  | .cond _ a b => match findBlock n a with
    | some c => some c
    | none => findBlock n b
  | _ => none
noncomputable def blk4 : Code := ((Try.f4.body.bind (findBlock 4)).getD .skip)

end Go.Proofs.Ytfhlipalfebfaaa
