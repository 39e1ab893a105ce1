import Derived.Test.YtbifpjdkljibeaaDoorG3
namespace Go.Proofs.YtbifpjdkljibeaaDoor
open Go.RowKit Go.Extern.Stop Go.Stop Go.Extern Go.Extern.Rtype

/-- The block of that number. -/
def findBlock (n : Nat) : Code → Option Code
  | .loop c => findBlock n c
  | .seq a b => match findBlock n a with
    | some c => some c
    | none => findBlock n b
  | .block k c => if k = n then some (.block k c) else findBlock n c
  | .scope c => findBlock n c
  | .cond _ a b => match findBlock n a with
    | some c => some c
    | none => findBlock n b
  | _ => none
noncomputable def blk2 : Code := ((Tryd.f19.body.bind (findBlock 2)).getD .skip)

end Go.Proofs.YtbifpjdkljibeaaDoor
