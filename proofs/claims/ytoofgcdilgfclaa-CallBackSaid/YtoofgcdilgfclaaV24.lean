import Derived.Test.YtoofgcdilgfclaaV12
import Derived.Test.YtoofgcdilgfclaaV14
import Derived.Test.YtoofgcdilgfclaaV23
namespace Go.Proofs.Ytoofgcdilgfclaa
open Go.RowKit Go.Sort
set_option maxRecDepth 100000
set_option maxHeartbeats 1000000

/-- The block of a piece. -/
def atP (p : Pc) : Nat := 2 * p.s + p.g % 2
end Go.Proofs.Ytoofgcdilgfclaa
namespace Go.Proofs.Ytoofgcdilgfclaa
open Go.RowKit Go.Sort
set_option maxRecDepth 100000
set_option maxHeartbeats 1000000

/-- Is a block a piece of a stripe, in its place? -/
def HasP (F : Nat → Nat) (s t : Nat) : Prop := IsPc F ∧ (rdP F).s = s ∧ (rdP F).g % 2 = t
def ReadRet (p : Pc) (w : World) (e : Ending) (w' : World) : Prop := ∃ A c, e = .returned (.tuple #[pv (p.s : Int) (p.g : Int) (p.i : Int) A 32 c, .bool true]) ∧ Dat w' A p.D ∧ Below w.heap.size w w'
/-- What of a stripe's blocks are its pieces. -/
def col (b : Nat → Bool) (P : Nat → Pc) : Nat → List Pc
  | 0 => []
  | k + 1 => if b k then col b P k ++ [P k] else col b P k
theorem col_len (b : Nat → Bool) (P : Nat → Pc) : ∀ k, (col b P k).length ≤ k
  | 0 => Nat.le_refl _
  | k + 1 => by
    have := col_len b P k
    unfold col
    split
    · simp; omega
    · omega
theorem col_yes {b : Nat → Bool} {P : Nat → Pc} {k : Nat} (h : b k = true) : col b P (k + 1) = col b P k ++ [P k] := by
  show (if b k then _ else _) = _
  rw [if_pos h]
theorem col_no {b : Nat → Bool} {P : Nat → Pc} {k : Nat} (h : b k = false) : col b P (k + 1) = col b P k := by
  show (if b k then _ else _) = _
  rw [if_neg (by rw [h]; decide)]
/-- All bytes of a disk are bytes. -/
def Bd (d : Disk) : Prop := ∀ k j, j < 160 → d.now k j < 256
def CGetRet (l : List Pc) (w : World) (e : Ending) (w' : World) : Prop := ∃ v, e = .returned v ∧ PL w' w.heap.size v l ∧ Below w.heap.size w w'
end Go.Proofs.Ytoofgcdilgfclaa
namespace Go.Proofs.Ytoofgcdilgfclaa
open Go.RowKit Go.Sort
set_option maxRecDepth 100000
set_option maxHeartbeats 1000000

end Go.Proofs.Ytoofgcdilgfclaa
