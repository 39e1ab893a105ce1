import Derived.Test.YtofmilkjhnkgjaaCh6
import Derived.Test.YtofmilkjhnkgjaaCh5
import Derived.Test.YtofmilkjhnkgjaaCh2
namespace Go.Proofs.Ytofmilkjhnkgjaa
open Go.RowKit Go.Sort
set_option maxRecDepth 100000
set_option maxHeartbeats 1000000

theorem results_cell1 {fn : Func} {p : Tmp} {ty : TypeId} (h : fn.results = #[.cell p ty]) (tmps : Array Value) (P : Program) (w : World) :
    (results fn tmps).run P w = ((asAddr (tmps.getD p undef)).run P w).andThen fun a w₁ => (loadVar ty a).run P w₁ := by
  simp only [results, h]
  simp [Sem.run_bind, Result.andThen]
/-- A piece as it is handed about. -/
def PcV (w : World) (v : Value) (p : Pc) : Prop := ∃ A c, v = pv (p.s : Int) (p.g : Int) (p.i : Int) A 32 c ∧ Dat w A p.D
/-- one. -/
def oneP (s g i : Nat) (x : Int) : Pc := ⟨s, g, i, bytesF x⟩
def LOneRet (p : Pc) (w : World) (e : Ending) (w' : World) : Prop := ∃ v, e = .returned v ∧ PcV w' v p ∧ Below w.heap.size w w'
end Go.Proofs.Ytofmilkjhnkgjaa
