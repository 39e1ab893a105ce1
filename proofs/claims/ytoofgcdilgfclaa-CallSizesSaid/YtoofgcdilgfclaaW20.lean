import Derived.Test.YtoofgcdilgfclaaW14
namespace Go.Proofs.Ytoofgcdilgfclaa
open Go.RowKit Go.Sort
set_option maxRecDepth 100000
set_option maxHeartbeats 1000000

/-- Two pieces that lie one behind the other. -/
def PV2 (w : World) (b : Nat) (s0 g0 i0 s1 g1 i1 : Int) (A0 A1 : Option Addr) (n0 c0 n1 c1 : Nat) : Prop :=
  ∃ cur : Array Value, w.heap[b]? = some (.cells cur 31 (0, 0)) ∧ cur[0]? = some (.int .i64 s0) ∧ cur[1]? = some (.int .i64 g0) ∧ cur[2]? = some (.int .i64 i0) ∧ cur[3]? = some (.slice A0 n0 c0) ∧
    cur[4]? = some (.int .i64 s1) ∧ cur[5]? = some (.int .i64 g1) ∧ cur[6]? = some (.int .i64 i1) ∧ cur[7]? = some (.slice A1 n1 c1)
theorem PV2.below {w w' : World} {b n0 c0 n1 c1 : Nat} {s0 g0 i0 s1 g1 i1 : Int} {A0 A1 : Option Addr} (h : PV2 w b s0 g0 i0 s1 g1 i1 A0 A1 n0 c0 n1 c1) (e : Below w.heap.size w w') : PV2 w' b s0 g0 i0 s1 g1 i1 A0 A1 n0 c0 n1 c1 := by
  obtain ⟨cur, h0, r⟩ := h
  exact ⟨cur, (e.block b (heap_lt h0)).trans h0, r⟩
theorem PV2.cells {w : World} {b n0 c0 n1 c1 : Nat} {s0 g0 i0 s1 g1 i1 : Int} {A0 A1 : Option Addr} (h : PV2 w b s0 g0 i0 s1 g1 i1 A0 A1 n0 c0 n1 c1) :
    w.cell? ⟨b, 0, none⟩ = some (.int .i64 s0) ∧ w.cell? ⟨b, 1, none⟩ = some (.int .i64 g0) ∧ w.cell? ⟨b, 2, none⟩ = some (.int .i64 i0) ∧ w.cell? ⟨b, 3, none⟩ = some (.slice A0 n0 c0) ∧
    w.cell? ⟨b, 4, none⟩ = some (.int .i64 s1) ∧ w.cell? ⟨b, 5, none⟩ = some (.int .i64 g1) ∧ w.cell? ⟨b, 6, none⟩ = some (.int .i64 i1) ∧ w.cell? ⟨b, 7, none⟩ = some (.slice A1 n1 c1) ∧ (∀ k, w.frozen? ⟨b, k, none⟩ = false) ∧ b < w.heap.size := by
  obtain ⟨cur, h, a0, a1, a2, a3, a4, a5, a6, a7⟩ := h
  exact ⟨(cell_of_block h).trans a0, (cell_of_block h).trans a1, (cell_of_block h).trans a2, (cell_of_block h).trans a3, (cell_of_block h).trans a4, (cell_of_block h).trans a5, (cell_of_block h).trans a6, (cell_of_block h).trans a7, fun k => free_of_block h, heap_lt h⟩
theorem PV2.swap {w : World} {b n0 c0 n1 c1 : Nat} {s0 g0 i0 s1 g1 i1 : Int} {A0 A1 : Option Addr} (h : PV2 w b s0 g0 i0 s1 g1 i1 A0 A1 n0 c0 n1 c1) (w' : World)
    (e : w' = (((((((w.setCell ⟨b, 4, none⟩ (.int .i64 s0)).setCell ⟨b, 5, none⟩ (.int .i64 g0)).setCell ⟨b, 6, none⟩ (.int .i64 i0)).setCell ⟨b, 7, none⟩ (.slice A0 n0 c0)).setCell ⟨b, 0, none⟩ (.int .i64 s1)).setCell ⟨b, 1, none⟩ (.int .i64 g1)).setCell ⟨b, 2, none⟩ (.int .i64 i1)).setCell ⟨b, 3, none⟩ (.slice A1 n1 c1)) :
    PV2 w' b s1 g1 i1 s0 g0 i0 A1 A0 n1 c1 n0 c0 := by
  subst e
  obtain ⟨cur, h0, a0, a1, a2, a3, a4, a5, a6, a7⟩ := h
  have hz : 7 < cur.size := (Array.getElem?_eq_some_iff.1 a7).1
  refine ⟨_, set_block (set_block (set_block (set_block (set_block (set_block (set_block (set_block h0 4 _) 5 _) 6 _) 7 _) 0 _) 1 _) 2 _) 3 _, ?_, ?_, ?_, ?_, ?_, ?_, ?_, ?_⟩ <;> simp [Array.getElem?_setIfInBounds] <;> first | omega | (rintro rfl; simp at hz)
theorem Turn.put8 {b : Nat} {w w2 : World} (h : Turn [b] w w2) (k1 k2 k3 k4 k5 k6 k7 k8 : Nat) (v1 v2 v3 v4 v5 v6 v7 v8 : Value) :
    Turn [b] w ((((((((w2.setCell ⟨b, k1, none⟩ v1).setCell ⟨b, k2, none⟩ v2).setCell ⟨b, k3, none⟩ v3).setCell ⟨b, k4, none⟩ v4).setCell ⟨b, k5, none⟩ v5).setCell ⟨b, k6, none⟩ v6).setCell ⟨b, k7, none⟩ v7).setCell ⟨b, k8, none⟩ v8) := by
  have s : ∀ (W : World) (k : Nat) (v : Value), Turn [b] w W → Turn [b] w (W.setCell ⟨b, k, none⟩ v) := fun W k v hW => hW.trans (Turn.set _ _ _ _ (by simp))
  exact s _ _ _ (s _ _ _ (s _ _ _ (s _ _ _ (s _ _ _ (s _ _ _ (s _ _ _ (s _ _ _ h)))))))
end Go.Proofs.Ytoofgcdilgfclaa
