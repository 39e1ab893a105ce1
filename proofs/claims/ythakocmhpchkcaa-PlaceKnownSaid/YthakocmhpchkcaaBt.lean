import Derived.Test.YthakocmhpchkcaaD9
namespace Go.Proofs.Ythakocmhpchkcaa
open Go.RowKit Go.Sort
set_option maxRecDepth 100000
set_option maxHeartbeats 1000000

/-- A block of values that are known. -/
def BlkT (w : World) (t : TypeId) (g n : Nat) (f : Nat → Value) : Prop := ∃ cs : Array Value, w.heap[g]? = some (.cells cs t (0, 0)) ∧ n ≤ cs.size ∧ ∀ j, j < n → cs[j]? = some (f j)
theorem BlkT.keep {w w' : World} {t : TypeId} {g n : Nat} {f : Nat → Value} (h : BlkT w t g n f) (e : w'.heap[g]? = w.heap[g]?) : BlkT w' t g n f := by
  obtain ⟨cs, hb, hc⟩ := h
  exact ⟨cs, e.trans hb, hc⟩
theorem BlkT.lt {w : World} {t : TypeId} {g n : Nat} {f : Nat → Value} (h : BlkT w t g n f) : g < w.heap.size := by
  obtain ⟨cs, hb, _⟩ := h
  exact heap_lt hb
theorem BlkT.cell {w : World} {t : TypeId} {g n j : Nat} {f : Nat → Value} (h : BlkT w t g n f) (hj : j < n) : w.cell? ⟨g, j, none⟩ = some (f j) := by
  obtain ⟨cs, hb, hs, hc⟩ := h
  exact (cell_of_block hb).trans (hc j hj)
theorem BlkT.free {w : World} {t : TypeId} {g n : Nat} {f : Nat → Value} (h : BlkT w t g n f) (k : Nat) : w.frozen? ⟨g, k, none⟩ = false := by
  obtain ⟨cs, hb, _⟩ := h
  exact free_of_block hb
theorem BlkT.congr {w : World} {t : TypeId} {g n : Nat} {f f' : Nat → Value} (h : BlkT w t g n f) (e : ∀ j, j < n → f j = f' j) : BlkT w t g n f' := by
  obtain ⟨cs, hb, hs, hc⟩ := h
  exact ⟨cs, hb, hs, fun j hj => by rw [← e j hj]; exact hc j hj⟩
theorem BlkT.put {w : World} {t : TypeId} {g n q : Nat} {x : Value} {f : Nat → Value} (h : BlkT w t g n f) (hq : q < n) : BlkT (w.setCell ⟨g, q, none⟩ x) t g n (fun j => if j = q then x else f j) := by
  obtain ⟨cs, hb, hs, hc⟩ := h
  refine ⟨cs.setIfInBounds q x, set_block hb q _, by simpa using hs, fun j hj => ?_⟩
  dsimp only
  rw [Array.getElem?_setIfInBounds]
  by_cases e : q = j
  · subst e
    rw [if_pos rfl, if_pos (by omega), if_pos rfl]
  · rw [if_neg e, if_neg (fun h => e h.symm), hc j hj]
end Go.Proofs.Ythakocmhpchkcaa
