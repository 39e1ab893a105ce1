import Derived.Test.YtanlaannkdiieaaD4
namespace Go.Proofs.Ytanlaannkdiieaa
open Go.RowKit Go.Sort
set_option maxRecDepth 100000
set_option maxHeartbeats 1000000

theorem infoBool : (Try.prog.info? 4).map (fun i => (i.zero, i.size, i.bytes)) = some (some (.bool false), 1, 1) := by kernel_rfl
/-- A block of bools. -/
def BlkB (w : World) (g n : Nat) (f : Nat → Bool) : Prop := ∃ cs : Array Value, w.heap[g]? = some (.cells cs 4 (0, 0)) ∧ n ≤ cs.size ∧ ∀ j, j < n → cs[j]? = some (.bool (f j))
theorem BlkB.keep {w w' : World} {g n : Nat} {f : Nat → Bool} (h : BlkB w g n f) (e : w'.heap[g]? = w.heap[g]?) : BlkB w' g n f := by
  obtain ⟨cs, hb, hc⟩ := h
  exact ⟨cs, e.trans hb, hc⟩
theorem BlkB.lt {w : World} {g n : Nat} {f : Nat → Bool} (h : BlkB w g n f) : g < w.heap.size := by
  obtain ⟨cs, hb, _⟩ := h
  exact heap_lt hb
theorem BlkB.cell {w : World} {g n j : Nat} {f : Nat → Bool} (h : BlkB w g n f) (hj : j < n) : w.cell? ⟨g, j, none⟩ = some (.bool (f j)) := by
  obtain ⟨cs, hb, hs, hc⟩ := h
  exact (cell_of_block hb).trans (hc j hj)
theorem BlkB.free {w : World} {g n : Nat} {f : Nat → Bool} (h : BlkB w g n f) (k : Nat) : w.frozen? ⟨g, k, none⟩ = false := by
  obtain ⟨cs, hb, _⟩ := h
  exact free_of_block hb
theorem BlkB.congr {w : World} {g n : Nat} {f f' : Nat → Bool} (h : BlkB w g n f) (e : ∀ j, j < n → f j = f' j) : BlkB w g n f' := by
  obtain ⟨cs, hb, hs, hc⟩ := h
  exact ⟨cs, hb, hs, fun j hj => by rw [← e j hj]; exact hc j hj⟩
theorem BlkB.put {w : World} {g n q : Nat} {x : Bool} {f : Nat → Bool} (h : BlkB w g n f) (hq : q < n) : BlkB (w.setCell ⟨g, q, none⟩ (.bool x)) g n (fun j => if j = q then x else f j) := by
  obtain ⟨cs, hb, hs, hc⟩ := h
  refine ⟨cs.setIfInBounds q (.bool x), set_block hb q _, by simpa using hs, fun j hj => ?_⟩
  dsimp only
  rw [Array.getElem?_setIfInBounds]
  by_cases e : q = j
  · subst e
    rw [if_pos rfl, if_pos (by omega), if_pos rfl]
  · rw [if_neg e, if_neg (fun h => e h.symm), hc j hj]
end Go.Proofs.Ytanlaannkdiieaa
