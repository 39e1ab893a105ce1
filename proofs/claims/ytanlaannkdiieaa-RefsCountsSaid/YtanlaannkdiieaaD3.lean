import Derived.Test.YtanlaannkdiieaaD2
namespace Go.Proofs.Ytanlaannkdiieaa
open Go.RowKit Go.Sort
set_option maxRecDepth 100000
set_option maxHeartbeats 1000000

theorem bytes_far {w : World} {b o : Nat} {cs : Array Value} {t : TypeId} {fr : Nat × Nat} {u : Value} (hb : w.heap[b]? = some (.cells cs t fr)) (ht : t ≠ 5) : ∀ (g : Nat) (cs : Array Value), w.heap[g]? = some (Obj.cells cs 5 (0, 0)) → (w.setCell ⟨b, o, none⟩ u).heap[g]? = w.heap[g]? := by
  intro g cs' hg
  refine set_other ?_ o u
  rintro rfl
  rw [hb] at hg
  cases hg
  exact ht rfl
theorem list_snoc {α : Type} {l : List α} {x y : α} {i : Nat} (h : (l ++ [x])[i]? = some y) : (i < l.length ∧ l[i]? = some y) ∨ (i = l.length ∧ x = y) := by
  by_cases hi : i < l.length
  · rw [List.getElem?_append_left hi] at h
    exact Or.inl ⟨hi, h⟩
  · rw [List.getElem?_append_right (by omega)] at h
    obtain ⟨hlt, h2⟩ := List.getElem?_eq_some_iff.1 h
    have hlen : i - l.length = 0 := by simpa using hlt
    exact Or.inr ⟨by omega, by simpa [hlen] using h⟩

end Go.Proofs.Ytanlaannkdiieaa
