import Derived.Test.YtoofgcdilgfclaaV13
import Derived.Test.YtoofgcdilgfclaaV11
import Derived.Test.YtoofgcdilgfclaaV10
namespace Go.Proofs.Ytoofgcdilgfclaa
open Go.RowKit Go.Sort
set_option maxRecDepth 100000
set_option maxHeartbeats 1000000

section
variable {w w' : World} {b n c : Nat} {no s g : Int} {A : Option Addr}
end
theorem below_putS {B : Nat} {w0 w : World} {b : Nat} (h : Below B w0 w) (hb : B ≤ b) (v0 v1 v2 v3 : Value) : Below B w0 ((((w.setCell ⟨b, 0, none⟩ v0).setCell ⟨b, 1, none⟩ v1).setCell ⟨b, 2, none⟩ v2).setCell ⟨b, 3, none⟩ v3) :=
  (((h.setCell hb _).setCell hb _).setCell hb _).setCell hb _
/-- lay: the block of a slot. -/
def ILayRet (no : Nat) (x : It) (w : World) (e : Ending) (w' : World) : Prop :=
  ∃ g, e = .returned (.tuple #[.slice (some ⟨g, 0, none⟩) 160 160, .int .i64 0]) ∧ Blk8 w' g 160 (itS no x) ∧ Below w.heap.size w w' ∧ w.heap.size ≤ g
/-- read of an intent's block. -/
def IReadRet (no : Nat) (x : It) (w : World) (e : Ending) (w' : World) : Prop := ∃ A c, e = .returned (sv (no : Int) (x.s : Int) (x.g : Int) A 128 c) ∧ DatI w' A x.D ∧ Below w.heap.size w w' ∧ 128 ≤ c
end Go.Proofs.Ytoofgcdilgfclaa
namespace Go.Proofs.Ytoofgcdilgfclaa
open Go.RowKit Go.Sort
set_option maxRecDepth 100000
set_option maxHeartbeats 1000000

end Go.Proofs.Ytoofgcdilgfclaa
namespace Go.Proofs.Ytoofgcdilgfclaa
open Go.RowKit Go.Sort
set_option maxRecDepth 100000
set_option maxHeartbeats 1000000

/-- Read. -/
def DReadRet (F : Blk) (w : World) (e : Ending) (w' : World) : Prop := ∃ g cap, e = .returned (.tuple #[.slice (some ⟨g, 0, none⟩) 160 cap, .bool true]) ∧ Blk8 w' g 160 F ∧ Below w.heap.size w w' ∧ w.heap.size ≤ g ∧ 160 ≤ cap
end Go.Proofs.Ytoofgcdilgfclaa
namespace Go.Proofs.Ytoofgcdilgfclaa
open Go.RowKit Go.Sort
set_option maxRecDepth 100000
set_option maxHeartbeats 1000000

theorem bytes_far {w : World} {b o : Nat} {cs : Array Value} {t : TypeId} {fr : Nat × Nat} {u : Value} (hb : w.heap[b]? = some (.cells cs t fr)) (ht : t ≠ 5) : ∀ (g : Nat) (cs : Array Value), w.heap[g]? = some (Obj.cells cs 5 (0, 0)) → (w.setCell ⟨b, o, none⟩ u).heap[g]? = w.heap[g]? := by
  intro g cs' hg
  refine set_other ?_ o u
  rintro rfl
  rw [hb] at hg
  cases hg
  exact ht rfl
theorem Slab.put {w : World} {b N k : Nat} {D : Nat → Blk} {v : Value} {F : Blk} (h : Slab w b N D) (hk : k < N) (hr : Ref w v F) : Slab (w.setCell ⟨b, k, none⟩ v) b N (upd D (k, F)) := by
  obtain ⟨cs, h1, h2, h3⟩ := h
  have hf := bytes_far (o := k) (u := v) h1 (by decide)
  refine ⟨_, set_block h1 k v, by simpa using h2, fun j hj => ?_⟩
  rw [Array.getElem?_setIfInBounds]
  unfold upd
  by_cases e : k = j
  · subst e
    rw [if_pos rfl, if_pos (by omega), if_pos rfl]
    exact ⟨v, rfl, hr.keep hf⟩
  · rw [if_neg e, if_neg (fun h => e h.symm)]
    obtain ⟨u, hu, hr'⟩ := h3 j hj
    exact ⟨u, hu, hr'.keep hf⟩
/-- A cell of another of a disk's blocks is put. -/
theorem Slab.far {w : World} {b N b' o : Nat} {D : Nat → Blk} {u : Value} {cs : Array Value} {t : TypeId} {fr : Nat × Nat} (h : Slab w b N D) (hb : w.heap[b']? = some (.cells cs t fr)) (ht : t ≠ 5) (hne : b ≠ b') : Slab (w.setCell ⟨b', o, none⟩ u) b N D :=
  h.keep (bytes_far hb ht) (set_other hne o u)
theorem list_snoc {α : Type} {l : List α} {x y : α} {i : Nat} (h : (l ++ [x])[i]? = some y) : (i < l.length ∧ l[i]? = some y) ∨ (i = l.length ∧ x = y) := by
  by_cases hi : i < l.length
  · rw [List.getElem?_append_left hi] at h
    exact Or.inl ⟨hi, h⟩
  · rw [List.getElem?_append_right (by omega)] at h
    obtain ⟨hlt, h2⟩ := List.getElem?_eq_some_iff.1 h
    have hlen : i - l.length = 0 := by simpa using hlt
    exact Or.inr ⟨by omega, by simpa [hlen] using h⟩

end Go.Proofs.Ytoofgcdilgfclaa
namespace Go.Proofs.Ytoofgcdilgfclaa
open Go.RowKit Go.Sort
set_option maxRecDepth 100000
set_option maxHeartbeats 2000000

end Go.Proofs.Ytoofgcdilgfclaa
