import Derived.Test.YtajpnbmfeapmcaaK3
import Derived.Test.YtajpnbmfeapmcaaK4
import Derived.Test.YtajpnbmfeapmcaaJ4
namespace Go.Proofs.Ytajpnbmfeapmcaa
open Go.RowKit Go.Sort
set_option maxRecDepth 100000
set_option maxHeartbeats 1000000

/-- Own rows stay where their blocks do. -/
theorem Rows8.keepBy {w w' : World} {B : Nat} {v : Value} {n c : Nat} {G : Nat → Nat} {A : Mx} (h : Rows8 w B v n c G A) (hs : w.heap.size ≤ w'.heap.size) (e : ∀ k, v.ownBlock = some k ∨ (∃ i, i < n ∧ k = G i) → w'.heap[k]? = w.heap[k]?) : Rows8 w' B v n c G A := by
  obtain ⟨⟨xs, hx, hg⟩, hr, hb, ha, hi⟩ := h
  refine ⟨⟨xs, ?_, hg⟩, fun i hi' => (hr i hi').keep (e _ (Or.inr ⟨i, hi', rfl⟩)), fun i hi' => ⟨(hb i hi').1, Nat.lt_of_lt_of_le (hb i hi').2 hs⟩, ha, hi⟩
  obtain ⟨h1, h2⟩ := hx
  refine ⟨h1, ?_⟩
  rcases h2 with h2 | ⟨g, cap, cur, rfl, hg', hh, r⟩
  · exact Or.inl h2
  · exact Or.inr ⟨g, cap, cur, rfl, hg', (e g (Or.inl rfl)).trans hh, r⟩
theorem own_keepBy {w w' : World} {B : Nat} {e : TypeId} {v : Value} {n : Nat} {xs : List Value} (h : w.ownsRow B e 1 v n xs) (he : ∀ k, v.ownBlock = some k → w'.heap[k]? = w.heap[k]?) : w'.ownsRow B e 1 v n xs := by
  obtain ⟨h1, h2⟩ := h
  refine ⟨h1, ?_⟩
  rcases h2 with h2 | ⟨g, cap, cur, rfl, hg', hh, r⟩
  · exact Or.inl h2
  · exact Or.inr ⟨g, cap, cur, rfl, hg', (he g rfl).trans hh, r⟩

/-- Two lists under way at once: rows that were made, and places of rows that are there. -/
structure Pair (w : World) (B : Nat) (s t : Value) (m c : Nat) (G : Nat → Nat) (A : Mx) (V : Nat → Value) : Prop where
  rows : Rows8 w B s m c G A
  vals : ∃ ys, w.ownsRow B 29 1 t m ys ∧ ∀ l, l < m → ys[l]? = some (V l)
  ap1 : ∀ l, l < m → t.ownBlock ≠ some (G l)
  ap2 : ∀ b, s.ownBlock = some b → t.ownBlock ≠ some b
theorem Pair.start (w : World) (B c : Nat) (G : Nat → Nat) (A : Mx) (V : Nat → Value) : Pair w B (.slice none 0 0) (.slice none 0 0) 0 c G A V :=
  ⟨Rows8.start _ _ _ _ _, ⟨[], World.ownsRow_nil _ _ _ _, fun _ hl => absurd hl (Nat.not_lt_zero _)⟩, fun _ hl => absurd hl (Nat.not_lt_zero _), fun _ h => by cases h⟩
theorem Pair.keep {w w' : World} {B : Nat} {s t : Value} {m c : Nat} {G : Nat → Nat} {A : Mx} {V : Nat → Value} (h : Pair w B s t m c G A V) (b : Below w.heap.size w w') : Pair w' B s t m c G A V := by
  obtain ⟨ys, hy, hv⟩ := h.vals
  exact ⟨h.rows.keep b, ⟨ys, own_keep hy b, hv⟩, h.ap1, h.ap2⟩

/-- One more in both: first the row, then (behind new memory) the place. -/
theorem Pair.add {w wc wd we : World} {B g : Nat} {s t s' t' : Value} {m c : Nat} {G : Nat → Nat} {A : Mx} {V : Nat → Value} {xs ys : List Value} {u : Value} (h : Pair w B s t m c G A V)
    (hx : w.ownsRow B 29 1 s m xs) (hxs : ∀ i, i < m → xs[i]? = some (.slice (some ⟨G i, 0, none⟩) c c)) (hy : w.ownsRow B 29 1 t m ys) (hys : ∀ l, l < m → ys[l]? = some (V l)) (hu : u = V m)
    (hg : Row8 w g c (A m)) (hgB : B ≤ g) (hgl : g < w.heap.size) (hgs : s.ownBlock ≠ some g) (hgt : t.ownBlock ≠ some g) (hgG : ∀ i, i < m → G i ≠ g)
    (own1 : wc.ownsRow B 29 1 s' (m + 1) (xs ++ [.slice (some ⟨g, 0, none⟩) c c])) (gr1 : w.grownBy wc s.ownBlock) (hv1 : s'.ownBlock = s.ownBlock ∨ wc.ownsRow w.heap.size 29 1 s' (m + 1) (xs ++ [.slice (some ⟨g, 0, none⟩) c c]))
    (hd : Below wc.heap.size wc wd)
    (own2 : we.ownsRow B 29 1 t' (m + 1) (ys ++ [u])) (gr2 : wd.grownBy we t.ownBlock) (hv2 : t'.ownBlock = t.ownBlock ∨ we.ownsRow wd.heap.size 29 1 t' (m + 1) (ys ++ [u])) :
    Pair we B s' t' (m + 1) c (fun i => if i = m then g else G i) A V := by
  have r1 := h.rows.add hx hxs hg hgB hgl hgs hgG own1 gr1 hv1
  have r2 := r1.keep hd
  have st : ∀ b, s'.ownBlock = some b → t.ownBlock ≠ some b ∧ b < wc.heap.size := fun b hb => by
    refine ⟨fun ht => ?_, (own1.lt b hb).2⟩
    rcases hv1 with hv | hv
    · exact h.ap2 b (hv ▸ hb) ht
    · have := (hv.lt b hb).1
      have := (hy.lt b ht).2
      omega
  have gt : ∀ l, l < m + 1 → t.ownBlock ≠ some (if l = m then g else G l) ∧ (if l = m then g else G l) < w.heap.size := fun l hl => by
    by_cases e : l = m
    · rw [if_pos e]; exact ⟨hgt, hgl⟩
    · rw [if_neg e]; exact ⟨h.ap1 l (by omega), (h.rows.base l (by omega)).2⟩
  have hcd : wc.heap.size ≤ wd.heap.size := hd.size
  have hwc : w.heap.size ≤ wc.heap.size := gr1.size
  refine ⟨r2.keepBy gr2.size (fun k hk => gr2.block k ?_ ?_), ⟨_, own2, fun l hl => ?_⟩, fun l hl e => ?_, fun b hb e => ?_⟩
  · rcases hk with hk | ⟨i, hi, rfl⟩
    · have := (st k hk).2; omega
    · have := (gt i hi).2; omega
  · rcases hk with hk | ⟨i, hi, rfl⟩
    · exact fun e => (st k hk).1 e.symm
    · exact fun e => (gt i hi).1 e.symm
  · have hyl : ys.length = m := by have := hy.1; omega
    by_cases e : l = m
    · rw [e, List.getElem?_append_right (by omega), hyl, Nat.sub_self, ← hu]; rfl
    · rw [List.getElem?_append_left (by omega)]; exact hys l (by omega)
  · rcases hv2 with hv | hv
    · exact (gt l hl).1 (hv ▸ e)
    · have := (hv.lt _ e).1
      have := (gt l hl).2
      omega
  · rcases hv2 with hv | hv
    · exact (st b hb).1 (hv ▸ e)
    · have := (hv.lt b e).1
      have := (st b hb).2
      omega
end Go.Proofs.Ytajpnbmfeapmcaa
