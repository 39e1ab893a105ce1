import Derived.Test.YtanlaannkdiieaaPkK
namespace Go.Proofs.Ytanlaannkdiieaa.Pk
open Go.RowKit Go.Sort

def Srt (S : List It) : Prop := S.Pairwise (fun x y => ltIt x y = true)
def hasId (id : Int) (S : List It) : Bool := S.any (fun x => x.1 == id)
def rem (id : Int) (S : List It) : List It := S.filter (fun x => x.1 != id)
def ins (x : It) : List It → List It
  | [] => [x]
  | y :: S => if ltIt y x then y :: ins x S else x :: y :: S

theorem ins_perm (x : It) : ∀ S, (ins x S).Perm (x :: S)
  | [] => List.Perm.refl _
  | y :: S => by
    unfold ins
    split
    · exact ((ins_perm x S).cons y).trans (List.Perm.swap x y S)
    · exact List.Perm.refl _

theorem lt_trans' {x y z : It} (h : ltIt x y = true) (k : ltIt y z = true) : ltIt x z = true := by rw [lt_iff] at *; omega
theorem lt_irrefl' (x : It) : ltIt x x = false := by unfold ltIt; simp

theorem ins_srt {x : It} : ∀ {S : List It}, Srt S → (∀ y ∈ S, y.1 ≠ x.1) → Srt (ins x S)
  | [], _, _ => List.pairwise_singleton _ _
  | y :: S, h, hx => by
    have h' := List.pairwise_cons.1 h
    unfold ins
    split
    · rename_i hl
      refine List.pairwise_cons.2 ⟨fun z hz => ?_, ins_srt h'.2 (fun z hz => hx z (List.mem_cons_of_mem _ hz))⟩
      rcases List.mem_cons.1 ((ins_perm x S).mem_iff.1 hz) with e | hz
      · subst e; exact hl
      · exact h'.1 z hz
    · rename_i hl
      have hl' : ltIt x y = true := by
        have := hx y List.mem_cons_self
        rw [lt_iff] at *
        omega
      refine List.pairwise_cons.2 ⟨fun z hz => ?_, h⟩
      rcases List.mem_cons.1 hz with e | hz
      · subst e; exact hl'
      · exact lt_trans' hl' (h'.1 z hz)

theorem rem_srt {S : List It} (h : Srt S) (id : Int) : Srt (rem id S) := h.filter _

theorem srt_unique : ∀ {S T : List It}, Srt S → Srt T → S.Perm T → S = T
  | [], T, _, _, p => (List.nil_perm.1 p).symm
  | x :: S, [], _, _, p => by have := List.perm_nil.1 p; cases this
  | x :: S, y :: T, h, k, p => by
    have h' := List.pairwise_cons.1 h
    have k' := List.pairwise_cons.1 k
    have e : x = y := by
      rcases List.mem_cons.1 (p.mem_iff.1 List.mem_cons_self) with e | hx
      · exact e
      · rcases List.mem_cons.1 (p.mem_iff.2 List.mem_cons_self) with e | hy
        · exact e.symm
        · have a := k'.1 x hx
          have b := h'.1 y hy
          have := lt_trans' a b
          rw [lt_irrefl'] at this
          cases this
    subst e
    rw [srt_unique h'.2 k'.2 p.cons_inv]

theorem nodup_of_dist {l : List It} (h : Dist l) : (l.map (·.1)).Nodup := by
  rw [List.nodup_iff_pairwise_ne, List.pairwise_map, List.pairwise_iff_getElem]
  intro i j hi hj hij e
  have := h i j hi hj (by unfold at'; rw [List.getD_eq_getElem?_getD, List.getD_eq_getElem?_getD, List.getElem?_eq_getElem hi, List.getElem?_eq_getElem hj]; exact e)
  omega

theorem hasId_iff (id : Int) (S : List It) : hasId id S = true ↔ ∃ x ∈ S, x.1 = id := by
  unfold hasId
  simp

theorem hasId_perm {S T : List It} (p : S.Perm T) (id : Int) : hasId id S = hasId id T := by
  rw [Bool.eq_iff_iff, hasId_iff, hasId_iff]
  constructor
  · rintro ⟨x, hx, e⟩; exact ⟨x, p.mem_iff.1 hx, e⟩
  · rintro ⟨x, hx, e⟩; exact ⟨x, p.mem_iff.2 hx, e⟩

theorem Idx.hasId {D : DataW Unit} {l : List It} (h : Idx D l) (id : Int) : Maps.has D (key id) = Pk.hasId id l := by
  rw [Bool.eq_iff_iff, hasId_iff]
  constructor
  · intro e
    obtain ⟨i, hi, e⟩ := h.back id e
    exact ⟨_, at_mem l i hi, e⟩
  · rintro ⟨x, hx, rfl⟩
    obtain ⟨i, hi, rfl⟩ := mem_at hx
    exact h.has i hi

theorem rem_none {S : List It} {id : Int} (h : hasId id S = false) : rem id S = S := by
  unfold rem
  rw [List.filter_eq_self]
  intro x hx
  by_cases e : x.1 = id
  · have := (hasId_iff id S).2 ⟨x, hx, e⟩
    rw [h] at this
    cases this
  · simpa using e

theorem rem_perm {S T : List It} (p : S.Perm T) (id : Int) : (rem id S).Perm (rem id T) := p.filter _

/-- One item out of a list whose IDs are unlike. -/
theorem rem_cons {l m : List It} {x : It} (p : (m ++ [x]).Perm l) (h : (l.map (·.1)).Nodup) : (rem x.1 l).Perm m := by
  have q : (x :: m).Perm l := (List.perm_append_comm (l₁ := [x]) (l₂ := m)).trans p
  have n : ((x :: m).map (·.1)).Nodup := (q.map (·.1)).nodup_iff.2 h
  refine (rem_perm q.symm x.1).trans ?_
  have e : rem x.1 (x :: m) = m := by
    unfold rem
    rw [List.filter_cons_of_neg (by simp), List.filter_eq_self]
    intro y hy
    rw [List.map_cons, List.nodup_cons] at n
    have : y.1 ≠ x.1 := fun e => n.1 (e ▸ List.mem_map_of_mem hy)
    simpa using this
  rw [e]

theorem erase_perm : ∀ (l : List It) (i : Nat), i < l.length → (at' l i :: l.eraseIdx i).Perm l
  | [], i, h => absurd h (Nat.not_lt_zero _)
  | y :: l, 0, _ => List.Perm.refl _
  | y :: l, i + 1, h => (List.Perm.swap y (at' l i) (l.eraseIdx i)).trans ((erase_perm l i (by simpa using h)).cons y)

theorem set_erase : ∀ (l : List It) (i : Nat) (x : It), i < l.length → (l.set i x).Perm (x :: l.eraseIdx i)
  | [], i, _, h => absurd h (Nat.not_lt_zero _)
  | y :: l, 0, _, _ => List.Perm.refl _
  | y :: l, i + 1, x, h => ((set_erase l i x (by simpa using h)).cons y).trans (List.Perm.swap x y (l.eraseIdx i))

theorem set_perm {l : List It} {i : Nat} (hi : i < l.length) (x : It) (hx : x.1 = (at' l i).1) (h : (l.map (·.1)).Nodup) : (l.set i x).Perm (x :: rem x.1 l) := by
  have b : (l.eraseIdx i ++ [at' l i]).Perm l := (List.perm_append_comm (l₁ := l.eraseIdx i) (l₂ := [at' l i])).trans (erase_perm l i hi)
  have c := rem_cons b h
  rw [← hx] at c
  exact (set_erase l i x hi).trans (c.symm.cons x)

/-- A heap: its block, the blocks it has, the items in their order. -/
def IsHeap (w : World) (hb : Nat) (F : List Nat) (S : List It) : Prop :=
  (w.heap[hb]? = some (.cells #[.slice none 0 0, .map none] 48 (0, 0)) ∧ S = [] ∧ F = [hb]) ∨
  ∃ g mb cap l, Raw w hb g mb cap l ∧ Heapy l l.length ∧ l.Perm S ∧ Srt S ∧ F = [hb, g, mb]

/-- What an act does to the world. -/
structure Step (F F' : List Nat) (w w' : World) : Prop where
  turn : Turn F w w'
  blocks : ∀ k ∈ F', k ∈ F ∨ w.heap.size ≤ k

theorem IsHeap.lt {w : World} {hb : Nat} {F : List Nat} {S : List It} (h : IsHeap w hb F S) : ∀ k ∈ F, k < w.heap.size := by
  rcases h with ⟨h, _, rfl⟩ | ⟨g, mb, cap, l, R, _, _, _, rfl⟩
  · intro k hk; rw [List.mem_singleton.1 hk]; exact lt_size h
  · intro k hk
    obtain ⟨cur, h1, _⟩ := R.row.block
    obtain ⟨D, h2, _⟩ := R.idx
    simp at hk
    rcases hk with rfl | rfl | rfl
    · exact lt_size R.head
    · exact lt_size h1
    · exact h2.lt

theorem IsHeap.keep {w w' : World} {hb : Nat} {F G : List Nat} {S : List It} (h : IsHeap w hb F S) (t : Turn G w w') (hd : ∀ k ∈ F, k ∉ G) : IsHeap w' hb F S := by
  have hl := h.lt
  rcases h with ⟨h, e, rfl⟩ | ⟨g, mb, cap, l, R, h1, h2, h3, rfl⟩
  · exact Or.inl ⟨(t.block hb (lt_size h) (hd hb (by simp))).trans h, e, rfl⟩
  · exact Or.inr ⟨g, mb, cap, l, R.keep (fun k hk hm => t.block k hk (hd k (by simp; exact hm))), h1, h2, h3, rfl⟩

theorem IsHeap.srt {w : World} {hb : Nat} {F : List Nat} {S : List It} (h : IsHeap w hb F S) : Srt S := by
  rcases h with ⟨_, rfl, _⟩ | ⟨_, _, _, _, _, _, _, h, _⟩
  · exact List.Pairwise.nil
  · exact h

theorem IsHeap.nodup {w : World} {hb : Nat} {F : List Nat} {S : List It} (h : IsHeap w hb F S) : (S.map (·.1)).Nodup := by
  rcases h with ⟨_, rfl, _⟩ | ⟨_, _, _, l, R, _, p, h, _⟩
  · exact List.nodup_nil
  · exact (p.map (·.1)).nodup_iff.1 (nodup_of_dist R.dist)

theorem IsHeap.wf {w : World} {hb : Nat} {F : List Nat} {S : List It} (h : IsHeap w hb F S) : ∀ x ∈ S, Wf x := by
  rcases h with ⟨_, rfl, _⟩ | ⟨_, _, _, l, R, _, p, h, _⟩
  · intro x hx; cases hx
  · intro x hx; exact R.wf x (p.mem_iff.2 hx)

/-- The first of the sorted is the heap's first. -/
theorem head_eq {l S : List It} {x : It} (hH : Heapy l l.length) (p : l.Perm (x :: S)) (hs : Srt (x :: S)) : at' l 0 = x := by
  have hl : 0 < l.length := by rw [p.length_eq]; simp
  have h' := List.pairwise_cons.1 hs
  have m0 : at' l 0 ∈ x :: S := p.mem_iff.1 (at_mem l 0 hl)
  obtain ⟨i, hi, e⟩ := mem_at (p.mem_iff.2 List.mem_cons_self : x ∈ l)
  have a := least_of_heapy hH i hi
  rw [e] at a
  rcases List.mem_cons.1 m0 with h | h
  · exact h
  · have := h'.1 _ h
    unfold le at a
    rw [a] at this
    cases this
end Go.Proofs.Ytanlaannkdiieaa.Pk
