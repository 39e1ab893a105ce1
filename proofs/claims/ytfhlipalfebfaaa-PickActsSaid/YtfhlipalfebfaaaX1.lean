import Derived.Test.YtfhlipalfebfaaaW
import Derived.Test.YtfhlipalfebfaaaU
import Derived.Test.YtfhlipalfebfaaaS
import Derived.Deep.DeepCutAuto
import Derived.Deep.CutBlock
namespace Go.Proofs.Ytfhlipalfebfaaa
open Go.RowKit Go.Sort

theorem Sl.imp {w w' : World} {P Q : Nat → Prop} {v : Value} {L : List It} (h : Sl w P v L) (hs : w.heap.size ≤ w'.heap.size) (hq : ∀ g, g < w.heap.size → P g → Q g ∧ ∀ o, w'.cell? ⟨g, o, none⟩ = w.cell? ⟨g, o, none⟩) : Sl w' Q v L := by
  obtain ⟨a, cap, e, h1, h2, h3, h4⟩ := h
  refine ⟨a, cap, e, h1, h2, h3, fun hl => ?_⟩
  obtain ⟨g, o, e2, p, hg, hc⟩ := h4 hl
  have := hq g hg p
  exact ⟨g, o, e2, this.1, by omega, fun i hi => ⟨(this.2 _).trans (hc i hi).1, (this.2 _).trans (hc i hi).2⟩⟩

theorem Sl.step {w w' : World} {F F' : List Nat} {v : Value} {L : List It} (h : Sl w (· ∉ F) v L) (s : Step F F' w w') : Sl w' (· ∉ F') v L :=
  h.imp s.turn.size (fun g hg hp => ⟨fun e => by
    rcases s.blocks g e with y | y
    · exact hp y
    · omega, fun o => s.turn.cell hg hp⟩)

theorem Sl.of {w w' : World} {F : List Nat} {v : Value} {L : List It} (h : Sl w (· ∉ F) v L) (b : Below w.heap.size w w') : Sl w' (· ∉ F) v L :=
  h.imp b.size (fun g hg hp => ⟨hp, fun o => b.cell (p := ⟨g, o, none⟩) hg⟩)

/-- A row made since: a slice. -/
theorem Sl.row {w : World} {g cap : Nat} {P : Nat → Prop} {L : List It} (h : Row w g cap L) (hc : cap ≤ maxLen) (hp : P g) (hg : g < w.heap.size) : Sl w P (.slice (some ⟨g, 0, none⟩) L.length cap) L :=
  ⟨_, _, rfl, h.cap, hc, Or.inr ⟨_, _, rfl⟩, fun _ => ⟨_, _, rfl, hp, hg, fun i hi => by
    rw [Nat.zero_add]
    exact ⟨h.id i hi, h.key i hi⟩⟩⟩

theorem Sl.tail {w : World} {P : Nat → Prop} {g o o2 cap : Nat} {L : List It} (h : Sl w P (.slice (some ⟨g, o, none⟩) L.length cap) L) (hl : 0 < L.length) (ho : o2 = o + 2 ∨ L.length = 1) : Sl w P (.slice (some ⟨g, o2, none⟩) L.tail.length (cap - 1)) L.tail := by
  obtain ⟨a, c, e, h1, h2, h3, h4⟩ := h
  cases e
  obtain ⟨g', o', e, hP, hg, hc⟩ := h4 hl
  cases e
  refine ⟨_, _, rfl, by rw [List.length_tail]; omega, by omega, Or.inr ⟨_, _, rfl⟩, fun h5 => ⟨g, o2, rfl, hP, hg, fun i hi => ?_⟩⟩
  rw [List.length_tail] at h5 hi
  rcases ho with rfl | e
  · have c := hc (i + 1) (by omega)
    have e : at' L (i + 1) = at' L.tail i := by
      cases L with
      | nil => cases hl
      | cons x L => rfl
    rw [e, show o + (i + 1) * 2 = o + 2 + i * 2 by omega] at c
    exact c
  · omega

/-- A slice's acts, cell by cell. -/
def ActsIn (w : World) (a : Option Addr) (xs : List (Int × Int × Int)) : Prop := ∀ (i : Nat) (x : Int × Int × Int), xs[i]? = some x → ∃ g o, a = some ⟨g, o, none⟩ ∧ g < w.heap.size ∧
  w.cell? ⟨g, o + i * 3, none⟩ = some (.int .i64 x.1) ∧ w.cell? ⟨g, o + i * 3 + 1, none⟩ = some (.int .i64 x.2.1) ∧ w.cell? ⟨g, o + i * 3 + 2, none⟩ = some (.int .i64 x.2.2)

/-- Where the id last stood among the first k. -/
def AtPost (S : List It) (id : Int) (k : Nat) (at_ : Int) : Prop := (at_ = -1 ∧ ∀ j, j < k → (at' S j).1 ≠ id) ∨ ∃ j : Nat, j < k ∧ at_ = j ∧ (at' S j).1 = id

theorem AtPost.next {S : List It} {id : Int} {k : Nat} {at_ : Int} (h : AtPost S id k at_) (hn : (at' S k).1 ≠ id) : AtPost S id (k + 1) at_ := by
  rcases h with ⟨e, h⟩ | ⟨j, hj, e, h⟩
  · refine Or.inl ⟨e, fun j hj => ?_⟩
    by_cases hjk : j = k
    · subst hjk; exact hn
    · exact h j (by omega)
  · exact Or.inr ⟨j, by omega, e, h⟩

theorem at_memL (S : List It) (k : Nat) (h : k < S.length) : at' S k ∈ S := by
  unfold at'
  rw [List.getD_eq_getElem?_getD, List.getElem?_eq_getElem h]
  exact List.getElem_mem h
theorem hd_pos {S : List It} (h : 0 < S.length) : hd S = (at' S 0, true) := by
  cases S with
  | nil => exact absurd h (Nat.lt_irrefl _)
  | cons x S => rfl
theorem hd_zero {S : List It} (h : S.length = 0) : hd S = ((0, 0), false) := by
  cases S with
  | nil => rfl
  | cons x S => cases h

theorem rem_at : ∀ (S : List It) (j : Nat), j < S.length → (S.map (·.1)).Nodup → rem (at' S j).1 S = S.take j ++ S.drop (j + 1)
  | x :: S, 0, _, nd => by
    rw [List.map_cons, List.nodup_cons] at nd
    show rem x.1 (x :: S) = S
    have hno : hasId x.1 S = false := by
      cases e : hasId x.1 S
      · rfl
      · obtain ⟨y, hy, e2⟩ := (hasId_iff _ _).1 e
        exact absurd (e2 ▸ List.mem_map_of_mem hy) nd.1
    have r := rem_none hno
    unfold rem at *
    rw [List.filter_cons_of_neg (by simp)]
    exact r
  | x :: S, j + 1, hj, nd => by
    rw [List.map_cons, List.nodup_cons] at nd
    have hj' : j < S.length := Nat.lt_of_succ_lt_succ hj
    have r := rem_at S j hj' nd.2
    have e : at' (x :: S) (j + 1) = at' S j := rfl
    have hne : x.1 ≠ (at' S j).1 := fun h => nd.1 (h ▸ List.mem_map_of_mem (at_mem S j hj'))
    rw [e]
    unfold rem at *
    rw [List.filter_cons_of_pos (by simpa using hne), r]
    rfl

theorem hasId_none {S : List It} {id : Int} (h : ∀ j, j < S.length → (at' S j).1 ≠ id) : hasId id S = false := by
  cases e : hasId id S
  · rfl
  · obtain ⟨y, hy, e2⟩ := (hasId_iff _ _).1 e
    obtain ⟨j, hj, e3⟩ := List.getElem_of_mem hy
    have := h j hj
    unfold at' at this
    rw [List.getD_eq_getElem?_getD, List.getElem?_eq_getElem hj] at this
    exact absurd (by rw [← e2, ← e3]; rfl) this

theorem hasId_some {S : List It} {id : Int} {j : Nat} (hj : j < S.length) (h : (at' S j).1 = id) : hasId id S = true := (hasId_iff _ _).2 ⟨_, at_mem S j hj, h⟩

/-- The heap, and the list beside it. -/
structure Both (B : Nat) (w0 w : World) (hb : Nat) (F : List Nat) (S : List It) (v : Value) : Prop where
  st : St B w0 w hb F S
  sl : Sl w (· ∉ F) v S

theorem Both.of {B : Nat} {w0 w w' : World} {hb : Nat} {F : List Nat} {S : List It} {v : Value} (h : Both B w0 w hb F S v) (b : Below w.heap.size w w') : Both B w0 w' hb F S v := ⟨h.st.of b, h.sl.of b⟩

end Go.Proofs.Ytfhlipalfebfaaa
