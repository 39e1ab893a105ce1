import Derived.Test.YtofmilkjhnkgjaaGreatW37
import Derived.Deep.RegionHeldLaw
import Derived.BigQuiet
namespace Go.Proofs.YtofmilkjhnkgjaaGreat
open Go.RowKit Go.Sort
set_option maxRecDepth 100000
set_option maxHeartbeats 4000000

/-! Live: a list of slots, each put where it belongs. -/
def slV (l : List Sx) : List Value := l.flatMap (fun x => [.int .i64 (x.no : Int), .int .i64 (x.s : Int), .int .i64 (x.g : Int), .slice x.A x.n x.c])
theorem slV_len (l : List Sx) : (slV l).length = l.length * 4 := by
  induction l with
  | nil => rfl
  | cons x l ih =>
    show (_ ++ slV l).length = _
    rw [List.length_append, ih]
    simp
    omega
theorem slV_append (l m : List Sx) : slV (l ++ m) = slV l ++ slV m := by unfold slV; simp
theorem slV_one (l : List Sx) : ∀ u ∈ slV l, u.oneCell' = true := by
  intro u hu
  unfold slV at hu
  rw [List.mem_flatMap] at hu
  obtain ⟨x, _, h⟩ := hu
  simp at h
  rcases h with rfl | rfl | rfl | rfl <;> rfl
theorem slV_get (l : List Sx) : ∀ (i : Nat) (x : Sx), l[i]? = some x → (slV l)[i * 4]? = some (.int .i64 (x.no : Int)) ∧ (slV l)[i * 4 + 1]? = some (.int .i64 (x.s : Int)) ∧ (slV l)[i * 4 + 2]? = some (.int .i64 (x.g : Int)) ∧ (slV l)[i * 4 + 3]? = some (.slice x.A x.n x.c) := by
  induction l with
  | nil => intro i x h; simp at h
  | cons y l ih =>
    intro i x h
    have e : slV (y :: l) = [.int .i64 (y.no : Int), .int .i64 (y.s : Int), .int .i64 (y.g : Int), .slice y.A y.n y.c] ++ slV l := rfl
    rw [e]
    cases i with
    | zero =>
      simp at h
      subst h
      simp
    | succ i =>
      rw [List.getElem?_cons_succ] at h
      obtain ⟨a, b, c, d⟩ := ih i x h
      refine ⟨?_, ?_, ?_, ?_⟩
      · rw [List.getElem?_append_right (by simp; omega)]; simpa [show (i + 1) * 4 - 4 = i * 4 by omega] using a
      · rw [List.getElem?_append_right (by simp; omega)]; simpa [show (i + 1) * 4 + 1 - 4 = i * 4 + 1 by omega] using b
      · rw [List.getElem?_append_right (by simp; omega)]; simpa [show (i + 1) * 4 + 2 - 4 = i * 4 + 2 by omega] using c
      · rw [List.getElem?_append_right (by simp; omega)]; simpa [show (i + 1) * 4 + 3 - 4 = i * 4 + 3 by omega] using d
theorem slV_split (l : List Sx) (m : Nat) (h : m ≤ l.length) : slV (l.take m) = (slV l).take (m * 4) ∧ slV (l.drop m) = (slV l).drop (m * 4) := by
  have e : slV (l.take m) ++ slV (l.drop m) = slV l := by rw [← slV_append, List.take_append_drop]
  have hl : (slV (l.take m)).length = m * 4 := by rw [slV_len, List.length_take]; omega
  rw [← e]
  exact ⟨(List.take_left' hl).symm, (List.drop_left' hl).symm⟩
theorem infoSlot7 : (Tryz.prog.info? 97).map (fun i => (i.zero, i.size, i.bytes)) = some (some (.agg #[.int .i64 0, .int .i64 0, .int .i64 0, .slice none 0 0]), 4, 48) := by kernel_rfl
/-- Such a list in memory. -/
def SlR (w : World) (a : Option Addr) (cap : Nat) (l : List Sx) : Prop := w.ownsRow 0 97 4 (.slice a l.length cap) l.length (slV l)
theorem SlR.keep {w w' : World} {a : Option Addr} {cap : Nat} {l : List Sx} (h : SlR w a cap l) (b : Below w.heap.size w w') : SlR w' a cap l := own_keepB h (fun k hk => by
  obtain ⟨cs, hc⟩ := own_mem h hk
  exact b.block k (heap_lt hc))
theorem SlR.some_ {w : World} {q cap : Nat} {l : List Sx} (h : SlR w (some ⟨q, 0, none⟩) cap l) : l.length ≤ cap ∧ q < w.heap.size ∧ ∀ j u, (slV l)[j]? = some u → w.cell? ⟨q, j, none⟩ = some u := by
  rcases h.2 with ⟨h0, _⟩ | ⟨g, cap', cur, e1, _, hh, h3, _, _, ht⟩
  · cases h0
  · cases e1
    refine ⟨h3, heap_lt hh, fun j u hu => ?_⟩
    rw [cell_of_block hh]
    rw [← ht, List.getElem?_take] at hu
    split at hu
    · simpa using hu
    · cases hu
theorem SlR.at_ {w : World} {q cap : Nat} {l : List Sx} (h : SlR w (some ⟨q, 0, none⟩) cap l) {i : Nat} {x : Sx} (hi : l[i]? = some x) : w.cell? ⟨q, i * 4, none⟩ = some (.int .i64 (x.no : Int)) ∧ w.cell? ⟨q, i * 4 + 1, none⟩ = some (.int .i64 (x.s : Int)) ∧ w.cell? ⟨q, i * 4 + 2, none⟩ = some (.int .i64 (x.g : Int)) ∧ w.cell? ⟨q, i * 4 + 3, none⟩ = some (.slice x.A x.n x.c) := by
  obtain ⟨_, _, hc⟩ := h.some_
  obtain ⟨a, b, c, d⟩ := slV_get l i x hi
  exact ⟨hc _ _ a, hc _ _ b, hc _ _ c, hc _ _ d⟩
theorem SlR.form {w : World} {a : Option Addr} {cap : Nat} {l : List Sx} (h : SlR w a cap l) : (a = none ∧ l = [] ∧ cap = 0) ∨ ∃ q, a = some ⟨q, 0, none⟩ := by
  rcases h.2 with ⟨h0, _⟩ | ⟨g, cap', cur, e1, _⟩
  · injection h0 with h1 h2 h3
    exact Or.inl ⟨h1, List.length_eq_zero_iff.1 h2, h3⟩
  · injection e1 with h1 h2 h3
    exact Or.inr ⟨g, h1⟩
theorem own_none0 {w : World} {e : Nat} {t : TypeId} {s : Nat} (hb : w.heap[e]? = some (.cells #[] t (0, 0))) : w.ownsRow 0 t s (.slice (some ⟨e, 0, none⟩) 0 0) 0 [] := own_none hb (Nat.zero_le _)
/-- The sorted list with one more. -/
def insS (l : List Sx) (m : Nat) (x : Sx) : List Sx := l.take m ++ x :: l.drop m
theorem insS_perm (l : List Sx) (m : Nat) (x : Sx) : (insS l m x).Perm (l ++ [x]) := by
  unfold insS
  refine (List.perm_middle).trans ?_
  rw [List.take_append_drop]
  exact (List.perm_append_singleton x l).symm
theorem insS_len (l : List Sx) (m : Nat) (x : Sx) : (insS l m x).length = l.length + 1 := by
  rw [(insS_perm l m x).length_eq]
  simp
theorem insS_so {l : List Sx} {m : Nat} {x : Sx} (h : SoN l) (hm : m ≤ l.length) (hhi : ∀ i y, m ≤ i → l[i]? = some y → x.no < y.no) (hlo : m = 0 ∨ ∃ y, l[m - 1]? = some y ∧ y.no ≤ x.no) : SoN (insS l m x) := by
  unfold insS SoN
  have hl := h
  rw [← List.take_append_drop m l] at hl
  obtain ⟨h1, h2, h3⟩ := List.pairwise_append.1 hl
  refine List.pairwise_append.2 ⟨h1, List.pairwise_cons.2 ⟨fun y hy => ?_, h2⟩, fun a ha b hb => ?_⟩
  · obtain ⟨i, hi⟩ := List.mem_iff_getElem?.1 hy
    rw [List.getElem?_drop] at hi
    exact Nat.le_of_lt (hhi _ y (by omega) hi)
  · rw [List.mem_cons] at hb
    rcases hb with rfl | hb
    · rcases hlo with rfl | ⟨y, hy, hle⟩
      · simp at ha
      · obtain ⟨i, hi⟩ := List.mem_iff_getElem?.1 ha
        rw [List.getElem?_take] at hi
        split at hi
        · next him =>
          by_cases e : i = m - 1
          · rw [e, hy] at hi; cases hi; exact hle
          · have hil := (List.getElem?_eq_some_iff.1 hi).1
            have hml := (List.getElem?_eq_some_iff.1 hy).1
            have := List.pairwise_iff_getElem.1 h i (m - 1) hil hml (by omega)
            rw [(List.getElem?_eq_some_iff.1 hi).2, (List.getElem?_eq_some_iff.1 hy).2] at this
            exact Nat.le_trans this hle
        · cases hi
    · exact h3 a ha b hb
end Go.Proofs.YtofmilkjhnkgjaaGreat
