import Derived.Test.YtoofgcdilgfclaaU14
import Derived.Lib.SliceRun
namespace Go.Proofs.Ytoofgcdilgfclaa
open Go.RowKit Go.Sort
set_option maxRecDepth 100000
set_option maxHeartbeats 2000000

/-- Slots, cell by cell. -/
def flatS (X : Nat → Sx) : Nat → List Value
  | 0 => []
  | k + 1 => flatS X k ++ [.int .i64 ((X k).no : Int), .int .i64 ((X k).s : Int), .int .i64 ((X k).g : Int), .slice (X k).A (X k).n (X k).c]
theorem flatS_len (X : Nat → Sx) : ∀ n, (flatS X n).length = n * 4
  | 0 => rfl
  | n + 1 => by
    unfold flatS
    rw [List.length_append, flatS_len X n]
    simp
    omega
theorem flatS_get (X : Nat → Sx) : ∀ n i, i < n → (flatS X n)[i * 4]? = some (.int .i64 ((X i).no : Int)) ∧ (flatS X n)[i * 4 + 1]? = some (.int .i64 ((X i).s : Int)) ∧ (flatS X n)[i * 4 + 2]? = some (.int .i64 ((X i).g : Int)) ∧ (flatS X n)[i * 4 + 3]? = some (.slice (X i).A (X i).n (X i).c)
  | 0, i, h => by omega
  | n + 1, i, h => by
    have hl := flatS_len X n
    unfold flatS
    by_cases e : i = n
    · subst e
      refine ⟨?_, ?_, ?_, ?_⟩
      · rw [List.getElem?_append_right (by omega), hl, show i * 4 - i * 4 = 0 by omega]; rfl
      · rw [List.getElem?_append_right (by omega), hl, show i * 4 + 1 - i * 4 = 1 by omega]; rfl
      · rw [List.getElem?_append_right (by omega), hl, show i * 4 + 2 - i * 4 = 2 by omega]; rfl
      · rw [List.getElem?_append_right (by omega), hl, show i * 4 + 3 - i * 4 = 3 by omega]; rfl
    · obtain ⟨a0, a1, a2, a3⟩ := flatS_get X n i (by omega)
      refine ⟨?_, ?_, ?_, ?_⟩
      · rw [List.getElem?_append_left (by omega)]; exact a0
      · rw [List.getElem?_append_left (by omega)]; exact a1
      · rw [List.getElem?_append_left (by omega)]; exact a2
      · rw [List.getElem?_append_left (by omega)]; exact a3
theorem flatS_one (X : Nat → Sx) : ∀ n, ∀ u ∈ flatS X n, u.oneCell' = true
  | 0 => fun u hu => by cases hu
  | n + 1 => fun u hu => by
    unfold flatS at hu
    rw [List.mem_append] at hu
    rcases hu with hu | hu
    · exact flatS_one X n u hu
    · simp at hu
      rcases hu with rfl | rfl | rfl | rfl <;> rfl
/-- The live ones of the first. -/
def lv (X : Nat → Sx) : Nat → List Sx
  | 0 => []
  | k + 1 => lv X k ++ (if (X k).no = 0 then [] else [X k])
theorem lv_len (X : Nat → Sx) : ∀ k, (lv X k).length ≤ k
  | 0 => Nat.le_refl _
  | k + 1 => by
    have := lv_len X k
    unfold lv
    split <;> simp <;> omega
theorem lv_all {X : Nat → Sx} : ∀ {k : Nat}, (∀ i, i < k → (X i).no ≠ 0) → (lv X k).length = k ∧ ∀ i, i < k → (lv X k)[i]? = some (X i)
  | 0, _ => ⟨rfl, fun i hi => by omega⟩
  | k + 1, h => by
    obtain ⟨h1, h2⟩ := lv_all (X := X) (k := k) (fun i hi => h i (by omega))
    unfold lv
    rw [if_neg (h k (by omega))]
    refine ⟨by simp [h1], fun i hi => ?_⟩
    by_cases e : i = k
    · subst e
      rw [List.getElem?_append_right (by omega), h1, Nat.sub_self]
      rfl
    · rw [List.getElem?_append_left (by omega)]
      exact h2 i (by omega)
theorem lv_mem {X : Nat → Sx} : ∀ {k : Nat} {x : Sx}, x ∈ lv X k ↔ ∃ i, i < k ∧ (X i).no ≠ 0 ∧ X i = x
  | 0, x => by
    unfold lv
    constructor
    · intro h; cases h
    · rintro ⟨i, hi, _⟩; omega
  | k + 1, x => by
    unfold lv
    rw [List.mem_append, lv_mem (X := X) (k := k)]
    constructor
    · rintro (⟨i, hi, h⟩ | h)
      · exact ⟨i, by omega, h⟩
      · split at h
        · cases h
        · rename_i hk
          simp at h
          exact ⟨k, by omega, hk, h.symm⟩
    · rintro ⟨i, hi, hn, e⟩
      by_cases hk : i = k
      · subst hk
        right
        rw [if_neg hn]
        simp [e]
      · exact Or.inl ⟨i, by omega, hn, e⟩
theorem getD_some {l : List Sx} {i : Nat} {x : Sx} (h : l[i]? = some x) : l.getD i Sx.z = x := by
  rw [List.getD_eq_getElem?_getD, h]; rfl
theorem setCells_turn (b : Nat) : ∀ (vs : List Value) (o : Nat) (w : World), Turn [b] w (w.setCells b o vs)
  | [], _, w => Turn.refl _ _
  | v :: r, o, w => (Turn.set [b] w ⟨b, o, none⟩ v (by simp)).trans (setCells_turn b r (o + 1) _)
theorem setCells_block (b : Nat) : ∀ (vs : List Value) (o : Nat) (w : World) (cs : Array Value) (t : TypeId), w.heap[b]? = some (.cells cs t (0, 0)) → ∃ cs', (w.setCells b o vs).heap[b]? = some (.cells cs' t (0, 0)) ∧ cs'.size = cs.size ∧ ∀ k, k < o → cs'[k]? = cs[k]?
  | [], o, w, cs, t, h => ⟨cs, h, rfl, fun _ _ => rfl⟩
  | v :: r, o, w, cs, t, h => by
    obtain ⟨cs', h1, h2, h3⟩ := setCells_block b r (o + 1) _ _ t (set_block h o v)
    refine ⟨cs', h1, by rw [h2]; simp, fun k hk => ?_⟩
    rw [h3 k (by omega)]
    simp [Array.getElem?_setIfInBounds]
    omega
end Go.Proofs.Ytoofgcdilgfclaa
namespace Go.Proofs.Ytoofgcdilgfclaa
open Go.RowKit Go.Sort
set_option maxRecDepth 100000
set_option maxHeartbeats 2000000

end Go.Proofs.Ytoofgcdilgfclaa
namespace Go.Proofs.Ytoofgcdilgfclaa
open Go.RowKit Go.Sort
set_option maxRecDepth 100000
set_option maxHeartbeats 4000000

def SoN (l : List Sx) : Prop := l.Pairwise (fun a b => a.no ≤ b.no)
/-- The inner loop's state: one moves down. -/
def InSt (l0 : List Sx) (i j : Nat) (l : List Sx) : Prop := ∃ P x M R, l = P ++ x :: (M ++ R) ∧ P.length = j ∧ P.length + M.length = i ∧ SoN (P ++ M) ∧ (∀ m ∈ M, x.no < m.no) ∧ l.Perm l0
def OutSt (l0 : List Sx) (i : Nat) (l : List Sx) : Prop := ∃ Q R, l = Q ++ R ∧ Q.length = i ∧ SoN Q ∧ l.Perm l0
theorem OutSt.begin {l0 l : List Sx} {i : Nat} (h : OutSt l0 i l) (hi : i < l.length) : InSt l0 i i l := by
  obtain ⟨Q, R, rfl, hq, hs, hp⟩ := h
  rcases R with _ | ⟨x, R⟩
  · simp at hi; omega
  · exact ⟨Q, x, [], R, rfl, hq, by simpa using hq, by simpa using hs, fun m hm => (by cases hm), hp⟩
theorem InSt.done {l0 l : List Sx} {i j : Nat} (h : InSt l0 i j l) (hj : j = 0 ∨ ∀ a b, l[j]? = some a → l[j - 1]? = some b → b.no ≤ a.no) : OutSt l0 (i + 1) l := by
  obtain ⟨P, x, M, R, rfl, hp, hm, hs, hx, hperm⟩ := h
  refine ⟨P ++ x :: M, R, by simp, by simp; omega, ?_, hperm⟩
  have hs' := List.pairwise_append.1 hs
  have hpx : ∀ p ∈ P, p.no ≤ x.no := by
    rcases hj with h0 | hle
    · rw [h0] at hp
      rw [List.eq_nil_of_length_eq_zero hp]
      intro p h; cases h
    · rcases List.eq_nil_or_concat P with rfl | ⟨P', y, rfl⟩
      · intro p h; cases h
      · simp at hp
        have hy : y.no ≤ x.no := hle x y (by
          rw [List.getElem?_append_right (by simp; omega)]
          simp
          rw [show j - (P'.length + 1) = 0 by omega]
          rfl) (by
          rw [show j - 1 = P'.length by omega]
          simp)
        intro p hpm
        simp at hpm
        rcases hpm with hpm | rfl
        · have h2 := hs'.1
          rw [List.concat_eq_append, List.pairwise_append] at h2
          exact Nat.le_trans (h2.2.2 p hpm y (by simp)) hy
        · exact hy
  refine List.pairwise_append.2 ⟨hs'.1, List.pairwise_cons.2 ⟨fun m h => Nat.le_of_lt (hx m h), hs'.2.1⟩, fun p hpm y hy => ?_⟩
  rw [List.mem_cons] at hy
  rcases hy with rfl | hy
  · exact hpx p hpm
  · exact hs'.2.2 p hpm y hy
theorem InSt.len {l0 l : List Sx} {i j : Nat} (h : InSt l0 i j l) : l.length = l0.length ∧ j ≤ i ∧ i < l.length := by
  obtain ⟨P, x, M, R, rfl, hp, hm, _, _, hperm⟩ := h
  exact ⟨hperm.length_eq, by omega, by simp; omega⟩
/-- One step down. -/
theorem InSt.step {l0 l : List Sx} {i j : Nat} {a b : Sx} (h : InSt l0 i (j + 1) l) (ha : l[j + 1]? = some a) (hb : l[j]? = some b) (hlt : a.no < b.no) : InSt l0 i j ((l.set (j + 1) b).set j a) := by
  obtain ⟨P, x, M, R, rfl, hp, hm, hs, hx, hperm⟩ := h
  rcases List.eq_nil_or_concat P with rfl | ⟨P', y, rfl⟩
  · simp at hp
  · rw [List.concat_eq_append] at *
    simp at hp
    have e1 : (P' ++ [y] ++ x :: (M ++ R))[j + 1]? = some x := by
      rw [List.getElem?_append_right (by simp; omega)]
      simp
      rw [show j - P'.length = 0 by omega]
      rfl
    have e2 : (P' ++ [y] ++ x :: (M ++ R))[j]? = some y := by
      rw [← hp]
      simp
    have ex : x = a := Option.some.inj (e1.symm.trans ha)
    have ey : y = b := Option.some.inj (e2.symm.trans hb)
    rw [← ex, ← ey] at hlt ⊢
    clear ex ey e1 e2 ha hb
    have eset : ((P' ++ [y] ++ x :: (M ++ R)).set (j + 1) y).set j x = P' ++ x :: ((y :: M) ++ R) := by
      rw [show P' ++ [y] ++ x :: (M ++ R) = P' ++ (y :: x :: (M ++ R)) by simp]
      rw [List.set_append_right _ _ (by omega), show j + 1 - P'.length = 1 by omega]
      rw [List.set_append_right _ _ (by omega), show j - P'.length = 0 by omega]
      rfl
    refine ⟨P', x, y :: M, R, eset, hp, by simp at hm ⊢; omega, by rw [List.append_assoc] at hs; exact hs, fun m h => ?_, ?_⟩
    · rw [List.mem_cons] at h
      rcases h with rfl | h
      · exact hlt
      · exact hx m h
    · rw [eset]
      refine List.Perm.trans ?_ hperm
      rw [show P' ++ [y] ++ x :: (M ++ R) = P' ++ (y :: x :: (M ++ R)) by simp]
      exact List.Perm.append_left P' (List.Perm.swap y x (M ++ R))
end Go.Proofs.Ytoofgcdilgfclaa
