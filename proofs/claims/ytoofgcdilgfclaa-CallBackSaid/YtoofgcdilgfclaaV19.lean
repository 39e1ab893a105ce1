import Derived.Test.YtoofgcdilgfclaaV18
namespace Go.Proofs.Ytoofgcdilgfclaa
open Go.RowKit Go.Sort
set_option maxRecDepth 100000
set_option maxHeartbeats 2000000

end Go.Proofs.Ytoofgcdilgfclaa
namespace Go.Proofs.Ytoofgcdilgfclaa
open Go.RowKit Go.Sort
set_option maxRecDepth 100000
set_option maxHeartbeats 4000000

def SoN (l : List Sx) : Prop := l.Pairwise (fun a b => a.no ≤ b.no)
/-- The inner loop's state: one moves down. -/
def InSt (l0 : List Sx) (i j : Nat) (l : List Sx) : Prop := ∃ P x M R, l = P ++ x :: (M ++ R) ∧ P.length = j ∧ P.length + M.length = i ∧ SoN (P ++ M) ∧ (∀ m ∈ M, x.no < m.no) ∧ l.Perm l0
def OutSt (l0 : List Sx) (i : Nat) (l : List Sx) : Prop := ∃ Q R, l = Q ++ R ∧ Q.length = i ∧ SoN Q ∧ l.Perm l0
theorem OutSt.begin {l0 l : List Sx} {i : Nat} (h : OutSt l0 i l) (hi : i < l.length) : InSt l0 i i l := by
  obtain ⟨Q, R, rfl, hq, hs, hp⟩ := h
  rcases R with _ | ⟨x, R⟩
  · simp at hi; omega
  · exact ⟨Q, x, [], R, rfl, hq, by simpa using hq, by simpa using hs, fun m hm => (by cases hm), hp⟩
theorem InSt.done {l0 l : List Sx} {i j : Nat} (h : InSt l0 i j l) (hj : j = 0 ∨ ∀ a b, l[j]? = some a → l[j - 1]? = some b → b.no ≤ a.no) : OutSt l0 (i + 1) l := by
  obtain ⟨P, x, M, R, rfl, hp, hm, hs, hx, hperm⟩ := h
  refine ⟨P ++ x :: M, R, by simp, by simp; omega, ?_, hperm⟩
  have hs' := List.pairwise_append.1 hs
  have hpx : ∀ p ∈ P, p.no ≤ x.no := by
    rcases hj with h0 | hle
    · rw [h0] at hp
      rw [List.eq_nil_of_length_eq_zero hp]
      intro p h; cases h
    · rcases List.eq_nil_or_concat P with rfl | ⟨P', y, rfl⟩
      · intro p h; cases h
      · simp at hp
        have hy : y.no ≤ x.no := hle x y (by
          rw [List.getElem?_append_right (by simp; omega)]
          simp
          rw [show j - (P'.length + 1) = 0 by omega]
          rfl) (by
          rw [show j - 1 = P'.length by omega]
          simp)
        intro p hpm
        simp at hpm
        rcases hpm with hpm | rfl
        · have h2 := hs'.1
          rw [List.concat_eq_append, List.pairwise_append] at h2
          exact Nat.le_trans (h2.2.2 p hpm y (by simp)) hy
        · exact hy
  refine List.pairwise_append.2 ⟨hs'.1, List.pairwise_cons.2 ⟨fun m h => Nat.le_of_lt (hx m h), hs'.2.1⟩, fun p hpm y hy => ?_⟩
  rw [List.mem_cons] at hy
  rcases hy with rfl | hy
  · exact hpx p hpm
  · exact hs'.2.2 p hpm y hy
theorem InSt.len {l0 l : List Sx} {i j : Nat} (h : InSt l0 i j l) : l.length = l0.length ∧ j ≤ i ∧ i < l.length := by
  obtain ⟨P, x, M, R, rfl, hp, hm, _, _, hperm⟩ := h
  exact ⟨hperm.length_eq, by omega, by simp; omega⟩
/-- One step down. -/
theorem InSt.step {l0 l : List Sx} {i j : Nat} {a b : Sx} (h : InSt l0 i (j + 1) l) (ha : l[j + 1]? = some a) (hb : l[j]? = some b) (hlt : a.no < b.no) : InSt l0 i j ((l.set (j + 1) b).set j a) := by
  obtain ⟨P, x, M, R, rfl, hp, hm, hs, hx, hperm⟩ := h
  rcases List.eq_nil_or_concat P with rfl | ⟨P', y, rfl⟩
  · simp at hp
  · rw [List.concat_eq_append] at *
    simp at hp
    have e1 : (P' ++ [y] ++ x :: (M ++ R))[j + 1]? = some x := by
      rw [List.getElem?_append_right (by simp; omega)]
      simp
      rw [show j - P'.length = 0 by omega]
      rfl
    have e2 : (P' ++ [y] ++ x :: (M ++ R))[j]? = some y := by
      rw [← hp]
      simp
    have ex : x = a := Option.some.inj (e1.symm.trans ha)
    have ey : y = b := Option.some.inj (e2.symm.trans hb)
    rw [← ex, ← ey] at hlt ⊢
    clear ex ey e1 e2 ha hb
    have eset : ((P' ++ [y] ++ x :: (M ++ R)).set (j + 1) y).set j x = P' ++ x :: ((y :: M) ++ R) := by
      rw [show P' ++ [y] ++ x :: (M ++ R) = P' ++ (y :: x :: (M ++ R)) by simp]
      rw [List.set_append_right _ _ (by omega), show j + 1 - P'.length = 1 by omega]
      rw [List.set_append_right _ _ (by omega), show j - P'.length = 0 by omega]
      rfl
    refine ⟨P', x, y :: M, R, eset, hp, by simp at hm ⊢; omega, by rw [List.append_assoc] at hs; exact hs, fun m h => ?_, ?_⟩
    · rw [List.mem_cons] at h
      rcases h with rfl | h
      · exact hlt
      · exact hx m h
    · rw [eset]
      refine List.Perm.trans ?_ hperm
      rw [show P' ++ [y] ++ x :: (M ++ R) = P' ++ (y :: x :: (M ++ R)) by simp]
      exact List.Perm.append_left P' (List.Perm.swap y x (M ++ R))
end Go.Proofs.Ytoofgcdilgfclaa
