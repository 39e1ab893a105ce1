import Derived.Test.YtanlaannkdiieaaPkD
namespace Go.Proofs.Ytanlaannkdiieaa.Pk

def le (x y : It) : Prop := ltIt y x = false

theorem le_iff (x y : It) : le x y ↔ x.2 < y.2 ∨ (x.2 = y.2 ∧ x.1 ≤ y.1) := by
  unfold le ltIt
  rw [decide_eq_false_iff_not]
  omega
theorem lt_iff (x y : It) : ltIt x y = true ↔ x.2 < y.2 ∨ (x.2 = y.2 ∧ x.1 < y.1) := by
  unfold ltIt
  rw [decide_eq_true_iff]
theorem le_refl (x : It) : le x x := by rw [le_iff]; omega
theorem le_trans {x y z : It} (h : le x y) (k : le y z) : le x z := by rw [le_iff] at *; omega
theorem le_of_lt {x y : It} (h : ltIt x y = true) : le x y := by rw [lt_iff] at h; rw [le_iff]; omega
theorem le_antisymm {x y : It} (h : le x y) (k : le y x) : x = y := by
  rw [le_iff] at *
  exact Prod.ext (by omega) (by omega)

def par (k : Nat) : Nat := (k - 1) / 2

def Sib (l : List It) (n i : Nat) : Prop := ∀ k, 0 < k → k < n → par k = i → 0 < i → le (at' l (par i)) (at' l k)
def Q (l : List It) (n i : Nat) : Prop := (∀ k, 0 < k → k < n → k ≠ i → par k ≠ i → le (at' l (par k)) (at' l k)) ∧ Sib l n i
def Pu (l : List It) (n i : Nat) : Prop := (∀ k, 0 < k → k < n → k ≠ i → le (at' l (par k)) (at' l k)) ∧ Sib l n i
def PathUp (l : List It) (i : Nat) : Prop := 0 < i → le (at' l (par i)) (at' l i)
def Heapy (l : List It) (n : Nat) : Prop := ∀ k, 0 < k → k < n → le (at' l (par k)) (at' l k)

theorem down_stop {l : List It} {n i : Nat} (h : Q l n i) (hc : ∀ k, 0 < k → k < n → par k = i → le (at' l i) (at' l k)) : Pu l n i :=
  ⟨fun k h0 hn hi => if e : par k = i then by rw [e]; exact hc k h0 hn e else h.1 k h0 hn hi e, h.2⟩

theorem heapy_of {l : List It} {n i : Nat} (h : Pu l n i) (hp : PathUp l i) : Heapy l n :=
  fun k h0 hn => if e : k = i then by subst e; exact hp h0 else h.1 k h0 hn e

theorem down_step {l : List It} {n i j : Nat} (h : Q l n i) (hj : j < n) (hn : n ≤ l.length) (hj0 : 0 < j) (hp : par j = i) (hc : ∀ k, 0 < k → k < n → par k = i → le (at' l j) (at' l k)) (hlt : ltIt (at' l j) (at' l i) = true) :
    Q (swp l i j) n j ∧ PathUp (swp l i j) j := by
  have hi : i < l.length := by unfold par at hp; omega
  have hj' : j < l.length := by omega
  have hij : i < j := by unfold par at hp; omega
  have e := fun k => at_swp l i j k hi hj'
  refine ⟨⟨fun k h0 hk h1 h2 => ?_, fun k h0 hk h1 h2 => ?_⟩, fun _ => ?_⟩
  · rw [e, e]
    rw [if_neg h2, if_neg h1]
    by_cases a : k = i
    · subst a
      rw [if_pos rfl, if_neg (by unfold par; omega)]
      exact h.2 j hj0 hj hp (by omega)
    · rw [if_neg a]
      by_cases b : par k = i
      · rw [if_pos b]; exact hc k h0 hk b
      · rw [if_neg b]; exact h.1 k h0 hk a b
  · rw [hp, e, e, if_neg (by omega), if_pos rfl, if_neg (by unfold par at h1; omega), if_neg (by unfold par at h1; omega)]
    have := h.1 k h0 hk (by unfold par at h1; omega) (by omega)
    rw [h1] at this
    exact this
  · rw [hp, e, e, if_pos rfl, if_neg (by omega), if_pos rfl]
    exact le_of_lt hlt

theorem up_step {l : List It} {n j : Nat} (h : Pu l n j) (hj : j < n) (hn : n ≤ l.length) (hj0 : 0 < j) (hlt : ltIt (at' l j) (at' l (par j)) = true) : Pu (swp l (par j) j) n (par j) := by
  have hij : par j < j := by unfold par; omega
  have hi : par j < l.length := by omega
  have hj' : j < l.length := by omega
  have e := fun k => at_swp l (par j) j k hi hj'
  refine ⟨fun k h0 hk h1 => ?_, fun k h0 hk h1 h2 => ?_⟩
  · rw [e, e]
    by_cases a : k = j
    · subst a
      rw [if_neg (by omega), if_pos rfl, if_pos rfl]
      exact le_of_lt hlt
    · rw [if_neg a, if_neg h1]
      by_cases b : par k = j
      · rw [if_pos b]
        have := h.2 k h0 hk b hj0
        exact this
      · rw [if_neg b]
        by_cases c : par k = par j
        · rw [if_pos c]
          have := h.1 k h0 hk a
          rw [c] at this
          exact le_trans (le_of_lt hlt) this
        · rw [if_neg c]; exact h.1 k h0 hk a
  · have p1 : par (par j) < par j := by unfold par at *; omega
    rw [e, e, if_neg (by omega), if_neg (by omega)]
    by_cases a : k = j
    · subst a
      rw [if_pos rfl]
      exact h.1 _ h2 (by omega) (by omega)
    · rw [if_neg a, if_neg (by unfold par at *; omega)]
      have t1 := h.1 k h0 hk a
      have t2 := h.1 (par j) h2 (by omega) (by omega)
      rw [h1] at t1
      exact le_trans t2 t1

theorem swp_perm {l : List It} {i j : Nat} (hi : i < l.length) (hj : j < l.length) : (swp l i j).Perm l := by
  have h := Array.swap_perm (xs := l.toArray) (i := i) (j := j) (by simpa using hi) (by simpa using hj)
  rw [Array.perm_iff_toList_perm] at h
  have e : swp l i j = (l.toArray.swap i j (by simpa using hi) (by simpa using hj)).toList := by
    unfold swp at'
    simp [Array.swap, List.getD_eq_getElem?_getD, List.getElem?_eq_getElem hi, List.getElem?_eq_getElem hj]
  rw [e]
  exact h

theorem least_of_heapy {l : List It} {n : Nat} (h : Heapy l n) : ∀ k, k < n → le (at' l 0) (at' l k) := by
  intro k
  induction k using Nat.strongRecOn with
  | ind k ih =>
    intro hk
    by_cases h0 : k = 0
    · subst h0; exact le_refl _
    · exact le_trans (ih (par k) (by unfold par; omega) (by unfold par; omega)) (h k (by omega) hk)
end Go.Proofs.Ytanlaannkdiieaa.Pk
