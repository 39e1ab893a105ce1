import Derived.Test.YtajpnbmfeapmcaaY
namespace Go.Proofs.Ytajpnbmfeapmcaa
open Go.RowKit Go.Sort
set_option maxRecDepth 100000
set_option maxHeartbeats 1000000

/-- The right half. -/
def rgt (n : Nat) (L : Mx) : Mx := fun i j => L i (n + j)
theorem rgt_bd {n : Nat} {L : Mx} (h : Bd n (n + n) L) : Bd n n (rgt n L) := fun i hi j hj => h i hi (n + j) (by omega)
theorem left_bd {n : Nat} {L : Mx} (h : Bd n (n + n) L) : Bd n n L := fun i hi j hj => h i hi j (by omega)
theorem clearM_bd {n c p : Nat} {A : Mx} (h : Bd n c A) (_hp : p < n) : Bd n c (clearM p A) := fun i hi j hj => by
  unfold clearM
  split
  · exact h i hi j hj
  · exact xor_lt (h i hi j hj) (mul_lt _ _)
theorem stepM_bd {n c p q : Nat} {A : Mx} (h : Bd n c A) (hp : p < n) (hq : q < n) : Bd n c (stepM p q A) := clearM_bd (scaleM_bd (swapM_bd h hp hq)) hp

theorem gauss_step {n p q : Nat} {A L : Mx} (ha : Bd n n A) (hl : Bd n (n + n) L) (g : Gauss n A L (rgt n L)) (hp : p < n) (hq : q < n) (hpn : p < n + n) (h0 : L q p ≠ 0) :
    Gauss n A (stepM p q L) (rgt n (stepM p q L)) := by
  have b1 := swapM_bd hl hp hq
  have g1 : Gauss n A (swapM p q L) (rgt n (swapM p q L)) := g.step ha (swap_bd n p q) (swap_inv hp hq) (swap_mm (left_bd hl) hp hq) (swap_mm (rgt_bd hl) hp hq)
  have hx := hl q hq p hpn
  have b2 : Bd n (n + n) (scaleM p (inv (L q p)) (swapM p q L)) := scaleM_bd b1
  have g2 : Gauss n A (scaleM p (inv (L q p)) (swapM p q L)) (rgt n (scaleM p (inv (L q p)) (swapM p q L))) :=
    g1.step ha (scale_bd (inv_lt _)) (scale_inv (inv_lt _) hx (by rw [mul_comm]; exact mul_inv hx h0)) (scale_mm (left_bd b1)) (scale_mm (rgt_bd b1))
  have hc : ∀ i, i < n → (fun i => scaleM p (inv (L q p)) (swapM p q L) i p) i < 256 := fun i hi => b2 i hi p hpn
  exact g2.step ha (clear_bd hc) (clear_inv hc hp) (clear_mm (left_bd b2) hp) (clear_mm (rgt_bd b2) hp)

theorem dt_step {n p q : Nat} {A L : Mx} (hl : Bd n (n + n) L) (d : Dt n A L) (hp : p < n) (hq : q < n) (_h0 : L q p ≠ 0) : Dt n A (stepM p q L) := by
  have b0 := left_bd hl
  have b1 := left_bd (swapM_bd hl hp hq)
  have b2 : Bd n n (scaleM p (inv (L q p)) (swapM p q L)) := scaleM_bd b1
  refine d.step (inv_lt (L q p)) (inv_pos _) ?_
  have e1 := det_of_swap hp hq b0
  have e2 := det_of_scale (s := inv (L q p)) hp (inv_lt _) b1
  have e3 := det_of_clear (c := fun i => scaleM p (inv (L q p)) (swapM p q L) i p) hp (fun i hi => b2 i hi p hp) b2
  have h3 : det n (stepM p q L) = det n (scaleM p (inv (L q p)) (swapM p q L)) := e3
  have h2 : det n (scaleM p (inv (L q p)) (swapM p q L)) = mul (inv (L q p)) (det n (swapM p q L)) := e2
  have h1 : det n (swapM p q L) = det n L := e1
  rw [h3, h2, h1]

theorem id_step {n p q : Nat} {L : Mx} (hl : Bd n (n + n) L) (hid : ∀ i, i < n → ∀ j, j < p → L i j = one i j) (hp : p < n) (hpq : p ≤ q) (hq : q < n) (h0 : L q p ≠ 0) :
    ∀ i, i < n → ∀ j, j < p + 1 → stepM p q L i j = one i j := by
  have hS : ∀ i, i < n → ∀ j, j < p → swapM p q L i j = one i j := fun i hi j hj => by
    unfold swapM
    rw [hid _ (sw_lt hp hq hi) j hj]
    unfold one sw
    by_cases e1 : i = p
    · rw [if_pos e1, if_neg (by omega), if_neg (by omega)]
    · rw [if_neg e1]
      by_cases e2 : i = q
      · rw [if_pos e2, if_neg (by omega), if_neg (by omega)]
      · rw [if_neg e2]
  have hU : ∀ i, i < n → ∀ j, j < p → scaleM p (inv (L q p)) (swapM p q L) i j = one i j := fun i hi j hj => by
    unfold scaleM
    by_cases e : i = p
    · rw [if_pos e, hS i hi j hj]
      have : one i j = 0 := by unfold one; rw [if_neg (by omega)]
      rw [this, mul_zero]
    · rw [if_neg e, hS i hi j hj]
  have hPP : scaleM p (inv (L q p)) (swapM p q L) p p = 1 := by
    unfold scaleM swapM
    rw [if_pos rfl, sw_left, mul_comm]
    exact mul_inv (hl q hq p (by omega)) h0
  have hUb : ∀ i, i < n → scaleM p (inv (L q p)) (swapM p q L) i p < 256 := fun i hi => scaleM_bd (swapM_bd hl hp hq) i hi p (by omega)
  intro i hi j hj
  unfold stepM clearM
  by_cases e : i = p
  · rw [if_pos e]
    by_cases ej : j = p
    · subst ej; subst e
      rw [hPP]; unfold one; rw [if_pos rfl]
    · exact hU i hi j (by omega)
  · rw [if_neg e]
    by_cases ej : j = p
    · subst ej
      rw [hPP, mul_one (hUb i hi), Nat.xor_self]
      unfold one; rw [if_neg e]
    · rw [hU i hi j (by omega), hU p hp j (by omega)]
      have : one p j = 0 := by unfold one; rw [if_neg (by omega)]
      rw [this, mul_zero, Nat.xor_zero]
end Go.Proofs.Ytajpnbmfeapmcaa
