import Derived.Test.YtajpnbmfeapmcaaZ
namespace Go.Proofs.Ytajpnbmfeapmcaa
open Go.RowKit Go.Sort
set_option maxRecDepth 100000
set_option maxHeartbeats 1000000

/-- The rows beside which the identity is being laid: k of them are wide. -/
structure Cat (w : World) (H n k : Nat) (A : Mx) (G K : Nat → Nat) : Prop where
  outerN : ∀ i, k ≤ i → i < n → w.cell? ⟨H, i, none⟩ = some (.slice (some ⟨H + 1 + i, 0, none⟩) n n)
  cellN : ∀ i, k ≤ i → i < n → ∀ j, j < n → w.cell? ⟨H + 1 + i, j, none⟩ = some (.int .u8 (one i j : Nat))
  outerW : ∀ i, i < k → w.cell? ⟨H, i, none⟩ = some (.slice (some ⟨G i, 0, none⟩) (n + n) (K i))
  capW : ∀ i, i < k → n + n ≤ K i
  rowW : ∀ i, i < k → Row8 w (G i) (n + n) (fun j => if j < n then A i j else one i (j - n))
  free : ∀ j, w.frozen? ⟨H, j, none⟩ = false
  base : ∀ i, i < k → H < G i ∧ G i < w.heap.size
  inj : ∀ i, i < k → ∀ l, l < k → G i = G l → i = l
  size : H + 1 + n ≤ w.heap.size

theorem Cat.next {w w5 : World} {H n k g cap : Nat} {A : Mx} {G K : Nat → Nat} (h : Cat w H n k A G K) (hk : k < n) (hg : w.heap.size ≤ g) (hcap : n + n ≤ cap)
    (hr : Row8 w5 g (n + n) (fun j => if j < n then A k j else one k (j - n))) (hb : Below w.heap.size w w5) :
    Cat (w5.setCell ⟨H, k, none⟩ (.slice (some ⟨g, 0, none⟩) (n + n) cap)) H n (k + 1) A (fun i => if i = k then g else G i) (fun i => if i = k then cap else K i) := by
  have hs := h.size
  have hgl : g < w5.heap.size := cell?_lt (hr.cell 0 (by omega))
  have old : ∀ (b j : Nat), b < w.heap.size → w5.cell? ⟨b, j, none⟩ = w.cell? ⟨b, j, none⟩ := fun b j hbl => hb.cell (p := ⟨b, j, none⟩) hbl
  have c0 := (old H k (by omega)).trans (h.outerN k (Nat.le_refl _) hk)
  refine ⟨fun i h1 h2 => ?_, fun i h1 h2 j hj => ?_, fun i hi => ?_, fun i hi => ?_, fun i hi => ?_, fun j => ?_, fun i hi => ?_, fun i hi l hl e => ?_, by simp [World.setCell]; have := hb.size; omega⟩
  · rw [cell_far (Or.inr (by omega)), old H i (by omega)]; exact h.outerN i (by omega) h2
  · rw [cell_far (Or.inl (by omega)), old _ j (by omega)]; exact h.cellN i (by omega) h2 j hj
  · by_cases e : i = k
    · subst e; rw [World.cell?_setCell_same _ _ _ c0, if_pos rfl, if_pos rfl]
    · rw [cell_far (Or.inr e), old H i (by omega), if_neg e, if_neg e]; exact h.outerW i (by omega)
  · by_cases e : i = k
    · rw [if_pos e]; exact hcap
    · rw [if_neg e]; exact h.capW i (by omega)
  · by_cases e : i = k
    · subst e; rw [if_pos rfl]
      exact ⟨fun j hj => by rw [cell_far (Or.inl (by omega))]; exact hr.cell j hj, fun j => by rw [World.frozen?_setCell]; exact hr.free j⟩
    · rw [if_neg e]
      have hbs := h.base i (by omega)
      have hrw := h.rowW i (by omega)
      exact ⟨fun j hj => by rw [cell_far (Or.inl (by omega)), old _ j (by omega)]; exact hrw.cell j hj, fun j => by rw [World.frozen?_setCell, World.frozen?_of_block (hb.block _ hbs.2)]; exact hrw.free j⟩
  · rw [World.frozen?_setCell, World.frozen?_of_block (hb.block H (by omega))]; exact h.free j
  · have h5 : (w5.setCell ⟨H, k, none⟩ (.slice (some ⟨g, 0, none⟩) (n + n) cap)).heap.size = w5.heap.size := by simp [World.setCell]
    rw [h5]
    by_cases e : i = k
    · rw [if_pos e]; exact ⟨by omega, hgl⟩
    · rw [if_neg e]; have := h.base i (by omega); exact ⟨this.1, Nat.lt_of_lt_of_le this.2 hb.size⟩
  · by_cases e1 : i = k <;> by_cases e2 : l = k
    · omega
    · rw [if_pos e1, if_neg e2] at e; have := (h.base l (by omega)).2; omega
    · rw [if_neg e1, if_pos e2] at e; have := (h.base i (by omega)).2; omega
    · rw [if_neg e1, if_neg e2] at e; exact h.inj i (by omega) l (by omega) e

/-- A beside the identity. -/
def aug (n : Nat) (A : Mx) : Mx := fun i j => if j < n then A i j else one i (j - n)
theorem Cat.own {w : World} {H n : Nat} {A : Mx} {G K : Nat → Nat} (h : Cat w H n n A G K) : Own w H n (n + n) G K (aug n A) :=
  ⟨h.outerW, fun i hi j hj => (h.rowW i hi).cell j hj, h.free, fun i hi k => (h.rowW i hi).free k, fun i hi => by have := (h.base i hi).1; omega, h.inj⟩
theorem aug_bd {n : Nat} {A : Mx} (h : Bd n n A) : Bd n (n + n) (aug n A) := fun i hi j hj => by
  unfold aug
  split
  · exact h i hi j (by assumption)
  · exact one_bd n n i hi (j - n) (by omega)
theorem aug_left {n : Nat} (A : Mx) : EqM n n (aug n A) A := fun i _ j hj => by unfold aug; rw [if_pos hj]
theorem aug_right {n : Nat} (A : Mx) : EqM n n (rgt n (aug n A)) one := fun i _ j _ => by
  unfold rgt aug
  rw [if_neg (by omega), show n + j - n = j by omega]
theorem Gauss.congr {n : Nat} {A L L' R R' : Mx} (g : Gauss n A L R) (h1 : EqM n n L L') (h2 : EqM n n R R') : Gauss n A L' R' := by
  obtain ⟨E, hE⟩ := g.back
  exact ⟨g.bl.of h1, g.br.of h2, ((mm_congr h2.symm (EqM.refl _ _ _)).trans g.prod).trans h1, E, hE.bx, (mm_congr h2.symm (EqM.refl _ _ _)).trans hE.right, (mm_congr (EqM.refl _ _ _) h2.symm).trans hE.left⟩
theorem gauss_aug {n : Nat} {A : Mx} (h : Bd n n A) : Gauss n A (aug n A) (rgt n (aug n A)) := (Gauss.start h).congr (aug_left A).symm (aug_right A).symm
theorem dt_aug {n : Nat} (A : Mx) : Dt n A (aug n A) := by
  obtain ⟨s, h1, h2, h3⟩ := Dt.start n A
  exact ⟨s, h1, h2, by rw [det_congr (aug_left A)]; exact h3⟩
end Go.Proofs.Ytajpnbmfeapmcaa
