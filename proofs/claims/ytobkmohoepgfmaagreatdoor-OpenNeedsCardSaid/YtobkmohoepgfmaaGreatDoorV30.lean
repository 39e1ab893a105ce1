import Derived.Test.YtobkmohoepgfmaaGreatDoorV29
namespace Go.Proofs.YtobkmohoepgfmaaGreatDoor.Kc
open Go.RowKit Go.Sort
set_option maxRecDepth 100000
set_option maxHeartbeats 1000000

def rgt (n : Nat) (L : Mx) : Mx := fun i j => L i (n + j)
theorem rgt_bd {n : Nat} {L : Mx} (h : Bd n (n + n) L) : Bd n n (rgt n L) := fun i hi j hj => h i hi (n + j) (by omega)
theorem left_bd {n : Nat} {L : Mx} (h : Bd n (n + n) L) : Bd n n L := fun i hi j hj => h i hi j (by omega)
theorem clearM_bd {n c p : Nat} {A : Mx} (h : Bd n c A) (_hp : p < n) : Bd n c (clearM p A) := fun i hi j hj => by
 unfold clearM
 split
 ·exact h i hi j hj
 ·exact xor_lt (h i hi j hj) (mul_lt _ _)
theorem stepM_bd {n c p q : Nat} {A : Mx} (h : Bd n c A) (hp : p < n) (hq : q < n) : Bd n c (stepM p q A) := clearM_bd (scaleM_bd (swapM_bd h hp hq)) hp

theorem gauss_step {n p q : Nat} {A L : Mx} (ha : Bd n n A) (hl : Bd n (n + n) L) (g : Gauss n A L (rgt n L)) (hp : p < n) (hq : q < n) (hpn : p < n + n) (h0 : L q p ≠ 0) :
  Gauss n A (stepM p q L) (rgt n (stepM p q L)) := by
 have b1 := swapM_bd hl hp hq
 have g1 : Gauss n A (swapM p q L) (rgt n (swapM p q L)) := g.step ha (swap_bd n p q) (swap_inv hp hq) (swap_mm (left_bd hl) hp hq) (swap_mm (rgt_bd hl) hp hq)
 have hx := hl q hq p hpn
 have b2 : Bd n (n + n) (scaleM p (inv (L q p)) (swapM p q L)) := scaleM_bd b1
 have g2 : Gauss n A (scaleM p (inv (L q p)) (swapM p q L)) (rgt n (scaleM p (inv (L q p)) (swapM p q L))) :=
  g1.step ha (scale_bd (inv_lt _)) (scale_inv (inv_lt _) hx (by rw [mul_comm]; exact mul_inv hx h0)) (scale_mm (left_bd b1)) (scale_mm (rgt_bd b1))
 have hc : ∀ i, i < n → (fun i => scaleM p (inv (L q p)) (swapM p q L) i p) i < 256 := fun i hi => b2 i hi p hpn
 exact g2.step ha (clear_bd hc) (clear_inv hc hp) (clear_mm (left_bd b2) hp) (clear_mm (rgt_bd b2) hp)

theorem dt_step {n p q : Nat} {A L : Mx} (hl : Bd n (n + n) L) (d : Dt n A L) (hp : p < n) (hq : q < n) (_h0 : L q p ≠ 0) : Dt n A (stepM p q L) := by
 have b0 := left_bd hl
 have b1 := left_bd (swapM_bd hl hp hq)
 have b2 : Bd n n (scaleM p (inv (L q p)) (swapM p q L)) := scaleM_bd b1
 refine d.step (inv_lt (L q p)) (inv_pos _) ?_
 have e1 := det_of_swap hp hq b0
 have e2 := det_of_scale (s := inv (L q p)) hp (inv_lt _) b1
 have e3 := det_of_clear (c := fun i => scaleM p (inv (L q p)) (swapM p q L) i p) hp (fun i hi => b2 i hi p hp) b2
 have h3 : det n (stepM p q L) = det n (scaleM p (inv (L q p)) (swapM p q L)) := e3
 have h2 : det n (scaleM p (inv (L q p)) (swapM p q L)) = mul (inv (L q p)) (det n (swapM p q L)) := e2
 have h1 : det n (swapM p q L) = det n L := e1
 rw [h3, h2, h1]

theorem id_step {n p q : Nat} {L : Mx} (hl : Bd n (n + n) L) (hid : ∀ i, i < n → ∀ j, j < p → L i j = one i j) (hp : p < n) (hpq : p ≤ q) (hq : q < n) (h0 : L q p ≠ 0) :
  ∀ i, i < n → ∀ j, j < p + 1 → stepM p q L i j = one i j := by
 have hS : ∀ i, i < n → ∀ j, j < p → swapM p q L i j = one i j := fun i hi j hj => by
  unfold swapM
  rw [hid _ (sw_lt hp hq hi) j hj]
  unfold one sw
  by_cases e1 : i = p
  ·rw [if_pos e1, if_neg (by omega), if_neg (by omega)]
  ·rw [if_neg e1]
   by_cases e2 : i = q
   ·rw [if_pos e2, if_neg (by omega), if_neg (by omega)]
   ·rw [if_neg e2]
 have hU : ∀ i, i < n → ∀ j, j < p → scaleM p (inv (L q p)) (swapM p q L) i j = one i j := fun i hi j hj => by
  unfold scaleM
  by_cases e : i = p
  ·rw [if_pos e, hS i hi j hj]
   have : one i j = 0 := by unfold one; rw [if_neg (by omega)]
   rw [this, mul_zero]
  ·rw [if_neg e, hS i hi j hj]
 have hPP : scaleM p (inv (L q p)) (swapM p q L) p p = 1 := by
  unfold scaleM swapM
  rw [if_pos rfl, sw_left, mul_comm]
  exact mul_inv (hl q hq p (by omega)) h0
 have hUb : ∀ i, i < n → scaleM p (inv (L q p)) (swapM p q L) i p < 256 := fun i hi => scaleM_bd (swapM_bd hl hp hq) i hi p (by omega)
 intro i hi j hj
 unfold stepM clearM
 by_cases e : i = p
 ·rw [if_pos e]
  by_cases ej : j = p
  ·subst ej; subst e
   rw [hPP]; unfold one; rw [if_pos rfl]
  ·exact hU i hi j (by omega)
 ·rw [if_neg e]
  by_cases ej : j = p
  ·subst ej
   rw [hPP, mul_one (hUb i hi), Nat.xor_self]
   unfold one; rw [if_neg e]
  ·rw [hU i hi j (by omega), hU p hp j (by omega)]
   have : one p j = 0 := by unfold one; rw [if_neg (by omega)]
   rw [this, mul_zero, Nat.xor_zero]
end Go.Proofs.YtobkmohoepgfmaaGreatDoor.Kc
namespace Go.Proofs.YtobkmohoepgfmaaGreatDoor.Kc
open Go.RowKit Go.Sort
set_option maxRecDepth 100000
set_option maxHeartbeats 1000000

structure Cat (w : World) (H n k : Nat) (A : Mx) (G K : Nat → Nat) : Prop where
 outerN : ∀ i, k ≤ i → i < n → w.cell? ⟨H, i, none⟩ = some (.slice (some ⟨H + 1 + i, 0, none⟩) n n)
 cellN : ∀ i, k ≤ i → i < n → ∀ j, j < n → w.cell? ⟨H + 1 + i, j, none⟩ = some (.int .u8 (one i j : Nat))
 outerW : ∀ i, i < k → w.cell? ⟨H, i, none⟩ = some (.slice (some ⟨G i, 0, none⟩) (n + n) (K i))
 capW : ∀ i, i < k → n + n ≤ K i
 rowW : ∀ i, i < k → Row8 w (G i) (n + n) (fun j => if j < n then A i j else one i (j - n))
 free : ∀ j, w.frozen? ⟨H, j, none⟩ = false
 base : ∀ i, i < k → H < G i ∧ G i < w.heap.size
 inj : ∀ i, i < k → ∀ l, l < k → G i = G l → i = l
 size : H + 1 + n ≤ w.heap.size

theorem Cat.next {w w5 : World} {H n k g cap : Nat} {A : Mx} {G K : Nat → Nat} (h : Cat w H n k A G K) (hk : k < n) (hg : w.heap.size ≤ g) (hcap : n + n ≤ cap)
  (hr : Row8 w5 g (n + n) (fun j => if j < n then A k j else one k (j - n))) (hb : Below w.heap.size w w5) :
  Cat (w5.setCell ⟨H, k, none⟩ (.slice (some ⟨g, 0, none⟩) (n + n) cap)) H n (k + 1) A (fun i => if i = k then g else G i) (fun i => if i = k then cap else K i) := by
 have hs := h.size
 have hgl : g < w5.heap.size := cell?_lt (hr.cell 0 (by omega))
 have old : ∀ (b j : Nat), b < w.heap.size → w5.cell? ⟨b, j, none⟩ = w.cell? ⟨b, j, none⟩ := fun b j hbl => hb.cell (p := ⟨b, j, none⟩) hbl
 have c0 := (old H k (by omega)).trans (h.outerN k (Nat.le_refl _) hk)
 refine ⟨fun i h1 h2 => ?_, fun i h1 h2 j hj => ?_, fun i hi => ?_, fun i hi => ?_, fun i hi => ?_, fun j => ?_, fun i hi => ?_, fun i hi l hl e => ?_, by simp [World.setCell]; have := hb.size; omega⟩
 ·rw [cell_far (Or.inr (by omega)), old H i (by omega)]; exact h.outerN i (by omega) h2
 ·rw [cell_far (Or.inl (by omega)), old _ j (by omega)]; exact h.cellN i (by omega) h2 j hj
 ·by_cases e : i = k
  ·subst e; rw [World.cell?_setCell_same _ _ _ c0, if_pos rfl, if_pos rfl]
  ·rw [cell_far (Or.inr e), old H i (by omega), if_neg e, if_neg e]; exact h.outerW i (by omega)
 ·by_cases e : i = k
  ·rw [if_pos e]; exact hcap
  ·rw [if_neg e]; exact h.capW i (by omega)
 ·by_cases e : i = k
  ·subst e; rw [if_pos rfl]
   exact ⟨fun j hj => by rw [cell_far (Or.inl (by omega))]; exact hr.cell j hj, fun j => by rw [World.frozen?_setCell]; exact hr.free j⟩
  ·rw [if_neg e]
   have hbs := h.base i (by omega)
   have hrw := h.rowW i (by omega)
   exact ⟨fun j hj => by rw [cell_far (Or.inl (by omega)), old _ j (by omega)]; exact hrw.cell j hj, fun j => by rw [World.frozen?_setCell, World.frozen?_of_block (hb.block _ hbs.2)]; exact hrw.free j⟩
 ·rw [World.frozen?_setCell, World.frozen?_of_block (hb.block H (by omega))]; exact h.free j
 ·have h5 : (w5.setCell ⟨H, k, none⟩ (.slice (some ⟨g, 0, none⟩) (n + n) cap)).heap.size = w5.heap.size := by simp [World.setCell]
  rw [h5]
  by_cases e : i = k
  ·rw [if_pos e]; exact ⟨by omega, hgl⟩
  ·rw [if_neg e]; have := h.base i (by omega); exact ⟨this.1, Nat.lt_of_lt_of_le this.2 hb.size⟩
 ·by_cases e1 : i = k <;> by_cases e2 : l = k
  ·omega
  ·rw [if_pos e1, if_neg e2] at e; have := (h.base l (by omega)).2; omega
  ·rw [if_neg e1, if_pos e2] at e; have := (h.base i (by omega)).2; omega
  ·rw [if_neg e1, if_neg e2] at e; exact h.inj i (by omega) l (by omega) e

def aug (n : Nat) (A : Mx) : Mx := fun i j => if j < n then A i j else one i (j - n)
theorem Cat.own {w : World} {H n : Nat} {A : Mx} {G K : Nat → Nat} (h : Cat w H n n A G K) : Own w H n (n + n) G K (aug n A) :=
 ⟨h.outerW, fun i hi j hj => (h.rowW i hi).cell j hj, h.free, fun i hi k => (h.rowW i hi).free k, fun i hi => by have := (h.base i hi).1; omega, h.inj⟩
theorem aug_bd {n : Nat} {A : Mx} (h : Bd n n A) : Bd n (n + n) (aug n A) := fun i hi j hj => by
 unfold aug
 split
 ·exact h i hi j (by assumption)
 ·exact one_bd n n i hi (j - n) (by omega)
theorem aug_left {n : Nat} (A : Mx) : EqM n n (aug n A) A := fun i _ j hj => by unfold aug; rw [if_pos hj]
theorem aug_right {n : Nat} (A : Mx) : EqM n n (rgt n (aug n A)) one := fun i _ j _ => by
 unfold rgt aug
 rw [if_neg (by omega), show n + j - n = j by omega]
theorem Gauss.congr {n : Nat} {A L L' R R' : Mx} (g : Gauss n A L R) (h1 : EqM n n L L') (h2 : EqM n n R R') : Gauss n A L' R' := by
 obtain ⟨E, hE⟩ := g.back
 exact ⟨g.bl.of h1, g.br.of h2, ((mm_congr h2.symm (EqM.refl _ _ _)).trans g.prod).trans h1, E, hE.bx, (mm_congr h2.symm (EqM.refl _ _ _)).trans hE.right, (mm_congr (EqM.refl _ _ _) h2.symm).trans hE.left⟩
theorem gauss_aug {n : Nat} {A : Mx} (h : Bd n n A) : Gauss n A (aug n A) (rgt n (aug n A)) := (Gauss.start h).congr (aug_left A).symm (aug_right A).symm
theorem dt_aug {n : Nat} (A : Mx) : Dt n A (aug n A) := by
 obtain ⟨s, h1, h2, h3⟩ := Dt.start n A
 exact ⟨s, h1, h2, by rw [det_congr (aug_left A)]; exact h3⟩
end Go.Proofs.YtobkmohoepgfmaaGreatDoor.Kc
namespace Go.Proofs.YtobkmohoepgfmaaGreatDoor.Kc
open Go.RowKit Go.Sort
set_option maxRecDepth 100000
set_option maxHeartbeats 1000000

def InvRet (n : Nat) (A : Mx) (w : World) (e : Ending) (w' : World) : Prop :=
 ∃ (ok : Bool) (X : Mx) (v : Value), e = .returned (.tuple #[v, .bool ok]) ∧ Found n A X ok ∧ Below w.heap.size w w' ∧
  (ok = false → v = .slice none 0 0) ∧ (ok = true → ∃ b, v = .slice (some ⟨b, 0, none⟩) n n ∧ RawIn w' (some ⟨b, 0, none⟩) (rowsOf n n X))

structure Elim (w0 w : World) (H n k : Nat) (A : Mx) (G K : Nat → Nat) (L : Mx) : Prop where
 own : Own w H n (n + n) G K L
 base : ∀ i, i < n → H ≤ G i
 cap : ∀ i, i < n → n + n ≤ K i
 bd : Bd n (n + n) L
 gauss : Gauss n A L (rgt n L)
 dt : Dt n A L
 id : ∀ i, i < n → ∀ j, j < k → L i j = one i j
 below : Below H w0 w
structure Cut (w0 w : World) (H n k : Nat) (G K : Nat → Nat) (R : Mx) : Prop where
 outerN : ∀ i, k ≤ i → i < n → w.cell? ⟨H, i, none⟩ = some (.slice (some ⟨G i, 0, none⟩) (n + n) (K i))
 outerW : ∀ i, i < k → ∃ cap, w.cell? ⟨H, i, none⟩ = some (.slice (some ⟨G i, n, none⟩) n cap)
 cap : ∀ i, i < n → n + n ≤ K i
 cell : ∀ i, i < n → ∀ j, j < n → w.cell? ⟨G i, n + j, none⟩ = some (.int .u8 (R i j : Nat))
 free : ∀ j, w.frozen? ⟨H, j, none⟩ = false
 apart : ∀ i, i < n → G i ≠ H
 below : Below H w0 w
theorem Elim.start {w0 w : World} {H n : Nat} {A : Mx} {G K : Nat → Nat} (h : Cat w H n n A G K) (hA : Bd n n A) (hb : Below H w0 w) : Elim w0 w H n 0 A G K (aug n A) :=
 ⟨h.own, fun i hi => by have := (h.base i hi).1; omega, h.capW, aug_bd hA, gauss_aug hA, dt_aug A, fun _ _ _ hj => absurd hj (Nat.not_lt_zero _), hb⟩
theorem Elim.next {w0 w w' : World} {H n k q : Nat} {A : Mx} {G K : Nat → Nat} {L : Mx} (h : Elim w0 w H n k A G K L) (hA : Bd n n A) (hk : k < n) (hkq : k ≤ q) (hq : q < n) (h0 : L q k ≠ 0)
  (ho : Own w' H n (n + n) (fun i => G (sw k q i)) (fun i => K (sw k q i)) (stepM k q L)) (hb : Below H w0 w') : Elim w0 w' H n (k + 1) A (fun i => G (sw k q i)) (fun i => K (sw k q i)) (stepM k q L) :=
 ⟨ho, fun i hi => h.base _ (sw_lt hk hq hi), fun i hi => h.cap _ (sw_lt hk hq hi), stepM_bd h.bd hk hq, gauss_step hA h.bd h.gauss hk hq (by omega) h0, dt_step h.bd h.dt hk hq h0, id_step h.bd h.id hk hkq hq h0, hb⟩
theorem Elim.found {w0 w : World} {H n : Nat} {A : Mx} {G K : Nat → Nat} {L : Mx} (h : Elim w0 w H n n A G K L) (hA : Bd n n A) : Found n A (rgt n L) Bool.true := Found.of_done hA h.gauss h.dt h.id
theorem Elim.stuck {w0 w : World} {H n k : Nat} {A : Mx} {G K : Nat → Nat} {L : Mx} (h : Elim w0 w H n k A G K L) (hA : Bd n n A) (hk : k < n) (h0 : ∀ i, k ≤ i → i < n → L i k = 0) : Found n A one Bool.false := Found.of_stuck hA h.gauss hk h.id h0
theorem Elim.cutting {w0 w : World} {H n k : Nat} {A : Mx} {G K : Nat → Nat} {L : Mx} (h : Elim w0 w H n k A G K L) : Cut w0 w H n 0 G K (rgt n L) :=
 ⟨fun i _ hi => h.own.outer i hi, fun _ hi => absurd hi (Nat.not_lt_zero _), h.cap, fun i hi j hj => h.own.cell i hi (n + j) (by omega), h.own.free, h.own.apart, h.below⟩
theorem Cut.next {w0 w : World} {H n k : Nat} {G K : Nat → Nat} {R : Mx} (h : Cut w0 w H n k G K R) (hk : k < n) (cap : Nat) : Cut w0 (w.setCell ⟨H, k, none⟩ (.slice (some ⟨G k, n, none⟩) n cap)) H n (k + 1) G K R := by
 refine ⟨fun i h1 h2 => ?_, fun i hi => ?_, h.cap, fun i hi j hj => ?_, fun j => by rw [World.frozen?_setCell]; exact h.free j, h.apart, h.below.setCell (Nat.le_refl _) _⟩
 ·rw [cell_far (Or.inr (by omega))]; exact h.outerN i (by omega) h2
 ·by_cases e : i = k
  ·subst e; exact ⟨cap, World.cell?_setCell_same _ _ _ (h.outerN i (Nat.le_refl _) hk)⟩
  ·rw [cell_far (Or.inr e)]; exact h.outerW i (by omega)
 ·rw [cell_far (Or.inl (h.apart i hi))]; exact h.cell i hi j hj
theorem Cut.raw {w0 w : World} {H n : Nat} {G K : Nat → Nat} {R : Mx} (h : Cut w0 w H n n G K R) : RawIn w (some ⟨H, 0, none⟩) (rowsOf n n R) :=
 rawIn_of (fun i hi => by
  obtain ⟨cap, hc⟩ := h.outerW i hi
  exact ⟨G i, n, cap, by rw [Nat.zero_add]; exact hc, fun j hj => h.cell i hi j hj⟩)

theorem minverse (f : Nat) (a : Option Addr) (xss : List (List Nat)) (ca : Nat) (w : World) (hf : Fld w f) (hx : RawIn w a xss) (px : RightP xss) (bx : Bytes xss)
  (hm : ∀ (i : Nat) (xs : List Nat), xss[i]? = some xs → xs.length = xss.length) :
  Calls Tryz.prog 84 #[.pointer (some ⟨f, 0, none⟩), .slice a xss.length ca] w (InvRet xss.length (ent xss) w) := by
 have hr := And.intro px.1 px.2.1
 have HX := Lib.hid hx
 have HF := Lib.hid hf
 have HM := Lib.hid (fun i xs => hm i xs)
 have hA : Bd xss.length xss.length (ent xss) := fun i _ j _ => ent_lt bx i j
 have HA := Lib.hid hA
 obtain ⟨ab, ao, ag, aq, acap, rfl, hab, hag, a0, _⟩ := hx.at (i := 0) (j := 0) (by omega) (fun xs h => hm 0 xs h) (by omega)
 rw [Nat.add_zero] at a0
 have R1 := Lib.hid (mright (some ⟨ab, ao, none⟩) xss ca w hx (by omega) true ⟨fun _ => px, fun _ => rfl⟩)
 have R3 := Lib.hid (midentity xss.length w (by omega) (by omega))
 have hfl := hf.lt
 clear hx hf px bx hm hA
 obtain ⟨n, hnl⟩ : ∃ n, xss.length = n := ⟨_, rfl⟩
 have HNL := Lib.hid hnl
 obtain ⟨H, hH⟩ : ∃ H, w.heap.size = H := ⟨_, rfl⟩
 have HH := Lib.hid hH
 rw [hH] at hab hag hfl
 rw [hnl] at hr R1 HA a0
 rw [hnl, hH] at R3
 rw [hnl]
 clear hH hnl
 obtain ⟨A, hA⟩ : ∃ A, A = ent xss := ⟨_, rfl⟩
 rw [← hA] at HA ⊢
 have HAE := Lib.hid hA
 clear hA
 have t1 : ((n : Int) != (n : Int)) = false := by rw [bne_eq_false_iff_eq]
 have hn0 : (0 : Int) < (n : Int) := by omega
 go_enter Tryz.func84, Tryz.ntmps84
 go_wp2_with fail
 refine R1.out.mono ?_
 rintro e w' ⟨rfl, hw⟩
 obtain rfl := hw.symm
 go_wp2_with fail
 refine R3.out.mono ?_
 rintro e w3 ⟨rfl, o3, b3⟩
 have H0 : Hid (∃ G K, Cat w3 H n 0 A G K ∧ Below H w w3) := Lib.hid ⟨fun _ => 0, fun _ => 0, ⟨fun i _ h => o3.outer i h, fun i _ h j hj => o3.cell i h j hj, fun i h => absurd h (Nat.not_lt_zero _), fun i h => absurd h (Nat.not_lt_zero _), fun i h => absurd h (Nat.not_lt_zero _), o3.free, fun i h => absurd h (Nat.not_lt_zero _), fun i h => absurd h (Nat.not_lt_zero _), by
  have := o3.ltG (i := n - 1) (by omega) (by omega); omega⟩, b3⟩
 clear o3 b3 R1 R3
 go_wp2_with fail
 go_loopg [7, 31] n (fun q s7 s31 v => ∃ k : Nat, s31 = .int .i64 (k : Int) ∧ k ≤ n ∧ q = n - k ∧ Hid (∃ G K, Cat v H n k A G K ∧ Below H w v))
 case atStart => exact ⟨0, rfl, by omega, rfl, H0⟩
 case round =>
  obtain ⟨k, rfl, hk, rfl, HS⟩ := hrel
  clear H0
  by_cases hlt : k < n
  ·have hl : (k : Int) < (n : Int) := by omega
   obtain ⟨G, K, hs, hbs⟩ := HS.out
   have HC := Lib.hid hs
   have HB := Lib.hid hbs
   clear HS hs hbs
   obtain ⟨ab', ao', g1, q1, cp1, e, _, hg1, x1, _⟩ := HX.out.at (i := k) (j := 0) (c := n) (by rw [HNL.out]; exact hlt) (fun xs h => (HM.out k xs h).trans HNL.out) (by omega)
   cases e
   rw [HH.out] at hg1
   have x1' := (HB.out.cell (p := ⟨ab, ao + k, none⟩) hab).trans x1
   have HZ2 : Hid (∀ j, j < n → wr.cell? ⟨g1, q1 + j, none⟩ = some (.int .u8 (A k j : Nat))) := Lib.hid (fun j hj => by
    obtain ⟨ab', ao', g3, q3, cp3, e, _, hg3, u1, u2⟩ := HX.out.at (i := k) (j := j) (c := n) (by rw [HNL.out]; exact hlt) (fun xs h => (HM.out k xs h).trans HNL.out) hj
    cases e
    have e3 := x1.symm.trans u1
    have eg : g3 = g1 ∧ q3 = q1 := by injection e3 with e3; injection e3 with e3; injection e3 with e3; injection e3 with e3 e4; exact ⟨e3.symm, e4.symm⟩
    obtain ⟨rfl, rfl⟩ := eg
    rw [HAE.out]
    exact (HB.out.cell (p := ⟨g3, q3 + j, none⟩) hg1).trans u2)
   clear x1
   have o1 := HC.out.outerN k (Nat.le_refl _) hlt
   have f1 := HC.out.free k
   have hsz : H < wr.heap.size := by have := HC.out.size; omega
   have HCC : Hid (∀ W : World, W.heap = (wr.alloc (.cells #[.slice (some ⟨g1, q1, none⟩) n cp1, .slice (some ⟨H + 1 + k, 0, none⟩) n n] 36)).heap → Below wr.heap.size wr W →
     Calls Tryz.prog 85 #[.slice (some ⟨wr.heap.size, 0, none⟩) 2 2] W fun e w5 => ∃ cap, e = .returned (.slice (some ⟨wr.heap.size + 1, 0, none⟩) (n + n) cap) ∧
      w5.cell? ⟨H, k, none⟩ = some (.slice (some ⟨H + 1 + k, 0, none⟩) n n) ∧ w5.frozen? ⟨H, k, none⟩ = false ∧
      Hid (Cat (w5.setCell ⟨H, k, none⟩ (.slice (some ⟨wr.heap.size + 1, 0, none⟩) (n + n) cap)) H n (k + 1) A (fun i => if i = k then wr.heap.size + 1 else G i) (fun i => if i = k then cap else K i) ∧ Below H w (w5.setCell ⟨H, k, none⟩ (.slice (some ⟨wr.heap.size + 1, 0, none⟩) (n + n) cap)))) := Lib.hid (fun W hW hBW => by
    have hb : W.heap[wr.heap.size]? = some (.cells #[.slice (some ⟨g1, q1, none⟩) n cp1, .slice (some ⟨H + 1 + k, 0, none⟩) n n] 36 (0, 0)) := by rw [hW]; exact alloc_block _ _
    have hws : W.heap.size = wr.heap.size + 1 := by rw [hW]; exact alloc_size _ _
    have hg1w : g1 < wr.heap.size := cell?_lt (HZ2.out 0 (by omega))
    have hGw : H + 1 + k < wr.heap.size := by have := HC.out.size; omega
    have := mconcat wr.heap.size g1 q1 cp1 (H + 1 + k) 0 n n n (A k) (one k) W (by omega) (by omega) (by omega) (by omega) ((cell_of_block hb).trans rfl) ((cell_of_block hb).trans rfl)
     (fun j hj => (hBW.cell (p := ⟨g1, q1 + j, none⟩) hg1w).trans (HZ2.out j hj)) (fun j hj => by rw [Nat.zero_add]; exact (hBW.cell (p := ⟨H + 1 + k, j, none⟩) hGw).trans (HC.out.cellN k (Nat.le_refl _) hlt j hj))
    rw [hws] at this
    refine this.mono ?_
    rintro e w5 ⟨cap, rfl, hcap, hr5, hb5⟩
    have hb6 : Below wr.heap.size wr w5 := hBW.trans (hb5.mono (by omega))
    refine ⟨cap, rfl, (hb6.cell (p := ⟨H, k, none⟩) hsz).trans o1, (World.frozen?_of_block (hb6.block H hsz)).trans f1, Lib.hid ⟨HC.out.next hlt (by omega) hcap hr5 hb6, ?_⟩⟩
    exact (HB.out.trans (hb6.mono (by omega))).setCell (Nat.le_refl _) _)
   clear HC HZ2
   have HCD := Lib.hid (HCC.out ((wr.alloc (.cells #[.slice (some ⟨g1, q1, none⟩) n cp1, .slice (some ⟨H + 1 + k, 0, none⟩) n n] 36)).drew) rfl ((Below.refl _ _).alloc (Nat.le_refl _) _).drew)
   clear HCC
   go_wp2_with fail
   go_region_law (first | (go_at_call 85; refine HCD.out.mono ?_; rintro e w5 ⟨cap, rfl, o5, f5, HN⟩) | (go_simp; go_at_call 85; refine HCD.out.mono ?_; rintro e w5 ⟨cap, rfl, o5, f5, HN⟩))
   all_goals
    clear o1 f1 x1' HCD
    go_wp2_with fail
    go_roundg (n - (k + 1))
    case measure => omega
    case rel => exact ⟨k + 1, by go_num, by omega, rfl, Lib.hid ⟨_, _, HN.out⟩⟩
  ·have hge : ¬ (k : Int) < (n : Int) := by omega
   have e : k = n := by omega
   have HE0 : Hid (∃ G K L, Elim w wr H n 0 A G K L) := by
    subst e
    obtain ⟨G, K, h1, h2⟩ := HS.out
    exact Lib.hid ⟨G, K, _, Elim.start h1 HA.out h2⟩
   clear HS
   obtain ⟨we, rfl⟩ : ∃ we : World, we = wr := ⟨wr, rfl⟩
   go_wp2_with fail
   go_loopg [8, 50] n (fun q s8 s50 v => ∃ k : Nat, s50 = .int .i64 (k : Int) ∧ k ≤ n ∧ q = n - k ∧ Hid (∃ G K L, Elim w v H n k A G K L))
   case atStart => exact ⟨0, rfl, by omega, rfl, HE0⟩
   case round =>
    obtain ⟨k, rfl, hk, rfl, HS⟩ := hrel
    clear HE0
    by_cases hlt : k < n
    ·have hl : (k : Int) < (n : Int) := by omega
     obtain ⟨G, K, L, hs⟩ := HS.out
     have HC := Lib.hid hs
     clear HS hs
     have HT := Lib.hid (msettle H f H n (n + n) k G K L wr (HF.out.of_heap (HC.out.below.block f hfl)) HC.out.own HC.out.bd hlt (by omega) (by omega) (by omega) hfl (Nat.le_refl _) HC.out.base (by
      have := HC.out.own.lt (by omega); omega))
     go_wp2_with fail
     refine HT.out.mono ?_
     intro e w5 hS
     rcases hS with ⟨rfl, h0, hb⟩ | ⟨rfl, q, h1, h2, h3, h4, h5⟩
     ·have HRes : Hid (InvRet n A w (.returned (.tuple #[.slice none 0 0, .bool false])) w5) := Lib.hid ⟨false, one, .slice none 0 0, rfl, HC.out.stuck HA.out hlt h0, by rw [HH.out]; exact HC.out.below.trans hb, fun _ => rfl, (fun h => (by cases h))⟩
      clear h0 hb HC HT
      go_wp2_with fail
      go_ret2
      exact HRes.out
     ·have HN : Hid (∃ G K L, Elim w w5 H n (k + 1) A G K L) := Lib.hid ⟨_, _, _, HC.out.next HA.out hlt h1 h2 h3 h4 (HC.out.below.trans h5)⟩
      clear h1 h2 h3 h4 h5 HC HT
      go_wp2_with fail
      go_roundg (n - (k + 1))
      case measure => omega
      case rel => exact ⟨k + 1, by go_num, by omega, rfl, HN⟩
    ·have hge : ¬ (k : Int) < (n : Int) := by omega
     have e : k = n := by omega
     obtain ⟨G, K, L, hs⟩ := HS.out
     have HFd : Hid (Found n A (rgt n L) true) := Lib.hid (by subst e; exact hs.found HA.out)
     have HC0 := Lib.hid hs.cutting
     obtain ⟨R, hR⟩ : ∃ R, R = rgt n L := ⟨_, rfl⟩
     rw [← hR] at HFd HC0
     clear HS hs hR
     obtain ⟨we, rfl⟩ : ∃ we : World, we = wr := ⟨wr, rfl⟩
     go_wp2_with fail
     go_loopg [9, 61] n (fun q s9 s61 v => ∃ k : Nat, s61 = .int .i64 (k : Int) ∧ k ≤ n ∧ q = n - k ∧ Hid (Cut w v H n k G K R))
     case atStart => exact ⟨0, rfl, by omega, rfl, HC0⟩
     case round =>
      obtain ⟨k, rfl, hk, rfl, HS⟩ := hrel
      clear HC0
      by_cases hlt : k < n
      ·have hl : (k : Int) < (n : Int) := by omega
       have c1 := HS.out.outerN k (Nat.le_refl _) hlt
       have f1 := HS.out.free k
       have HN := Lib.hid (HS.out.next hlt)
       have k1 := HS.out.cap k hlt
       have k2 : ¬ K k = n := by omega
       have k3 : n ≤ K k := by omega
       clear HS
       generalize K k = kk at *
       go_wp2_with fail
       go_roundg (n - (k + 1))
       case measure => omega
       case rel => exact ⟨k + 1, by go_num, by omega, rfl, Lib.hid (HN.out _)⟩
      ·have hge : ¬ (k : Int) < (n : Int) := by omega
       have HRes : Hid (InvRet n A w (.returned (.tuple #[.slice (some ⟨H, 0, none⟩) n n, .bool true])) wr) := Lib.hid ⟨true, R, _, rfl, HFd.out, by rw [HH.out]; exact HS.out.below, (fun h => (by cases h)), fun _ => ⟨H, rfl, (by
        have e : k = n := by omega
        subst e
        exact HS.out.raw)⟩⟩
       clear HS
       go_wp2_with fail
       go_ret2
       exact HRes.out
end Go.Proofs.YtobkmohoepgfmaaGreatDoor.Kc
