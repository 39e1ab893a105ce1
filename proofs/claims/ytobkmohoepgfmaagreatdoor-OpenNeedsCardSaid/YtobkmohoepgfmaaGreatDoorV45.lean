import Derived.Test.YtobkmohoepgfmaaGreatDoorV44
namespace Go.Proofs.YtobkmohoepgfmaaGreatDoor.Kc
open Go.RowKit Go.Sort
set_option maxRecDepth 100000
set_option maxHeartbeats 2000000

theorem fm_adj {A : Mx} (hA : Bd 4 4 A) (hd : det 4 A ≠ 0) : EqM 4 4 (mm 4 A (adjM 4 A)) one := adj_right (n := 3) hA hd
theorem right_back {A X H D : Mx} {n : Nat} (hA : Bd 4 4 A) (hd : det 4 A ≠ 0) (hX : Bd 4 4 X) (hr : EqM 4 4 (mm 4 A X) one) (hD : Bd 4 n D) (hH : EqM 4 n H (mm 4 A D)) (hB : Bd 4 n H) : EqM 4 n (mm 4 X H) D := by
 have e1 : EqM 4 n (mm 4 A (mm 4 X H)) H := ((mm_assoc hA hX hB).symm.trans (mm_congr hr (EqM.refl _ _ _))).trans (one_mm hB)
 have bXH : Bd 4 n (mm 4 X H) := mm_bd _ _ _ _ _
 intro j hj k hk
 by_cases e : mm 4 X H j k ^^^ D j k = 0
 ·have h5 : (mm 4 X H j k ^^^ D j k) ^^^ D j k = D j k := by rw [e, Nat.zero_xor]
  rwa [Nat.xor_assoc, Nat.xor_self, Nat.xor_zero] at h5
 ·refine absurd (det_sing hA ⟨fun j => mm 4 X H j k ^^^ D j k, fun j hj => xor_lt (bXH j hj k hk) (hD j hj k hk), ⟨j, hj, e⟩, fun i hi => ?_⟩) hd
  have h : ∀ j, j < 4 → mul (A i j) (mm 4 X H j k ^^^ D j k) = mul (A i j) (mm 4 X H j k) ^^^ mul (A i j) (D j k) := fun j hj => mul_xor (hA i hi j hj) (bXH j hj k hk) (hD j hj k hk)
  rw [sx_congr h, sx_xor]
  have a : sx 4 (fun j => mul (A i j) (mm 4 X H j k)) = H i k := e1 i hi k hk
  have b : H i k = sx 4 (fun j => mul (A i j) (D j k)) := hH i hi k hk
  rw [a, ← b, Nat.xor_self]

theorem outF_back {xss : List (List Nat)} {D : Mx} (hD : Bd 4 32 D) (hl : (pres xss 6).length = 4) (hby : Bytes xss) (hx : ∀ l ∈ pres xss 6, ∀ k, k < 32 → ent xss l k = enc D l k) : ∀ t, t < 128 → outF xss t = flat D t := by
 intro t ht
 have hA := fm_bd (pres xss 6) 4 4
 have hd : det 4 (fm (pres xss 6)) ≠ 0 := fm_det hl (pres_sorted _ _) (fun l hl => (pres_lt hl).1)
 have h := right_back (n := 32) (X := adjM 4 (fm (pres xss 6))) (H := fun l k => ent xss ((pres xss 6).getD l 0) k) (D := D) hA hd (fun _ _ _ _ => mul_lt _ _) (fm_adj hA hd) hD (fun l hl' k hk => by
  have hmem : (pres xss 6).getD l 0 ∈ pres xss 6 := by rw [List.getD_eq_getElem?_getD, List.getElem?_eq_getElem (by omega)]; exact List.getElem_mem _
  exact hx _ hmem k hk) (fun _ _ _ _ => ent_lt hby _ _)
 exact h (t / 32) (by omega) (t % 32) (by omega)
theorem flat_parts (S : Nat → Nat) (t : Nat) : flat (parts S) t = S t := by
 unfold flat parts
 rw [show t / 32 * 32 + t % 32 = t by omega]
def someRows (keep : Nat → Bool) (A : Mx) : List (List Nat) := (List.range 6).map (fun i => if keep i then (List.range 32).map (A i) else [])
theorem someRows_len (keep : Nat → Bool) (A : Mx) : (someRows keep A).length = 6 := by simp [someRows]
theorem someRows_get {keep : Nat → Bool} {A : Mx} {i : Nat} (hi : i < 6) : (someRows keep A)[i]? = some (if keep i then (List.range 32).map (A i) else []) := by simp [someRows, hi]
theorem someRows_lenOf {keep : Nat → Bool} {A : Mx} {i : Nat} (hi : i < 6) : lenOf (someRows keep A) i = if keep i then 32 else 0 := by
 unfold lenOf
 rw [someRows_get hi, Option.getD_some]
 split <;> simp
theorem someRows_bytes {keep : Nat → Bool} {A : Mx} (h : Bd 6 32 A) : Bytes (someRows keep A) := fun i xs hx x hm => by
 have hi : i < 6 := by have := (List.getElem?_eq_some_iff.1 hx).1; rwa [someRows_len] at this
 rw [someRows_get hi] at hx
 cases hx
 split at hm
 ·simp at hm
  obtain ⟨j, hj, rfl⟩ := hm
  exact h i hi j hj
 ·simp at hm
theorem someRows_ent {keep : Nat → Bool} {A : Mx} {i k : Nat} (hi : i < 6) (hk : k < 32) (hkeep : keep i = true) : ent (someRows keep A) i k = A i k := by
 unfold ent
 rw [someRows_get hi, Option.getD_some, if_pos hkeep]
 simp [hk]
theorem someRows_pres (keep : Nat → Bool) (A : Mx) : pres (someRows keep A) 6 = ((List.range 6).filter keep).take 4 := by
 unfold pres
 congr 1
 refine List.filter_congr (fun l hl => ?_)
 have h6 : l < 6 := by simpa using hl
 rw [someRows_lenOf h6]
 cases keep l <;> rfl
theorem someRows_back {keep : Nat → Bool} {D : Mx} (hD : Bd 4 32 D) (h : (((List.range 6).filter keep).take 4).length = 4) : ∀ t, t < 128 → outF (someRows keep (enc D)) t = flat D t :=
 outF_back hD (by rw [someRows_pres]; exact h) (someRows_bytes (enc_bd _ _ _)) (fun l hl k hk => by
  have h1 := pres_lt hl
  have h2 := h1.2
  rw [someRows_lenOf h1.1] at h2
  cases hk' : keep l with
  | false => rw [hk'] at h2; exact absurd rfl h2
  | true => exact someRows_ent h1.1 hk hk')
end Go.Proofs.YtobkmohoepgfmaaGreatDoor.Kc
