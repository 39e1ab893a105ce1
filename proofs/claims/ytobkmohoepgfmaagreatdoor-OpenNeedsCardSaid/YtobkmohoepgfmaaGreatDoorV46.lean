import Derived.Test.YtobkmohoepgfmaaGreatDoorV44
import Derived.Test.YtobkmohoepgfmaaGreatDoorV45
namespace Go.Proofs.YtobkmohoepgfmaaGreatDoor
open Go.RowKit Go.Sort
set_option maxRecDepth 100000
set_option maxHeartbeats 4000000

section
variable (E : (Nat → Nat) → Nat → Nat → Nat) (dec : List (Nat × (Nat → Nat)) → Nat → Nat) (D D2 : Nat → Nat)
end
section
variable {D D2 : Nat → Nat} (hD : ∀ j, j < 128 → D j < 256) (hD2 : ∀ j, j < 128 → D2 j < 256)
include hD
include hD2
end
theorem dec_enc {D : Nat → Nat} (hD : ∀ j, j < 128 → D j < 256) : ∀ t, t < 128 → decK [(0, encK D 0), (1, encK D 1), (2, encK D 2), (3, encK D 3)] t = D t := by
 intro t ht
 have hat : ∀ l, l < 6 → at_ [(0, encK D 0), (1, encK D 1), (2, encK D 2), (3, encK D 3)] l = if l < 4 then some (l, encK D l) else none := by
  intro l hl
  match l, hl with
  | 0, _ => rfl
  | 1, _ => rfl
  | 2, _ => rfl
  | 3, _ => rfl
  | 4, _ => rfl
  | 5, _ => rfl
 have hc : Cnt [(0, encK D 0), (1, encK D 1), (2, encK D 2), (3, encK D 3)] 6 := by
  refine ⟨fun p hp => ?_, rfl, Nat.le_refl _⟩
  simp at hp
  rcases hp with rfl | rfl | rfl | rfl <;> simp
 have hw := (rows_whole hc).2 rfl
 have hb : Kc.Bytes (rowsP [(0, encK D 0), (1, encK D 1), (2, encK D 2), (3, encK D 3)]) := rows_bytes (fun p hp j hj => by
  simp at hp
  rcases hp with rfl | rfl | rfl | rfl <;> exact encK_lt' _ _ _)
 have := Kc.outF_back (D := Kc.parts D) (Kc.parts_bd hD) hw.2.2 hb (fun l hl k hk => by
  have hp := Kc.pres_lt hl
  have h1 := hat l hp.1
  have h2 := lenOf_rows [(0, encK D 0), (1, encK D 1), (2, encK D 2), (3, encK D 3)] hp.1
  rw [h1] at h2
  have h4 : l < 4 := by
   by_cases h : l < 4
   ·exact h
   ·rw [if_neg h] at h2
    exact absurd h2 hp.2
  unfold Kc.ent rowsP
  rw [List.getElem?_map, List.getElem?_range hp.1]
  show ((rowP _ l)[k]?).getD 0 = _
  unfold rowP
  rw [h1, if_pos h4]
  dsimp only
  rw [List.getElem?_map, List.getElem?_range hk]
  rfl) t ht
 unfold decK
 rw [this, Kc.flat_parts]
end Go.Proofs.YtobkmohoepgfmaaGreatDoor
