import Derived.Test.YtobkmohoepgfmaaGreatDoorV41
import Derived.Test.YtobkmohoepgfmaaGreatDoorV46
namespace Go.Proofs.YtobkmohoepgfmaaGreatDoor
open Go.RowKit Go.Sort
set_option maxRecDepth 100000
set_option maxHeartbeats 4000000

theorem rows_keep {ps : List (Nat × (Nat → Nat))} {keep : Nat → Bool} {D : Nat → Nat} (h : ∀ l, l < 6 → at_ ps l = if keep l = true then some (l, encK D l) else none) : rowsP ps = Kc.someRows keep (Kc.enc (Kc.parts D)) := by
 unfold rowsP Kc.someRows
 refine List.map_congr_left (fun l hl => ?_)
 unfold rowP
 rw [h l (List.mem_range.1 hl)]
 cases keep l <;> rfl
theorem dec_keep {ps : List (Nat × (Nat → Nat))} {keep : Nat → Bool} {D : Nat → Nat} (hD : ∀ j, j < 128 → D j < 256) (h : ∀ l, l < 6 → at_ ps l = if keep l = true then some (l, encK D l) else none) (hk : (((List.range 6).filter keep).take 4).length = 4) : ∀ t, t < 128 → decK ps t = D t := by
 intro t ht
 unfold decK
 rw [rows_keep h, Kc.someRows_back (Kc.parts_bd hD) hk t ht, Kc.flat_parts]
def missN (e : Ep) : Nat → Wp × List (Nat × Nat)
 | 0 => (e.w, [])
 | k + 1 => ((lackF { e with w := (missN e k).1 } k).1, (missN e k).2 ++ (if 0 < (lackF { e with w := (missN e k).1 } k).2 ∨ (e.pend k).isSome = true ∨ e.doubt k = true then [(k, (lackF { e with w := (missN e k).1 } k).2)] else []))
section
variable (E : (Nat → Nat) → Nat → Nat → Nat) (dec : List (Nat × (Nat → Nat)) → Nat → Nat) (D : Nat → Nat)
abbrev okF : Ep := getL (opnF E dec (okC E dec D)).2
abbrev okD : Nat → Nat := dec [(0, E D 0), (2, E D 2), (4, E D 4), (5, E D 5)]
theorem ok_read : ((okF E dec D).read E dec 9).2 = .yes (dec [(0, E (okD E dec D) 0), (1, E (okD E dec D) 1), (2, E (okD E dec D) 2), (3, E (okD E dec D) 3)]) := by kernel_rfl
abbrev okG : Ep := ((okF E dec D).read E dec 9).1
theorem ok_none : (missN (okG E dec D) 40).2 = [] := by kernel_rfl
end
section
variable (E : (Nat → Nat) → Nat → Nat → Nat) (dec : List (Nat × (Nat → Nat)) → Nat → Nat) (D : Nat → Nat)
abbrev nB : Ep := ((okA E dec).write E 3 D).1
theorem n_first : ((okA E dec).write E 3 D).2 = none := by kernel_rfl
abbrev nC (d : Nat) : Wp := (nB E dec D).w.setD d true
theorem n_down : ∀ d, d < 8 → (askI (nC E dec D d) 8).2.1 = some (d, 4)
 | 0, _ => by kernel_rfl
 | 1, _ => by kernel_rfl
 | 2, _ => by kernel_rfl
 | 3, _ => by kernel_rfl
 | 4, _ => by kernel_rfl
 | 5, _ => by kernel_rfl
 | 6, _ => by kernel_rfl
 | 7, _ => by kernel_rfl
abbrev nT (d : Nat) : Wp := (askI (nC E dec D d) 8).1.setD d false
theorem n_again : ∀ d, d < 8 → isL (opnF E dec (nT E dec D d)).2 = true
 | 0, _ => by kernel_rfl
 | 1, _ => by kernel_rfl
 | 2, _ => by kernel_rfl
 | 3, _ => by kernel_rfl
 | 4, _ => by kernel_rfl
 | 5, _ => by kernel_rfl
 | 6, _ => by kernel_rfl
 | 7, _ => by kernel_rfl
abbrev nG (d : Nat) : Ep := getL (opnF E dec (nT E dec D d)).2
theorem n_gen : ∀ d, d < 8 → (nG E dec D d).gen 3 = 1
 | 0, _ => by kernel_rfl
 | 1, _ => by kernel_rfl
 | 2, _ => by kernel_rfl
 | 3, _ => by kernel_rfl
 | 4, _ => by kernel_rfl
 | 5, _ => by kernel_rfl
 | 6, _ => by kernel_rfl
 | 7, _ => by kernel_rfl
theorem n_read : ∀ d, d < 8 → ((nG E dec D d).read E dec 3).2 = .yes (dec [(0, E D 0), (1, E D 1), (2, E D 2), (3, E D 3)])
 | 0, _ => by kernel_rfl
 | 1, _ => by kernel_rfl
 | 2, _ => by kernel_rfl
 | 3, _ => by kernel_rfl
 | 4, _ => by kernel_rfl
 | 5, _ => by kernel_rfl
 | 6, _ => by kernel_rfl
 | 7, _ => by kernel_rfl
theorem n_same : ∀ d, d < 8 → (List.range 40).all (fun i => decide (((nG E dec D d).read E dec 3).1.gen i = (nB E dec D).gen i)) = true
 | 0, _ => by kernel_rfl
 | 1, _ => by kernel_rfl
 | 2, _ => by kernel_rfl
 | 3, _ => by kernel_rfl
 | 4, _ => by kernel_rfl
 | 5, _ => by kernel_rfl
 | 6, _ => by kernel_rfl
 | 7, _ => by kernel_rfl
end
end Go.Proofs.YtobkmohoepgfmaaGreatDoor
