import Derived.Test.YthpkpmochkiipaaGreatDoorV47
import Derived.Test.YthpkpmochkiipaaGreatDoorV48
namespace Go.Proofs.YthpkpmochkiipaaGreatDoor
open Go.RowKit Go.Sort
set_option maxRecDepth 100000
set_option maxHeartbeats 4000000

def Wp.dnTo (s : Wp) (b : Bool) : Nat → Wp
  | 0 => s
  | i + 1 => (s.dnTo b i).setD i b
abbrev kwA : Ep := Ep.new Wp.new
abbrev kwB (E : (Nat → Nat) → Nat → Nat → Nat) (D : Nat → Nat) : Ep := (kwA.write E 7 D).1
abbrev kwC (E : (Nat → Nat) → Nat → Nat → Nat) (D : Nat → Nat) : Ep := { kwB E D with w := (kwB E D).w.dnTo true 6 }
abbrev kwD (E : (Nat → Nat) → Nat → Nat → Nat) (D D2 : Nat → Nat) : Ep := ((kwC E D).write E 7 D2).1
abbrev kwE (E : (Nat → Nat) → Nat → Nat → Nat) (dec : List (Nat × (Nat → Nat)) → Nat → Nat) (D D2 : Nat → Nat) : Ep := ((kwD E D D2).read E dec 7).1
abbrev kwF (E : (Nat → Nat) → Nat → Nat → Nat) (dec : List (Nat × (Nat → Nat)) → Nat → Nat) (D D2 : Nat → Nat) : Ep := { kwE E dec D D2 with w := (kwE E dec D D2).w.dnTo false 6 }
abbrev kwG (E : (Nat → Nat) → Nat → Nat → Nat) (dec : List (Nat × (Nat → Nat)) → Nat → Nat) (D D2 : Nat → Nat) : Ep := ((kwF E dec D D2).read E dec 7).1
section
variable (E : (Nat → Nat) → Nat → Nat → Nat) (dec : List (Nat × (Nat → Nat)) → Nat → Nat) (D D2 : Nat → Nat)
theorem kw_z : (kwA.read E dec 7) = (kwA, .yes (fun _ => 0)) := by kernel_rfl
theorem kw_first : (kwA.write E 7 D).2 = none := by kernel_rfl
theorem kw_fails : ((kwC E D).write E 7 D2).2 = some [(4, 4), (5, 4), (0, 4), (1, 4), (2, 4), (3, 4)] := by kernel_rfl
theorem kw_doubt : listE (kwD E D D2).doubt = [7] := by kernel_rfl
theorem kw_still : ((kwD E D D2).read E dec 7).2 = .no [(0, 4), (1, 4), (2, 4), (3, 4), (4, 4)] := by kernel_rfl
theorem kw_fine : ((kwF E dec D D2).read E dec 7).2 = .yes (dec [(0, E D 0), (1, E D 1), (2, E D 2), (3, E D 3)]) := by kernel_rfl
theorem kw_none : listE (kwG E dec D D2).doubt = [] := by kernel_rfl
theorem kw_gen : (kwG E dec D D2).gen 7 = 3 := by kernel_rfl
theorem kw_nB (i : Nat) : (kwB E D).next i = if i = 7 then 2 else 1 := by kernel_rfl
theorem kw_nD (i : Nat) : (kwD E D D2).next i = if i = 7 then 3 else (kwB E D).next i := by kernel_rfl
theorem kw_nE (i : Nat) : (kwE E dec D D2).next i = (kwD E D D2).next i := by kernel_rfl
theorem kw_wE : (kwE E dec D D2).w = ((kwD E D D2).fetch dec 7).1 := by kernel_rfl
theorem kw_bl (i : Nat) : (kwB E D).next i ≤ 1000000 := by rw [kw_nB]; split <;> omega
theorem kw_dl (i : Nat) : (kwD E D D2).next i ≤ 1000000 := by
  rw [kw_nD]
  have := kw_bl E D i
  split <;> omega
end
theorem Wp.dnTo_N (s : Wp) (b : Bool) : ∀ i, (s.dnTo b i).N = s.N ∧ (s.dnTo b i).fuse = s.fuse ∧ (s.dnTo b i).sent = s.sent
  | 0 => ⟨rfl, rfl, rfl⟩
  | i + 1 => Wp.dnTo_N s b i
theorem Wp.Fit.dnTo {s : Wp} {m : Nat} (h : s.Fit m) (b : Bool) (i : Nat) : (s.dnTo b i).Fit m := by
  obtain ⟨h1, h2, h3⟩ := Wp.dnTo_N s b i
  exact h.congr h1 h2 h3
section
variable {D D2 : Nat → Nat} (hD : ∀ j, j < 128 → D j < 256) (hD2 : ∀ j, j < 128 → D2 j < 256)
theorem kw_fA : kwA.w.Fit 0 := Wp.Fit.new
include hD
theorem kw_fB : (kwB encK D).w.Fit 564 := Ep.fit_write (m := 0) kw_fA hD (fun i j _ => encK_lt' _ i j)
theorem kw_fC : (kwC encK D).w.Fit 564 := (kw_fB hD).dnTo true 6
include hD2
theorem kw_fD : (kwD encK D D2).w.Fit 1128 := Ep.fit_write (m := 564) (kw_fC hD) hD2 (fun i j _ => encK_lt' _ i j)
theorem kw_fE : (kwE encK decK D D2).w.Fit 1146 := by rw [kw_wE]; exact Ep.fit_fetch decK (kw_fD hD hD2)
theorem kw_fF : (kwF encK decK D D2).w.Fit 1146 := (kw_fE hD hD2).dnTo false 6
end
theorem dec_enc {D : Nat → Nat} (hD : ∀ j, j < 128 → D j < 256) : ∀ t, t < 128 → decK [(0, encK D 0), (1, encK D 1), (2, encK D 2), (3, encK D 3)] t = D t := by
  intro t ht
  have hat : ∀ l, l < 6 → at_ [(0, encK D 0), (1, encK D 1), (2, encK D 2), (3, encK D 3)] l = if l < 4 then some (l, encK D l) else none := by
    intro l hl
    match l, hl with
    | 0, _ => rfl
    | 1, _ => rfl
    | 2, _ => rfl
    | 3, _ => rfl
    | 4, _ => rfl
    | 5, _ => rfl
  have hc : Cnt [(0, encK D 0), (1, encK D 1), (2, encK D 2), (3, encK D 3)] 6 := by
    refine ⟨fun p hp => ?_, rfl, Nat.le_refl _⟩
    simp at hp
    rcases hp with rfl | rfl | rfl | rfl <;> simp
  have hw := (rows_whole hc).2 rfl
  have hb : Kc.Bytes (rowsP [(0, encK D 0), (1, encK D 1), (2, encK D 2), (3, encK D 3)]) := rows_bytes (fun p hp j hj => by
    simp at hp
    rcases hp with rfl | rfl | rfl | rfl <;> exact encK_lt' _ _ _)
  have := Kc.outF_back (D := Kc.parts D) (Kc.parts_bd hD) hw.2.2 hb (fun l hl k hk => by
    have hp := Kc.pres_lt hl
    have h1 := hat l hp.1
    have h2 := lenOf_rows [(0, encK D 0), (1, encK D 1), (2, encK D 2), (3, encK D 3)] hp.1
    rw [h1] at h2
    have h4 : l < 4 := by
      by_cases h : l < 4
      · exact h
      · rw [if_neg h] at h2
        exact absurd h2 hp.2
    unfold Kc.ent rowsP
    rw [List.getElem?_map, List.getElem?_range hp.1]
    show ((rowP _ l)[k]?).getD 0 = _
    unfold rowP
    rw [h1, if_pos h4]
    dsimp only
    rw [List.getElem?_map, List.getElem?_range hk]
    rfl) t ht
  unfold decK
  rw [this, Kc.flat_parts]
end Go.Proofs.YthpkpmochkiipaaGreatDoor
