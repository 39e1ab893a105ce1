import Derived.Test.YtajpnbmfeapmcaaK18
import Derived.Deep.RegionHeld3
namespace Go.Proofs.Ytajpnbmfeapmcaa
open Go.RowKit Go.Sort
set_option maxRecDepth 100000
set_option maxHeartbeats 4000000

def S0 : Nat → Nat := fun j => if j = 32 then 1 else 0
theorem S0_lt (j : Nat) : S0 j < 256 := by unfold S0; split <;> decide
theorem E40 : enc (parts S0) 4 0 = 1 := by kernel_rfl
theorem E50 : enc (parts S0) 5 0 = 2 := by kernel_rfl
theorem E51 : enc (parts S0) 5 1 = 0 := by kernel_rfl
theorem mk128 : ∃ zs : Array Value, zs.size = 128 ∧ (∀ j, j < 128 → zs[j]? = some (.int .u8 0)) ∧
    ∀ W : World, Sem.run Try.prog (Instr.makeSlice 29 (.int .i64 128) (.int .i64 128)) W = .ok (.slice (some ⟨W.heap.size, 0, none⟩) 128 128) (W.alloc (.cells zs 5)) := by
  obtain ⟨i0, hi0, hz0, hz1, hz2⟩ := info_parts infoByte
  refine ⟨madeCells (Value.int .u8 0).cells (128 * i0.size), ?_, fun j hj => ?_, fun W => ?_⟩
  · rw [hz1]; simp [madeCells, Value.cells]
  · rw [hz1]
    simp [madeCells, Value.cells, hj]
    rw [Nat.mod_one]; rfl
  · have h := run_make W 29 5 i0 (.int .u8 0) Try.underlying29 hi0 hz0 .i64 .i64 128 128 (by omega) (by omega) (by rw [hz2]; omega) (by omega)
    simpa using h

theorem conv_row {w : World} {g n cap : Nat} {F F' : Nat → Nat} (h : Row8 w g n F) (e : ∀ j, j < n → F j = F' j) : Sem.run Try.prog (convert 29 9 (.slice (some ⟨g, 0, none⟩) n cap)) w = .ok (.string (strOf ((List.range n).map F'))) w := by
  have := row_str (w := w) (g := g) (q := 0) (n := n) (cap := cap) (F := F) (fun j hj => by rw [Nat.zero_add]; exact h.cell j hj)
  rw [this, List.map_congr_left (fun j hj => e j (by simpa using hj))]

theorem cencode0 (c f o cap0 g cap : Nat) (S : Nat → Nat) (w : World) (hc : Cdr w c f o cap0) (hcap : 128 ≤ cap) (hr : Row8 w g 128 S) (hb : ∀ j, j < 128 → S j < 256) :
    Calls Try.prog 11 #[.pointer (some ⟨c, 0, none⟩), .slice (some ⟨g, 0, none⟩) 128 cap] w (EncRet w (enc (parts S)) 6) :=
  cencode c f o cap0 g 0 cap S w hc hcap (fun j hj => by rw [Nat.zero_add]; exact hr.cell j hj) hb

theorem cdecodeG (c f o cap0 : Nat) (a : Option Addr) (xss : List (List Nat)) (cap : Nat) (w : World) (hc : Cdr w c f o cap0) (h : RawIn w a xss) (h6 : xss.length = 6) (hby : Bytes xss) (hW : Whole xss) (S : Nat → Nat) (hS : ∀ t, t < 128 → outF xss t = S t) :
    Calls Try.prog 13 #[.pointer (some ⟨c, 0, none⟩), .slice a 6 cap] w fun e w' => ∃ g cap', e = .returned (.tuple #[.slice (some ⟨g, 0, none⟩) 128 cap', .bool true]) ∧ Hid (Below w.heap.size w w' ∧ Row8 w' g 128 S ∧ 128 ≤ cap') := by
  have hd := cdecodeR c f o cap0 a xss cap w hc h (by omega) hby
  rw [h6] at hd
  refine hd.mono ?_
  rintro e w' (⟨rfl, _, hn⟩ | ⟨g, cap', rfl, hb, _, hr, hcp⟩)
  · exact absurd hW hn
  · exact ⟨g, cap', rfl, Lib.hid ⟨hb, hr.congr hS, hcp⟩⟩

theorem lknown (w : World) : Calls Try.prog 10 #[] w fun e w' => e = .returned (.bool true) ∧ Below w.heap.size w w' := by
  obtain ⟨zs, zl, z1, z2⟩ := mk128
  have HZ := Lib.hid z1
  go_enter Try.func10, Try.ntmps10
  go_wp2_with fail
  refine (cnew w).mono ?_
  rintro e w1 ⟨c, f, o, cap, rfl, hc, hb⟩
  have HB1 := Lib.hid hb
  have HC1 := Lib.hid hc
  clear hc hb
  have c32 : (w1.alloc (.cells zs 5)).cell? ⟨w1.heap.size, 32, none⟩ = some (.int .u8 0) := by rw [cell_of_block (alloc_block w1 _)]; exact z1 32 (by omega)
  have f32 : (w1.alloc (.cells zs 5)).frozen? ⟨w1.heap.size, 32, none⟩ = false := free_of_block (alloc_block w1 _)
  clear z1
  have H2 : Hid (Row8 (w1.alloc (.cells (zs.setIfInBounds 32 (.int .u8 1)) 5)) w1.heap.size 128 S0 ∧ Below w1.heap.size w1 (w1.alloc (.cells (zs.setIfInBounds 32 (.int .u8 1)) 5))) := by
    refine Lib.hid ⟨⟨fun j hj => ?_, fun j => free_of_block (alloc_block w1 _)⟩, (Below.refl _ _).alloc (Nat.le_refl _) _⟩
    rw [cell_of_block (alloc_block w1 _), Array.getElem?_setIfInBounds]
    by_cases e : 32 = j
    · rw [if_pos e, if_pos (by omega)]; unfold S0; rw [if_pos e.symm]; rfl
    · rw [if_neg e, HZ.out j hj]; unfold S0; rw [if_neg (fun h => e h.symm)]; rfl
  go_wp2_with fail
  clear c32 f32 HZ
  generalize w1.alloc (.cells (zs.setIfInBounds 32 (.int .u8 1)) 5) = w2 at *
  obtain ⟨sb, hsb⟩ : ∃ sb, w1.heap.size = sb := ⟨_, rfl⟩
  have HSB := Lib.hid hsb
  rw [hsb] at H2 ⊢
  clear hsb
  have HB2 : Hid (Below w.heap.size w w2) := Lib.hid (HB1.out.trans (H2.out.2.mono (by rw [← HSB.out]; exact HB1.out.size)))
  have HC2 : Hid (Cdr w2 c f o cap) := Lib.hid (HC1.out.keep (by rw [HSB.out]; exact H2.out.2))
  refine (cencode0 c f o cap sb 128 S0 w2 HC2.out (by omega) H2.out.1 (fun j _ => S0_lt j)).mono ?_
  rintro e w3 ⟨b, rfl, ho, hbl, hb3⟩
  have HO := Lib.hid ho
  have HB3 : Hid (Below w.heap.size w w3) := Lib.hid (HB2.out.trans (hb3.mono HB2.out.size))
  have HC3 : Hid (Cdr w3 c f o cap) := Lib.hid (HC2.out.keep hb3)
  have HS3 : Hid (Row8 w3 sb 128 S0) := Lib.hid (H2.out.1.keep (hb3.block sb (cell?_lt (H2.out.1.cell 0 (by omega)))))
  clear ho hb3 hbl
  have d2 := HO.out.outer 2 (by omega)
  have d3 := HO.out.outer 3 (by omega)
  have d4 := HO.out.outer 4 (by omega)
  have d5 := HO.out.outer 5 (by omega)
  have hbl3 : b < w3.heap.size := HO.out.lt (by omega)
  have HBA : Hid (Below w3.heap.size w3 ((w3.alloc (.cells #[.slice none 0 0, .slice none 0 0, .slice (some ⟨b + 1 + 2, 0, none⟩) 32 32, .slice (some ⟨b + 1 + 3, 0, none⟩) 32 32, .slice (some ⟨b + 1 + 4, 0, none⟩) 32 32, .slice (some ⟨b + 1 + 5, 0, none⟩) 32 32] 29)).drew)) := Lib.hid ((Below.refl _ _).alloc (Nat.le_refl _) _).drew
  have HRA : Hid (RawIn ((w3.alloc (.cells #[.slice none 0 0, .slice none 0 0, .slice (some ⟨b + 1 + 2, 0, none⟩) 32 32, .slice (some ⟨b + 1 + 3, 0, none⟩) 32 32, .slice (some ⟨b + 1 + 4, 0, none⟩) 32 32, .slice (some ⟨b + 1 + 5, 0, none⟩) 32 32] 29)).drew) (some ⟨w3.heap.size, 0, none⟩) (someRows (fun i => decide (2 ≤ i)) (enc (parts S0)))) := by
    refine Lib.hid (someRows_raw (show w3.heap.size < (w3.alloc _).heap.size by rw [alloc_size]; exact Nat.lt_succ_self _) (fun i hi => ?_))
    have hbk : ∀ k, ((w3.alloc (.cells #[.slice none 0 0, .slice none 0 0, .slice (some ⟨b + 1 + 2, 0, none⟩) 32 32, .slice (some ⟨b + 1 + 3, 0, none⟩) 32 32, .slice (some ⟨b + 1 + 4, 0, none⟩) 32 32, .slice (some ⟨b + 1 + 5, 0, none⟩) 32 32] 29)).drew).cell? ⟨w3.heap.size, k, none⟩ = _ := fun k => cell_of_block (w := (w3.alloc (.cells #[.slice none 0 0, .slice none 0 0, .slice (some ⟨b + 1 + 2, 0, none⟩) 32 32, .slice (some ⟨b + 1 + 3, 0, none⟩) 32 32, .slice (some ⟨b + 1 + 4, 0, none⟩) 32 32, .slice (some ⟨b + 1 + 5, 0, none⟩) 32 32] 29)).drew) (alloc_block w3 _)
    have hrow : ∀ i, i < 6 → ∀ j, j < 32 → ((w3.alloc (.cells #[.slice none 0 0, .slice none 0 0, .slice (some ⟨b + 1 + 2, 0, none⟩) 32 32, .slice (some ⟨b + 1 + 3, 0, none⟩) 32 32, .slice (some ⟨b + 1 + 4, 0, none⟩) 32 32, .slice (some ⟨b + 1 + 5, 0, none⟩) 32 32] 29)).drew).cell? ⟨b + 1 + i, 0 + j, none⟩ = some (.int .u8 (enc (parts S0) i j : Nat)) := fun i hi j hj => by
      rw [Nat.zero_add]
      exact (HBA.out.cell (p := ⟨b + 1 + i, j, none⟩) (HO.out.ltG hi (by omega))).trans (HO.out.cell i hi j hj)
    match i, hi with
    | 0, _ => exact ⟨none, 0, by rw [hbk]; rfl, fun h => (by cases h)⟩
    | 1, _ => exact ⟨none, 0, by rw [hbk]; rfl, fun h => (by cases h)⟩
    | 2, h => exact ⟨some ⟨b + 1 + 2, 0, none⟩, 32, by rw [hbk]; rfl, fun _ => ⟨_, _, rfl, hrow 2 h⟩⟩
    | 3, h => exact ⟨some ⟨b + 1 + 3, 0, none⟩, 32, by rw [hbk]; rfl, fun _ => ⟨_, _, rfl, hrow 3 h⟩⟩
    | 4, h => exact ⟨some ⟨b + 1 + 4, 0, none⟩, 32, by rw [hbk]; rfl, fun _ => ⟨_, _, rfl, hrow 4 h⟩⟩
    | 5, h => exact ⟨some ⟨b + 1 + 5, 0, none⟩, 32, by rw [hbk]; rfl, fun _ => ⟨_, _, rfl, hrow 5 h⟩⟩
  have HD := Lib.hid (cdecodeG c f o cap (some ⟨w3.heap.size, 0, none⟩) (someRows (fun i => decide (2 ≤ i)) (enc (parts S0))) 6 _ (HC3.out.keep HBA.out) HRA.out (someRows_len _ _) (someRows_bytes (enc_bd _ _ _)) (someRows_whole _ (by decide)) S0 (fun t ht => by rw [someRows_back (parts_bd (fun j _ => S0_lt j)) (by decide) t ht, flat_parts]))
  clear HRA
  have HE4 := Lib.hid d4
  have HE5 := Lib.hid d5
  go_wp2_with fail
  go_region_held3 (fun w' => w'.cell? ⟨b, 2, none⟩ = some (.slice (some ⟨b + 1 + 2, 0, none⟩) 32 32) ∧ w'.cell? ⟨b, 3, none⟩ = some (.slice (some ⟨b + 1 + 3, 0, none⟩) 32 32) ∧ w'.cell? ⟨b, 4, none⟩ = some (.slice (some ⟨b + 1 + 4, 0, none⟩) 32 32) ∧ w'.cell? ⟨b, 5, none⟩ = some (.slice (some ⟨b + 1 + 5, 0, none⟩) 32 32))
    (first | go_keep | (refine ⟨?_, ?_, ?_, ?_⟩ <;> assumption))
    (first | (go_at_call 13; refine HD.out.mono ?_; rintro e w4 ⟨g, cap', rfl, H4⟩; have r2 : w4.cell? ⟨b, 2, none⟩ = some (.slice (some ⟨b + 1 + 2, 0, none⟩) 32 32) := ((HBA.out.trans (H4.out.1.mono HBA.out.size)).cell (p := ⟨b, 2, none⟩) hbl3).trans d2; have r3 : w4.cell? ⟨b, 3, none⟩ = some (.slice (some ⟨b + 1 + 3, 0, none⟩) 32 32) := ((HBA.out.trans (H4.out.1.mono HBA.out.size)).cell (p := ⟨b, 3, none⟩) hbl3).trans d3; have r4 : w4.cell? ⟨b, 4, none⟩ = some (.slice (some ⟨b + 1 + 4, 0, none⟩) 32 32) := ((HBA.out.trans (H4.out.1.mono HBA.out.size)).cell (p := ⟨b, 4, none⟩) hbl3).trans d4; have r5 : w4.cell? ⟨b, 5, none⟩ = some (.slice (some ⟨b + 1 + 5, 0, none⟩) 32 32) := ((HBA.out.trans (H4.out.1.mono HBA.out.size)).cell (p := ⟨b, 5, none⟩) hbl3).trans d5) | fail)
  all_goals
    have hbs : Below w3.heap.size w3 w4 := HBA.out.trans (H4.out.1.mono HBA.out.size)
    have HB4 : Hid (Below w.heap.size w w4) := Lib.hid (HB3.out.trans (hbs.mono HB3.out.size))
    have k4 := (hbs.cell (p := ⟨b, 4, none⟩) hbl3).trans HE4.out
    have k5 := (hbs.cell (p := ⟨b, 5, none⟩) hbl3).trans HE5.out
    have v40 := (hbs.cell (p := ⟨b + 1 + 4, 0, none⟩) (HO.out.ltG (i := 4) (by omega) (by omega))).trans (HO.out.cell 4 (by omega) 0 (by omega))
    have v50 := (hbs.cell (p := ⟨b + 1 + 5, 0, none⟩) (HO.out.ltG (i := 5) (by omega) (by omega))).trans (HO.out.cell 5 (by omega) 0 (by omega))
    have v51 := (hbs.cell (p := ⟨b + 1 + 5, 1, none⟩) (HO.out.ltG (i := 5) (by omega) (by omega))).trans (HO.out.cell 5 (by omega) 1 (by omega))
    rw [E40] at v40
    rw [E50] at v50
    rw [E51] at v51
    have s1 := conv_row (cap := cap') H4.out.2.1 (F' := S0) (fun _ _ => rfl)
    have s2 := conv_row (cap := 128) (HS3.out.keep (hbs.block sb (cell?_lt (HS3.out.cell 0 (by omega))))) (F' := S0) (fun _ _ => rfl)
    generalize strOf ((List.range 128).map S0) = str at s1 s2
    clear hbs HD H4 HO d2 d3 d4 d5
    go_wp2_with fail
    go_ret
    exact ⟨by simp, HB4.out⟩
end Go.Proofs.Ytajpnbmfeapmcaa
