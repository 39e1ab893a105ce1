import Derived.Test.YtajpnbmfeapmcaaAd
namespace Go.Proofs.Ytajpnbmfeapmcaa
open Go.RowKit Go.Sort
set_option maxRecDepth 100000
set_option maxHeartbeats 4000000

/-- Six chunks of which one byte is turned. -/
def bent (A : Mx) (p q y : Nat) : Mx := fun i j => if i = p then (if j = q then A p q ^^^ y else A p j) else A i j
theorem bent_bd {A : Mx} {p q y : Nat} (hA : Bd 6 32 A) (hp : p < 6) (hq : q < 32) (hy : y < 256) : Bd 6 32 (bent A p q y) := fun i hi j hj => by
  unfold bent
  split
  · split
    · exact xor_lt (hA p hp q hq) hy
    · exact hA p hp j hj
  · exact hA i hi j hj
theorem check_bent {D : Mx} {p q y : Nat} (hD : Bd 4 32 D) (hp : p < 6) (hq : q < 32) (_hy : y < 256) :
    y = 0 ↔ Whole (rowsOf 6 32 (bent (enc D) p q y)) ∧ rowsOf 6 32 (bent (enc D) p q y) = rowsOf 6 32 (enc (parts (outF (rowsOf 6 32 (bent (enc D) p q y))))) := by
  constructor
  · rintro rfl
    have e : rowsOf 6 32 (bent (enc D) p q 0) = rowsOf 6 32 (enc D) := rowsOf_congr (fun i _ j _ => by
      unfold bent
      by_cases h : i = p
      · subst h
        rw [if_pos rfl]
        by_cases h2 : j = q
        · subst h2; rw [if_pos rfl, Nat.xor_zero]
        · rw [if_neg h2]
      · rw [if_neg h])
    rw [e]
    exact check_enc hD
  · rintro ⟨_, h⟩
    have h1 := rowsOf_inj h
    generalize hS : outF (rowsOf 6 32 (bent (enc D) p q y)) = S at h1
    have hE : Bd 4 32 (parts S) := parts_bd (fun j _ => by rw [← hS]; exact outF_lt _ _)
    have h2 : EqM 4 32 D (parts S) := code_one hp hD hE (fun i hi hne k hk => by
      rw [← h1 i hi k hk]
      unfold bent
      rw [if_neg hne])
    have h3 := h1 p hp q hq
    rw [← enc_congr h2 p hp q hq] at h3
    unfold bent at h3
    rw [if_pos rfl, if_pos rfl] at h3
    have h4 : (enc D p q ^^^ y) ^^^ enc D p q = 0 := by rw [h3, Nat.xor_self]
    rw [Nat.xor_comm (enc D p q) y, Nat.xor_assoc, Nat.xor_self, Nat.xor_zero] at h4
    exact h4
theorem check_less {A : Mx} {keep : Nat → Bool} {p : Nat} (hp : p < 6) (hk : keep p = false) {B : Mx} : ¬ someRows keep A = rowsOf 6 32 B := fun h => by
  have h1 := someRows_get (keep := keep) (A := A) hp
  rw [h, rowsOf_get hp, hk] at h1
  have := congrArg (fun o => (o.getD []).length) h1
  simp at this
theorem one_lost : ∀ i, i < 6 → (((List.range 6).filter (fun k => !(k == i))).take 4).length = 4 := by decide

theorem coderChecks (x0 x1 x2 : Int) (y : Nat) (w : World) (hy : y < 256) : Calls Try.prog 8 #[.int .i64 x0, .int .i64 x1, .int .i64 x2, .int .u8 (y : Int)] w fun e w' => e = .returned (.bool true) ∧ Below w.heap.size w w' := by
  obtain ⟨p, lp, _, hp1⟩ := rpickN x1 6 (by omega) (by omega)
  obtain ⟨q, lq, _, hp2⟩ := rpickN x2 32 (by omega) (by omega)
  have P1 := Lib.hid hp1
  have P2 := Lib.hid hp2
  clear hp1 hp2
  have gp : (p : Int) < 6 := by omega
  have np : (0 : Int) ≤ (p : Int) := by omega
  have gq : (q : Int) < 32 := by omega
  have nq' : (0 : Int) ≤ (q : Int) := by omega
  obtain ⟨i0, hi0, hz0, hz1, hz2⟩ := info_parts infoByte
  go_enter Try.func8, Try.ntmps8
  go_wp2_with fail
  refine (cnew w).mono ?_
  rintro e w1 ⟨c, f, o, cap, rfl, hc, hb⟩
  have HB1 := Lib.hid hb
  have HC1 := Lib.hid hc
  clear hc hb
  go_wp2_with fail
  refine (lknown w1).mono ?_
  rintro e w2 ⟨rfl, hb⟩
  have HB2 : Hid (Below w.heap.size w w2) := Lib.hid (HB1.out.trans (hb.mono HB1.out.size))
  have HC2 := Lib.hid (HC1.out.keep hb)
  clear hb HC1 HB1
  go_wp2_with fail
  refine (rbytes x0 128 w2 (by omega)).mono ?_
  rintro e w3 ⟨g, F, rfl, hr, hF, hb, _⟩
  have HB3 : Hid (Below w.heap.size w w3) := Lib.hid (HB2.out.trans (hb.mono HB2.out.size))
  have HC3 := Lib.hid (HC2.out.keep hb)
  have HR3 := Lib.hid hr
  have HF := Lib.hid hF
  clear hb HC2 HB2 hr hF
  have HE := Lib.hid (cencode0 c f o cap g 128 F w3 HC3.out (by omega) HR3.out (fun j _ => HF.out j))
  go_wp2_with fail
  refine HE.out.mono ?_
  rintro e w5 ⟨b, rfl, ho, _, hb⟩
  have HB5 : Hid (Below w.heap.size w w5) := Lib.hid (HB3.out.trans (hb.mono HB3.out.size))
  have HC5 := Lib.hid (HC3.out.keep hb)
  have HR5 := Lib.hid (HR3.out.on (by omega) hb)
  have HO5 := Lib.hid ho
  have HPD : Hid (Bd 4 32 (parts F)) := Lib.hid (parts_bd (fun j _ => HF.out j))
  clear hb ho HE HC3 HB3 HR3
  have o1 := HO5.out.outer p lp
  go_wp2_with fail
  refine (P1.out _).mono ?_
  rintro e w5' ⟨rfl, hw⟩
  obtain rfl := hw
  go_wp2_with (first | (at_builtin; refine clone_rows _ w5 rfl _ _ rfl rfl rfl b 6 6 rfl (fun r => .slice (some ⟨b + 1 + r, 0, none⟩) 32 32) (fun r hr => HO5.out.outer r hr) (fun r hr => rfl) (by omega) (by omega) ?_; intro h6 cap6 w6 hcell hfree hge hlt hb6; have HCL := Lib.hid hcell; have HFR := Lib.hid hfree; have HGE := Lib.hid (And.intro hge hlt); have HB6 := Lib.hid hb6; have o2 : (w6.alloc (.cells #[] 5)).cell? ⟨b, p, none⟩ = some (.slice (some ⟨b + 1 + p, 0, none⟩) 32 32) := ((hb6.alloc hb6.size _).cell (p := ⟨b, p, none⟩) (HO5.out.lt (by omega))).trans o1; have HE0 := Lib.hid (own_empty (t := 5) (base := w6.heap.size) (alloc_block w6 (.cells #[] 5)) (Nat.le_refl _)); have HB0 : Hid (Below w6.heap.size w6 (w6.alloc (.cells #[] 5))) := Lib.hid ((Below.refl _ _).alloc (Nat.le_refl _) _); have HRR : Hid (∀ j, j < 32 → (w6.alloc (.cells #[] 5)).cell? ⟨b + 1 + p, 0 + j, none⟩ = some (.int .u8 (enc (parts F) p j : Nat))) := Lib.hid (fun j hj => by rw [Nat.zero_add]; exact ((hb6.alloc hb6.size _).cell (p := ⟨b + 1 + p, j, none⟩) (HO5.out.ltG lp (by omega))).trans (HO5.out.cell p lp j hj)); clear hcell hfree hge hlt hb6) | (at_builtin; refine append_mine _ rfl (.tmp 51) (.tmp 55) 29 rfl w6.heap.size 5 i0 (.int .u8 0) 1 1 Try.underlying29 hi0 hz0 hz1 hz2 rfl (by decide) _ 0 [] rfl HE0.out ⟨b + 1 + p, 0, none⟩ 32 32 (rowL 32 (enc (parts F) p)) rfl (by rw [rowL_len]) (rowL_cells HRR.out) rowL_one (by unfold maxLen; omega) (by omega) HB0.out.size (by omega) ?_; intro v' w7 ho hg hv; rw [Nat.zero_add, List.nil_append] at ho; obtain ⟨gb, capb, rfl⟩ := own_succ ho; have s1 : w7.cell? ⟨h6, p, none⟩ = some (.slice (some ⟨b + 1 + p, 0, none⟩) 32 32) := (World.cell?_of_block ((hg.block h6 (by rw [alloc_size]; have := HGE.out.2; omega) (fun e => Nat.ne_of_lt HGE.out.2 (Option.some.inj e))).trans (alloc_old w6 _ HGE.out.2))).trans (HCL.out p lp); have f1 : w7.frozen? ⟨h6, p, none⟩ = false := (World.frozen?_of_block ((hg.block h6 (by rw [alloc_size]; have := HGE.out.2; omega) (fun e => Nat.ne_of_lt HGE.out.2 (Option.some.inj e))).trans (alloc_old w6 _ HGE.out.2))).trans (HFR.out p); have HO7 := Lib.hid ho; have HG7 := Lib.hid hg; clear ho hg hv) | fail)
  have hge7 : w6.heap.size ≤ gb := by
    rcases HO7.out.2 with ⟨h0, _⟩ | ⟨g', cap', cur, e, hge, _⟩
    · cases h0
    · cases e; exact hge
  have hne : gb ≠ h6 := by have := HGE.out.2; omega
  have HW7 : Hid (Below w6.heap.size w6 w7) := Lib.hid (Below.grown HB0.out HG7.out HB0.out.size (fun k hk => by cases hk; exact Nat.le_refl _))
  have r1 : (w7.setCell ⟨h6, p, none⟩ (.slice (some ⟨gb, 0, none⟩) 32 capb)).cell? ⟨h6, p, none⟩ = some (.slice (some ⟨gb, 0, none⟩) 32 capb) := World.cell?_setCell_same _ _ _ s1
  have HROW : Hid (Row8 (w7.setCell ⟨h6, p, none⟩ (.slice (some ⟨gb, 0, none⟩) 32 capb)) gb 32 (enc (parts F) p)) := Lib.hid ((own_row8 HO7.out (fun j hj => rowL_get hj)).keep (Below.heap_setCell w7 ⟨h6, p, none⟩ _ gb (fun e => hne e)))
  have HOUT : Hid (∀ r, r < 6 → r ≠ p → (w7.setCell ⟨h6, p, none⟩ (.slice (some ⟨gb, 0, none⟩) 32 capb)).cell? ⟨h6, r, none⟩ = some (.slice (some ⟨b + 1 + r, 0, none⟩) 32 32)) := Lib.hid (fun r hr hn => by
    rw [cell_far (Or.inr hn)]
    exact (HW7.out.cell (p := ⟨h6, r, none⟩) HGE.out.2).trans (HCL.out r hr))
  have HB8 : Hid (Below w5.heap.size w5 (w7.setCell ⟨h6, p, none⟩ (.slice (some ⟨gb, 0, none⟩) 32 capb))) := Lib.hid ((HB6.out.trans (HW7.out.mono HB6.out.size)).setCell (p := ⟨h6, p, none⟩) HGE.out.1 _)
  have HF8 : Hid ((w7.setCell ⟨h6, p, none⟩ (.slice (some ⟨gb, 0, none⟩) 32 capb)).frozen? ⟨h6, p, none⟩ = false) := Lib.hid (by rw [World.frozen?_setCell]; exact f1)
  have HHL : Hid (h6 < (w7.setCell ⟨h6, p, none⟩ (.slice (some ⟨gb, 0, none⟩) 32 capb)).heap.size) := Lib.hid (cell?_lt r1)
  have HGB : Hid (w5.heap.size ≤ gb) := Lib.hid (by have := HB6.out.size; omega)
  have HHG : Hid (w5.heap.size ≤ h6) := Lib.hid HGE.out.1
  clear s1 f1 o1 o2 HO7 HG7 HCL HFR HGE HB6 HE0 HB0 HRR HW7 hge7
  generalize w7.setCell ⟨h6, p, none⟩ (.slice (some ⟨gb, 0, none⟩) 32 capb) = w8 at *
  have PQ := Lib.hid ((P2.out w8.drew).mono (fun _ _ h => And.intro h.1 h.2.symm))
  have HAB := Lib.hid (enc_bd 6 32 (parts F))
  obtain ⟨xv, hxv⟩ : ∃ xv, xv = enc (parts F) p q := ⟨_, rfl⟩
  have HXV := Lib.hid hxv
  have e1 := HROW.out.cell q lq
  have f1 := HROW.out.free q
  rw [← hxv] at e1
  have hxor := bits_xor_u8 xv y (by rw [hxv]; exact HAB.out p lp q lq) hy
  clear hxv
  refine wp_region_still_tail 11 (by kernel_rfl) (by kernel_rfl) ?_
  simp only [List.take_succ_cons, List.take_zero, List.drop_succ_cons, List.drop_zero]
  repeat still_step
  still_call PQ.out
  repeat still_step
  refine wpStill_nil ?_
  change wpList _ _ _ _ _ w8.drew
  have e1d : w8.drew.cell? ⟨gb, q, none⟩ = some (.int .u8 (xv : Int)) := e1
  have f1d : w8.drew.frozen? ⟨gb, q, none⟩ = false := f1
  have HRAW : Hid (RawIn (w8.drew.setCell ⟨gb, q, none⟩ (.int .u8 ((xv ^^^ y : Nat) : Int))) (some ⟨h6, 0, none⟩) (rowsOf 6 32 (bent (enc (parts F)) p q y))) := by
    refine Lib.hid (rawIn_of (fun i hi => ?_))
    by_cases hip : i = p
    · subst hip
      refine ⟨gb, 0, capb, by rw [Nat.zero_add, cell_far (Or.inl (fun e => hne e.symm))]; exact r1, fun j hj => ?_⟩
      rw [Nat.zero_add]
      unfold bent
      rw [if_pos rfl]
      by_cases hjq : j = q
      · subst hjq
        rw [if_pos rfl, ← HXV.out]
        exact World.cell?_setCell_same _ _ _ e1d
      · rw [if_neg hjq, cell_far (Or.inr hjq)]
        exact HROW.out.cell j hj
    · refine ⟨b + 1 + i, 0, 32, by rw [Nat.zero_add, cell_far (Or.inl (fun e => hne e.symm))]; exact HOUT.out i hi hip, fun j hj => ?_⟩
      rw [Nat.zero_add]
      unfold bent
      rw [if_neg hip, cell_far (Or.inl (by have := HO5.out.ltG hi (show 0 < 32 by omega); have := HGB.out; omega))]
      exact (HB8.out.cell (p := ⟨b + 1 + i, j, none⟩) (HO5.out.ltG hi (by omega))).trans (HO5.out.cell i hi j hj)
  have HOUT9 : Hid (∀ r, r < 6 → r ≠ p → (w8.drew.setCell ⟨gb, q, none⟩ (.int .u8 ((xv ^^^ y : Nat) : Int))).cell? ⟨h6, r, none⟩ = some (.slice (some ⟨b + 1 + r, 0, none⟩) 32 32)) := Lib.hid (fun r hr hn => by rw [cell_far (Or.inl (fun e => hne e.symm))]; exact HOUT.out r hr hn)
  have HP9 : Hid ((w8.drew.setCell ⟨gb, q, none⟩ (.int .u8 ((xv ^^^ y : Nat) : Int))).cell? ⟨h6, p, none⟩ = some (.slice (some ⟨gb, 0, none⟩) 32 capb) ∧ (w8.drew.setCell ⟨gb, q, none⟩ (.int .u8 ((xv ^^^ y : Nat) : Int))).frozen? ⟨h6, p, none⟩ = false) := Lib.hid ⟨by rw [cell_far (Or.inl (fun e => hne e.symm))]; exact r1, by rw [World.frozen?_setCell]; exact HF8.out⟩
  have HB9 : Hid (Below w5.heap.size w5 (w8.drew.setCell ⟨gb, q, none⟩ (.int .u8 ((xv ^^^ y : Nat) : Int)))) := Lib.hid (HB8.out.drew.setCell (p := ⟨gb, q, none⟩) HGB.out _)
  have HHL9 : Hid (h6 < (w8.drew.setCell ⟨gb, q, none⟩ (.int .u8 ((xv ^^^ y : Nat) : Int))).heap.size) := Lib.hid (by have := HHL.out; simpa [World.setCell] using this)
  clear HROW HOUT HB8 HF8 r1 PQ
  go_wp2_with fail
  have e9 : (w8.setCell ⟨gb, q, none⟩ (.int .u8 ((xv ^^^ y : Nat) : Int))).drew = w8.drew.setCell ⟨gb, q, none⟩ (.int .u8 ((xv ^^^ y : Nat) : Int)) := rfl
  rw [e9]
  clear e9
  generalize w8.drew.setCell ⟨gb, q, none⟩ (.int .u8 ((xv ^^^ y : Nat) : Int)) = w9 at *
  have HC9 := Lib.hid (HC5.out.keep HB9.out)
  obtain ⟨t, ht1, ht2⟩ : ∃ t : Bool, ((y : Int) == 0) = t ∧ (t = true ↔ y = 0) := ⟨_, rfl, by rw [beq_iff_eq]; omega⟩
  have HCK := ccheck c f o cap (some ⟨h6, 0, none⟩) (rowsOf 6 32 (bent (enc (parts F)) p q y)) cap6 w9 HC9.out HRAW.out (by rw [rowsOf_len]; omega) (rowsOf_bytes (bent_bd HAB.out lp lq hy)) t (ht2.trans (check_bent HPD.out lp lq hy))
  rw [rowsOf_len] at HCK
  clear ht2
  refine HCK.mono ?_
  clear HCK
  rintro e w10 ⟨rfl, hb⟩
  have s10 := (hb.cell (p := ⟨h6, p, none⟩) HHL9.out).trans HP9.out.1
  have f10 := (World.frozen?_of_block (a := ⟨h6, p, none⟩) (hb.block h6 HHL9.out)).trans HP9.out.2
  have HB10 : Hid (Below w5.heap.size w5 (w10.setCell ⟨h6, p, none⟩ (.slice none 0 0))) := Lib.hid ((HB9.out.trans (hb.mono HB9.out.size)).setCell (p := ⟨h6, p, none⟩) HHG.out _)
  have HRW : Hid (RawIn (w10.setCell ⟨h6, p, none⟩ (.slice none 0 0)) (some ⟨h6, 0, none⟩) (someRows (fun k => !(k == p)) (enc (parts F)))) := by
    refine Lib.hid (someRows_raw (by have := HHL9.out; have := hb.size; simpa [World.setCell] using (by omega : h6 < w10.heap.size)) (fun r hr => ?_))
    by_cases e1 : r = p
    · subst e1
      exact ⟨none, 0, by rw [World.cell?_setCell_same _ _ _ s10]; simp, fun h => by simp at h⟩
    · refine ⟨some ⟨b + 1 + r, 0, none⟩, 32, by rw [cell_far (Or.inr e1), (hb.cell (p := ⟨h6, r, none⟩) HHL9.out), HOUT9.out r hr e1]; simp [e1], fun _ => ⟨_, _, rfl, fun j hj => ?_⟩⟩
      rw [Nat.zero_add]
      exact (HB10.out.cell (p := ⟨b + 1 + r, j, none⟩) (HO5.out.ltG hr (by omega))).trans (HO5.out.cell r hr j hj)
  clear hb HRAW HOUT9 HP9 HB9 HC9
  go_wp2_with fail
  generalize w10.setCell ⟨h6, p, none⟩ (.slice none 0 0) = w11 at *
  have HC11 := Lib.hid (HC5.out.keep HB10.out)
  have HD := Lib.hid (cdecodeK (w := w11) c f o cap h6 cap6 (fun k => !(k == p)) (parts F) F HC11.out HRW.out HPD.out (one_lost p lp) (fun t _ => flat_parts F t))
  refine HD.out.mono ?_
  rintro e w12 ⟨g', cap', rfl, H12⟩
  have HR11 := Lib.hid (HR5.out.on (by omega) HB10.out)
  have t1 := conv_row (cap := cap') H12.out.2.1 (F' := F) (fun _ _ => rfl)
  have t2 := conv_row (cap := 128) (HR11.out.on (by omega) H12.out.1) (F' := F) (fun _ _ => rfl)
  generalize strOf ((List.range 128).map F) = str at t1 t2
  have HCK := ccheck c f o cap (some ⟨h6, 0, none⟩) (someRows (fun k => !(k == p)) (enc (parts F))) cap6 w12 (HC11.out.keep H12.out.1) (HRW.out.keep H12.out.1) (by rw [someRows_len]; omega) (someRows_bytes HAB.out) false ⟨fun h => (by cases h), fun h => absurd h.2 (check_less lp (by simp))⟩
  rw [someRows_len] at HCK
  have HK := Lib.hid HCK
  have HB12 : Hid (Below w.heap.size w w12) := Lib.hid (HB5.out.trans ((HB10.out.trans (H12.out.1.mono HB10.out.size)).mono HB5.out.size))
  clear HCK HD H12 HR11 HRW HC11
  go_wp2_with fail
  refine HK.out.mono ?_
  rintro e w13 ⟨rfl, hb⟩
  have HBZ : Hid (Below w.heap.size w w13) := Lib.hid (HB12.out.trans (hb.mono HB12.out.size))
  clear hb
  go_wp2_with fail
  go_ret
  exact ⟨by simp, HBZ.out⟩
end Go.Proofs.Ytajpnbmfeapmcaa
