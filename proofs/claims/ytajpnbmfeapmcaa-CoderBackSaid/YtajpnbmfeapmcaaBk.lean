import Derived.Test.YtajpnbmfeapmcaaK20
namespace Go.Proofs.Ytajpnbmfeapmcaa
open Go.RowKit Go.Sort
set_option maxRecDepth 100000
set_option maxHeartbeats 4000000

theorem coderBack (x0 x1 x2 : Int) (w : World) : Calls Try.prog 5 #[.int .i64 x0, .int .i64 x1, .int .i64 x2] w fun e w' => e = .returned (.bool true) ∧ Below w.heap.size w w' := by
  obtain ⟨i1, li1, _, hp1⟩ := rpickN x1 6 (by omega) (by omega)
  obtain ⟨i2, li2, _, hp2⟩ := rpickN x2 6 (by omega) (by omega)
  have P1 := Lib.hid hp1
  have P2 := Lib.hid hp2
  clear hp1 hp2
  have gi1 : (i1 : Int) < 6 := by omega
  have gi2 : (i2 : Int) < 6 := by omega
  have ni1 : (0 : Int) ≤ (i1 : Int) := by omega
  have ni2 : (0 : Int) ≤ (i2 : Int) := by omega
  go_enter Try.func5, Try.ntmps5
  go_wp2_with fail
  refine (cnew w).mono ?_
  rintro e w1 ⟨c, f, o, cap, rfl, hc, hb⟩
  have HB1 := Lib.hid hb
  have HC1 := Lib.hid hc
  clear hc hb
  go_wp2_with fail
  refine (lknown w1).mono ?_
  rintro e w2 ⟨rfl, hb⟩
  have HB2 : Hid (Below w.heap.size w w2) := Lib.hid (HB1.out.trans (hb.mono HB1.out.size))
  have HC2 := Lib.hid (HC1.out.keep hb)
  clear hb HC1 HB1
  go_wp2_with fail
  refine (rbytes x0 128 w2 (by omega)).mono ?_
  rintro e w3 ⟨g, F, rfl, hr, hF, hb, _⟩
  have HB3 : Hid (Below w.heap.size w w3) := Lib.hid (HB2.out.trans (hb.mono HB2.out.size))
  have HC3 := Lib.hid (HC2.out.keep hb)
  have HR3 := Lib.hid hr
  have HF := Lib.hid hF
  clear hb HC2 HB2 hr hF
  have HE := Lib.hid (cencode0 c f o cap g 128 F w3 HC3.out (by omega) HR3.out (fun j _ => HF.out j))
  go_wp2_with fail
  refine HE.out.mono ?_
  rintro e w4 ⟨b, rfl, ho, hbl, hb⟩
  have HB4 : Hid (Below w.heap.size w w4) := Lib.hid (HB3.out.trans (hb.mono HB3.out.size))
  have HC4 := Lib.hid (HC3.out.keep hb)
  have HR4 := Lib.hid (HR3.out.keep (hb.block g (cell?_lt (HR3.out.cell 0 (by omega)))))
  have HO4 := Lib.hid ho
  have HPD : Hid (Bd 4 32 (parts F)) := Lib.hid (parts_bd (fun j _ => HF.out j))
  clear hb ho hbl HE HC3 HB3 HR3
  have HCH := Lib.hid (ccheckT (w := w4) c f o cap b 6 (parts F) HC4.out HO4.out.raw HPD.out)
  go_wp2_with fail
  refine HCH.out.mono ?_
  rintro e w5 ⟨rfl, hb⟩
  have HB5 : Hid (Below w.heap.size w w5) := Lib.hid (HB4.out.trans (hb.mono HB4.out.size))
  have HC5 := Lib.hid (HC4.out.keep hb)
  have HR5 := Lib.hid (HR4.out.keep (hb.block g (cell?_lt (HR4.out.cell 0 (by omega)))))
  have HO5 : Hid (Own w5 b 6 32 (fun i => b + 1 + i) (fun _ => 32) (enc (parts F))) := Lib.hid (HO4.out.keep (fun k hk => hb.block k (by
    rcases hk with rfl | ⟨i, hi, rfl⟩
    · exact HO4.out.lt (by omega)
    · exact HO4.out.ltG hi (by omega))))
  clear hb HCH HC4 HB4 HR4 HO4
  go_wp2_with (at_builtin; refine clone_rows _ w5 rfl _ _ rfl rfl rfl b 6 6 rfl (fun r => .slice (some ⟨b + 1 + r, 0, none⟩) 32 32) (fun r hr => HO5.out.outer r hr) (fun r hr => rfl) (by omega) (by omega) ?_; intro h6 cap6 w6 hcell hfree hge hlt hb6)
  have s1 := hcell i1 li1
  have f1 := hfree i1
  have s2 : ∃ v, (w6.setCell ⟨h6, i1, none⟩ (.slice none 0 0)).cell? ⟨h6, i2, none⟩ = some v ∧ v.oneCell' = true := by
    by_cases e : i2 = i1
    · rw [e]; exact ⟨_, World.cell?_setCell_same _ _ _ s1, rfl⟩
    · rw [cell_far (Or.inr e)]; exact ⟨_, hcell i2 li2, rfl⟩
  obtain ⟨v2, s2, ov2⟩ := s2
  have f2 : (w6.setCell ⟨h6, i1, none⟩ (.slice none 0 0)).frozen? ⟨h6, i2, none⟩ = false := by rw [World.frozen?_setCell]; exact hfree i2
  have HCL := Lib.hid hcell
  have HBW : Hid (Below w5.heap.size w5 ((w6.setCell ⟨h6, i1, none⟩ (.slice none 0 0)).setCell ⟨h6, i2, none⟩ (.slice none 0 0))) := Lib.hid ((hb6.setCell (p := ⟨h6, i1, none⟩) hge _).setCell (p := ⟨h6, i2, none⟩) hge _)
  have HGE := Lib.hid (And.intro hge hlt)
  clear hcell hfree hge hlt hb6
  have HRW : Hid (RawIn ((w6.setCell ⟨h6, i1, none⟩ (.slice none 0 0)).setCell ⟨h6, i2, none⟩ (.slice none 0 0)) (some ⟨h6, 0, none⟩) (someRows (fun k => !(k == i1) && !(k == i2)) (enc (parts F)))) := by
    refine Lib.hid (someRows_raw (by have := HGE.out.2; simpa [World.setCell] using this) (fun r hr => ?_))
    by_cases e2 : r = i2
    · subst e2
      exact ⟨none, 0, by rw [World.cell?_setCell_same _ _ _ s2]; simp, fun h => by simp at h⟩
    · by_cases e1 : r = i1
      · subst e1
        exact ⟨none, 0, by rw [cell_far (Or.inr e2), World.cell?_setCell_same _ _ _ s1]; simp, fun h => by simp at h⟩
      · refine ⟨some ⟨b + 1 + r, 0, none⟩, 32, by rw [cell_far (Or.inr e2), cell_far (Or.inr e1), HCL.out r hr]; simp [e1, e2], fun _ => ⟨_, _, rfl, fun j hj => ?_⟩⟩
        rw [Nat.zero_add]
        exact (HBW.out.cell (p := ⟨b + 1 + r, j, none⟩) (HO5.out.ltG hr (by omega))).trans (HO5.out.cell r hr j hj)
  go_wp2_with fail
  refine (P1.out _).mono ?_
  rintro e w7 ⟨rfl, hw⟩
  obtain rfl := hw
  go_wp2_with fail
  refine (P2.out _).mono ?_
  rintro e w8 ⟨rfl, hw⟩
  obtain rfl := hw
  go_wp2_with fail
  generalize (w6.setCell ⟨h6, i1, none⟩ (.slice none 0 0)).setCell ⟨h6, i2, none⟩ (.slice none 0 0) = w9 at *
  have HD := Lib.hid (cdecodeK (w := w9) c f o cap h6 cap6 (fun k => !(k == i1) && !(k == i2)) (parts F) F (HC5.out.keep HBW.out) HRW.out HPD.out (two_lost i1 li1 i2 li2) (fun t _ => flat_parts F t))
  have HBX : Hid (Below w.heap.size w w9) := Lib.hid (HB5.out.trans (HBW.out.mono HB5.out.size))
  have HR9 := Lib.hid (HR5.out.keep (HBW.out.block g (cell?_lt (HR5.out.cell 0 (by omega)))))
  clear HRW HCL s1 s2 f1 f2 ov2 HBW HB5 HC5 HR5 HO5
  refine HD.out.mono ?_
  rintro e w10 ⟨g', cap', rfl, H10⟩
  have t1 := conv_row (cap := cap') H10.out.2.1 (F' := F) (fun _ _ => rfl)
  have t2 := conv_row (cap := 128) (HR9.out.keep (H10.out.1.block g (cell?_lt (HR9.out.cell 0 (by omega))))) (F' := F) (fun _ _ => rfl)
  generalize strOf ((List.range 128).map F) = str at t1 t2
  have HBZ : Hid (Below w.heap.size w w10) := Lib.hid (HBX.out.trans (H10.out.1.mono HBX.out.size))
  clear HD H10 HR9 HBX
  go_wp2_with fail
  go_ret
  exact ⟨by simp, HBZ.out⟩
end Go.Proofs.Ytajpnbmfeapmcaa
