import Derived.Test.YtajpnbmfeapmcaaK6
namespace Go.Proofs.Ytajpnbmfeapmcaa
open Go.RowKit Go.Sort
set_option maxRecDepth 100000
set_option maxHeartbeats 4000000

/-- One place of rows that came in. -/
theorem RawIn.place {w : World} {a : Option Addr} {xss : List (List Nat)} (h : RawIn w a xss) {i : Nat} (hi : i < xss.length) :
    ∃ b o g cap, a = some ⟨b, o, none⟩ ∧ b < w.heap.size ∧ w.cell? ⟨b, o + i, none⟩ = some (.slice g (lenOf xss i) cap) ∧
      ∀ j, j < lenOf xss i → ∃ h q, g = some ⟨h, q, none⟩ ∧ h < w.heap.size ∧ w.cell? ⟨h, q + j, none⟩ = some (.int .u8 (ent xss i j : Nat)) := by
  obtain ⟨xs, hxs⟩ : ∃ xs, xss[i]? = some xs := ⟨_, List.getElem?_eq_getElem hi⟩
  obtain ⟨b, o, rfl, hb, g, cap, hc, hx⟩ := h i xs hxs
  have hl : lenOf xss i = xs.length := by unfold lenOf; rw [hxs]; rfl
  rw [hl]
  refine ⟨b, o, g, cap, rfl, hb, hc, fun j hj => ?_⟩
  obtain ⟨h', q, e, hh, hv⟩ := hx j _ (List.getElem?_eq_getElem hj)
  refine ⟨h', q, e, hh, ?_⟩
  rw [hv]
  unfold ent
  rw [hxs, Option.getD_some, List.getElem?_eq_getElem hj]; rfl

def DecFail (w : World) (e : Ending) (w' : World) : Prop := e = .returned (.tuple #[.slice none 0 0, .bool false]) ∧ Below w.heap.size w w'
/-- What stands behind the choice of four. -/
def Chosen (B : Nat) (w0 w : World) (xss : List (List Nat)) (i : Nat) (V : Nat → Value) (s t : Value) : Prop :=
  ∃ G, Pair w B s t (pres xss i).length 4 G (fm (pres xss 6)) (fun l => V ((pres xss 6).getD l 0)) ∧ Below B w0 w ∧ ∀ l, l < i → lenOf xss l = 0 ∨ lenOf xss l = 32
/-- What may be led back. -/
def Whole (xss : List (List Nat)) : Prop := xss.length = 6 ∧ (∀ l, l < 6 → lenOf xss l = 0 ∨ lenOf xss l = 32) ∧ (pres xss 6).length = 4

theorem rdecode_no (a : Option Addr) (xss : List (List Nat)) (cap : Nat) (w : World) (_h : RawIn w a xss) (_hl : xss.length ≤ 9223372036854775807) (hno : xss.length ≠ 6) :
    Calls Try.prog 20 #[.slice a xss.length cap] w (DecFail w) := by
  have t1 : ((xss.length : Int) != 6) = true := by rw [bne_iff_ne]; omega
  have HB : Hid (Below w.heap.size w w) := Lib.hid (Below.refl _ _)
  clear _h hno
  go_enter Try.func20, Try.ntmps20
  go_wp2_with fail
  go_ret2
  exact ⟨rfl, HB.out⟩

/-- What is led back to. -/
def outF (xss : List (List Nat)) : Nat → Nat := fun t => mm 4 (adjM 4 (fm (pres xss 6))) (fun l k => ent xss ((pres xss 6).getD l 0) k) (t / 32) (t % 32)
theorem own_shape {w : World} {B : Nat} {e : TypeId} {v : Value} {n : Nat} {xs : List Value} (h : w.ownsRow B e 1 v n xs) : ∃ p c, v = .slice p n c := by
  rcases h.2 with ⟨rfl, rfl⟩ | ⟨g, cap, cur, rfl, _⟩
  · exact ⟨none, 0, rfl⟩
  · exact ⟨_, cap, rfl⟩
theorem rdecode_go (a : Option Addr) (xss : List (List Nat)) (cap : Nat) (w : World) (h : RawIn w a xss) (h6 : xss.length = 6) (Q : Ending → World → Prop)
    (hbad : ∀ w', Below w.heap.size w w' → (¬ Whole xss) → Q (.returned (.tuple #[.slice none 0 0, .bool false])) w')
    (hgood : ∀ w' g cap', Below w.heap.size w w' → Whole xss → Row8 w' g 128 (outF xss) → Q (.returned (.tuple #[.slice (some ⟨g, 0, none⟩) 128 cap', .bool true])) w') (hby : Bytes xss) :
    Calls Try.prog 20 #[.slice a 6 cap] w Q := by
  obtain ⟨i0, hi0, hz0, hz1, hz2⟩ := info_parts infoRow
  have HI := Lib.hid h
  have HQ := Lib.hid hbad
  have HQG := Lib.hid hgood
  have HBY := Lib.hid hby
  clear hgood hby
  obtain ⟨ab, ao, _, _, rfl, hab, _⟩ := h.place (i := 0) (by omega)
  have hval : ∃ V : Nat → Value, ∀ i, i < 6 → w.cell? ⟨ab, ao + i, none⟩ = some (V i) ∧ ∃ g c, V i = .slice g (lenOf xss i) c := by
    refine ⟨fun i => (w.cell? ⟨ab, ao + i, none⟩).getD (.int .u8 0), fun i hi => ?_⟩
    obtain ⟨b, o, g, c, e, _, hc, _⟩ := h.place (i := i) (by omega)
    cases e
    dsimp only
    rw [hc, Option.getD_some]
    exact ⟨rfl, g, c, rfl⟩
  obtain ⟨V, hV⟩ := hval
  have HV := Lib.hid hV
  clear h hV hbad
  obtain ⟨B, hB⟩ : ∃ B, w.heap.size = B := ⟨_, rfl⟩
  have HB := Lib.hid hB
  rw [hB] at hab
  clear hB
  have H6 := Lib.hid h6
  clear h6
  have H0 : Hid (Chosen B w w xss 0 V (.slice none 0 0) (.slice none 0 0)) := Lib.hid ⟨fun _ => 0, Pair.start _ _ _ _ _ _, Below.refl _ _, fun _ hl => absurd hl (Nat.not_lt_zero _)⟩
  go_enter Try.func20, Try.ntmps20
  go_wp2_with fail
  go_loopg [4, 5, 6, 7] 6 (fun q' s4 s5 s6 s7 v => ∃ i : Nat, s6 = .int .i64 (i : Int) ∧ i ≤ 6 ∧ q' = 6 - i ∧ Hid (Chosen B w v xss i V s4 s5))
  case atStart => exact ⟨0, rfl, by omega, rfl, H0⟩
  case round =>
    obtain ⟨i, rfl, hi, rfl, HS⟩ := hrel
    clear H0
    by_cases hlt : i < 6
    · have hl : (i : Int) < 6 := by omega
      have hl0 : (0 : Int) ≤ (i : Int) := by omega
      obtain ⟨g, c, hg⟩ := (HV.out i hlt).2
      have c1 := (HV.out i hlt).1
      rw [hg] at c1
      have HGV := Lib.hid hg
      clear hg
      obtain ⟨G, hs⟩ := HS.out
      have HC := Lib.hid hs
      clear HS hs
      have c1' := (HC.out.2.1.cell (p := ⟨ab, ao + i, none⟩) hab).trans c1
      obtain ⟨n, hn⟩ : ∃ n, lenOf xss i = n := ⟨_, rfl⟩
      have HLN := Lib.hid hn
      rw [hn] at c1 c1'
      clear hn
      by_cases hn0 : n = 0
      · subst hn0
        have HN : Hid (Chosen B w wr xss (i + 1) V u4 u5) := Lib.hid ⟨G, by rw [pres_skip HLN.out]; exact HC.out.1, HC.out.2.1, fun l hl => by
          by_cases e : l = i
          · left; rw [e]; exact HLN.out
          · exact HC.out.2.2 l (by omega)⟩
        clear c1
        go_wp2_with fail
        go_roundg (6 - (i + 1))
        case measure => omega
        case rel => exact ⟨i + 1, by go_num, by omega, rfl, HN⟩
      · by_cases hn32 : n = 32
        · subst hn32
          obtain ⟨xs, hx, hxs⟩ := HC.out.1.rows.own
          obtain ⟨ys, hy, hys⟩ := HC.out.1.vals
          have hml := pres_len xss i
          obtain ⟨m, hm⟩ : ∃ m, (pres xss i).length = m := ⟨_, rfl⟩
          have HME := Lib.hid hm
          rw [hm] at hml hx hy HC hxs hys
          clear hm
          obtain ⟨p4, c4, e4⟩ := own_shape hx
          obtain ⟨p5, c5, e5⟩ := own_shape hy
          subst e4 e5
          by_cases hm4 : m < 4
          · have hm4' : (m : Int) < 4 := by omega
            have HAT : Hid ((pres xss 6)[m]? = some i) := Lib.hid (by have := pres_at hlt (by rw [HLN.out]; omega) (by rw [HME.out]; exact hm4); rwa [HME.out] at this)
            have hBw : B ≤ wr.heap.size := by rw [← HB.out]; exact HC.out.2.1.size
            have HX := Lib.hid hx
            have HY := Lib.hid hy
            have HXS := Lib.hid hxs
            have HYS := Lib.hid hys
            have habw : ab < wr.heap.size := by omega
            clear c1 hx hy hxs hys
            go_wp2_with fail
            refine (rrow i wr hlt).mono ?_
            rintro e wa ⟨rg, rfl, ra, ba, hra⟩
            have HW1 : Hid (Below wr.heap.size wr (wa.alloc (.cells #[.slice (some ⟨rg, 0, none⟩) 4 4] 29)) ∧ Row8 (wa.alloc (.cells #[.slice (some ⟨rg, 0, none⟩) 4 4] 29)) rg 4 (gr i) ∧ wr.heap.size ≤ rg ∧ rg < (wa.alloc (.cells #[.slice (some ⟨rg, 0, none⟩) 4 4] 29)).heap.size) := by
              have hlt := cell?_lt (ra.cell 0 (by omega))
              exact Lib.hid ⟨ba.alloc ba.size _, ra.keep (alloc_old wa _ hlt), hra, by rw [alloc_size]; omega⟩
            have HP1 := Lib.hid (HC.out.1.keep HW1.out.1)
            have HX1 := Lib.hid (own_keep HX.out HW1.out.1)
            have HY1 := Lib.hid (own_keep HY.out HW1.out.1)
            clear ra ba hra
            go_wp2_with (first | (at_builtin; refine append_mine _ rfl (.tmp 38) (.tmp 41) 25 rfl B 29 i0 (.slice none 0 0) 1 24 Try.underlying25 hi0 hz0 hz1 hz2 rfl (by decide) _ m xs rfl HX1.out ⟨wa.heap.size, 0, none⟩ 1 1 [.slice (some ⟨rg, 0, none⟩) 4 4] rfl rfl (cell_one_new _ _ _) (by intro u hu; simp at hu; subst hu; rfl) (by unfold maxLen; omega) (by omega) (Nat.le_trans hBw HW1.out.1.size) (by decide) ?_; intro s' wc own1 gr1 hv1; have cc : wc.cell? ⟨ab, ao + i, none⟩ = some (.slice g 32 c) := (World.cell?_of_block (gr1.block ab (Nat.lt_of_lt_of_le habw HW1.out.1.size) (fun e => by have := (HX1.out.lt ab e.symm).1; omega))).trans ((HW1.out.1.cell (p := ⟨ab, ao + i, none⟩) habw).trans c1'); have HYC := Lib.hid (own_keep (own_keepBy (w' := wc) HY1.out (fun k hk => gr1.block k (HY1.out.lt k hk).2 (fun e => HP1.out.ap2 k e.symm hk))) ((Below.refl _ _).alloc (Nat.le_refl _) (.cells #[.slice g 32 c] 29))); have HO1 := Lib.hid (And.intro own1 (And.intro gr1 hv1)); have hBc : B ≤ wc.heap.size := Nat.le_trans (Nat.le_trans hBw HW1.out.1.size) gr1.size; clear own1 gr1 hv1) | (at_builtin; refine append_mine _ rfl (.tmp 43) (.tmp 48) 25 rfl B 29 i0 (.slice none 0 0) 1 24 Try.underlying25 hi0 hz0 hz1 hz2 rfl (by decide) _ m ys rfl HYC.out ⟨wc.heap.size, 0, none⟩ 1 1 [.slice g 32 c] rfl rfl (cell_one_new _ _ _) (by intro u hu; simp at hu; subst hu; rfl) (by unfold maxLen; omega) (by omega) (by rw [alloc_size]; omega) (by decide) ?_; intro t' we own2 gr2 hv2; have HO2 := Lib.hid (And.intro own2 (And.intro gr2 hv2)); clear own2 gr2 hv2) | fail)
            have HN : Hid (Chosen B w we xss (i + 1) V s' t') := by
              have hgd : (pres xss 6).getD m 0 = i := by rw [List.getD_eq_getElem?_getD, HAT.out]; rfl
              have hml' : (pres xss (i + 1)).length = m + 1 := by rw [pres_add (by rw [HLN.out]; omega) (by rw [HME.out]; exact hm4), List.length_append, HME.out]; rfl
              refine Lib.hid ⟨_, by
                rw [hml']
                exact HP1.out.add (u := .slice g 32 c) HX1.out HXS.out HY1.out HYS.out (by rw [hgd, HGV.out, HLN.out]) (g := rg) (by
                  have e : fm (pres xss 6) m = gr i := by unfold fm; rw [hgd]
                  rw [e]; exact HW1.out.2.1) (Nat.le_trans hBw HW1.out.2.2.1) HW1.out.2.2.2 (fun e => by have := (HX.out.lt rg e).2; have := HW1.out.2.2.1; omega) (fun e => by have := (HY.out.lt rg e).2; have := HW1.out.2.2.1; omega) (fun l hl e => by have := (HC.out.1.rows.base l hl).2; have := HW1.out.2.2.1; omega)
                  HO1.out.1 HO1.out.2.1 HO1.out.2.2 ((Below.refl _ _).alloc (Nat.le_refl _) _) HO2.out.1 HO2.out.2.1 HO2.out.2.2, ?_, fun l hl => ?_⟩
              · have b1 : Below B w (wa.alloc (.cells #[.slice (some ⟨rg, 0, none⟩) 4 4] 29)) := HC.out.2.1.trans (HW1.out.1.mono hBw)
                have b2 : Below B w wc := Below.grown b1 HO1.out.2.1 (Nat.le_trans hBw HW1.out.1.size) (fun k hk => (HX1.out.lt k hk).1)
                have b3 : Below B w (wc.alloc (.cells #[.slice g 32 c] 29)) := b2.alloc hBc _
                exact Below.grown b3 HO2.out.2.1 (by rw [alloc_size]; omega) (fun k hk => (HYC.out.lt k hk).1)
              · by_cases e : l = i
                · right; rw [e]; exact HLN.out
                · exact HC.out.2.2 l (by omega)
            clear HO1 HO2 HYC HP1 HX1 HY1 HW1
            go_roundg (6 - (i + 1))
            case measure => omega
            case rel => exact ⟨i + 1, by go_num, by omega, rfl, HN⟩
          · have hm4' : ¬ (m : Int) < 4 := by omega
            have HN : Hid (Chosen B w wr xss (i + 1) V (.slice p4 m c4) (.slice p5 m c5)) := Lib.hid ⟨G, by rw [pres_full (by rw [HME.out]; exact hm4), HME.out]; exact HC.out.1, HC.out.2.1, fun l hl => by
              by_cases e : l = i
              · right; rw [e]; exact HLN.out
              · exact HC.out.2.2 l (by omega)⟩
            clear c1 hx hy hxs hys
            go_wp2_with fail
            go_roundg (6 - (i + 1))
            case measure => omega
            case rel => exact ⟨i + 1, by go_num, by omega, rfl, HN⟩
        · have t1 : ((n : Int) != 0) = true := by rw [bne_iff_ne]; omega
          have t2 : ((n : Int) != 32) = true := by rw [bne_iff_ne]; omega
          have HR : Hid (Q (.returned (.tuple #[.slice none 0 0, .bool false])) wr) := Lib.hid (HQ.out wr (by rw [HB.out]; exact HC.out.2.1) (fun h => by have := h.2.1 i hlt; have := HLN.out; omega))
          clear c1 hn0 hn32
          go_wp2_with fail
          exact HR.out
    · have hge : ¬ (i : Int) < 6 := by omega
      have e6 : i = 6 := by omega
      subst e6
      obtain ⟨G, hs⟩ := HS.out
      have HC := Lib.hid hs
      clear HS hs
      have hml := pres_len xss 6
      by_cases hm4 : (pres xss 6).length = 4
      · have HW : Hid (Whole xss) := Lib.hid ⟨H6.out, HC.out.2.2, hm4⟩
        have HP := Lib.hid HC.out.1
        rw [hm4] at HP
        obtain ⟨o4, c4, e4, hrc⟩ := HP.out.rows.matC (by omega)
        obtain ⟨ys, hy, hys⟩ := HP.out.vals
        obtain ⟨o5, c5, e5, hcell5⟩ : ∃ o c, u5 = .slice (some ⟨o, 0, none⟩) 4 c ∧ ∀ l, l < 4 → wr.cell? ⟨o, l, none⟩ = some (V ((pres xss 6).getD l 0)) := by
          rcases hy.2 with ⟨_, h0⟩ | ⟨g, cap, cur, e, _⟩
          · omega
          · refine ⟨g, cap, e, fun l hl => ?_⟩
            have := hy.cells (g := g) (by rw [e]; rfl) l _ (hys l hl)
            rw [addr_add, Nat.zero_add] at this
            exact this
        have HRW : Hid (RawIn wr (some ⟨o5, 0, none⟩) (rowsOf 4 32 (fun l k => ent xss ((pres xss 6).getD l 0) k))) := Lib.hid (rawIn_of (fun l hl => by
          have hmem : (pres xss 6).getD l 0 ∈ pres xss 6 := by
            rw [List.getD_eq_getElem?_getD, List.getElem?_eq_getElem (by omega)]; exact List.getElem_mem _
          have hp := pres_lt hmem
          have h32 : lenOf xss ((pres xss 6).getD l 0) = 32 := by rcases HC.out.2.2 _ hp.1 with h | h; exact absurd h hp.2; exact h
          have hcl := hcell5 l hl
          generalize (pres xss 6).getD l 0 = z at *
          obtain ⟨b, o, g, c, e, hb, hc, hx⟩ := HI.out.place (i := z) (by rw [H6.out]; exact hp.1)
          cases e
          have hv := (HV.out z hp.1).1
          rw [hc] at hv
          have hvz := Option.some.inj hv
          obtain ⟨h0, q0, eg, _, _⟩ := hx 0 (by omega)
          subst eg
          rw [h32] at hvz hx
          refine ⟨h0, q0, c, by rw [Nat.zero_add, hcl, ← hvz], fun j hj => ?_⟩
          obtain ⟨h1, q1, e1, hh, hcv⟩ := hx j hj
          cases e1
          exact (HC.out.2.1.cell (p := ⟨h0, q0 + j, none⟩) (by rw [← HB.out]; exact hh)).trans hcv))
        subst e4 e5
        have HRC := Lib.hid hrc
        have HDT : Hid (det 4 (fm (pres xss 6)) ≠ 0) := Lib.hid (fm_det hm4 (pres_sorted _ _) (fun l hl => (pres_lt hl).1))
        have HFB := Lib.hid (fm_bd (pres xss 6) 4 4)
        have HHB : Hid (Bd 4 32 (fun l k => ent xss ((pres xss 6).getD l 0) k)) := Lib.hid (fun _ _ _ _ => ent_lt HBY.out _ _)
        clear hml hm4 hrc hy hys hcell5 HP
        go_wp2_with fail
        refine (rinvC 4 c4 o4 (fm (pres xss 6)) wr HRC.out HFB.out (by omega) (by omega)).mono ?_
        rintro e w2 (⟨rfl, HM2⟩ | ⟨ob, cb, rfl, HM2⟩)
        · exact absurd HM2.out.1 HDT.out
        · have HB2 : Hid (Below B w w2) := Lib.hid (HC.out.2.1.trans (HM2.out.2.2.mono (by rw [← HB.out]; exact HC.out.2.1.size)))
          have HRW2 := Lib.hid (HRW.out.keep HM2.out.2.2)
          have HX2 := Lib.hid HM2.out.2.1
          have BX : Hid (Bd 4 4 (adjM 4 (fm (pres xss 6)))) := Lib.hid (fun _ _ _ _ => mul_lt _ _)
          clear HM2 HRW HRC HC
          obtain ⟨Z, hZ⟩ : ∃ Z : Mx, Z = mm 4 (adjM 4 (fm (pres xss 6))) (fun l k => ent xss ((pres xss 6).getD l 0) k) := ⟨_, rfl⟩
          have HMUL := rmulm (some ⟨ob, 0, none⟩) (some ⟨o5, 0, none⟩) (rowsOf 4 4 (adjM 4 (fm (pres xss 6)))) (rowsOf 4 32 (fun l k => ent xss ((pres xss 6).getD l 0) k)) cb c5 32 w2 HX2.out HRW2.out (rowsOf_right _ (by omega) (by omega) (by omega) (by omega)) (rowsOf_right _ (by omega) (by omega) (by omega) (by omega)) (rowsOf_bytes BX.out) (rowsOf_bytes HHB.out) (fun i xs h => by rw [rowsOf_len]; exact rowsOf_rowlen h) (fun i xs h => rowsOf_rowlen h)
          rw [rowsOf_len, rowsOf_len] at HMUL
          have HMU := Lib.hid HMUL
          have HZE : Hid (EqM 4 32 (mm 4 (ent (rowsOf 4 4 (adjM 4 (fm (pres xss 6))))) (ent (rowsOf 4 32 (fun l k => ent xss ((pres xss 6).getD l 0) k)))) Z) := Lib.hid (by rw [hZ]; exact mm_congr (rowsOf_ent _) (rowsOf_ent _))
          have HZ := Lib.hid hZ
          clear HMUL hZ
          go_wp2_with fail
          refine HMU.out.mono ?_
          rintro e w3 ⟨vd, Gd, rfl, hrd, hbd⟩
          obtain ⟨od, cd, rfl, hrd2⟩ := hrd.mat (by omega)
          rw [rowsOf_congr HZE.out] at hrd2
          have HD := Lib.hid hrd2
          have HB3 : Hid (Below B w w3) := Lib.hid (HB2.out.trans (hbd.mono (by rw [← HB.out]; exact HB2.out.size)))
          clear hrd hbd hrd2 HMU HZE
          obtain ⟨j0, hj0, jz0, jz1, jz2⟩ := info_parts infoByte
          obtain ⟨E, hE⟩ : ∃ E, w3.heap.size = E := ⟨_, rfl⟩
          have HEE := Lib.hid hE
          clear hE
          have H00 : Hid ((∃ xs, w3.ownsRow E 5 1 (.slice none 0 0) 0 xs ∧ ∀ t, t < 0 → xs[t]? = some (.int .u8 (Z (t / 32) (t % 32) : Nat))) ∧ Below E w3 w3) := Lib.hid ⟨⟨[], World.ownsRow_nil _ _ _ _, fun t ht => absurd ht (Nat.not_lt_zero _)⟩, Below.refl _ _⟩
          go_wp2_with fail
          go_loopg [11, 12] 4 (fun q' s11 s12 v => ∃ i : Nat, s12 = .int .i64 (i : Int) ∧ i ≤ 4 ∧ q' = 4 - i ∧ Hid ((∃ xs, v.ownsRow E 5 1 s11 (i * 32) xs ∧ ∀ t, t < i * 32 → xs[t]? = some (.int .u8 (Z (t / 32) (t % 32) : Nat))) ∧ Below E w3 v))
          case atStart => exact ⟨0, rfl, by omega, rfl, H00⟩
          case round =>
            obtain ⟨i, rfl, hi, rfl, HS⟩ := hrel
            clear H00
            by_cases hlt : i < 4
            · have hl : (i : Int) < 4 := by omega
              have hl0 : (0 : Int) ≤ (i : Int) := by omega
              obtain ⟨⟨xs, hx, hxs⟩, hb⟩ := HS.out
              have HX := Lib.hid hx
              have HXS := Lib.hid hxs
              have HBE := Lib.hid hb
              obtain ⟨b', o', e, hbl, g, cap', hcell, hg⟩ := HD.out i _ (rowsOf_get hlt)
              cases e
              have hlen : ((List.range 32).map (Z i)).length = 32 := by simp
              have get : ∀ j, j < 32 → ((List.range 32).map (Z i))[j]? = some (Z i j) := fun j hj => by simp [hj]
              rw [hlen, Nat.zero_add] at hcell
              obtain ⟨h0, q0, rfl, hh0, _⟩ := hg 0 _ (get 0 (by omega))
              have HRB : Hid (∀ j, j < 32 → wr.cell? ⟨h0, q0 + j, none⟩ = some (.int .u8 (Z i j : Nat))) := Lib.hid (fun j hj => by
                obtain ⟨h1, q1, e1, hh, hv⟩ := hg j _ (get j hj)
                cases e1
                exact (hb.cell (p := ⟨h0, q0 + j, none⟩) (by rw [← HEE.out]; exact hh)).trans hv)
              have hc' := (hb.cell (p := ⟨od, i, none⟩) (by rw [← HEE.out]; exact hbl)).trans hcell
              have hEw : E ≤ wr.heap.size := by rw [← HEE.out]; exact hb.size
              clear hx hxs hb hcell hg get hlen
              go_wp2_with (at_builtin; refine append_mine _ rfl (.tmp 69) (.tmp 73) 29 rfl E 5 j0 (.int .u8 0) 1 1 Try.underlying29 hj0 jz0 jz1 jz2 rfl (by decide) _ (i * 32) xs rfl HX.out ⟨h0, q0, none⟩ 32 cap' (rowL 32 (Z i)) rfl (by rw [rowL_len]) (rowL_cells HRB.out) rowL_one (by unfold maxLen; omega) (by omega) hEw (by decide) ?_; intro v' w' own gr hv)
              have HN : Hid ((∃ xs, w'.ownsRow E 5 1 v' ((i + 1) * 32) xs ∧ ∀ t, t < (i + 1) * 32 → xs[t]? = some (.int .u8 (Z (t / 32) (t % 32) : Nat))) ∧ Below E w3 w') := by
                have hxl : xs.length = i * 32 := by have := HX.out.1; omega
                refine Lib.hid ⟨⟨_, by rw [show (i + 1) * 32 = i * 32 + 32 by omega]; exact own, fun t ht => ?_⟩, Below.grown HBE.out gr hEw (fun k hk => (HX.out.lt k hk).1)⟩
                by_cases h : t < i * 32
                · rw [List.getElem?_append_left (by omega)]; exact HXS.out t h
                · rw [List.getElem?_append_right (by omega), hxl, rowL_get (by omega), show t / 32 = i by omega, show t % 32 = t - i * 32 by omega]
              clear own gr hv
              go_wp2_with fail
              go_roundg (4 - (i + 1))
              case measure => omega
              case rel => exact ⟨i + 1, by go_num, by omega, rfl, HN⟩
            · have hge : ¬ (i : Int) < 4 := by omega
              have e4 : i = 4 := by omega
              subst e4
              obtain ⟨⟨xs, hx, hxs⟩, hb⟩ := HS.out
              rcases hx.2 with ⟨_, h0⟩ | ⟨g, cap', cur, e, _⟩
              · exact absurd h0 (by decide)
              · subst e
                have HR : Hid (Q (.returned (.tuple #[.slice (some ⟨g, 0, none⟩) 128 cap', .bool true])) wr) := Lib.hid (HQG.out wr g cap' (by
                  rw [HB.out]; exact HB3.out.trans (hb.mono (by rw [← HEE.out, ← HB.out]; exact HB3.out.size))) HW.out (own_row8 hx (fun j hj => by
                    rw [hxs j hj, HZ.out]; rfl)))
                clear hx hxs hb
                go_wp2_with fail
                exact HR.out
      · have HR : Hid (Q (.returned (.tuple #[.slice none 0 0, .bool false])) wr) := Lib.hid (HQ.out wr (by rw [HB.out]; exact HC.out.2.1) (fun h => hm4 h.2.2))
        obtain ⟨xs, hx, _⟩ := HC.out.1.rows.own
        obtain ⟨p4, c4, e4⟩ := own_shape hx
        have hm5 : ((pres xss 6).length : Int) < 4 := by omega
        clear hx hm4
        generalize (pres xss 6).length = m at *
        subst e4
        go_wp2_with fail
        exact HR.out
end Go.Proofs.Ytajpnbmfeapmcaa
