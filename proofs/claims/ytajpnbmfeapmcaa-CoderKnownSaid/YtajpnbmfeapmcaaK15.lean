import Derived.Test.YtajpnbmfeapmcaaK14
import Derived.Test.YtajpnbmfeapmcaaI7c
namespace Go.Proofs.Ytajpnbmfeapmcaa
open Go.RowKit Go.Sort
set_option maxRecDepth 100000
set_option maxHeartbeats 2000000

theorem minverse_empty (f : Nat) (p : Option Addr) (ca : Nat) (w : World) : Calls Try.prog 30 #[.pointer (some ⟨f, 0, none⟩), .slice p 0 ca] w fun e w' => e = .returned (.tuple #[.slice none 0 0, .bool false]) ∧ w' = w := by
  have h := mright p [] ca w (fun i xs h => by simp at h) (by simp) false ⟨fun h => (by cases h), fun h => absurd h.1 (by simp)⟩
  have R1 := Lib.hid h
  clear h
  go_enter Try.func30, Try.ntmps30
  go_wp2_with fail
  refine R1.out.mono ?_
  rintro e w' ⟨rfl, hw⟩
  obtain rfl := hw.symm
  go_wp2_with fail
  go_ret2
  exact ⟨rfl, rfl⟩
/-- Inverse of the rows of some chunks, m of them. -/
theorem cinverse (f m ca : Nat) (p : Option Addr) (A : Mx) (w : World) (hf : Fld w f) (hm : m ≤ 4) (h : 1 ≤ m → ∃ b, p = some ⟨b, 0, none⟩ ∧ RawIn w (some ⟨b, 0, none⟩) (rowsOf m 4 A)) (hA : Bd 4 4 A) (hd : m = 4 → det 4 A ≠ 0) :
    Calls Try.prog 30 #[.pointer (some ⟨f, 0, none⟩), .slice p m ca] w fun e w' => (m ≠ 4 ∧ e = .returned (.tuple #[.slice none 0 0, .bool false]) ∧ w' = w) ∨
      (m = 4 ∧ ∃ b, e = .returned (.tuple #[.slice (some ⟨b, 0, none⟩) 4 4, .bool true]) ∧ RawIn w' (some ⟨b, 0, none⟩) (rowsOf 4 4 (adjM 4 A)) ∧ Below w.heap.size w w') := by
  by_cases h0 : m = 0
  · subst h0
    exact (minverse_empty f p ca w).mono fun _ _ ⟨h1, h2⟩ => .inl ⟨by omega, h1, h2⟩
  · obtain ⟨b, rfl, hr⟩ := h (by omega)
    by_cases h4 : m = 4
    · subst h4
      refine (invC f b ca 4 A w hf hr (by omega) (by omega) hA).mono ?_
      rintro e w' (⟨rfl, h2⟩ | ⟨o, X, rfl, h2⟩)
      · obtain ⟨⟨X, hX⟩, _⟩ := h2.out
        exact absurd ((found_det hA hX).2 (hd rfl)) (by decide)
      · obtain ⟨hX, h3, h5⟩ := h2.out
        exact .inr ⟨rfl, o, rfl, by rw [← rowsOf_congr (inv_alike hA (by omega) hX)]; exact h3, h5⟩
    · have h2 := minverse_none f (some ⟨b, 0, none⟩) (rowsOf m 4 A) ca 4 w hr (by rw [rowsOf_len]; omega) (rowsOf_right A (by omega) (by omega) (by omega) (by omega)) (fun _ _ h => rowsOf_rowlen h) (by rw [rowsOf_len]; omega)
      rw [rowsOf_len] at h2
      exact h2.mono fun _ _ ⟨h1, h2⟩ => .inl ⟨h4, h1, h2⟩

theorem row_vals {w : World} {o n c : Nat} {M : Mx} (hc : 0 < c) (h : RawIn w (some ⟨o, 0, none⟩) (rowsOf n c M)) : ∃ U : Nat → Value, ∀ i, i < n → w.cell? ⟨o, i, none⟩ = some (U i) ∧ ∃ g q cap, U i = .slice (some ⟨g, q, none⟩) c cap ∧ g < w.heap.size ∧ ∀ j, j < c → w.cell? ⟨g, q + j, none⟩ = some (.int .u8 (M i j : Nat)) := by
  refine ⟨fun i => (w.cell? ⟨o, i, none⟩).getD (.int .u8 0), fun i hi => ?_⟩
  obtain ⟨b, o', e, hb, g, cap, hcell, hx⟩ := h i _ (rowsOf_get hi)
  cases e
  have hlen : ((List.range c).map (M i)).length = c := by simp
  rw [hlen, Nat.zero_add] at hcell
  have get : ∀ j, j < c → ((List.range c).map (M i))[j]? = some (M i j) := fun j hj => by simp [hj]
  obtain ⟨h0, q0, rfl, hh, _⟩ := hx 0 _ (get 0 hc)
  dsimp only
  rw [hcell, Option.getD_some]
  refine ⟨rfl, h0, q0, cap, rfl, hh, fun j hj => ?_⟩
  obtain ⟨h1, q1, e1, _, h2⟩ := hx j _ (get j hj)
  cases e1
  exact h2
theorem lens_of {xss : List (List Nat)} {k : Nat} (h : lenOf xss k ≠ 0) : k < xss.length := by
  unfold lenOf at h
  rcases Nat.lt_or_ge k xss.length with h1 | h1
  · exact h1
  · rw [List.getElem?_eq_none h1] at h; simp at h

theorem cdecode (c f o cap0 : Nat) (a : Option Addr) (xss : List (List Nat)) (cap : Nat) (w : World) (hc : Cdr w c f o cap0) (h : RawIn w a xss) (hl : xss.length ≤ 9223372036854775807) (hby : Bytes xss) (Q : Ending → World → Prop)
    (hbad : ∀ w', Below w.heap.size w w' → (¬ Whole xss) → Q (.returned (.tuple #[.slice none 0 0, .bool false])) w')
    (hgood : ∀ w' g cap', Below w.heap.size w w' → Whole xss → Row8 w' g 128 (outF xss) → 128 ≤ cap' → Q (.returned (.tuple #[.slice (some ⟨g, 0, none⟩) 128 cap', .bool true])) w') :
    Calls Try.prog 13 #[.pointer (some ⟨c, 0, none⟩), .slice a xss.length cap] w Q := by
  have HM := Lib.hid (cmade c f o cap0 w hc)
  have HQ := Lib.hid hbad
  have HQG := Lib.hid hgood
  have HC := Lib.hid hc
  have HI := Lib.hid h
  have HBY := Lib.hid hby
  clear hbad hgood
  by_cases hs : xss.length = 6 ∧ Cuts xss 6
  · have HZ := Lib.hid (csized a xss cap w h hl true ⟨fun _ => hs, fun _ => rfl⟩)
    obtain ⟨h6, hcut⟩ := hs
    have H6 := Lib.hid h6
    have HCUT := Lib.hid hcut
    obtain ⟨ab, ao, _, _, rfl, hab, _⟩ := h.place (i := 0) (by omega)
    have hval : ∃ V : Nat → Value, ∀ i, i < 6 → w.cell? ⟨ab, ao + i, none⟩ = some (V i) ∧ ∃ g c, V i = .slice g (lenOf xss i) c := by
      refine ⟨fun i => (w.cell? ⟨ab, ao + i, none⟩).getD (.int .u8 0), fun i hi => ?_⟩
      obtain ⟨b, o, g, c, e, _, hc, _⟩ := h.place (i := i) (by omega)
      cases e
      dsimp only
      rw [hc, Option.getD_some]
      exact ⟨rfl, g, c, rfl⟩
    obtain ⟨V, hV⟩ := hval
    obtain ⟨U, hU⟩ := row_vals (by omega) hc.raw
    have hol : o < w.heap.size := cell?_lt (hU 0 (by omega)).1
    have HFST := Lib.hid (cfirst c f o cap0 ab ao xss cap w hc h6 hcut hab hol U V hV (fun i hi => ⟨(hU i hi).1, by obtain ⟨g, q, cp, e, _⟩ := (hU i hi).2; exact ⟨g, q, cp, e⟩⟩))
    have HV := Lib.hid hV
    have HU := Lib.hid hU
    clear h hby hc hcut hV hU
    rw [h6] at HZ ⊢
    clear h6
    go_enter Try.func13, Try.ntmps13
    go_wp2_with fail
    refine HM.out.mono ?_
    rintro e w' ⟨rfl, hw⟩
    obtain rfl := hw.symm
    go_wp2_with fail
    refine HZ.out.mono ?_
    rintro e w' ⟨rfl, hw⟩
    obtain rfl := hw.symm
    go_wp2_with fail
    refine HFST.out.mono ?_
    rintro e w1 ⟨s, t, rfl, hD, hB1⟩
    obtain ⟨xs, hx, hxs⟩ := hD.rows
    obtain ⟨ys, hy, hys⟩ := hD.vals
    have HB1 := Lib.hid hB1
    have hml := pres_len xss 6
    obtain ⟨m, hm⟩ : ∃ m, (pres xss 6).length = m := ⟨_, rfl⟩
    have HME := Lib.hid hm
    rw [hm] at hml hx hxs hy hys
    have mem : ∀ l, l < m → (pres xss 6).getD l 0 ∈ pres xss 6 := fun l hl => by
      rw [List.getD_eq_getElem?_getD, List.getElem?_eq_getElem (by omega)]; exact List.getElem_mem _
    have lt6 : ∀ l, l < m → (pres xss 6).getD l 0 < 6 := fun l hl => (pres_lt (mem l hl)).1
    have place : ∀ {v : Value} {zs : List Value} {P : Nat → Value}, w1.ownsRow w.heap.size 29 1 v m zs → (∀ l, l < m → zs[l]? = some (P l)) → 1 ≤ m → ∃ b, v.ownBlock = some b ∧ (∀ p n cc, v = .slice p n cc → p = some ⟨b, 0, none⟩) ∧ ∀ l, l < m → w1.cell? ⟨b, l, none⟩ = some (P l) := fun {v zs P} ho hz h1 => by
      rcases ho.2 with ⟨_, h0⟩ | ⟨g, cp, cur, e, _⟩
      · omega
      · refine ⟨g, by rw [e]; rfl, fun p n cc e2 => ?_, fun l hl => ?_⟩
        · rw [e] at e2; cases e2; rfl
        · have := ho.cells (g := g) (by rw [e]; rfl) l _ (hz l hl)
          rw [addr_add, Nat.zero_add] at this
          exact this
    have HRW : Hid (1 ≤ m → ∃ b, (∀ p n cc, s = .slice p n cc → p = some ⟨b, 0, none⟩) ∧ RawIn w1 (some ⟨b, 0, none⟩) (rowsOf m 4 (fm (pres xss 6)))) := Lib.hid (fun h1 => by
      obtain ⟨b, _, hp, hcell⟩ := place hx hxs h1
      refine ⟨b, hp, rawIn_of (fun l hl => ?_)⟩
      obtain ⟨_, g, q, cp, e, hg, hcg⟩ := HU.out _ (lt6 l hl)
      refine ⟨g, q, cp, by rw [Nat.zero_add, hcell l hl, e], fun j hj => ?_⟩
      exact (HB1.out.cell (p := ⟨g, q + j, none⟩) hg).trans (hcg j hj))
    have HRC : Hid (1 ≤ m → ∃ b, (∀ p n cc, t = .slice p n cc → p = some ⟨b, 0, none⟩) ∧ RawIn w1 (some ⟨b, 0, none⟩) (rowsOf m 32 (fun l k => ent xss ((pres xss 6).getD l 0) k))) := Lib.hid (fun h1 => by
      obtain ⟨b, _, hp, hcell⟩ := place hy hys h1
      refine ⟨b, hp, rawIn_of (fun l hl => ?_)⟩
      have hpl := pres_lt (mem l hl)
      have h32 : lenOf xss ((pres xss 6).getD l 0) = 32 := by rcases HCUT.out _ hpl.1 with h | h; exact absurd h hpl.2; exact h
      have hcl := hcell l hl
      generalize (pres xss 6).getD l 0 = z at *
      obtain ⟨b', o', g, cg, e, hb, hcx, hxx⟩ := HI.out.place (i := z) (by rw [H6.out]; exact hpl.1)
      cases e
      have hv := (HV.out z hpl.1).1
      rw [hcx] at hv
      have hvz := Option.some.inj hv
      obtain ⟨h0, q0, eg, _, _⟩ := hxx 0 (by omega)
      subst eg
      rw [h32] at hvz hxx
      refine ⟨h0, q0, cg, by rw [Nat.zero_add, hcl, ← hvz], fun j hj => ?_⟩
      obtain ⟨h1', q1, e1, hh, hcv⟩ := hxx j hj
      cases e1
      exact (HB1.out.cell (p := ⟨h0, q0 + j, none⟩) hh).trans hcv)
    obtain ⟨p4, c4, e4⟩ := own_shape hx
    obtain ⟨p5, c5, e5⟩ := own_shape hy
    subst e4 e5
    have hc1 : Cdr w1 c f o cap0 := HC.out.keep HB1.out
    have q1 := hc1.ptr
    have HINV := Lib.hid (cinverse f m c4 p4 (fm (pres xss 6)) w1 hc1.fld hml (fun h1 => by obtain ⟨b, hp, hr⟩ := HRW.out h1; exact ⟨b, hp _ _ _ rfl, hr⟩) (fm_bd _ 4 4) (fun h4 => fm_det (by omega) (pres_sorted _ _) (fun l hl => (pres_lt hl).1)))
    have HF1 := Lib.hid hc1
    have HH := Lib.hid (fun h1 => (HRC.out h1).imp fun b hb => And.intro (hb.1 p5 m c5 rfl) hb.2)
    clear hx hxs hy hys hD hB1 mem lt6 place HRW HRC hm hc1 HFST HV HU
    go_wp2_with fail
    refine HINV.out.mono ?_
    rintro e w2 (⟨hm4, rfl, hw⟩ | ⟨rfl, b, rfl, hr2, hb2⟩)
    · obtain rfl := hw.symm
      have HR := Lib.hid (HQ.out w1 HB1.out (fun h => hm4 (by rw [← HME.out]; exact h.2.2)))
      clear HINV HH
      go_wp2_with fail
      exact HR.out
    · obtain ⟨b5, rfl, hr5⟩ := HH.out (by omega)
      have hc2 : Cdr w2 c f o cap0 := HF1.out.keep hb2
      have q2 := hc2.ptr
      have HW : Hid (Whole xss) := Lib.hid ⟨H6.out, HCUT.out, HME.out⟩
      have hbd : Bd 4 32 (fun l k => ent xss ((pres xss 6).getD l 0) k) := fun _ _ _ _ => ent_lt HBY.out _ _
      have hba : Bd 4 4 (adjM 4 (fm (pres xss 6))) := fun _ _ _ _ => mul_lt _ _
      have g1 := rowsOf_facts hba (by omega) (by omega) (by omega) (by omega)
      have g2 := rowsOf_facts hbd (by omega) (by omega) (by omega) (by omega)
      have mm4 := mmul f (some ⟨b, 0, none⟩) (some ⟨b5, 0, none⟩) (rowsOf 4 4 (adjM 4 (fm (pres xss 6)))) (rowsOf 4 32 (fun l k => ent xss ((pres xss 6).getD l 0) k)) 4 c5 32 w2 hc2.fld hr2 (hr5.keep hb2) g1.1 g2.1 g1.2.1 g2.2.1 (fun i xs hx => by rw [rowsOf_len]; exact g1.2.2 i xs hx) g2.2.2
      rw [rowsOf_len, rowsOf_len] at mm4
      have HMM := Lib.hid mm4
      have HB2 : Hid (Below w.heap.size w w2) := Lib.hid (HB1.out.trans (hb2.mono HB1.out.size))
      have HE : Hid (EqM 4 32 (mm 4 (ent (rowsOf 4 4 (adjM 4 (fm (pres xss 6))))) (ent (rowsOf 4 32 (fun l k => ent xss ((pres xss 6).getD l 0) k)))) (mm 4 (adjM 4 (fm (pres xss 6))) (fun l k => ent xss ((pres xss 6).getD l 0) k))) := Lib.hid (mm_congr (rowsOf_ent _) (rowsOf_ent _))
      clear HINV HH hr2 hb2 hr5 hc2 hbd hba g1 g2 mm4 hml
      go_wp2_with fail
      refine HMM.out.mono ?_
      rintro e w3 ⟨rfl, o3, b3⟩
      have HO3 := Lib.hid (mconcat4 w2.heap.size 4 _ _ _ w3 (o3.congr HE.out))
      have HB3 : Hid (Below w.heap.size w w3) := Lib.hid (HB2.out.trans (b3.mono HB2.out.size))
      clear o3 b3 HMM
      go_wp2_with fail
      refine HO3.out.mono ?_
      rintro e w4 ⟨cp, rfl, hcp, r4, b4⟩
      have HR := Lib.hid (HQG.out w4 w3.heap.size cp (HB3.out.trans (b4.mono HB3.out.size)) HW.out r4 hcp)
      clear HO3 r4 b4
      go_wp2_with fail
      exact HR.out
  · have HZ := Lib.hid (csized a xss cap w h hl false ⟨fun h => (by cases h), fun h => absurd h hs⟩)
    have HR := Lib.hid (HQ.out w (Below.refl _ _) (fun h => hs ⟨h.1, h.2.1⟩))
    clear h hby hc hs HQG HQ
    generalize xss.length = n at *
    go_enter Try.func13, Try.ntmps13
    go_wp2_with fail
    refine HM.out.mono ?_
    rintro e w' ⟨rfl, hw⟩
    obtain rfl := hw.symm
    go_wp2_with fail
    refine HZ.out.mono ?_
    rintro e w' ⟨rfl, hw⟩
    obtain rfl := hw.symm
    go_wp2_with fail
    exact HR.out
end Go.Proofs.Ytajpnbmfeapmcaa
