import Derived.Test.YtofmilkjhnkgjaaIn7
namespace Go.Proofs.Ytofmilkjhnkgjaa
open Go.RowKit Go.Sort
set_option maxRecDepth 100000
set_option maxHeartbeats 2000000

/-- The state of DeleteFunc's loop. -/
def DeSt (g : Nat) (X : Nat → Sx) (w : World) (i j : Nat) (v : World) : Prop :=
  ∃ Z, SR v g 16 Z ∧ Turn [g] w v ∧ i = (lv X j).length ∧ i < j ∧ (∀ a x, (lv X j)[a]? = some x → Z a = x) ∧ ∀ a, j ≤ a → Z a = X a
theorem SL.of {w : World} {b n : Nat} {Z : Nat → Sx} {l : List Sx} (h : SR w b n Z) (hn : l.length = n) (hz : ∀ a x, l[a]? = some x → Z a = x) : SL w b l := by
  unfold SL
  rw [hn]
  refine h.congr (fun i hi => ?_)
  have e : l[i]? = some (l[i]'(by omega)) := List.getElem?_eq_getElem (by omega)
  rw [hz i _ e]
  exact (getD_some e).symm
theorem SR.less {w : World} {b n m : Nat} {X : Nat → Sx} (h : SR w b n X) (hm : m ≤ n) : SR w b m X := by
  obtain ⟨cs, hb, hs, hc⟩ := h
  exact ⟨cs, hb, by omega, fun i hi => hc i (by omega)⟩
def DelRet (g : Nat) (X : Nat → Sx) (w : World) (e : Ending) (w' : World) : Prop := ∃ c, e = .returned (.slice (some ⟨g, 0, none⟩) (lv X 16).length c) ∧ SL w' g (lv X 16) ∧ Turn [g] w w'
theorem isdelete {w : World} {g cap : Nat} {X : Nat → Sx} (h : SR w g 16 X) (hcap : 16 ≤ cap) :
    Calls Try.prog 45 #[.slice (some ⟨g, 0, none⟩) 16 cap, .func (.func 47) #[] #[]] w (DelRet g X w) := by
  have HIX := Lib.hid (iindexV g 16 cap X (fun k => decide ((X k).no = 0)) w h (by omega) (fun i hi W hW => by
    unfold Sx.v
    exact idead2 (X i).no ((X i).s : Int) ((X i).g : Int) (X i).A (X i).n (X i).c W (decide ((X i).no = 0)) (by simp)))
  have HS := Lib.hid h
  clear h
  go_enter Try.func45, Try.ntmps45
  go_wp2_with fail
  refine HIX.out.mono ?_
  rintro e w1 ⟨k', rfl, hk', hb1⟩
  try dsimp only
  have HS1 := Lib.hid (HS.out.below hb1)
  have HT1 : Hid (Turn [g] w w1) := Lib.hid (Turn.of hb1)
  have HK := Lib.hid hk'
  clear hb1 hk' HIX HS
  rcases HK.out with ⟨rfl, hall⟩ | ⟨k, rfl, hk, hkd, hkf⟩
  · have HA := Lib.hid (lv_all (X := X) (k := 16) (fun i hi h0 => hall i hi (decide_eq_true h0)))
    clear hall
    go_wp2_with fail
    go_ret
    refine ⟨cap, by rw [HA.out.1]; rfl, SL.of HS1.out HA.out.1 (fun a x hx => ?_), HT1.out⟩
    have := HA.out.2 a (by have := (List.getElem?_eq_some_iff.1 hx).1; rw [HA.out.1] at this; exact this)
    rw [this] at hx
    cases hx
    rfl
  · have hk0 : ((k : Int) == -1) = false := beq_eq_false_iff_ne.2 (by omega)
    have HD : Hid (DeSt g X w k (k + 1) w1) := Lib.hid (by
      obtain ⟨h1, h2⟩ := lv_all (X := X) (k := k) (fun i hi h0 => hkf i hi (decide_eq_true h0))
      have e : lv X (k + 1) = lv X k := by
        show lv X k ++ _ = _
        rw [if_pos (of_decide_eq_true hkd), List.append_nil]
      refine ⟨X, HS1.out, HT1.out, by rw [e, h1], Nat.lt_succ_self _, fun a x hx => ?_, fun _ _ => rfl⟩
      rw [e] at hx
      have hlt := (List.getElem?_eq_some_iff.1 hx).1
      rw [h2 a (by omega)] at hx
      cases hx
      rfl)
    clear hkd hkf HK HS1 HT1
    have hcap2 : (16 : Int) ≤ (cap : Int) := by omega
    go_wp2_with fail
    go_loopg [5, 6, 7] (16 - (k + 1)) (fun q s5 s6 s7 v => ∃ i j : Nat, s5 = .int .i64 (i : Int) ∧ s6 = .int .i64 (j : Int) ∧ i < j ∧ j ≤ 16 ∧ q = 16 - j ∧ Hid (DeSt g X w i j v))
    case atStart => exact ⟨k, k + 1, rfl, by go_num, by omega, by omega, rfl, HD⟩
    case round =>
      obtain ⟨i, j, rfl, rfl, hij, hj, rfl, HV⟩ := hrel
      clear HD
      by_cases hlt : j < 16
      · have hl : (j : Int) < 16 := by omega
        have hi16 : (i : Int) < 16 := by omega
        have hi0 : (0 : Int) ≤ (i : Int) := by omega
        have hj0 : (0 : Int) ≤ (j : Int) := by omega
        obtain ⟨Z, hz, ht, hil, _, hza, hzb⟩ := HV.out
        have HZ := Lib.hid hz
        have HT := Lib.hid ht
        have HIL := Lib.hid hil
        have HZA := Lib.hid hza
        have HZB := Lib.hid hzb
        obtain ⟨a0, a1, a2, a3⟩ := hz.cell hlt
        have hZj := hzb j (Nat.le_refl _)
        rw [hZj] at a0 a1 a2 a3
        clear hz ht hil hza hzb hZj HV
        obtain ⟨v1, hv1⟩ : ∃ v1, wr.alloc (.cells #[.int .i64 ((X j).no : Int), .int .i64 ((X j).s : Int), .int .i64 ((X j).g : Int), .slice (X j).A (X j).n (X j).c] 83) = v1 := ⟨_, rfl⟩
        obtain ⟨H, hH⟩ : ∃ H, wr.heap.size = H := ⟨_, rfl⟩
        have HHE := Lib.hid hH
        have HV1 := Lib.hid hv1
        have hb1 : Below wr.heap.size wr v1 := by rw [← hv1]; exact (Below.refl _ _).alloc (Nat.le_refl _) _
        have HK1 : Hid (SV v1 H ((X j).no : Int) ((X j).s : Int) ((X j).g : Int) (X j).A (X j).n (X j).c) := Lib.hid (by rw [← hv1]; exact SV.of_new hH)
        have HZ1 := Lib.hid (HZ.out.below hb1)
        have HT1 : Hid (Turn [g] w v1) := Lib.hid (HT.out.trans (Turn.of hb1))
        have HGH : Hid (g < H) := Lib.hid (by have := HZ.out.lt; omega)
        have HLV : Hid (lv X (j + 1) = lv X j ++ (if (X j).no = 0 then [] else [X j])) := Lib.hid rfl
        have HXJ : Hid (∃ x, X j = x) := Lib.hid ⟨_, rfl⟩
        obtain ⟨x, hx⟩ := HXJ.out
        rw [hx] at HV1 HK1 HLV a0 a1 a2 a3
        clear hv1 hH hb1 hx HZ HT HXJ
        by_cases h0 : x.no = 0
        · have HL := Lib.hid (idead2 x.no (x.s : Int) (x.g : Int) x.A x.n x.c v1 true ⟨fun _ => h0, fun _ => rfl⟩)
          rw [if_pos h0, List.append_nil] at HLV
          clear h0
          unfold sv at HL
          go_wp2_with fail
          rw [HV1.out, HHE.out]
          refine HL.out.mono ?_
          rintro e w2 ⟨rfl, hb2⟩
          try dsimp only
          have HD2 : Hid (DeSt g X w i (j + 1) w2) := Lib.hid ⟨Z, HZ1.out.below hb2, HT1.out.trans (Turn.of hb2), by rw [HLV.out]; exact HIL.out, by omega, fun a y hy => HZA.out a y (by rw [← HLV.out]; exact hy), fun a ha => HZB.out a (by omega)⟩
          clear hb2 HL
          go_wp2_with fail
          go_roundg (16 - (j + 1))
          case measure => omega
          case rel => exact ⟨i, j + 1, rfl, by go_num, by omega, by omega, rfl, HD2⟩
        · have HL := Lib.hid (idead2 x.no (x.s : Int) (x.g : Int) x.A x.n x.c v1 false ⟨fun e => (by cases e), fun e => absurd e h0⟩)
          rw [if_neg h0] at HLV
          clear h0
          unfold sv at HL
          go_wp2_with fail
          rw [HV1.out, HHE.out]
          refine HL.out.mono ?_
          rintro e w2 ⟨rfl, hb2⟩
          try dsimp only
          have HK2 := Lib.hid (HK1.out.below hb2)
          have HZ2 := Lib.hid (HZ1.out.below hb2)
          have HT2 : Hid (Turn [g] w w2) := Lib.hid (HT1.out.trans (Turn.of hb2))
          have k0 := HK2.out.c0
          have k1 := HK2.out.c1
          have k2 := HK2.out.c2
          have k3 := HK2.out.c3
          clear hb2 HL a0 a1 a2 a3
          obtain ⟨a0, a1, a2, a3⟩ := HZ2.out.cell (i := i) (by omega)
          have af := HZ2.out.f
          have hne : ¬ H = g := by have := HGH.out; omega
          have HD2 : Hid (DeSt g X w (i + 1) (j + 1) ((((w2.setCell ⟨g, i * 4, none⟩ (.int .i64 (x.no : Int))).setCell ⟨g, i * 4 + 1, none⟩ (.int .i64 (x.s : Int))).setCell ⟨g, i * 4 + 2, none⟩ (.int .i64 (x.g : Int))).setCell ⟨g, i * 4 + 3, none⟩ (.slice x.A x.n x.c))) := Lib.hid (by
            refine ⟨updS Z i x, HZ2.out.put (by omega) x, HT2.out.put4 (by simp) _ _ _ _ _ _ _ _, by rw [HLV.out, List.length_append, ← HIL.out]; rfl, by omega, fun a y hy => ?_, fun a ha => ?_⟩
            · rw [HLV.out] at hy
              unfold updS
              by_cases e : a = i
              · rw [if_pos e]
                subst e
                rw [List.getElem?_append_right (by rw [← HIL.out]; exact Nat.le_refl _), ← HIL.out, Nat.sub_self] at hy
                cases hy
                rfl
              · rw [if_neg e]
                have hlt2 := (List.getElem?_eq_some_iff.1 hy).1
                rw [List.length_append, ← HIL.out] at hlt2
                simp at hlt2
                rw [List.getElem?_append_left (by rw [← HIL.out]; omega)] at hy
                exact HZA.out a y hy
            · unfold updS
              rw [if_neg (by omega)]
              exact HZB.out a (by omega))
          go_wp2_with fail
          go_roundg (16 - (j + 1))
          case measure => omega
          case rel => exact ⟨i + 1, j + 1, by go_num, by go_num, by omega, by omega, rfl, HD2⟩
      · obtain rfl : j = 16 := by omega
        obtain ⟨Z, hz, ht, hil, _, hza, _⟩ := HV.out
        obtain ⟨L, hcl⟩ := clearS (c := cap - i) hz hij 0
        have HEND : Hid (DelRet g X w (.returned (.slice (some ⟨g, 0, none⟩) i cap)) (wr.setCells g (i * 4) L)) := Lib.hid ⟨cap, by rw [hil], SL.of (hz.cut (m := i) (by omega) (Nat.le_refl _) L) hil.symm hza, ht.trans (setCells_turn g L _ _)⟩
        have hi16 : (i : Int) < 16 := by omega
        have hi0 : (0 : Int) ≤ (i : Int) := by omega
        have hic : (i : Int) ≤ (cap : Int) := by omega
        have hi17 : (i : Int) ≤ 16 := by omega
        have hsn : ((16 : Int) - (i : Int)).toNat = 16 - i := by omega
        have hsc : ((cap : Int) - (i : Int)).toNat = cap - i := by omega
        have hne : ¬ cap = i := by omega
        clear hz ht hil hza HV
        go_wp2_with fail
        go_ret
        exact HEND.out
end Go.Proofs.Ytofmilkjhnkgjaa
