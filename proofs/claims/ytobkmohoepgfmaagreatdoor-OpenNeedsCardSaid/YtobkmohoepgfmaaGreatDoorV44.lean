import Derived.Test.YtobkmohoepgfmaaGreatDoorV43
import Derived.Test.YtobkmohoepgfmaaGreatDoorRows
import Derived.WalkKit
import Derived.WalkSpells
import Derived.Lib.Hide
import Derived.Outline
import Derived.Deep.QuietTactic
import Derived.Deep.RegionHeld
import Derived.Deep.RegionWith
import Derived.Deep.RegionLaw
import Derived.Deep.AppendLies
import Derived.Deep.LoopGhost
import Derived.Maps.OwnSet
import Derived.BigRegion
import Derived.BigQuiet
import Derived.Sort.Grow
import Derived.StillTailTactics
import Derived.Laws.ResultCell
import Derived.Deep.MidRow
import Derived.Test.YtobkmohoepgfmaaGreatDoorV32
import Derived.Test.YtobkmohoepgfmaaGreatDoorV25
import Derived.Maps.RangeWalk
import Derived.Test.YtobkmohoepgfmaaGreatDoorV09
import Derived.Test.YtobkmohoepgfmaaGreatDoorV35
import Derived.Lib.SliceRun
namespace Go.Proofs.YtobkmohoepgfmaaGreatDoor
open Go.RowKit Go.Sort
set_option maxRecDepth 100000
set_option maxHeartbeats 8000000

theorem OErrOf.iface {w : World} {u : Value} {z : OErr} (h : OErrOf w u (some z)) : ∃ t x, u = .iface t x := by
 cases z with
 | at_ n c => obtain ⟨b, rfl, _⟩ := h; exact ⟨_, _, rfl⟩
 | car st l => exact EV.iface h
 | io st => exact EV.iface h
def opnT (r : Ep × Option OErr) : Wp × (Ep ⊕ OErr) := match r with
 | (e, some x) => (e.w, .inr x)
 | (e, none) => (e.w, .inl e)
theorem opn_eq {E : (Nat → Nat) → Nat → Nat → Nat} {dec : List (Nat × (Nat → Nat)) → Nat → Nat} {s s1 s2 : Wp} {L : List (Nat × It)} {F : Nat → List Pc} (h1 : askI s 8 = (s1, none, L)) (h2 : gatS s1 40 = (s2, none, F)) : opnF E dec s = opnT (mendN E dec L F (knownE s2 L F) 40) := by
 unfold opnF
 rw [h1]
 dsimp only
 rw [h2]
 dsimp only
 generalize mendN E dec L F (knownE s2 L F) 40 = r
 rcases r with ⟨e, _ | x⟩ <;> rfl
theorem kn_none {w : World} {ps : List Pc} {en : Ending} {w' : World} {gn tp : Nat} (h1 : genF [] ps = gn) (h2 : topF [] ps = tp) (h : KnRet w [] ps en w') : en = .returned (.agg #[.int .i64 (gn : Int), .int .i64 ((tp : Int) + 1), .bool false, .slice none 0 0]) ∧ Below w.heap.size w w' := by
 obtain ⟨Q, l, k, rfl, b, ⟨_, rfl, rfl, rfl⟩ | ⟨D, h, _⟩⟩ := h
 ·rw [h1, h2]
  exact ⟨rfl, b⟩
 ·exact absurd h (by simp [bytF])
def Fine (F : Nat → List Pc) : Prop := ∀ k, k < 40 → genF [] (F k) = 0 ∨ cntF (chF (F k) (genF [] (F k))) = 6
theorem KeepW.put {v w : World} {cb : Nat} (h : KeepW v w) (hc : v.heap.size ≤ cb) (k : Nat) (u : Value) : KeepW v (w.setCell ⟨cb, k, none⟩ u) :=
 ⟨by simp [World.setCell]; exact h.1, fun j o hj ho => (set_other (fun e => by have := heap_lt hj; omega) _ _).trans (h.2 j o hj ho)⟩
section
variable {w0 v : World} {g : Nat} {nd : ND} {s : Wp}
theorem o_open (h : WL w0 v g nd s) {m : Nat} (hf : s.Fit m) (hm : m ≤ 900000000) (hL : ∀ s1 L, askI s 8 = (s1, none, L) → L = []) :
  Calls Tryz.prog 6 #[.pointer (some ⟨g, 0, none⟩)] v fun en w' => OpnRet w0 v g nd (opnF encK decK s) en w' ∧ ((∀ s1 L s2 F, askI s 8 = (s1, none, L) → gatS s1 40 = (s2, none, F) → Fine F) → KeepW v w') := by
 have q1 := we_neqNil
 have q2 := we_neqNilNil
 have HA := Lib.hid (o_ask h hf (by omega))
 have HF8 := Lib.hid (askI_fit hf 8 (Nat.le_refl 8))
 have HL := Lib.hid hL
 have HW0 := Lib.hid h.blw.size
 obtain ⟨X, hX⟩ : ∃ X, opnF encK decK s = X := ⟨_, rfl⟩
 have HX := Lib.hid hX
 rw [hX]
 clear hX h hf hL
 go_enter Tryz.func6, Tryz.ntmps6
 go_wp2_with fail
 refine HA.out.mono ?_
 rintro en w1 ⟨r, u, rfl, K1, ⟨s1, z, L, ha, W1, rfl, b, rfl, ho⟩ | ⟨s1, L, s2, z, F, ha, hg, W1, rfl, b, rfl, ho⟩ | ⟨s1, L, s2, F, sb, V, U, ha, hg, W1, rfl, rfl, as1, hsb, pl1⟩⟩
 ·try dsimp only
  have HXY : Hid (X = (s1, .inr (.at_ z.1 z.2))) := Lib.hid (by rw [← HX.out]; unfold opnF; rw [ha])
  have HKW := Lib.hid K1
  have HR : Hid (KeepE 0 v w1 ∧ WL w0 w1 g nd s1 ∧ OnE w1 b (z.1 : Int) (z.2 : Int)) := Lib.hid ⟨KeepE.of 0 K1, W1, ho⟩
  clear K1 ha W1 ho
  go_wp2_with fail
  go_ret2
  rw [HXY.out]
  exact ⟨⟨_, _, nd, rfl, HR.out.1, ND.Le.refl nd, rfl, HR.out.2.1, Or.inl ⟨_, rfl, rfl, b, rfl, HR.out.2.2⟩⟩, fun _ => HKW.out⟩
 ·try dsimp only
  have HXY : Hid (X = (s2, .inr (.at_ z.1 z.2))) := Lib.hid (by rw [← HX.out]; unfold opnF; rw [ha]; dsimp only; rw [hg])
  have HKW := Lib.hid K1
  have HR : Hid (KeepE 0 v w1 ∧ WL w0 w1 g nd s2 ∧ OnE w1 b (z.1 : Int) (z.2 : Int)) := Lib.hid ⟨KeepE.of 0 K1, W1, ho⟩
  clear K1 ha hg W1 ho
  go_wp2_with fail
  go_ret2
  rw [HXY.out]
  exact ⟨⟨_, _, nd, rfl, HR.out.1, ND.Le.refl nd, rfl, HR.out.2.1, Or.inl ⟨_, rfl, rfl, b, rfl, HR.out.2.2⟩⟩, fun _ => HKW.out⟩
 ·obtain rfl := HL.out s1 L ha
  have hf1 : s1.Fit (m + 24) := by have := HF8.out; rw [ha] at this; exact this
  have hfm := gatS_mem hf1 40 (Nat.le_refl 40)
  have hf2 := gatS_fit hf1 40
  rw [hg] at hfm hf2
  have HFM := Lib.hid hfm
  have HF2 : Hid (s2.Fit (m + 744)) := Lib.hid (by have := hf2; dsimp only at this; exact this.mono (by omega))
  have HX2 : Hid (X = opnT (mendN encK decK [] F (knownE s2 [] F) 40)) := Lib.hid (HX.out.symm.trans (opn_eq ha hg))
  have HAS := Lib.hid as1
  have HPL := Lib.hid pl1
  have HK1 : Hid (KeepE 0 v w1 ∧ v.heap.size ≤ w1.heap.size ∧ v.heap.size ≤ sb) := Lib.hid ⟨KeepE.of 0 K1, K1.1, hsb⟩
  have HKW1 := Lib.hid K1
  have HQQ : Hid ((∀ s1 L s2 F, askI s 8 = (s1, none, L) → gatS s1 40 = (s2, none, F) → Fine F) → Fine F) := Lib.hid (fun q => q _ _ _ _ ha hg)
  have HN := Lib.hid (cy_new2 W1)
  clear hf1 hfm hf2 ha hg as1 pl1 K1 W1 hsb HF8 HX HL
  go_wp2_with fail
  refine HN.out.mono ?_
  rintro en w2 ⟨cb, nd1, A, C, c, f, o, cap, B, rfl, W2, M2, B2, hB2, hnf, hle, hcb⟩
  try dsimp only
  have HW2 := Lib.hid W2
  have HM2 : Hid (CM w0 w2 g cb nd1 (knT s2 F 0) A C c f o cap B) := Lib.hid (M2.same (fun _ _ => rfl) (fun _ _ => rfl) (fun _ _ => rfl) (fun _ _ => rfl))
  have HKW2 := Lib.hid (HKW1.out.trans (KeepW.of B2))
  have HCB : Hid (v.heap.size ≤ cb) := Lib.hid (Nat.le_trans HK1.out.2.1 hcb)
  have HND : Hid (nd1.B ≤ w2.heap.size ∧ nd1.f = nd.f ∧ nd.Le nd1 ∧ w1.heap.size ≤ cb) := Lib.hid ⟨hB2, hnf, hle, hcb⟩
  have HAS2 := Lib.hid (HAS.out.below B2)
  have HPL2 : Hid (∀ k, k < 40 → PL w2 v.heap.size (U k) (F k)) := Lib.hid (fun k hk => (HPL.out k hk).below B2)
  have HK2 : Hid (KeepE 0 v w2 ∧ v.heap.size ≤ w2.heap.size) := Lib.hid ⟨HK1.out.1.trans (KeepE.of 0 (KeepW.of B2)), Nat.le_trans HK1.out.2.1 B2.size⟩
  clear W2 M2 B2 hB2 hnf hle hcb HN HAS HPL
  go_wp2_with fail
  go_loopg [27] 40 (fun q s27 wr => ∃ k : Nat, s27 = .int .i64 (k : Int) ∧ k ≤ 40 ∧ q = 40 - k ∧ Hid (WL w0 wr g nd1 s2 ∧ (∃ B', CM w0 wr g cb nd1 (knT s2 F k) A C c f o cap B') ∧ KeepE 0 w2 wr) ∧ Hid (KeepW v wr))
  case atStart => exact ⟨0, rfl, by omega, rfl, Lib.hid ⟨HW2.out, ⟨B, HM2.out⟩, KeepE.refl 0 w2⟩, HKW2⟩
  case round =>
   obtain ⟨k, rfl, hk, rfl, HS, HKW⟩ := hrel
   obtain ⟨wo, rfl⟩ : ∃ wo : World, wo = wr := ⟨wr, rfl⟩
   clear HW2 HM2
   by_cases hlt : k < 40
   ·have t1 : (k : Int) < 40 := by omega
    have has := HAS2.out.keepE HS.out.2.2
    obtain ⟨x0, x1⟩ := has.cell hlt
    obtain ⟨A1, c1, hV, htl⟩ := (has.row k hlt).none_
    have hpl := (HPL2.out k hlt).keepE HS.out.2.2
    obtain ⟨A2, c2, hU⟩ := hpl.form
    rw [hV] at x0
    rw [hU] at x1 hpl
    obtain ⟨n2, hn2⟩ : ∃ n2, (F k).length = n2 := ⟨_, rfl⟩
    have hn2' : n2 ≤ 12 := by rw [← hn2]; exact (HFM.out k).1
    rw [hn2] at x1 hpl
    obtain ⟨w5, hw5⟩ : ∃ w5, wo.alloc (.cells #[.slice A1 0 c1, .slice A2 n2 c2] 65) = w5 := ⟨_, rfl⟩
    have B5 : Below wo.heap.size wo w5 := by rw [← hw5]; exact (Below.refl _ _).alloc (Nat.le_refl _) _
    obtain ⟨q5, hq5⟩ : ∃ q5, wo.heap.size = q5 := ⟨_, rfl⟩
    have hb5 : w5.heap[q5]? = some (.cells #[.slice A1 0 c1, .slice A2 n2 c2] 65 (0, 0)) := by rw [← hw5, ← hq5]; exact alloc_block _ _
    have y0 : w5.drew.cell? ⟨q5, 0, none⟩ = some (.slice A1 0 c1) := cell_of_block (w := w5.drew) hb5
    have y1 : w5.drew.cell? ⟨q5, 1, none⟩ = some (.slice A2 n2 c2) := cell_of_block (w := w5.drew) hb5
    have HKD : Hid (Calls Tryz.prog 27 #[.agg #[.slice A1 0 c1, .slice A2 n2 c2]] w5.drew (KnRet w5.drew [] (F k))) := Lib.hid (o_known (w := w5.drew) (is := []) rfl (by omega) (htl _) hn2 (by omega) (hpl.below (B5.trans ((below_drewN 1 w5).mono B5.size))) (fun p hp => ((HFM.out k).2 p hp).2) (top_le (fun x hx => by cases hx) (fun p hp => ((HFM.out k).2 p hp).1)))
    have HS5 : Hid (WL w0 w5.drew g nd1 s2 ∧ (∃ B', CM w0 w5.drew g cb nd1 (knT s2 F k) A C c f o cap B') ∧ KeepE 0 w2 w5.drew) := Lib.hid (by
     have bd : Below wo.heap.size wo w5.drew := B5.trans ((below_drewN 1 w5).mono B5.size)
     obtain ⟨B', hM⟩ := HS.out.2.1
     exact ⟨HS.out.1.below bd, ⟨B', hM.below bd⟩, HS.out.2.2.trans (KeepE.of 0 (KeepW.of bd))⟩)
    have HKW5 : Hid (KeepW v w5.drew) := Lib.hid (HKW.out.trans (KeepW.of (B5.trans ((below_drewN 1 w5).mono B5.size))))
    obtain ⟨B5', HM5'⟩ := HS5.out.2.1
    have HM5 := Lib.hid HM5'
    have HV5 := Lib.hid hw5
    have HQ5 := Lib.hid hq5
    obtain ⟨gnk, hgnk⟩ : ∃ gnk, genF [] (F k) = gnk := ⟨_, rfl⟩
    obtain ⟨tpk, htpk⟩ : ∃ tpk, topF [] (F k) = tpk := ⟨_, rfl⟩
    have HKE := Lib.hid (HKD.out.mono (fun en w' q => kn_none hgnk htpk q))
    have HGT := Lib.hid (And.intro hgnk htpk)
    clear HKD hw5 hq5 B5 hb5 HM5' has htl hpl hn2 hV hU hgnk htpk HS
    go_upto_region 10 with fail
    rw [HV5.out, HQ5.out]
    clear x0 x1
    go_region_law (go_simp; go_at_call 27; (with_reducible refine HKE.out.mono ?_); rintro en w6 ⟨rfl, b6⟩; (try dsimp only); have HM6 := Lib.hid (HM5.out.below b6); have HW6 := Lib.hid (HS5.out.1.below b6); have HK6 := Lib.hid (HS5.out.2.2.trans (KeepE.of 0 (KeepW.of b6))); have HKW6 := Lib.hid (HKW5.out.trans (KeepW.of b6)); obtain ⟨m1, m2, m3, m4⟩ := HM6.out.known hlt; have mf : ∀ j, w6.frozen? ⟨cb, j, none⟩ = false := HM6.out.fr)
    all_goals
     have HS7 : Hid (WL w0 (stK w6 cb k gnk (tpk + 1)) g nd1 s2 ∧ (∃ B', CM w0 (stK w6 cb k gnk (tpk + 1)) g cb nd1 (knT s2 F (k + 1)) A C c f o cap B') ∧ KeepE 0 w2 (stK w6 cb k gnk (tpk + 1))) := Lib.hid (by
      obtain ⟨⟨B', hM⟩, hW, hK⟩ := HM6.out.store4 HW6.out (gn := gnk) (nx := tpk + 1) hlt
      refine ⟨hW, ⟨B', hM.same (fun i hi => ?_) (fun i hi => ?_) (fun i hi => ?_) (fun i hi => ?_)⟩, HK6.out.trans hK⟩
      ·show (if i = k then gnk else if i < k then genF [] (F i) else 0) = if i < k + 1 then genF [] (F i) else 0
       by_cases e1 : i = k
       ·rw [if_pos e1, if_pos (by omega), e1, HGT.out.1]
       ·by_cases e2 : i < k
        ·rw [if_neg e1, if_pos e2, if_pos (by omega)]
        ·rw [if_neg e1, if_neg e2, if_neg (by omega)]
      ·show (if i = k then tpk + 1 else if i < k then topF [] (F i) + 1 else 1) = if i < k + 1 then topF [] (F i) + 1 else 1
       by_cases e1 : i = k
       ·rw [if_pos e1, if_pos (by omega), e1, HGT.out.2]
       ·by_cases e2 : i < k
        ·rw [if_neg e1, if_pos e2, if_pos (by omega)]
        ·rw [if_neg e1, if_neg e2, if_neg (by omega)]
      ·show (if i = k then false else false) = false
       split <;> rfl
      ·show (if i = k then none else none) = none
       split <;> rfl)
     have HKW7 : Hid (KeepW v (stK w6 cb k gnk (tpk + 1))) := Lib.hid ((((HKW6.out.put HCB.out _ _).put HCB.out _ _).put HCB.out _ _).put HCB.out _ _)
     have hcast : ((tpk : Int) + 1) = ((tpk + 1 : Nat) : Int) := rfl
     rw [hcast]
     clear hcast m1 m2 m3 m4 mf HM6 HW6 HK6 b6 HKE
     go_wp2_with fail
     go_roundg (40 - (k + 1))
     case measure => omega
     case rel => exact ⟨k + 1, by go_num, by omega, rfl, HS7, HKW7⟩
   ·obtain rfl : k = 40 := by omega
    have HW3 := Lib.hid HS.out.1
    have HM3 : Hid (∃ B', CM w0 wo g cb nd1 (knownE s2 [] F) A C c f o cap B') := Lib.hid (by
     obtain ⟨B', hM⟩ := HS.out.2.1
     exact ⟨B', hM.same (fun i hi => if_pos hi) (fun i hi => if_pos hi) (fun _ _ => rfl) (fun _ _ => rfl)⟩)
    have HK3 := Lib.hid HS.out.2.2
    have HKW3 : Hid (Fine F → KeepW v wo) := Lib.hid (fun _ => HKW.out)
    clear HS HKW
    go_wp2_with fail
    go_loopg [42] 40 (fun q s42 wr => ∃ (k : Nat) (e : Ep), s42 = .int .i64 (k : Int) ∧ k ≤ 40 ∧ q = 40 - k ∧ Hid (mendN encK decK [] F (knownE s2 [] F) k = (e, none)) ∧ Hid (WL w0 wr g nd1 e.w ∧ (∃ B', CM w0 wr g cb nd1 e A C c f o cap B') ∧ KeepE 0 w2 wr) ∧ Hid (Fine F → KeepW v wr))
    case atStart => exact ⟨0, _, rfl, by omega, rfl, Lib.hid rfl, Lib.hid ⟨HW3.out, HM3.out, HK3.out⟩, HKW3⟩
    case round =>
     obtain ⟨k, e, rfl, hk, rfl, HE, HS, HKW⟩ := hrel
     obtain ⟨wo, rfl⟩ : ∃ wo : World, wo = wr := ⟨wr, rfl⟩
     clear HW3 HM3 HK3 HKW3
     by_cases hlt : k < 40
     ·have t1 : (k : Int) < 40 := by omega
      have has := HAS2.out.keepE HS.out.2.2
      obtain ⟨x0, x1⟩ := has.cell hlt
      obtain ⟨A1, c1, hV, htl⟩ := (has.row k hlt).none_
      have hpl := (HPL2.out k hlt).keepE HS.out.2.2
      obtain ⟨A2, c2, hU⟩ := hpl.form
      rw [hV] at x0
      rw [hU] at x1 hpl
      obtain ⟨n2, hn2⟩ : ∃ n2, (F k).length = n2 := ⟨_, rfl⟩
      have hn2' : n2 ≤ 12 := by rw [← hn2]; exact (HFM.out k).1
      rw [hn2] at x1 hpl
      obtain ⟨w5, hw5⟩ : ∃ w5, wo.alloc (.cells #[.slice A1 0 c1, .slice A2 n2 c2] 65) = w5 := ⟨_, rfl⟩
      have B5 : Below wo.heap.size wo w5 := by rw [← hw5]; exact (Below.refl _ _).alloc (Nat.le_refl _) _
      obtain ⟨q5, hq5⟩ : ∃ q5, wo.heap.size = q5 := ⟨_, rfl⟩
      have hb5 : w5.heap[q5]? = some (.cells #[.slice A1 0 c1, .slice A2 n2 c2] 65 (0, 0)) := by rw [← hw5, ← hq5]; exact alloc_block _ _
      have y0 : w5.cell? ⟨q5, 0, none⟩ = some (.slice A1 0 c1) := cell_of_block hb5
      have y1 : w5.cell? ⟨q5, 1, none⟩ = some (.slice A2 n2 c2) := cell_of_block hb5
      have hah := mendN_ahead encK decK [] F (knownE s2 [] F) k k (Nat.le_refl k)
      rw [HE.out] at hah
      have hgk : e.gen k = genF [] (F k) := hah.1
      have hpk : e.pend k = none := hah.2
      have hfit := mendN_fit (dec := decK) (E := encK) (L := []) (F := F) (w := s2) HF2.out (fun x hx => by cases hx) (by simp) (fun l j _ => Kc.outF_lt _ j) (fun D i j _ => encK_lt' D i j) k
      rw [HE.out] at hfit
      obtain ⟨B', hM⟩ := HS.out.2.1
      have HMD := Lib.hid (o_mend (HS.out.1.below B5) (hM.below B5) hfit (by omega) hlt (by rw [hgk]; exact gen_le (fun x hx => by cases hx) (fun p hp => ((HFM.out k).2 p hp).1)) (A1 := A1) (A2 := A2) (n1 := 0) (c1 := c1) (n2 := n2) (c2 := c2) (is := []) (ps := F k) rfl (by omega) (htl w5) hn2 (by omega) (hpl.below B5) (fun p hp => ((HFM.out k).2 p hp).2) (fun p hp => ((HFM.out k).2 p hp).1.2.2.2.2) (fun x hx => by cases hx) (fun h0 _ => by rw [hgk] at h0 ⊢; exact gen_four h0 rfl))
      have HGK : Hid (e.gen k = genF [] (F k)) := Lib.hid hgk
      have HKW5 : Hid (Fine F → KeepW v w5) := Lib.hid (fun q => (HKW.out q).trans (KeepW.of B5))
      have HK5 : Hid (KeepE 0 w2 w5) := Lib.hid (HS.out.2.2.trans (KeepE.of 0 (KeepW.of B5)))
      obtain ⟨Y, hY⟩ : ∃ Y, mendF encK decK e k [] (F k) = Y := ⟨_, rfl⟩
      rw [hY] at HMD
      have HY : Hid (mendN encK decK [] F (knownE s2 [] F) (k + 1) = Y) := Lib.hid ((mendN_next HE.out).trans hY)
      have HV5 := Lib.hid hw5
      have HQ5 := Lib.hid hq5
      clear hw5 hq5 B5 hb5 has htl hpl hn2 hV hU hah hgk hpk hfit hM hY HS
      go_upto_region 15 with fail
      rw [HV5.out, HQ5.out]
      clear x0 x1 HV5
      go_wp2_with fail
      refine HMD.out.mono ?_
      rintro en w6 ⟨⟨u, rfl, W6, M6, K6, E6⟩, kw6⟩
      try dsimp only
      have HKW6 : Hid (Fine F → KeepW v w6) := Lib.hid (fun q => (HKW5.out q).trans (kw6 (by rw [HGK.out]; exact (q k hlt).imp id (fun r => ⟨(by first | trivial | rfl), r⟩))))
      clear kw6
      have HS6 : Hid (WL w0 w6 g nd1 Y.1.w ∧ (∃ B', CM w0 w6 g cb nd1 Y.1 A C c f o cap B') ∧ KeepE 0 w2 w6) := Lib.hid ⟨W6, M6, HK5.out.trans K6⟩
      clear W6 M6 K6 HMD y0 y1
      obtain ⟨e6, z6⟩ := Y
      cases z6 with
      | some z =>
       obtain ⟨tu, xu, rfl⟩ := OErrOf.iface E6
       have HE6 := Lib.hid E6
       clear E6
       have HXY : Hid (X = (e6.w, .inr z)) := Lib.hid (by
        have h40 := mendN_stay HY.out (40 - (k + 1))
        rw [show k + 1 + (40 - (k + 1)) = 40 by omega] at h40
        rw [HX2.out, h40]
        rfl)
       go_wp2_with fail
       go_ret2
       rw [HXY.out]
       exact ⟨⟨_, _, nd1, rfl, HK2.out.1.trans HS6.out.2.2, HND.out.2.2.1, HND.out.2.1, HS6.out.1, Or.inl ⟨z, rfl, rfl, HE6.out⟩⟩, fun q => HKW6.out (HQQ.out q)⟩
      | none =>
       obtain rfl : u = .nilIface := E6
       go_wp2_with fail
       go_roundg (40 - (k + 1))
       case measure => omega
       case rel => exact ⟨k + 1, e6, by go_num, by omega, rfl, HY, HS6, HKW6⟩
     ·obtain rfl : k = 40 := by omega
      have HXY : Hid (X = (e.w, .inl e)) := Lib.hid (by rw [HX2.out, HE.out]; rfl)
      obtain ⟨p, hp⟩ : ∃ p, wo.heap.size = p := ⟨_, rfl⟩
      obtain ⟨w5, hw5⟩ : ∃ w5, wo.alloc (.cells #[.pointer (some ⟨cb, 0, none⟩)] 75) = w5 := ⟨_, rfl⟩
      have HLE : Hid (LE w0 w5 g nd1 p w5.heap.size e ∧ KeepE 0 w2 w5 ∧ WL w0 w5 g nd1 e.w ∧ v.heap.size ≤ p) := Lib.hid (by
       obtain ⟨B', hM⟩ := HS.out.2.1
       have B5 : Below wo.heap.size wo w5 := by rw [← hw5]; exact (Below.refl _ _).alloc (Nat.le_refl _) _
       have hb5 : w5.heap[p]? = some (.cells #[.pointer (some ⟨cb, 0, none⟩)] 75 (0, 0)) := by rw [← hw5, ← hp]; exact alloc_block _ _
       have hs := HS.out.2.2.1
       have hz := HND.out.1
       have hv := HK2.out.2
       have h5 := B5.size
       exact ⟨⟨cb, A, C, c, f, o, cap, B', HS.out.1.below B5, hM.below B5, hb5, heap_lt hb5, by omega, Nat.le_refl _, by have := HW0.out; omega⟩, HS.out.2.2.trans (KeepE.of 0 (KeepW.of B5)), HS.out.1.below B5, by omega⟩)
      have HKW5 : Hid (Fine F → KeepW v w5) := Lib.hid (fun q => (HKW.out q).trans (KeepW.of (by rw [← hw5]; exact (Below.refl _ _).alloc (Nat.le_refl _) _)))
      have HV5 := Lib.hid hw5
      have HP := Lib.hid hp
      clear hw5 hp HS
      go_wp2_with fail
      go_ret2
      rw [HXY.out, HV5.out, HP.out]
      exact ⟨⟨_, _, nd1, rfl, HK2.out.1.trans HLE.out.2.1, HND.out.2.2.1, HND.out.2.1, HLE.out.2.2.1, Or.inr ⟨e, p, rfl, rfl, rfl, HLE.out.2.2.2, HLE.out.1⟩⟩, fun q => HKW5.out (HQQ.out q)⟩
end
end Go.Proofs.YtobkmohoepgfmaaGreatDoor
namespace Go.Proofs.YtobkmohoepgfmaaGreatDoor.Pk
open Go.RowKit Go.Sort

abbrev It := Int × Int

end Go.Proofs.YtobkmohoepgfmaaGreatDoor.Pk
namespace Go.Proofs.YtobkmohoepgfmaaGreatDoor.Pk
set_option maxRecDepth 100000
open Go.RowKit Go.Sort

def enc (x : It) : List Value := [.int .i64 x.1, .int .i64 x.2]
def at' (l : List It) (i : Nat) : It := l.getD i (0, 0)
abbrev I64 (x : Int) : Prop := -9223372036854775808 ≤ x ∧ x ≤ 9223372036854775807
def Wf (x : It) : Prop := I64 x.1 ∧ I64 x.2
def ltIt (x y : It) : Bool := decide (x.2 < y.2 ∨ x.2 = y.2 ∧ x.1 < y.1)

structure Row (w : World) (g cap : Nat) (l : List It) : Prop where
 block : ∃ cur, w.heap[g]? = some (.cells cur 49 (0, 0)) ∧ cur.size = cap * 2
 cap : l.length ≤ cap
 id : ∀ i, i < l.length → w.cell? ⟨g, i * 2, none⟩ = some (.int .i64 (at' l i).1)
 key : ∀ i, i < l.length → w.cell? ⟨g, i * 2 + 1, none⟩ = some (.int .i64 (at' l i).2)

theorem below_drewN (n : Nat) (w : World) : Below w.heap.size w (w.drewN n) := ⟨rfl, rfl, rfl, Nat.le_refl _, fun _ _ => rfl⟩
theorem set_block {w : World} {g : Nat} {cur : Array Value} {t : TypeId} {fr : Nat × Nat} (h : w.heap[g]? = some (.cells cur t fr)) (o : Nat) (v : Value) : (w.setCell ⟨g, o, none⟩ v).heap[g]? = some (.cells (cur.setIfInBounds o v) t fr) := by
 simp only [World.setCell, Array.getElem?_modify, h]
 simp

structure Turn (S : List Nat) (w w' : World) : Prop where
 os : w'.os = w.os
 tape : w'.tape = w.tape
 output : w'.output = w.output
 size : w.heap.size ≤ w'.heap.size
 block : ∀ k, k < w.heap.size → k ∉ S → w'.heap[k]? = w.heap[k]?

theorem Turn.refl (S : List Nat) (w : World) : Turn S w w := ⟨rfl, rfl, rfl, Nat.le_refl _, fun _ _ _ => rfl⟩
theorem Turn.trans {S : List Nat} {a b c : World} (h : Turn S a b) (k : Turn S b c) : Turn S a c :=
 ⟨k.os.trans h.os, k.tape.trans h.tape, k.output.trans h.output, Nat.le_trans h.size k.size, fun i hi hc => (k.block i (Nat.lt_of_lt_of_le hi h.size) hc).trans (h.block i hi hc)⟩
theorem Turn.mono {S S' : List Nat} {a b : World} (h : Turn S a b) (hs : ∀ k ∈ S, k ∈ S') : Turn S' a b := ⟨h.os, h.tape, h.output, h.size, fun k hk hn => h.block k hk (fun hm => hn (hs k hm))⟩
theorem Turn.set (S : List Nat) (w : World) (p : Addr) (v : Value) (hp : p.block ∈ S) : Turn S w (w.setCell p v) :=
 ⟨rfl, rfl, rfl, by simp, fun k _ hk => Below.heap_setCell _ _ _ _ (fun e => hk (e ▸ hp))⟩
theorem Turn.drew (S : List Nat) (w : World) : Turn S w w.drew := ⟨rfl, rfl, rfl, Nat.le_refl _, fun _ _ _ => rfl⟩
theorem Turn.of {S : List Nat} {w w' : World} (h : Below w.heap.size w w') : Turn S w w' := ⟨h.os, h.tape, h.output, h.size, fun k hk _ => h.block k hk⟩

abbrev key (k : Int) : Lit := .int .i64 k
abbrev num (n : Int) : DataW Unit := .lit (.int .i64 n)

structure Idx (D : DataW Unit) (l : List It) : Prop where
 tidy : Maps.Tidy D
 size : Maps.size D = l.length
 has : ∀ i, i < l.length → Maps.has D (key (at' l i).1) = true
 val : ∀ i, i < l.length → D.atKey (key (at' l i).1) (num 0) = num i
 back : ∀ k, Maps.has D (key k) = true → ∃ i, i < l.length ∧ (at' l i).1 = k

def Dist (l : List It) : Prop := ∀ i j, i < l.length → j < l.length → (at' l i).1 = (at' l j).1 → i = j

def OwnsI (w : World) (mb : Nat) (D : DataW Unit) : Prop := w.ownsMap Tryz.prog 3 (plainElem Tryz.prog 3) mb (Maps.size D) D

end Go.Proofs.YtobkmohoepgfmaaGreatDoor.Pk
namespace Go.Proofs.YtobkmohoepgfmaaGreatDoor.Pk
open Go.RowKit Go.Sort

structure Raw (w : World) (hb g mb cap : Nat) (l : List It) : Prop where
 head : w.heap[hb]? = some (.cells #[.slice (some ⟨g, 0, none⟩) l.length cap, .map (some mb)] 127 (0, 0))
 row : Row w g cap l
 idx : ∃ D, OwnsI w mb D ∧ Idx D l
 wf : ∀ x ∈ l, Wf x
 dist : Dist l
 short : l.length ≤ 1000
 caps : cap ≤ maxLen
 apart : hb ≠ g ∧ hb ≠ mb ∧ g ≠ mb

end Go.Proofs.YtobkmohoepgfmaaGreatDoor.Pk
namespace Go.Proofs.YtobkmohoepgfmaaGreatDoor.Pk

def le (x y : It) : Prop := ltIt y x = false

theorem le_iff (x y : It) : le x y ↔ x.2 < y.2 ∨ (x.2 = y.2 ∧ x.1 ≤ y.1) := by
 unfold le ltIt
 rw [decide_eq_false_iff_not]
 omega
theorem lt_iff (x y : It) : ltIt x y = true ↔ x.2 < y.2 ∨ (x.2 = y.2 ∧ x.1 < y.1) := by
 unfold ltIt
 rw [decide_eq_true_iff]
theorem le_refl (x : It) : le x x := by rw [le_iff]; omega
theorem le_trans {x y z : It} (h : le x y) (k : le y z) : le x z := by rw [le_iff] at *; omega
theorem le_of_lt {x y : It} (h : ltIt x y = true) : le x y := by rw [lt_iff] at h; rw [le_iff]; omega
def par (k : Nat) : Nat := (k - 1) / 2

def Sib (l : List It) (n i : Nat) : Prop := ∀ k, 0 < k → k < n → par k = i → 0 < i → le (at' l (par i)) (at' l k)
def Q (l : List It) (n i : Nat) : Prop := (∀ k, 0 < k → k < n → k ≠ i → par k ≠ i → le (at' l (par k)) (at' l k)) ∧ Sib l n i
def Heapy (l : List It) (n : Nat) : Prop := ∀ k, 0 < k → k < n → le (at' l (par k)) (at' l k)

end Go.Proofs.YtobkmohoepgfmaaGreatDoor.Pk
namespace Go.Proofs.YtobkmohoepgfmaaGreatDoor.Pk
open Go.RowKit Go.Sort

end Go.Proofs.YtobkmohoepgfmaaGreatDoor.Pk
namespace Go.Proofs.YtobkmohoepgfmaaGreatDoor.Pk
open Go.RowKit Go.Sort

end Go.Proofs.YtobkmohoepgfmaaGreatDoor.Pk
namespace Go.Proofs.YtobkmohoepgfmaaGreatDoor.Pk
open Go.RowKit Go.Sort

theorem Turn.alloc (S : List Nat) (w : World) (o : Obj) : Turn S w (w.alloc o) := Turn.of ((Below.refl _ _).alloc (Nat.le_refl _) _)

end Go.Proofs.YtobkmohoepgfmaaGreatDoor.Pk
namespace Go.Proofs.YtobkmohoepgfmaaGreatDoor.Pk
open Go.RowKit Go.Sort

def flat (l : List It) : List Value := l.flatMap enc

end Go.Proofs.YtobkmohoepgfmaaGreatDoor.Pk
namespace Go.Proofs.YtobkmohoepgfmaaGreatDoor.Pk
open Go.RowKit Go.Sort

end Go.Proofs.YtobkmohoepgfmaaGreatDoor.Pk
namespace Go.Proofs.YtobkmohoepgfmaaGreatDoor.Pk
open Go.RowKit Go.Sort

theorem Turn.fresh {S : List Nat} {w w2 w3 : World} {S' : List Nat} (h : Turn S w w2) (t : Turn S' w2 w3) (hs : ∀ k ∈ S', k ∈ S ∨ w.heap.size ≤ k) : Turn S w w3 :=
 ⟨t.os.trans h.os, t.tape.trans h.tape, t.output.trans h.output, Nat.le_trans h.size t.size, fun k hk hn => (t.block k (Nat.lt_of_lt_of_le hk h.size) (fun e => by rcases hs k e with a | a; exact hn a; omega)).trans (h.block k hk hn)⟩

end Go.Proofs.YtobkmohoepgfmaaGreatDoor.Pk
namespace Go.Proofs.YtobkmohoepgfmaaGreatDoor.Pk
open Go.RowKit Go.Sort

def Srt (S : List It) : Prop := S.Pairwise (fun x y => ltIt x y = true)
def IsHeap (w : World) (hb : Nat) (F : List Nat) (S : List It) : Prop :=
 (w.heap[hb]? = some (.cells #[.slice none 0 0, .map none] 127 (0, 0)) ∧ S = [] ∧ F = [hb]) ∨
 ∃ g mb cap l, Raw w hb g mb cap l ∧ Heapy l l.length ∧ l.Perm S ∧ Srt S ∧ F = [hb, g, mb]

structure Step (F F' : List Nat) (w w' : World) : Prop where
 turn : Turn F w w'
 blocks : ∀ k ∈ F', k ∈ F ∨ w.heap.size ≤ k

end Go.Proofs.YtobkmohoepgfmaaGreatDoor.Pk
namespace Go.Proofs.YtobkmohoepgfmaaGreatDoor.Pk
open Go.RowKit Go.Sort

theorem new8 (w : World) : Calls Tryz.prog 29 #[] w fun e w' => e = .returned (.pointer (some ⟨w.heap.size, 0, none⟩)) ∧ IsHeap w' w.heap.size [w.heap.size] [] ∧ Below w.heap.size w w' := by
 go_enter Tryz.func29, Tryz.ntmps29
 go_wp2
 go_ret
 refine ⟨rfl, Or.inl ⟨?_, rfl, rfl⟩, (Below.refl _ _).alloc (Nat.le_refl _) _⟩
 show (w.heap.push _)[w.heap.size]? = _
 rw [Array.getElem?_push, if_pos rfl]

def hd (S : List It) : It × Bool := match S with | [] => ((0, 0), false) | x :: _ => (x, true)

theorem Step.trans {F G H : List Nat} {a b c : World} (h : Step F G a b) (k : Step G H b c) : Step F H a c :=
 ⟨h.turn.fresh k.turn h.blocks, fun x hx => by
  rcases k.blocks x hx with y | y
  ·exact h.blocks x y
  ·exact Or.inr (Nat.le_trans h.turn.size y)⟩
end Go.Proofs.YtobkmohoepgfmaaGreatDoor.Pk
namespace Go.Proofs.YtobkmohoepgfmaaGreatDoor
open Go.RowKit Go.Sort
set_option maxRecDepth 100000
set_option maxHeartbeats 8000000

section
variable {w0 v : World} {g p lim : Nat} {nd : ND} {e : Ep}
end
end Go.Proofs.YtobkmohoepgfmaaGreatDoor
namespace Go.Proofs.YtobkmohoepgfmaaGreatDoor
open Go.RowKit Go.Sort
set_option maxRecDepth 100000
set_option maxHeartbeats 2000000

end Go.Proofs.YtobkmohoepgfmaaGreatDoor
namespace Go.Proofs.YtobkmohoepgfmaaGreatDoor
open Go.RowKit Go.Sort
set_option maxRecDepth 100000
set_option maxHeartbeats 1000000

end Go.Proofs.YtobkmohoepgfmaaGreatDoor
namespace Go.Proofs.YtobkmohoepgfmaaGreatDoor
open Go.RowKit Go.Sort
set_option maxRecDepth 100000
set_option maxHeartbeats 2000000

theorem Blk8.keepE {lim : Nat} {w w' : World} {g n : Nat} {F : Nat → Nat} (h : Blk8 w g n F) (k : KeepE lim w w') : Blk8 w' g n F := by
 obtain ⟨cs, hb, hc⟩ := h
 exact ⟨cs, (k.cells hb (notWi (by decide) (by decide) (by decide) (by decide) (by decide) (by decide) (by decide)) (by decide)).trans hb, hc⟩
end Go.Proofs.YtobkmohoepgfmaaGreatDoor
namespace Go.Proofs.YtobkmohoepgfmaaGreatDoor.Kc
open Go.RowKit Go.Sort
set_option maxRecDepth 100000
set_option maxHeartbeats 2000000

end Go.Proofs.YtobkmohoepgfmaaGreatDoor.Kc
