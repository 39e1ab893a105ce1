import Derived.Test.YtofmilkjhnkgjaaGreatW38
import Derived.Deep.RegionHeldLaw
import Derived.BigQuiet
namespace Go.Proofs.YtofmilkjhnkgjaaGreat
open Go.RowKit Go.Sort
set_option maxRecDepth 100000
set_option maxHeartbeats 4000000

def LvSt (w : World) (X : Nat → Sx) (k : Nat) (s3 : Value) (v : World) : Prop := ∃ l a cap, s3 = .slice a l.length cap ∧ SlR v a cap l ∧ SoN l ∧ l.Perm (lv X k) ∧ Below w.heap.size w v
theorem lv_yes {X : Nat → Sx} {k : Nat} (h : (X k).no ≠ 0) : lv X (k + 1) = lv X k ++ [X k] := by
  show lv X k ++ (if (X k).no = 0 then [] else [X k]) = _
  rw [if_neg h]
theorem lv_no {X : Nat → Sx} {k : Nat} (h : (X k).no = 0) : lv X (k + 1) = lv X k := by
  show lv X k ++ (if (X k).no = 0 then [] else [X k]) = _
  rw [if_pos h, List.append_nil]
def RLiveRet2 (X : Nat → Sx) (w : World) (e : Ending) (w' : World) : Prop := ∃ v L, e = .returned v ∧ LI w' w.heap.size v (L.map Sx.it) ∧ L.Perm (lv X 16) ∧ SoN L ∧ Below w.heap.size w w'
theorem rlive {w : World} {b p next : Nat} {X : Nat → Sx} (h : RRg w b p next X) (hok : ∀ k, k < 16 → SxOk w (X k)) :
    Calls Tryz.prog 47 #[.pointer (some ⟨b, 0, none⟩)] w (RLiveRet2 X w) := by
  have HR := Lib.hid h
  have HOK := Lib.hid hok
  have HV0 : Hid (LvSt w X 0 (.slice none 0 0) w) := Lib.hid ⟨[], none, 0, rfl, ⟨rfl, Or.inl ⟨rfl, rfl⟩⟩, List.Pairwise.nil, List.Perm.refl _, Below.refl _ _⟩
  clear h hok
  go_enter Tryz.func47, Tryz.ntmps47
  go_wp2_with fail
  go_loopg [3, 4] 16 (fun q s3 s4 v => ∃ k : Nat, s4 = .int .i64 (k : Int) ∧ k ≤ 16 ∧ q = 16 - k ∧ Hid (LvSt w X k s3 v))
  case atStart => exact ⟨0, rfl, by omega, rfl, HV0⟩
  case round =>
    obtain ⟨k, rfl, hk, rfl, HV⟩ := hrel
    clear HV0
    obtain ⟨l, a, cap, rfl, hs, hso, hpm, hbl⟩ := HV.out
    have HS := Lib.hid hs
    have HSO := Lib.hid hso
    have HPM := Lib.hid hpm
    have HBL := Lib.hid hbl
    have HRr := Lib.hid (HR.out.below hbl)
    obtain ⟨n, hn⟩ : ∃ n, l.length = n := ⟨_, rfl⟩
    have hn16 : n ≤ 16 := by rw [← hn, hpm.length_eq]; exact Nat.le_trans (lv_len X k) hk
    have HN := Lib.hid hn
    rw [hn]
    clear hs hso hpm hbl HV hn
    by_cases hlt : k < 16
    · have hl : (k : Int) < 16 := by omega
      have hl0 : (0 : Int) ≤ (k : Int) := by omega
      have hwk : IntKind.i64.wrap ((k : Int) + 1) = ((k + 1 : Nat) : Int) := by rw [IntWalk.i64_in _ (by omega)]; omega
      obtain ⟨x0, x1, x2, x3⟩ := HRr.out.cell hlt
      obtain ⟨x, hx⟩ : ∃ x, X k = x := ⟨_, rfl⟩
      have HX := Lib.hid hx
      rw [hx] at x0 x1 x2 x3
      clear hx
      by_cases h0 : x.no = 0
      · have e0 : ((x.no : Int) == 0) = true := beq_iff_eq.2 (by omega)
        have e0n : (x.no == 0) = true := beq_iff_eq.2 h0
        have HLV : Hid (LvSt w X (k + 1) (.slice a n cap) wr) := Lib.hid ⟨l, a, cap, by rw [HN.out], HS.out, HSO.out, by rw [lv_no (by rw [HX.out]; exact h0)]; exact HPM.out, HBL.out⟩
        clear h0
        go_wp2_with fail
        go_roundg (16 - (k + 1))
        case measure => omega
        case rel => exact ⟨k + 1, rfl, by omega, rfl, HLV⟩
      · have e0 : ((x.no : Int) == 0) = false := beq_eq_false_iff_ne.2 (by omega)
        have e0n : (x.no == 0) = false := beq_eq_false_iff_ne.2 h0
        have HN0 := Lib.hid h0
        clear h0
        go_upto_block 2 with fail
        obtain ⟨wo, hwo⟩ : ∃ wo, wo = wr := ⟨_, rfl⟩
        subst hwo
        go_cut [5] from 22 to 41 (fun s5 wx => ∃ m : Nat, s5 = .int .i64 (m : Int) ∧ m ≤ n ∧ Hid ((∀ i y, m ≤ i → l[i]? = some y → x.no < y.no) ∧ (m = 0 ∨ ∃ y, l[m - 1]? = some y ∧ y.no ≤ x.no) ∧ Below wo.heap.size wo wx))
        case first =>

          go_wp2_with fail
          go_loopg [5] (n + 1) (fun q s5 v => ∃ m : Nat, s5 = .int .i64 (m : Int) ∧ m ≤ n ∧ q = m + 1 ∧ Hid ((∀ i y, m ≤ i → l[i]? = some y → x.no < y.no) ∧ Below wo.heap.size wo v))
          case atStart => exact ⟨n, rfl, Nat.le_refl _, rfl, Lib.hid ⟨fun i y hi e => by
            have := (List.getElem?_eq_some_iff.1 e).1
            rw [HN.out] at this
            omega, Below.refl _ _⟩⟩
          case round =>
            obtain ⟨m, rfl, hmn, rfl, HM⟩ := hrel
            rcases m with _ | j
            · go_wp2_with fail
              go_big_quiet (fail)
              go_wp2_with fail
              go_meet
              exact ⟨0, rfl, Nat.zero_le _, Lib.hid ⟨HM.out.1, Or.inl rfl, HM.out.2.trans ((below_drewN _ _).mono HM.out.2.size)⟩⟩
            · obtain ⟨m, hm⟩ : ∃ m, j + 1 = m := ⟨_, rfl⟩
              have HMJ := Lib.hid hm
              rw [hm] at hmn HM ⊢
              obtain ⟨y, hy⟩ : ∃ y, l[j]? = some y := ⟨_, List.getElem?_eq_getElem (by rw [HN.out]; omega)⟩
              have HY := Lib.hid hy
              rcases HS.out.form with ⟨_, hle, _⟩ | ⟨q, hq⟩
              · exfalso
                rw [hle] at hy
                simp at hy
              · subst hq
                obtain ⟨y0, _, _, _⟩ := (HS.out.keep HM.out.2).at_ hy
                have HRi := HRr.out.below HM.out.2
                obtain ⟨x0', _, _, _⟩ := HRi.cell hlt
                rw [HX.out] at x0'
                have hwj : IntKind.i64.wrap ((m : Int) - 1) = (j : Int) := by rw [IntWalk.i64_in _ (by omega)]; omega
                have hm0 : (0 : Int) < (m : Int) := by omega
                have hm1 : decide ((0 : Int) < (m : Int)) = true := decide_eq_true hm0
                have hm2 : decide (0 < m) = true := decide_eq_true (by omega)
                have hjn : (j : Int) < (n : Int) := by omega
                have hj0 : (0 : Int) ≤ (j : Int) := by omega
                have hjn2 : j < n := by omega
                clear hy hm HRi x0 x1 x2 x3
                by_cases hc : x.no < y.no
                · have hc1 : (x.no : Int) < (y.no : Int) := by omega
                  have hc2 : decide ((x.no : Int) < (y.no : Int)) = true := decide_eq_true hc1
                  have hc3 : decide (x.no < y.no) = true := decide_eq_true hc
                  have HM2 : Hid ((∀ i z, j ≤ i → l[i]? = some z → x.no < z.no)) := Lib.hid (fun i z hi e => by
                    by_cases ei : i = j
                    · subst ei; rw [HY.out] at e; cases e; exact hc
                    · exact HM.out.1 i z (by have := HMJ.out; omega) e)
                  go_wp2_with fail
                  go_big_quiet (fail)
                  go_wp2_with fail
                  go_roundg (j + 1)
                  case measure => omega
                  case rel => exact ⟨j, rfl, by omega, rfl, Lib.hid ⟨HM2.out, HM.out.2.trans ((below_drewN _ _).mono HM.out.2.size)⟩⟩
                · have hc1 : ¬ (x.no : Int) < (y.no : Int) := by omega
                  have hc2 : decide ((x.no : Int) < (y.no : Int)) = false := decide_eq_false hc1
                  have hc3 : decide (x.no < y.no) = false := decide_eq_false hc
                  go_wp2_with fail
                  go_big_quiet (fail)
                  go_wp2_with fail
                  go_meet
                  exact ⟨m, rfl, hmn, Lib.hid ⟨HM.out.1, Or.inr ⟨y, by rw [← HMJ.out]; exact HY.out, by omega⟩, HM.out.2.trans ((below_drewN _ _).mono HM.out.2.size)⟩⟩
        case rest =>
          obtain ⟨m, rfl, hmn, HC⟩ := hcut
          have HBW := Lib.hid HC.out.2.2
          have HSc := Lib.hid (HS.out.keep HBW.out)
          have HRc := Lib.hid (HRr.out.below HBW.out)
          have HLN := Lib.hid (slV_split l m (by rw [HN.out]; exact hmn))
          have HTL : Hid ((slV (l.take m)).length = m * 4) := Lib.hid (by rw [slV_len, List.length_take, HN.out]; omega)
          have HDL : Hid ((slV (l.drop m)).length = (n - m) * 4) := Lib.hid (by rw [slV_len, List.length_drop, HN.out])
          obtain ⟨nm, hnm⟩ : ∃ nm, n - m = nm := ⟨_, rfl⟩
          rw [hnm] at HDL
          have HNM := Lib.hid hnm
          have HFIN : Hid (∀ g c W, W.ownsRow 0 97 4 (.slice (some ⟨g, 0, none⟩) (m + 1 + nm) c) (m + 1 + nm) ((slV (l.take m) ++ [.int .i64 (x.no : Int), .int .i64 (x.s : Int), .int .i64 (x.g : Int), .slice x.A x.n x.c]) ++ slV (l.drop m)) → Below wc.heap.size wc W → LvSt w X (k + 1) (.slice (some ⟨g, 0, none⟩) (m + 1 + nm) c) W) := Lib.hid (fun g c W ho hb => by
            have hil : (insS l m x).length = m + 1 + nm := by rw [insS_len, HN.out]; omega
            have hv : slV (insS l m x) = (slV (l.take m) ++ [.int .i64 (x.no : Int), .int .i64 (x.s : Int), .int .i64 (x.g : Int), .slice x.A x.n x.c]) ++ slV (l.drop m) := by
              unfold insS
              rw [slV_append]
              show slV (l.take m) ++ ([.int .i64 (x.no : Int), .int .i64 (x.s : Int), .int .i64 (x.g : Int), .slice x.A x.n x.c] ++ slV (l.drop m)) = _
              rw [List.append_assoc]
            refine ⟨insS l m x, some ⟨g, 0, none⟩, c, by rw [hil], ?_, insS_so HSO.out (by rw [HN.out]; exact hmn) HC.out.1 HC.out.2.1, ?_, ?_⟩
            · unfold SlR
              rw [hil, hv]
              exact ho
            · rw [lv_yes (by rw [HX.out]; exact HN0.out), HX.out]
              exact (insS_perm l m x).trans (List.Perm.append_right _ HPM.out)
            · have h1 := HBL.out.trans (HBW.out.mono HBL.out.size)
              exact h1.trans (hb.mono h1.size))
          obtain ⟨i0, hi0, hz0, hz1, hz2⟩ := info_parts infoSlot7
          have HSX : Hid (∀ W, Below wc.heap.size wc W → W.cell? ⟨b, 1 + k * 4, none⟩ = some (.int .i64 (x.no : Int)) ∧ W.cell? ⟨b, 1 + k * 4 + 1, none⟩ = some (.int .i64 (x.s : Int)) ∧ W.cell? ⟨b, 1 + k * 4 + 2, none⟩ = some (.int .i64 (x.g : Int)) ∧ W.cell? ⟨b, 1 + k * 4 + 3, none⟩ = some (.slice x.A x.n x.c)) := Lib.hid (fun W hW => by
            have := (HRc.out.below hW).cell hlt
            rw [HX.out] at this
            exact this)
          have BD : Hid (Below wc.heap.size wc wc.drew) := Lib.hid (below_drewN 1 wc)
          have E1 : Hid ((wc.alloc (.cells #[] 97)).drew.heap[wc.heap.size]? = some (.cells #[] 97 (0, 0))) := Lib.hid (alloc_block _ _)
          have E2 : Hid (((wc.alloc (.cells #[] 97)).alloc (.cells #[.int .i64 (x.no : Int), .int .i64 (x.s : Int), .int .i64 (x.g : Int), .slice x.A x.n x.c] 97)).drew.heap[wc.heap.size]? = some (.cells #[] 97 (0, 0))) := Lib.hid ((alloc_old _ _ (by simp)).trans (alloc_block _ _))
          have C2 : Hid (((wc.alloc (.cells #[] 97)).alloc (.cells #[.int .i64 (x.no : Int), .int .i64 (x.s : Int), .int .i64 (x.g : Int), .slice x.A x.n x.c] 97)).drew.heap[wc.heap.size + 1]? = some (.cells #[.int .i64 (x.no : Int), .int .i64 (x.s : Int), .int .i64 (x.g : Int), .slice x.A x.n x.c] 97 (0, 0))) := Lib.hid (by have := alloc_block (wc.alloc (.cells #[] 97)) (.cells #[.int .i64 (x.no : Int), .int .i64 (x.s : Int), .int .i64 (x.g : Int), .slice x.A x.n x.c] 97); rw [alloc_size] at this; exact this)
          have E3 : Hid (((wc.alloc (.cells #[.int .i64 (x.no : Int), .int .i64 (x.s : Int), .int .i64 (x.g : Int), .slice x.A x.n x.c] 97)).alloc (.cells #[] 97)).drew.heap[wc.heap.size + 1]? = some (.cells #[] 97 (0, 0))) := Lib.hid (by have := alloc_block (wc.alloc (.cells #[.int .i64 (x.no : Int), .int .i64 (x.s : Int), .int .i64 (x.g : Int), .slice x.A x.n x.c] 97)) (.cells #[] 97); rw [alloc_size] at this; exact this)
          have C3 : Hid (((wc.alloc (.cells #[.int .i64 (x.no : Int), .int .i64 (x.s : Int), .int .i64 (x.g : Int), .slice x.A x.n x.c] 97)).alloc (.cells #[] 97)).drew.heap[wc.heap.size]? = some (.cells #[.int .i64 (x.no : Int), .int .i64 (x.s : Int), .int .i64 (x.g : Int), .slice x.A x.n x.c] 97 (0, 0))) := Lib.hid ((alloc_old _ _ (by simp)).trans (alloc_block _ _))
          have B1 : Hid (Below wc.heap.size wc ((wc.alloc (.cells #[] 97)).drew)) := Lib.hid ((Below.refl _ _).alloc (Nat.le_refl _) _).drew
          have B2 : Hid (Below wc.heap.size wc (((wc.alloc (.cells #[] 97)).alloc (.cells #[.int .i64 (x.no : Int), .int .i64 (x.s : Int), .int .i64 (x.g : Int), .slice x.A x.n x.c] 97)).drew)) := Lib.hid (((Below.refl _ _).alloc (Nat.le_refl _) _).alloc (by simp) _).drew
          have B3 : Hid (Below wc.heap.size wc (((wc.alloc (.cells #[.int .i64 (x.no : Int), .int .i64 (x.s : Int), .int .i64 (x.g : Int), .slice x.A x.n x.c] 97)).alloc (.cells #[] 97)).drew)) := Lib.hid (((Below.refl _ _).alloc (Nat.le_refl _) _).alloc (by simp) _).drew
          have B4 : Hid (Below wc.heap.size wc ((wc.alloc (.cells #[.int .i64 (x.no : Int), .int .i64 (x.s : Int), .int .i64 (x.g : Int), .slice x.A x.n x.c] 97)).drew)) := Lib.hid ((Below.refl _ _).alloc (Nat.le_refl _) _).drew
          clear HBW HRc HS HRr x0 x1 x2 x3 hnm
          rcases HSc.out.form with ⟨ha, hle, hcp⟩ | ⟨q, hq⟩
          · subst ha
            have hn0 : n = 0 := by rw [← HN.out, hle]; rfl
            subst hn0
            subst hcp
            obtain rfl : m = 0 := by omega
            subst hle
            obtain rfl : nm = 0 := by have := HNM.out; omega
            go_upto_region 9 with fail
            go_region_held_law (fun W => W.cell? ⟨b, 1 + k * 4, none⟩ = some (.int .i64 (x.no : Int)) ∧ W.cell? ⟨b, 1 + k * 4 + 1, none⟩ = some (.int .i64 (x.s : Int)) ∧ W.cell? ⟨b, 1 + k * 4 + 2, none⟩ = some (.int .i64 (x.g : Int)) ∧ W.cell? ⟨b, 1 + k * 4 + 3, none⟩ = some (.slice x.A x.n x.c))
              (first | (with_reducible assumption) | (with_reducible exact HSX.out _ BD.out) | (with_reducible exact HSX.out _ B1.out) | (with_reducible exact HSX.out _ B2.out) | (with_reducible exact HSX.out _ B3.out) | (with_reducible exact HSX.out _ B4.out) | (with_reducible exact HSX.out _ HB7.out) | (with_reducible exact HSX.out _ HB6.out) | (with_reducible exact HSX.out _ HB5.out) | (with_reducible exact HSX.out _ (HB5.out.alloc HB5.out.size _)))
              (first
                | (refine step_append_all _ rfl (.tmp 42) (.tmp 45) 134 rfl 0 97 i0 (.agg #[.int .i64 0, .int .i64 0, .int .i64 0, .slice none 0 0]) 4 48 Tryz.underlying134 hi0 hz0 hz1 hz2 rfl (by decide) _ 0 0 [] rfl (by first | exact own_none0 E1.out | exact own_none0 E2.out | exact own_none0 E3.out) none 0 0 [] rfl (fun _ => ⟨rfl, rfl⟩) rfl (fun _ _ _ h => by cases h) (by first | exact slV_one _ | (intro u hu; cases hu)) (by unfold maxLen; omega) (by omega) (Nat.zero_le _) ?_; intro g5 cap5 w5 own5 gr5 y5 l5; simp only [Nat.zero_add, List.nil_append] at own5; simp only [Nat.zero_add]; have hB5 : Below wc.heap.size wc w5 := (by first | exact Below.grown B1.out gr5 B1.out.size (fun i hi => by cases hi; omega) | exact Below.grown B2.out gr5 B2.out.size (fun i hi => by cases hi; omega) | exact Below.grown B3.out gr5 B3.out.size (fun i hi => by cases hi; omega)); have hg5 : wc.heap.size ≤ g5 := (by rcases y5 with h | h <;> (rw [h]; (try simp) <;> (try omega))); have HG5 := Lib.hid hg5; have HB5 := Lib.hid hB5; have HO5 := Lib.hid own5; clear hB5 own5 y5 hg5)
                | (refine step_append_all _ rfl (.tmp 46) (.tmp 53) 134 rfl 0 97 i0 (.agg #[.int .i64 0, .int .i64 0, .int .i64 0, .slice none 0 0]) 4 48 Tryz.underlying134 hi0 hz0 hz1 hz2 rfl (by decide) g5 0 cap5 [] rfl (by first | exact HO5.out | exact HO5.out.alloc _) _ 1 1 [.int .i64 (x.no : Int), .int .i64 (x.s : Int), .int .i64 (x.g : Int), .slice x.A x.n x.c] rfl (fun h => by cases h) rfl (by first | exact news_some (alloc_block w5 _) rfl | exact news_some ((gr5.block (wc.heap.size + 1) (by simp) (by simp)).trans C2.out) rfl | exact news_some ((gr5.block wc.heap.size (by simp; omega) (by simp)).trans C3.out) rfl) (by intro u hu; simp at hu; rcases hu with rfl | rfl | rfl | rfl <;> rfl) (by unfold maxLen; omega) (by omega) (Nat.zero_le _) ?_; intro g6 cap6 w6 own6 gr6 y6 l6; have hB6 : Below wc.heap.size wc w6 := (by first | exact Below.grown HB5.out gr6 HB5.out.size (fun i hi => by cases hi; exact HG5.out) | exact Below.grown (HB5.out.alloc HB5.out.size _) gr6 (by have := HB5.out.size; simp; omega) (fun i hi => by cases hi; exact HG5.out)); have hg6 : wc.heap.size ≤ g6 := (by have := HB5.out.size; have := HG5.out; rcases y6 with h | h <;> (rw [h]; (try simp); (try omega))); have HG6 := Lib.hid hg6; have HB6 := Lib.hid hB6; have HO6 := Lib.hid own6; clear hB6 gr6 own6 y6 gr5 hg6)
                | (refine step_append_all _ rfl (.tmp 54) (.tmp 57) 134 rfl 0 97 i0 (.agg #[.int .i64 0, .int .i64 0, .int .i64 0, .slice none 0 0]) 4 48 Tryz.underlying134 hi0 hz0 hz1 hz2 rfl (by decide) g6 (0 + 1) cap6 ([] ++ [.int .i64 (x.no : Int), .int .i64 (x.s : Int), .int .i64 (x.g : Int), .slice x.A x.n x.c]) rfl HO6.out none 0 0 [] rfl (fun _ => ⟨rfl, rfl⟩) rfl (fun _ _ _ h => by cases h) (by first | exact slV_one _ | (intro u hu; cases hu)) (by unfold maxLen; omega) (by omega) (Nat.zero_le _) ?_; intro g7 cap7 w7 own7 gr7 y7 l7; have hB7 : Below wc.heap.size wc w7 := Below.grown HB6.out gr7 HB6.out.size (fun i hi => by cases hi; exact HG6.out); have HB7 := Lib.hid hB7; have HO7 := Lib.hid own7; clear hB7 gr7 own7 y7)
                | fail)
            all_goals
              have HLV := Lib.hid (HFIN.out g7 cap7 w7 (by simpa [slV] using HO7.out) HB7.out)
              go_wp2_with fail
              go_roundg (16 - (k + 1))
              case measure => omega
              case rel => exact ⟨k + 1, rfl, by omega, rfl, HLV⟩
          · subst hq
            obtain ⟨hnc, hql, hqc⟩ := HSc.out.some_
            rw [HN.out] at hnc
            have HCQ1 : Hid (∀ W, Below wc.heap.size wc W → ∀ j u, (slV (l.take m))[j]? = some u → W.cell? ⟨q, j, none⟩ = some u) := Lib.hid (fun W hW j u hu => by
              rw [HLN.out.1, List.getElem?_take] at hu
              split at hu
              · exact (hW.cell (p := ⟨q, j, none⟩) hql).trans (hqc j u hu)
              · cases hu)
            have HCQ3 : Hid (∀ W, Below wc.heap.size wc W → ∀ j u, (slV (l.drop m))[j]? = some u → W.cell? ⟨q, m * 4 + j, none⟩ = some u) := Lib.hid (fun W hW j u hu => by
              rw [HLN.out.2, List.getElem?_drop] at hu
              exact (hW.cell (p := ⟨q, m * 4 + j, none⟩) hql).trans (hqc _ u hu))
            have s1 : (m : Int) ≤ (cap : Int) := by omega
            have s2 : (m : Int) ≤ (n : Int) := by omega
            have s3 : (n : Int) ≤ (cap : Int) := by omega
            have s4 : (0 : Int) ≤ (m : Int) := by omega
            have s5 : ((n : Int) - (m : Int)).toNat = nm := by have := HNM.out; omega
            have s6 : n - m = nm := HNM.out
            have hmn16 : m ≤ 16 := by omega
            have hnm16 : nm ≤ 16 := by have := HNM.out; omega
            clear hql hqc
            by_cases hcm : cap = m
            · have HD0 : Hid (slV (l.drop m) = []) := Lib.hid (List.eq_nil_of_length_eq_zero (by rw [HDL.out]; have := HNM.out; omega))
              have hcm2 := hcm.symm
              clear hcm
              subst hcm2
              go_upto_region 9 with fail
              go_region_held_law (fun W => W.cell? ⟨b, 1 + k * 4, none⟩ = some (.int .i64 (x.no : Int)) ∧ W.cell? ⟨b, 1 + k * 4 + 1, none⟩ = some (.int .i64 (x.s : Int)) ∧ W.cell? ⟨b, 1 + k * 4 + 2, none⟩ = some (.int .i64 (x.g : Int)) ∧ W.cell? ⟨b, 1 + k * 4 + 3, none⟩ = some (.slice x.A x.n x.c))
                (first | (with_reducible assumption) | (with_reducible exact HSX.out _ BD.out) | (with_reducible exact HSX.out _ B1.out) | (with_reducible exact HSX.out _ B2.out) | (with_reducible exact HSX.out _ B3.out) | (with_reducible exact HSX.out _ B4.out) | (with_reducible exact HSX.out _ HB7.out) | (with_reducible exact HSX.out _ HB6.out) | (with_reducible exact HSX.out _ HB5.out) | (with_reducible exact HSX.out _ (HB5.out.alloc HB5.out.size _)))
                (first
                  | (refine step_append_all _ rfl (.tmp 42) (.tmp 45) 134 rfl 0 97 i0 (.agg #[.int .i64 0, .int .i64 0, .int .i64 0, .slice none 0 0]) 4 48 Tryz.underlying134 hi0 hz0 hz1 hz2 rfl (by decide) _ 0 0 [] rfl (by first | exact own_none0 E1.out | exact own_none0 E2.out | exact own_none0 E3.out) (some ⟨q, 0, none⟩) m _ (slV (l.take m)) rfl (fun h => by cases h) HTL.out (fun ad j u e hu => by cases e; rw [addr_add, Nat.zero_add]; exact HCQ1.out _ (by first | exact B1.out | exact B2.out | exact B3.out) j u hu) (by first | exact slV_one _ | (intro u hu; cases hu)) (by unfold maxLen; omega) (by omega) (Nat.zero_le _) ?_; intro g5 cap5 w5 own5 gr5 y5 l5; simp only [Nat.zero_add, List.nil_append] at own5; simp only [Nat.zero_add]; have hB5 : Below wc.heap.size wc w5 := (by first | exact Below.grown B1.out gr5 B1.out.size (fun i hi => by cases hi; omega) | exact Below.grown B2.out gr5 B2.out.size (fun i hi => by cases hi; omega) | exact Below.grown B3.out gr5 B3.out.size (fun i hi => by cases hi; omega)); have hg5 : wc.heap.size ≤ g5 := (by rcases y5 with h | h <;> (rw [h]; (try simp) <;> (try omega))); have HG5 := Lib.hid hg5; have HB5 := Lib.hid hB5; have HO5 := Lib.hid own5; clear hB5 own5 y5 hg5)
                  | (refine step_append_all _ rfl (.tmp 46) (.tmp 53) 134 rfl 0 97 i0 (.agg #[.int .i64 0, .int .i64 0, .int .i64 0, .slice none 0 0]) 4 48 Tryz.underlying134 hi0 hz0 hz1 hz2 rfl (by decide) g5 m cap5 (slV (l.take m)) rfl (by first | exact HO5.out | exact HO5.out.alloc _) _ 1 1 [.int .i64 (x.no : Int), .int .i64 (x.s : Int), .int .i64 (x.g : Int), .slice x.A x.n x.c] rfl (fun h => by cases h) rfl (by first | exact news_some (alloc_block w5 _) rfl | exact news_some ((gr5.block (wc.heap.size + 1) (by simp) (by simp)).trans C2.out) rfl | exact news_some ((gr5.block wc.heap.size (by simp; omega) (by simp)).trans C3.out) rfl) (by intro u hu; simp at hu; rcases hu with rfl | rfl | rfl | rfl <;> rfl) (by unfold maxLen; omega) (by omega) (Nat.zero_le _) ?_; intro g6 cap6 w6 own6 gr6 y6 l6; have hB6 : Below wc.heap.size wc w6 := (by first | exact Below.grown HB5.out gr6 HB5.out.size (fun i hi => by cases hi; exact HG5.out) | exact Below.grown (HB5.out.alloc HB5.out.size _) gr6 (by have := HB5.out.size; simp; omega) (fun i hi => by cases hi; exact HG5.out)); have hg6 : wc.heap.size ≤ g6 := (by have := HB5.out.size; have := HG5.out; rcases y6 with h | h <;> (rw [h]; (try simp); (try omega))); have HG6 := Lib.hid hg6; have HB6 := Lib.hid hB6; have HO6 := Lib.hid own6; clear hB6 gr6 own6 y6 gr5 hg6)
                  | (refine step_append_all _ rfl (.tmp 54) (.tmp 57) 134 rfl 0 97 i0 (.agg #[.int .i64 0, .int .i64 0, .int .i64 0, .slice none 0 0]) 4 48 Tryz.underlying134 hi0 hz0 hz1 hz2 rfl (by decide) g6 (m + 1) cap6 ((slV (l.take m)) ++ [.int .i64 (x.no : Int), .int .i64 (x.s : Int), .int .i64 (x.g : Int), .slice x.A x.n x.c]) rfl HO6.out (some ⟨q, 0, none⟩) nm _ (slV (l.drop m)) rfl (fun h => by cases h) HDL.out (fun ad j u e hu => by rw [HD0.out] at hu; simp at hu) (by first | exact slV_one _ | (intro u hu; cases hu)) (by unfold maxLen; omega) (by omega) (Nat.zero_le _) ?_; intro g7 cap7 w7 own7 gr7 y7 l7; have hB7 : Below wc.heap.size wc w7 := Below.grown HB6.out gr7 HB6.out.size (fun i hi => by cases hi; exact HG6.out); have HB7 := Lib.hid hB7; have HO7 := Lib.hid own7; clear hB7 gr7 own7 y7)
                  | fail)
              all_goals
                have HLV := Lib.hid (HFIN.out g7 cap7 w7 HO7.out HB7.out)
                go_wp2_with fail
                go_roundg (16 - (k + 1))
                case measure => omega
                case rel => exact ⟨k + 1, rfl, by omega, rfl, HLV⟩
            · have hcm2 : ¬ (cap : Int) = (m : Int) := by omega
              go_upto_region 9 with fail
              go_region_held_law (fun W => W.cell? ⟨b, 1 + k * 4, none⟩ = some (.int .i64 (x.no : Int)) ∧ W.cell? ⟨b, 1 + k * 4 + 1, none⟩ = some (.int .i64 (x.s : Int)) ∧ W.cell? ⟨b, 1 + k * 4 + 2, none⟩ = some (.int .i64 (x.g : Int)) ∧ W.cell? ⟨b, 1 + k * 4 + 3, none⟩ = some (.slice x.A x.n x.c))
                (first | (with_reducible assumption) | (with_reducible exact HSX.out _ BD.out) | (with_reducible exact HSX.out _ B1.out) | (with_reducible exact HSX.out _ B2.out) | (with_reducible exact HSX.out _ B3.out) | (with_reducible exact HSX.out _ B4.out) | (with_reducible exact HSX.out _ HB7.out) | (with_reducible exact HSX.out _ HB6.out) | (with_reducible exact HSX.out _ HB5.out) | (with_reducible exact HSX.out _ (HB5.out.alloc HB5.out.size _)))
                (first
                  | (refine step_append_all _ rfl (.tmp 42) (.tmp 45) 134 rfl 0 97 i0 (.agg #[.int .i64 0, .int .i64 0, .int .i64 0, .slice none 0 0]) 4 48 Tryz.underlying134 hi0 hz0 hz1 hz2 rfl (by decide) _ 0 0 [] rfl (by first | exact own_none0 E1.out | exact own_none0 E2.out | exact own_none0 E3.out) (some ⟨q, 0, none⟩) m _ (slV (l.take m)) rfl (fun h => by cases h) HTL.out (fun ad j u e hu => by cases e; rw [addr_add, Nat.zero_add]; exact HCQ1.out _ (by first | exact B1.out | exact B2.out | exact B3.out) j u hu) (by first | exact slV_one _ | (intro u hu; cases hu)) (by unfold maxLen; omega) (by omega) (Nat.zero_le _) ?_; intro g5 cap5 w5 own5 gr5 y5 l5; simp only [Nat.zero_add, List.nil_append] at own5; simp only [Nat.zero_add]; have hB5 : Below wc.heap.size wc w5 := (by first | exact Below.grown B1.out gr5 B1.out.size (fun i hi => by cases hi; omega) | exact Below.grown B2.out gr5 B2.out.size (fun i hi => by cases hi; omega) | exact Below.grown B3.out gr5 B3.out.size (fun i hi => by cases hi; omega)); have hg5 : wc.heap.size ≤ g5 := (by rcases y5 with h | h <;> (rw [h]; (try simp) <;> (try omega))); have HG5 := Lib.hid hg5; have HB5 := Lib.hid hB5; have HO5 := Lib.hid own5; clear hB5 own5 y5 hg5)
                  | (refine step_append_all _ rfl (.tmp 46) (.tmp 53) 134 rfl 0 97 i0 (.agg #[.int .i64 0, .int .i64 0, .int .i64 0, .slice none 0 0]) 4 48 Tryz.underlying134 hi0 hz0 hz1 hz2 rfl (by decide) g5 m cap5 (slV (l.take m)) rfl (by first | exact HO5.out | exact HO5.out.alloc _) _ 1 1 [.int .i64 (x.no : Int), .int .i64 (x.s : Int), .int .i64 (x.g : Int), .slice x.A x.n x.c] rfl (fun h => by cases h) rfl (by first | exact news_some (alloc_block w5 _) rfl | exact news_some ((gr5.block (wc.heap.size + 1) (by simp) (by simp)).trans C2.out) rfl | exact news_some ((gr5.block wc.heap.size (by simp; omega) (by simp)).trans C3.out) rfl) (by intro u hu; simp at hu; rcases hu with rfl | rfl | rfl | rfl <;> rfl) (by unfold maxLen; omega) (by omega) (Nat.zero_le _) ?_; intro g6 cap6 w6 own6 gr6 y6 l6; have hB6 : Below wc.heap.size wc w6 := (by first | exact Below.grown HB5.out gr6 HB5.out.size (fun i hi => by cases hi; exact HG5.out) | exact Below.grown (HB5.out.alloc HB5.out.size _) gr6 (by have := HB5.out.size; simp; omega) (fun i hi => by cases hi; exact HG5.out)); have hg6 : wc.heap.size ≤ g6 := (by have := HB5.out.size; have := HG5.out; rcases y6 with h | h <;> (rw [h]; (try simp); (try omega))); have HG6 := Lib.hid hg6; have HB6 := Lib.hid hB6; have HO6 := Lib.hid own6; clear hB6 gr6 own6 y6 gr5 hg6)
                  | (refine step_append_all _ rfl (.tmp 54) (.tmp 57) 134 rfl 0 97 i0 (.agg #[.int .i64 0, .int .i64 0, .int .i64 0, .slice none 0 0]) 4 48 Tryz.underlying134 hi0 hz0 hz1 hz2 rfl (by decide) g6 (m + 1) cap6 ((slV (l.take m)) ++ [.int .i64 (x.no : Int), .int .i64 (x.s : Int), .int .i64 (x.g : Int), .slice x.A x.n x.c]) rfl HO6.out (some ⟨q, m * 4, none⟩) nm _ (slV (l.drop m)) rfl (fun h => by cases h) HDL.out (fun ad j u e hu => by cases e; rw [addr_add]; exact HCQ3.out _ HB6.out j u hu) (by first | exact slV_one _ | (intro u hu; cases hu)) (by unfold maxLen; omega) (by omega) (Nat.zero_le _) ?_; intro g7 cap7 w7 own7 gr7 y7 l7; have hB7 : Below wc.heap.size wc w7 := Below.grown HB6.out gr7 HB6.out.size (fun i hi => by cases hi; exact HG6.out); have HB7 := Lib.hid hB7; have HO7 := Lib.hid own7; clear hB7 gr7 own7 y7)
                  | fail)
              all_goals
                have HLV := Lib.hid (HFIN.out g7 cap7 w7 HO7.out HB7.out)
                go_wp2_with fail
                go_roundg (16 - (k + 1))
                case measure => omega
                case rel => exact ⟨k + 1, rfl, by omega, rfl, HLV⟩
    · obtain rfl : k = 16 := by omega
      have hl : ¬ ((16 : Nat) : Int) < 16 := by omega
      obtain ⟨wo, hwo⟩ : ∃ wo, wo = wr := ⟨_, rfl⟩
      subst hwo
      have HOK3 : Hid (∀ y ∈ l, y.n = 128 ∧ DatI wo y.A y.D) := Lib.hid (fun y hy => by
        obtain ⟨i, hi, hno, rfl⟩ := lv_mem.1 (HPM.out.mem_iff.1 hy)
        obtain ⟨c1, c2, _⟩ := HOK.out i hi hno
        exact ⟨c1, c2.below HBL.out⟩)
      clear HOK HRr HR
      go_wp2_with fail
      go_loopg [6, 7] n (fun q s6 s7 v => ∃ i : Nat, s7 = .int .i64 (i : Int) ∧ i ≤ n ∧ q = n - i ∧ Hid (LI v wo.heap.size s6 ((l.take i).map Sx.it) ∧ Below wo.heap.size wo v))
      case atStart => exact ⟨0, rfl, by omega, rfl, Lib.hid ⟨LI.nil, Below.refl _ _⟩⟩
      case round =>
        obtain ⟨i, rfl, hi, rfl, HV⟩ := hrel
        by_cases hlt2 : i < n
        · have hl2 : (i : Int) < (n : Int) := by omega
          have hl0 : (0 : Int) ≤ (i : Int) := by omega
          have hwi : IntKind.i64.wrap ((i : Int) + 1) = ((i + 1 : Nat) : Int) := by rw [IntWalk.i64_in _ (by omega)]; omega
          obtain ⟨x, hx⟩ : ∃ x, l[i]? = some x := ⟨_, List.getElem?_eq_getElem (by rw [HN.out]; exact hlt2)⟩
          obtain ⟨hxn, hxd⟩ := HOK3.out x (List.mem_of_getElem? hx)
          rcases HS.out.form with ⟨_, hle, _⟩ | ⟨q, hq⟩
          · exfalso
            rw [hle] at hx
            simp at hx
          · subst hq
            obtain ⟨_, y1, y2, y3⟩ := (HS.out.keep HV.out.2).at_ hx
            rw [hxn] at y3
            have hlen : ((l.take i).map Sx.it).length = i := by
              rw [List.length_map, List.length_take, HN.out]; omega
            have HTK : Hid ((l.take (i + 1)).map Sx.it = (l.take i).map Sx.it ++ [x.it]) := Lib.hid (by
              rw [List.take_add_one, hx]
              simp)
            obtain ⟨v1, hv1⟩ : ∃ v1, wr.alloc (.cells #[.int .i64 (x.s : Int), .int .i64 (x.g : Int), .slice x.A 128 x.c] 78) = v1 := ⟨_, rfl⟩
            have HV1 := Lib.hid hv1
            have hb1 : Below wr.heap.size wr v1 := by rw [← hv1]; exact (Below.refl _ _).alloc (Nat.le_refl _) _
            have HB5 : Hid (Below wo.heap.size wo v1) := Lib.hid (HV.out.2.trans (hb1.mono HV.out.2.size))
            have HI7 : Hid (IV v1 wr.heap.size (x.it.s : Int) (x.it.g : Int) x.A 128 x.c) := Lib.hid (by rw [← hv1]; exact IV.new wr _ _ _ _ _)
            have HD7 : Hid (DatI v1 x.A x.it.D) := Lib.hid (hxd.below HB5.out)
            have HLI7 := Lib.hid (HV.out.1.below hb1)
            obtain ⟨l0, hl0'⟩ : ∃ l0, (l.take i).map Sx.it = l0 := ⟨_, rfl⟩
            rw [hl0'] at HLI7 HTK hlen
            have HLEN := Lib.hid hlen
            clear hx hxn hxd hv1 hb1 hl0' hlen HV
            obtain ⟨A4, c4, hu6⟩ := HLI7.out.form
            subst hu6
            rw [HLEN.out] at HLI7 ⊢
            go_wp2_with (rw [HV1.out]; at_builtin; refine append_it _ rfl (.tmp 65) (.tmp 71) rfl wo.heap.size (.slice A4 i c4) l0 x.it rfl HLI7.out wr.heap.size x.A x.c rfl HI7.out HD7.out (by rw [HLEN.out]; omega) HB5.out.size ?_; intro v' w' hl' hb' _; have HLE := Lib.hid hl'; have HBE := Lib.hid (hb' wo HB5.out); clear hl' hb')
            go_roundg (n - (i + 1))
            case measure => omega
            case rel => exact ⟨i + 1, by go_num, by omega, rfl, Lib.hid ⟨by rw [HTK.out]; exact HLE.out, HBE.out⟩⟩
        · obtain rfl : i = n := by omega
          have HE : Hid (LI wr wo.heap.size u6 (l.map Sx.it)) := Lib.hid (by
            have := HV.out.1
            rwa [List.take_of_length_le (by rw [HN.out]; exact Nat.le_refl _)] at this)
          have HBE := Lib.hid (HBL.out.trans (HV.out.2.mono HBL.out.size))
          go_wp2_with fail
          go_ret
          exact ⟨_, l, rfl, HE.out.mono HBL.out.size, HPM.out, HSO.out, HBE.out⟩
end Go.Proofs.YtofmilkjhnkgjaaGreat
