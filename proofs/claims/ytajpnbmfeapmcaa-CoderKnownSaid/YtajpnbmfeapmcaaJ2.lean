import Derived.Test.YtajpnbmfeapmcaaJ1
namespace Go.Proofs.Ytajpnbmfeapmcaa
open Go.RowKit Go.Sort
set_option maxRecDepth 100000
set_option maxHeartbeats 4000000

def cnt (row i : Nat) : Nat := if row < i then i - 1 else i
def WoRet (n : Nat) (M : Mx) (w : World) (e : Ending) (w' : World) : Prop := ∃ o' cap', e = .returned (.slice o' n cap') ∧ RawC w' o' n M ∧ Below w.heap.size w w'
theorem rwithout (o : Option Addr) (ca n row col : Nat) (A : Mx) (w : World) (h : RawC w o n A) (hrow : row < n) (hcol : col < n) (hn : n ≤ 64) :
    Calls Try.prog 56 #[.slice o n ca, .int .i64 (row : Int), .int .i64 (col : Int)] w (WoRet (n - 1) (wo A row col) w) := by
  obtain ⟨i0, hi0, hz0, hz1, hz2⟩ := info_parts infoRow
  obtain ⟨j0, hj0, jz0, jz1, jz2⟩ := info_parts infoByte
  have HI := Lib.hid h
  obtain ⟨ab, ao, _, _, _, rfl, hab, _⟩ := h 0 (by omega)
  clear h
  obtain ⟨B, hB⟩ : ∃ B, w.heap.size = B := ⟨_, rfl⟩
  have HB := Lib.hid hB
  rw [hB] at hab
  clear hB
  have H0 : Hid (∃ G C, RowsK w B (.slice none 0 0) (cnt row 0) (n - 1) G C (wo A row col) ∧ (∀ i, i < cnt row 0 → n - 1 ≤ C i) ∧ Below B w w) := Lib.hid ⟨fun _ => 0, fun _ => 0, by
    have : cnt row 0 = 0 := by unfold cnt; split <;> rfl
    rw [this]
    exact ⟨RowsK.start _ _ _ _ _ _, fun i hi => absurd hi (Nat.not_lt_zero _), Below.refl _ _⟩⟩
  go_enter Try.func56, Try.ntmps56
  go_wp2_with fail
  go_loopg [7, 8] n (fun q s7 s8 v => ∃ i : Nat, s8 = .int .i64 (i : Int) ∧ i ≤ n ∧ q = n - i ∧ Hid (∃ G C, RowsK v B s7 (cnt row i) (n - 1) G C (wo A row col) ∧ (∀ l, l < cnt row i → n - 1 ≤ C l) ∧ Below B w v))
  case atStart => exact ⟨0, rfl, by omega, rfl, H0⟩
  case round =>
    obtain ⟨i, rfl, hi, rfl, HS⟩ := hrel
    clear H0
    by_cases hlt : i < n
    · have hl : (i : Int) < (n : Int) := by omega
      by_cases hir : i = row
      · have t1 : ((i : Int) != (row : Int)) = false := by rw [bne_eq_false_iff_eq]; omega
        have HC : Hid (cnt row (i + 1) = cnt row i) := Lib.hid (by unfold cnt; rw [if_pos (by omega), if_neg (by omega)]; omega)
        clear hir
        go_wp2_with fail
        go_roundg (n - (i + 1))
        case measure => omega
        case rel => exact ⟨i + 1, by go_num, by omega, rfl, Lib.hid (by rw [HC.out]; exact HS.out)⟩
      · have t1 : ((i : Int) != (row : Int)) = true := by rw [bne_iff_ne]; omega
        have HC : Hid (cnt row (i + 1) = cnt row i + 1 ∧ skip row (cnt row i) = i ∧ cnt row i < n) := Lib.hid (by
          unfold cnt skip
          by_cases h1 : row < i
          · rw [if_pos (by omega), if_pos h1, if_neg (by omega)]; omega
          · rw [if_neg (by omega), if_neg h1, if_pos (by omega)]; omega)
        clear hir
        obtain ⟨k, hk⟩ : ∃ k, cnt row i = k := ⟨_, rfl⟩
        rw [hk] at HS HC
        clear hk
        obtain ⟨G, C, hs, hsc, hsb⟩ := HS.out
        obtain ⟨xs, hxs, hxg⟩ := hs.own
        obtain ⟨ab', ao', g, q, cap, e, _, hg, c1, hcap, hv⟩ := HI.out i hlt
        cases e
        rw [HB.out] at hg
        have hsz : B ≤ wr.heap.size := by rw [← HB.out]; exact hsb.size
        have c1' := (hsb.cell (p := ⟨ab, ao + i, none⟩) hab).trans c1
        have HV : Hid (∀ j, j < n → wr.cell? ⟨g, q + j, none⟩ = some (.int .u8 (A i j : Nat))) := Lib.hid (fun j hj => (hsb.cell (p := ⟨g, q + j, none⟩) hg).trans (hv j hj))
        have HRS := Lib.hid hs
        have HRC := Lib.hid hsc
        have HRB := Lib.hid hsb
        have HX := Lib.hid hxs
        have HXG := Lib.hid hxg
        have HC1 := Lib.hid c1
        clear HS hs hsc hsb hxs hxg c1 hv
        have HW0 : Hid (((wr.alloc (.cells #[] 5)).drew).heap[wr.heap.size]? = some (.cells #[] 5 (0, 0)) ∧ Below wr.heap.size wr ((wr.alloc (.cells #[] 5)).drew)) := Lib.hid ⟨alloc_block wr _, ((Below.refl _ _).alloc (Nat.le_refl _) _).drew⟩
        have hgw : g < wr.heap.size := by omega
        have haw : ab < wr.heap.size := by omega
        have n1 : (0 : Int) ≤ (i : Int) := by omega
        have n2 : (col : Int) < (n : Int) := by omega
        have n3 : (col : Int) ≤ (cap : Int) := by omega
        have n4 : (0 : Int) ≤ (col : Int) := by omega
        have n5 : IntKind.i64.wrap ((col : Int) + 1) = (col : Int) + 1 := IntWalk.i64_in _ (by omega)
        have n6 : (0 : Int) ≤ (col : Int) + 1 := by omega
        have n7 : ((col : Int) + 1).toNat = col + 1 := by omega
        have n8 : (col : Int) + 1 ≤ (n : Int) := by omega
        have n9 : (n : Int) ≤ (cap : Int) := by omega
        by_cases hcc : cap = col + 1
        · have hnc : n = col + 1 := by omega
          have HNC := Lib.hid hnc
          clear hnc
          subst hcc
          have n11 : (col : Int) ≤ (col : Int) + 1 := by omega
          have n12 : col ≤ col + 1 := by omega
          have n13 : ¬ (col : Int) + 1 < (col : Int) := by omega
          have n14 : ¬ col + 1 < col := by omega
          go_wp2_with fail
          go_region_held3 (fun w' => w'.cell? ⟨ab, ao + i, none⟩ = some (.slice (some ⟨g, q, none⟩) n (col + 1)))
            (first | go_keep | assumption)
            (first | ((refine step_append_any _ (by rfl) (.tmp 19) (.tmp 25) 29 (by rfl) wr.heap.size 5 j0 (.int .u8 0) 1 1 Try.underlying29 hj0 jz0 jz1 jz2 rfl (by decide) wr.heap.size 0 0 [] (by rfl) (own_empty HW0.out.1 (Nat.le_refl _)) ⟨g, q, none⟩ col (col + 1) (cutL (A i) 0 col) (by rfl) (by rw [cutL_len, Nat.mul_one]) (cutL_cells (a := 0) (n := n) (fun j hj => (HW0.out.2.cell (p := ⟨g, q + j, none⟩) hgw).trans (HV.out j hj)) (by omega)) cutL_one (by unfold maxLen; omega) (by omega) HW0.out.2.size ?_; intro g26 cap26 w26 own26 gr26 hg26 hl26; rw [List.nil_append] at own26; have HB26 : Hid (Below wr.heap.size wr w26 ∧ wr.heap.size ≤ g26) := Lib.hid ⟨Below.of_only HW0.out.2 gr26 (Nat.le_refl _) HW0.out.2.size, by rcases hg26 with h | h <;> (have := HW0.out.2.size; omega)⟩; have h26 : w26.cell? ⟨ab, ao + i, none⟩ = some (.slice (some ⟨g, q, none⟩) n (col + 1)) := (HB26.out.1.cell (p := ⟨ab, ao + i, none⟩) haw).trans c1'; have HO26 := Lib.hid own26; clear own26 gr26 hg26 hl26)) | ((refine step_append_any _ (by rfl) (.tmp 26) (.tmp 33) 29 (by rfl) wr.heap.size 5 j0 (.int .u8 0) 1 1 Try.underlying29 hj0 jz0 jz1 jz2 rfl (by decide) g26 (0 + col) cap26 (cutL (A i) 0 col) (by rfl) HO26.out ⟨g, q, none⟩ 0 _ (cutL (A i) 0 0) (by rfl) (by rw [cutL_len, Nat.mul_one]) (fun j u hu => (by rw [cutL_none] at hu; simp at hu)) cutL_one (by unfold maxLen; omega) (by omega) HB26.out.1.size ?_; intro g34 cap34 w34 own34 gr34 hg34 hl34; have HB34 : Hid (Below wr.heap.size wr w34 ∧ wr.heap.size ≤ g34) := Lib.hid ⟨Below.of_only HB26.out.1 gr34 HB26.out.2 HB26.out.1.size, by rcases hg34 with h | h <;> (have := HB26.out.1.size; have := HB26.out.2; omega)⟩; have h34 : w34.cell? ⟨ab, ao + i, none⟩ = some (.slice (some ⟨g, q, none⟩) n (col + 1)) := (HB34.out.1.cell (p := ⟨ab, ao + i, none⟩) haw).trans c1'; have HO34 := Lib.hid own34; have HL34 := Lib.hid hl34; clear own34 gr34 hg34 hl34)) | ((refine step_append_lies _ (by rfl) (.tmp 18) (.tmp 35) 25 (by rfl) B 29 i0 (.slice none 0 0) 1 24 Try.underlying25 hi0 hz0 hz1 hz2 rfl (by decide) u7 k xs (by rfl) (own_keep HX.out (HB34.out.1.alloc HB34.out.1.size _)) ⟨w34.heap.size, 0, none⟩ 1 1 [.slice (some ⟨g34, 0, none⟩) col cap34] (by rfl) (by rfl) (cell_one_new _ _ _) (by intro u hu; simp at hu; subst hu; rfl) (by decide) (by unfold maxLen; have := HC.out; omega) (by have := HC.out; omega) (by have := HB34.out.1.size; simp; omega) (w34.heap.size + 1) (by simp) ?_; intro g36 cap36 w36 own36 gr36 hg36 hl36; have HB36 : Hid (Below wr.heap.size wr (w34.alloc (.cells #[.slice (some ⟨g34, 0, none⟩) col cap34] 29))) := Lib.hid (HB34.out.1.alloc HB34.out.1.size _); have HW36 : Hid (Below B w w36) := Lib.hid (Below.grown (HRB.out.trans (HB36.out.mono hsz)) gr36 (by have := HB36.out.size; omega) (fun k hk => (HX.out.lt k hk).1)); have h36 : w36.cell? ⟨ab, ao + i, none⟩ = some (.slice (some ⟨g, q, none⟩) n (col + 1)) := (HW36.out.cell (p := ⟨ab, ao + i, none⟩) hab).trans HC1.out)) | fail)
          all_goals
            have HN : Hid (∃ G C, RowsK w36 B (.slice (some ⟨g36, 0, none⟩) (k + 1) cap36) (k + 1) (n - 1) G C (wo A row col) ∧ (∀ l, l < k + 1 → n - 1 ≤ C l) ∧ Below B w w36) := by
              have o34 := HO34.out
              have hcn : 0 + col + 0 = n - 1 := by omega
              have hcn2 : col = n - 1 := by omega
              have o36 := own36
              rw [hcn] at o34
              rw [show (Value.slice (some ⟨g34, 0, none⟩) col cap34) = .slice (some ⟨g34, 0, none⟩) (n - 1) cap34 from by rw [hcn2]] at o36
              have hcapx := own_cap o34
              have hrow8 : Row8 w34 g34 (n - 1) (wo A row col k) := own_row8 o34 (fun j hj => by
                unfold wo
                rw [HC.out.2.1]
                by_cases h : j < col
                · rw [List.getElem?_append_left (by rw [cutL_len]; exact h), cutL_get h, Nat.zero_add]
                  unfold skip; rw [if_pos h]
                · rw [List.getElem?_append_right (by rw [cutL_len]; omega), cutL_len]
                  omega)
              refine Lib.hid ⟨_, _, (HRS.out.keep HB36.out).add (own_keep HX.out HB36.out) HXG.out (hrow8.keep (alloc_old w34 _ HL34.out)) (by have := HB34.out.2; omega) (by have := HL34.out; simp; omega) (fun e => by have := (HX.out.lt g34 e).2; have := HB34.out.2; omega) o36 gr36 (by
                rcases hg36 with h | h
                · left; rw [h]; rfl
                · right; exact ⟨g36, rfl, by rw [h]; simp⟩), fun l hl => ?_, HW36.out⟩
              by_cases e : l = k
              · rw [if_pos e]; exact hcapx
              · rw [if_neg e]; exact HRC.out l (by omega)
            clear own36 gr36 hg36 hl36
            go_wp2_with fail
            go_roundg (n - (i + 1))
            case measure => omega
            case rel => exact ⟨i + 1, by go_num, by omega, rfl, Lib.hid (by rw [HC.out.1]; exact HN.out)⟩
        · have n10 : ¬ col + 1 = cap := fun e => hcc e.symm
          go_wp2_with fail
          go_region_held3 (fun w' => w'.cell? ⟨ab, ao + i, none⟩ = some (.slice (some ⟨g, q, none⟩) n cap))
            (first | go_keep | assumption)
            (first | ((refine step_append_any _ (by rfl) (.tmp 19) (.tmp 25) 29 (by rfl) wr.heap.size 5 j0 (.int .u8 0) 1 1 Try.underlying29 hj0 jz0 jz1 jz2 rfl (by decide) wr.heap.size 0 0 [] (by rfl) (own_empty HW0.out.1 (Nat.le_refl _)) ⟨g, q, none⟩ col cap (cutL (A i) 0 col) (by rfl) (by rw [cutL_len, Nat.mul_one]) (cutL_cells (a := 0) (n := n) (fun j hj => (HW0.out.2.cell (p := ⟨g, q + j, none⟩) hgw).trans (HV.out j hj)) (by omega)) cutL_one (by unfold maxLen; omega) (by omega) HW0.out.2.size ?_; intro g26 cap26 w26 own26 gr26 hg26 hl26; rw [List.nil_append] at own26; have HB26 : Hid (Below wr.heap.size wr w26 ∧ wr.heap.size ≤ g26) := Lib.hid ⟨Below.of_only HW0.out.2 gr26 (Nat.le_refl _) HW0.out.2.size, by rcases hg26 with h | h <;> (have := HW0.out.2.size; omega)⟩; have h26 : w26.cell? ⟨ab, ao + i, none⟩ = some (.slice (some ⟨g, q, none⟩) n cap) := (HB26.out.1.cell (p := ⟨ab, ao + i, none⟩) haw).trans c1'; have HO26 := Lib.hid own26; clear own26 gr26 hg26 hl26)) | ((refine step_append_any _ (by rfl) (.tmp 26) (.tmp 33) 29 (by rfl) wr.heap.size 5 j0 (.int .u8 0) 1 1 Try.underlying29 hj0 jz0 jz1 jz2 rfl (by decide) g26 (0 + col) cap26 (cutL (A i) 0 col) (by rfl) HO26.out ⟨g, q + (col + 1), none⟩ (n - (col + 1)) _ (cutL (A i) (col + 1) (n - (col + 1))) (by rfl) (by rw [cutL_len, Nat.mul_one]) (cutL_cells (n := n) (fun j hj => (HB26.out.1.cell (p := ⟨g, q + j, none⟩) hgw).trans (HV.out j hj)) (by omega)) cutL_one (by unfold maxLen; omega) (by omega) HB26.out.1.size ?_; intro g34 cap34 w34 own34 gr34 hg34 hl34; have HB34 : Hid (Below wr.heap.size wr w34 ∧ wr.heap.size ≤ g34) := Lib.hid ⟨Below.of_only HB26.out.1 gr34 HB26.out.2 HB26.out.1.size, by rcases hg34 with h | h <;> (have := HB26.out.1.size; have := HB26.out.2; omega)⟩; have h34 : w34.cell? ⟨ab, ao + i, none⟩ = some (.slice (some ⟨g, q, none⟩) n cap) := (HB34.out.1.cell (p := ⟨ab, ao + i, none⟩) haw).trans c1'; have HO34 := Lib.hid own34; have HL34 := Lib.hid hl34; clear own34 gr34 hg34 hl34)) | ((refine step_append_lies _ (by rfl) (.tmp 18) (.tmp 35) 25 (by rfl) B 29 i0 (.slice none 0 0) 1 24 Try.underlying25 hi0 hz0 hz1 hz2 rfl (by decide) u7 k xs (by rfl) (own_keep HX.out (HB34.out.1.alloc HB34.out.1.size _)) ⟨w34.heap.size, 0, none⟩ 1 1 [.slice (some ⟨g34, 0, none⟩) (col + (n - (col + 1))) cap34] (by rfl) (by rfl) (cell_one_new _ _ _) (by intro u hu; simp at hu; subst hu; rfl) (by decide) (by unfold maxLen; have := HC.out; omega) (by have := HC.out; omega) (by have := HB34.out.1.size; simp; omega) (w34.heap.size + 1) (by simp) ?_; intro g36 cap36 w36 own36 gr36 hg36 hl36; have HB36 : Hid (Below wr.heap.size wr (w34.alloc (.cells #[.slice (some ⟨g34, 0, none⟩) (col + (n - (col + 1))) cap34] 29))) := Lib.hid (HB34.out.1.alloc HB34.out.1.size _); have HW36 : Hid (Below B w w36) := Lib.hid (Below.grown (HRB.out.trans (HB36.out.mono hsz)) gr36 (by have := HB36.out.size; omega) (fun k hk => (HX.out.lt k hk).1)); have h36 : w36.cell? ⟨ab, ao + i, none⟩ = some (.slice (some ⟨g, q, none⟩) n cap) := (HW36.out.cell (p := ⟨ab, ao + i, none⟩) hab).trans HC1.out)) | fail)
          all_goals
            have HN : Hid (∃ G C, RowsK w36 B (.slice (some ⟨g36, 0, none⟩) (k + 1) cap36) (k + 1) (n - 1) G C (wo A row col) ∧ (∀ l, l < k + 1 → n - 1 ≤ C l) ∧ Below B w w36) := by
              have o34 := HO34.out
              have hcn : 0 + col + (n - (col + 1)) = n - 1 := by omega
              have hcn2 : col + (n - (col + 1)) = n - 1 := by omega
              have o36 := own36
              rw [hcn] at o34
              rw [hcn2] at o36
              have hcapx := own_cap o34
              have hrow8 : Row8 w34 g34 (n - 1) (wo A row col k) := own_row8 o34 (fun j hj => by
                unfold wo
                rw [HC.out.2.1]
                by_cases h : j < col
                · rw [List.getElem?_append_left (by rw [cutL_len]; exact h), cutL_get h, Nat.zero_add]
                  unfold skip; rw [if_pos h]
                · rw [List.getElem?_append_right (by rw [cutL_len]; omega), cutL_len]
                  rw [cutL_get (by omega)]
                  unfold skip
                  rw [if_neg h, show col + 1 + (j - col) = j + 1 by omega])
              refine Lib.hid ⟨_, _, (HRS.out.keep HB36.out).add (own_keep HX.out HB36.out) HXG.out (hrow8.keep (alloc_old w34 _ HL34.out)) (by have := HB34.out.2; omega) (by have := HL34.out; simp; omega) (fun e => by have := (HX.out.lt g34 e).2; have := HB34.out.2; omega) o36 gr36 (by
                rcases hg36 with h | h
                · left; rw [h]; rfl
                · right; exact ⟨g36, rfl, by rw [h]; simp⟩), fun l hl => ?_, HW36.out⟩
              by_cases e : l = k
              · rw [if_pos e]; exact hcapx
              · rw [if_neg e]; exact HRC.out l (by omega)
            clear own36 gr36 hg36 hl36
            go_wp2_with fail
            go_roundg (n - (i + 1))
            case measure => omega
            case rel => exact ⟨i + 1, by go_num, by omega, rfl, Lib.hid (by rw [HC.out.1]; exact HN.out)⟩
    · have hge : ¬ (i : Int) < (n : Int) := by omega
      have HE : Hid (∃ o' cap', u7 = .slice o' (n - 1 : Nat) cap' ∧ RawC wr o' (n - 1) (wo A row col) ∧ Below B w wr) := by
        obtain ⟨G, C, hs, hsc, hsb⟩ := HS.out
        have hc : cnt row i = n - 1 := by unfold cnt; split <;> omega
        rw [hc] at hs hsc
        obtain ⟨o, cap, rfl, hr⟩ := hs.mat hsc
        exact Lib.hid ⟨o, cap, rfl, hr, hsb⟩
      clear HS
      obtain ⟨o', cap', e, h1, h2⟩ := HE.out
      have HF := Lib.hid (And.intro h1 h2)
      subst e
      clear h1 h2 HE
      go_wp2_with fail
      go_ret
      exact ⟨o', cap', rfl, HF.out.1, by rw [HB.out]; exact HF.out.2⟩
end Go.Proofs.Ytajpnbmfeapmcaa
