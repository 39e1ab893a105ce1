import Derived.Test.YtajpnbmfeapmcaaK5
namespace Go.Proofs.Ytajpnbmfeapmcaa
open Go.RowKit Go.Sort
set_option maxRecDepth 100000
set_option maxHeartbeats 2000000

def lenOf (xss : List (List Nat)) (i : Nat) : Nat := ((xss[i]?).getD []).length
/-- The first four (by their index) of those before i that are not empty. -/
def pres (xss : List (List Nat)) (i : Nat) : List Nat := ((List.range i).filter (fun l => decide (lenOf xss l ≠ 0))).take 4
theorem filter_next (xss : List (List Nat)) (i : Nat) : (List.range (i + 1)).filter (fun l => decide (lenOf xss l ≠ 0)) = (List.range i).filter (fun l => decide (lenOf xss l ≠ 0)) ++ (if lenOf xss i ≠ 0 then [i] else []) := by
  rw [List.range_succ, List.filter_append]
  congr 1
  by_cases h : lenOf xss i ≠ 0
  · rw [if_pos h]; simp [h]
  · rw [if_neg h]; simp at h; simp [h]
theorem pres_skip {xss : List (List Nat)} {i : Nat} (h : lenOf xss i = 0) : pres xss (i + 1) = pres xss i := by
  unfold pres; rw [filter_next, if_neg (fun hn => hn h), List.append_nil]
theorem pres_full {xss : List (List Nat)} {i : Nat} (h : ¬ (pres xss i).length < 4) : pres xss (i + 1) = pres xss i := by
  unfold pres at *
  rw [filter_next, List.take_append_of_le_length (by rw [List.length_take] at h; omega)]
theorem pres_add {xss : List (List Nat)} {i : Nat} (h0 : lenOf xss i ≠ 0) (h : (pres xss i).length < 4) : pres xss (i + 1) = pres xss i ++ [i] := by
  unfold pres at *
  have hl : ((List.range i).filter (fun l => decide (lenOf xss l ≠ 0))).length < 4 := by rw [List.length_take] at h; omega
  rw [filter_next, if_pos h0, List.take_of_length_le (l := (List.range i).filter _) (by omega), List.take_of_length_le (by rw [List.length_append, List.length_singleton]; omega)]
theorem pres_len (xss : List (List Nat)) (i : Nat) : (pres xss i).length ≤ 4 := by unfold pres; rw [List.length_take]; omega
theorem pres_pre (xss : List (List Nat)) (i d : Nat) : pres xss i <+: pres xss (i + d) := by
  induction d with
  | zero => exact List.prefix_refl _
  | succ d ih =>
    by_cases h0 : lenOf xss (i + d) = 0
    · rw [← Nat.add_assoc, pres_skip h0]; exact ih
    · by_cases h : (pres xss (i + d)).length < 4
      · rw [← Nat.add_assoc, pres_add h0 h]; exact ih.trans (List.prefix_append _ _)
      · rw [← Nat.add_assoc, pres_full h]; exact ih
theorem pres_at {xss : List (List Nat)} {i : Nat} (hi : i < 6) (h0 : lenOf xss i ≠ 0) (h : (pres xss i).length < 4) : (pres xss 6)[(pres xss i).length]? = some i := by
  have hp := pres_pre xss (i + 1) (6 - (i + 1))
  rw [show i + 1 + (6 - (i + 1)) = 6 by omega, pres_add h0 h] at hp
  obtain ⟨r, hr⟩ := hp
  rw [← hr, List.append_assoc, List.getElem?_append_right (Nat.le_refl _), Nat.sub_self]
  rfl
theorem pres_lt {xss : List (List Nat)} {i l : Nat} (h : l ∈ pres xss i) : l < i ∧ lenOf xss l ≠ 0 := by
  have := List.mem_of_mem_take h
  simpa using this
theorem pres_sorted (xss : List (List Nat)) (i : Nat) : (pres xss i).Pairwise (· < ·) := by
  unfold pres
  exact (List.pairwise_lt_range.filter _).sublist (List.take_sublist _ _)
/-- Four rows of the code. -/
def fm (F : List Nat) : Mx := fun i j => gr (F.getD i 0) j
theorem fm_bd (F : List Nat) (r c : Nat) : Bd r c (fm F) := fun i _ j hj => gr_bd (F.getD i 0 + 1) c _ (Nat.lt_succ_self _) j hj
theorem fm_det {F : List Nat} (hl : F.length = 4) (hs : F.Pairwise (· < ·)) (h6 : ∀ l ∈ F, l < 6) : det 4 (fm F) ≠ 0 := by
  match F, hl with
  | [a, b, c, d], _ =>
    simp at hs
    have hd := h6 d (by simp)
    have e : EqM 4 4 (fm [a, b, c, d]) (four a b c d) := fun i hi j _ => by
      unfold fm four sel
      match i, hi with
      | 0, _ => rfl
      | 1, _ => rfl
      | 2, _ => rfl
      | 3, _ => rfl
    rw [det_congr e]
    exact four_det hs.1.1 hs.2.1.1 hs.2.2 hd
end Go.Proofs.Ytajpnbmfeapmcaa
