import Derived.Test.YtoofgcdilgfclaaU01
import Derived.Test.YtoofgcdilgfclaaU42
namespace Go.Proofs.Ytoofgcdilgfclaa
open Go.RowKit Go.Sort
set_option maxRecDepth 100000
set_option maxHeartbeats 1000000

theorem rfew (A : Option Addr) (n cap m k : Nat) (F : Nat → Nat) (w : World) (h : Rd w A n F) (hcap : n ≤ cap) (hn : k ≤ 140737488355328) (hm : m ≤ 9223372036854775807) (hk : k = min n m) :
    Calls Try.prog 19 #[.slice A n cap, .int .i64 (m : Int)] w (FewRet k F w) := by
  have HE := Lib.hid (own_empty (t := 5) (base := w.heap.size) (alloc_block w (.cells #[] 5)) (Nat.le_refl _))
  have HB : Hid (Below w.heap.size w (w.alloc (.cells #[] 5))) := Lib.hid ((Below.refl _ _).alloc (Nat.le_refl _) _)
  by_cases hmn : m < n
  · obtain rfl : k = m := by omega
    have HR := Lib.hid (h.less (Nat.le_of_lt hmn))
    have hc1 : (k : Int) ≤ (cap : Int) := by omega
    have hc3 : (0 : Int) ≤ (k : Int) := by omega
    clear h hk
    go_enter Try.func19, Try.ntmps19
    go_wp2_with (at_builtin; refine append_rd _ rfl _ _ 22 rfl Try.underlying22 w.heap.size (.slice (some ⟨w.heap.size, 0, none⟩) 0 0) 0 (fun _ => 0) rfl HE.out A k cap F rfl (HR.out.keep HB.out) (by omega) HB.out.size ?_; intro v' w' own gr _ hne; have HO := Lib.hid own; have HG := Lib.hid gr; have HN := Lib.hid hne; clear own gr hne)
    go_ret
    obtain ⟨g, cp, rfl, hg, hgl, hcp⟩ := own_some HO.out (HN.out (by simp))
    have ho := HO.out
    rw [Nat.zero_add] at ho hcp ⊢
    exact ⟨g, cp, rfl, by simpa using ho, Below.grown HB.out HG.out HB.out.size (fun k hk => by cases hk; exact Nat.le_refl _), hg, hgl, hcp⟩
  · obtain rfl : k = n := by omega
    have HR := Lib.hid h
    have hc1 : (k : Int) ≤ (cap : Int) := by omega
    have hc3 : (0 : Int) ≤ (k : Int) := by omega
    clear h hk
    go_enter Try.func19, Try.ntmps19
    go_wp2_with (at_builtin; refine append_rd _ rfl _ _ 22 rfl Try.underlying22 w.heap.size (.slice (some ⟨w.heap.size, 0, none⟩) 0 0) 0 (fun _ => 0) rfl HE.out A k cap F rfl (HR.out.keep HB.out) (by omega) HB.out.size ?_; intro v' w' own gr _ hne; have HO := Lib.hid own; have HG := Lib.hid gr; have HN := Lib.hid hne; clear own gr hne)
    go_ret
    obtain ⟨g, cp, rfl, hg, hgl, hcp⟩ := own_some HO.out (HN.out (by simp))
    have ho := HO.out
    rw [Nat.zero_add] at ho hcp ⊢
    exact ⟨g, cp, rfl, by simpa using ho, Below.grown HB.out HG.out HB.out.size (fun k hk => by cases hk; exact Nat.le_refl _), hg, hgl, hcp⟩
end Go.Proofs.Ytoofgcdilgfclaa
namespace Go.Proofs.Ytoofgcdilgfclaa
open Go.RowKit Go.Sort
set_option maxRecDepth 100000
set_option maxHeartbeats 2000000

/-! Requests in the laws. -/
/-- LayReq of any request. -/
def LayQ (q : Qx) (w : World) (e : Ending) (w' : World) : Prop :=
  (q.Right ∧ ∃ g c, e = .returned (.tuple #[.slice (some ⟨g, 0, none⟩) q.lay.length c, .int .i64 0]) ∧ BL w' (some ⟨g, 0, none⟩) q.lay ∧ q.lay.length ≤ c ∧ Below w.heap.size w w') ∨
  (¬ q.Right ∧ e = .returned (.tuple #[.slice none 0 0, .int .i64 1]) ∧ Below w.heap.size w w')
theorem layQ {w : World} {v : Value} {q : Qx} (h : QVal w v q) : Calls Try.prog 8 #[v] w (LayQ q w) := by
  obtain ⟨A, c, rfl, hb, _⟩ := h
  by_cases hr : q.Right
  · obtain ⟨k, s, g, i, D⟩ := q
    have hr' := hr
    obtain ⟨a1, a2, a3, a4, a5, a6, a7, a8, a9⟩ := hr
    dsimp only at a1 a2 a3 a4 a5 a6 a7 a8 a9 hb ⊢
    obtain ⟨k, rfl⟩ := Int.eq_ofNat_of_zero_le (show 0 ≤ k by omega)
    obtain ⟨s, rfl⟩ := Int.eq_ofNat_of_zero_le a3
    obtain ⟨g, rfl⟩ := Int.eq_ofNat_of_zero_le a5
    obtain ⟨i, rfl⟩ := Int.eq_ofNat_of_zero_le a7
    refine (clayReq k s g i D A c w ⟨a1, a2, a3, a4, a5, a6, a7, a8, a9⟩ hb).mono ?_
    rintro e w' ⟨g0, cap, rfl, hk, hbl, hc⟩
    have e : (⟨(k : Int), (s : Int), (g : Int), (i : Int), D⟩ : Qx).lay = byteL k 1 ++ (byteL s 2 ++ (byteL g 6 ++ (byteL i 1 ++ (byteL D.length 2 ++ D)))) := rfl
    rw [← e] at hk hc ⊢
    exact Or.inl ⟨hr', g0, cap, rfl, BL.blk hk rfl (fun _ _ => rfl), hc, hbl⟩
  · refine (clayReq_no q.k q.s q.g q.i A q.D.length c w (fun h => hr h)).mono ?_
    rintro e w' ⟨rfl, hbl⟩
    exact Or.inr ⟨hr, rfl, hbl⟩
/-- corbelhand.Req tells some request. -/
def ReqRet (w : World) (e : Ending) (w' : World) : Prop := ∃ v q, e = .returned v ∧ QVal w' v q ∧ Below w.heap.size w w'
theorem hreq (x0 x1 x2 x3 x4 x5 : Int) (w : World) : Calls Try.prog 16 #[rawv x0 x1 x2 x3 x4 x5] w (ReqRet w) :=
  (rreq x0 x1 x2 x3 x4 x5 w).mono (by
    rintro e w' ⟨q, A, c, rfl, hd, hb, hw⟩
    have hl : ((List.range q.n).map q.D).length = q.n := by simp
    refine ⟨_, ⟨q.k, q.s, q.g, q.i, (List.range q.n).map q.D⟩, rfl, ⟨A, c, by dsimp only; rw [hl], BL.of hd hl (fun j hj => ?_), fun x hx => ?_⟩, hw⟩
    · dsimp only
      rw [gt_of (by rw [hl]; exact hj)]
      simp
    · obtain ⟨j, hj, rfl⟩ := List.mem_map.1 hx
      exact hb j (List.mem_range.1 hj))
/-- The example. -/
def qF : Qx := ⟨4, 0, 0, 0, []⟩
theorem qF_right : qF.Right := by decide
theorem qF_lay : qF.lay = [4, 0, 0, 0, 0, 0, 0, 0, 0, 0, 0, 0] := by decide +kernel
theorem qF_str : strOf [4, 0, 0, 0, 0, 0, 0, 0, 0, 0, 0, 0] = { data := #[4, 0, 0, 0, 0, 0, 0, 0, 0, 0, 0, 0] } := by decide
theorem projF : projQ [4, 0, 0, 0, 0, 0, 0, 0, 0, 0, 0, 0] = some qF := by
  rw [← qF_lay]
  exact projQ_lay qF_right
theorem lknown11 (w : World) : Calls Try.prog 14 #[] w fun e w' => e = .returned (.bool true) ∧ Below w.heap.size w w' := by
  have HL : Hid (Calls Try.prog 8 #[rqv 4 0 0 0 none 0 0] w (LRet [4, 0, 0, 0, 0, 0, 0, 0, 0, 0, 0, 0] w)) := Lib.hid (by
    have h := clayReq 4 0 0 0 [] none 0 w (by unfold OkQ; decide) BL.nil
    have e : byteL 4 1 ++ (byteL 0 2 ++ (byteL 0 6 ++ (byteL 0 1 ++ (byteL ([] : List Nat).length 2 ++ [])))) = [4, 0, 0, 0, 0, 0, 0, 0, 0, 0, 0, 0] := qF_lay
    rw [e] at h
    exact h)
  unfold rqv at HL
  go_enter Try.func14, Try.ntmps14
  go_wp2_with fail
  refine HL.out.mono ?_
  rintro e w1 ⟨g, cap, rfl, hk, hb1, hc⟩
  try dsimp only
  have hbl : BL w1 (some ⟨g, 0, none⟩) [4, 0, 0, 0, 0, 0, 0, 0, 0, 0, 0, 0] := BL.blk hk rfl (fun _ _ => rfl)
  have HB1 := Lib.hid hb1
  have HK1 := Lib.hid hbl
  have HR := Lib.hid (creadReq (some ⟨g, 0, none⟩) [4, 0, 0, 0, 0, 0, 0, 0, 0, 0, 0, 0] cap w1 hbl hc (by unfold By; decide) (by decide))
  rw [projF] at HR
  rw [show ([4, 0, 0, 0, 0, 0, 0, 0, 0, 0, 0, 0] : List Nat).length = 12 from rfl] at HR ⊢
  clear hk hb1 hc hbl
  go_wp2_with fail
  refine HR.out.mono ?_
  rintro e w2 ⟨v, rfl, ⟨A, c, rfl, hd, _⟩, hb2⟩
  try dsimp only
  have HB2 := Lib.hid (HB1.out.trans (hb2.mono HB1.out.size))
  have HK2 := Lib.hid (HK1.out.below hb2)
  simp only [qF, Option.getD_some, List.length_nil, Option.isSome_some, if_true]
  unfold rqv
  clear hb2 hd
  obtain ⟨w3, hw3⟩ : ∃ w3, w2.alloc (.cells #[.int .i64 4, .int .i64 0, .int .i64 0, .int .i64 0, .slice A 0 c] 27) = w3 := ⟨_, rfl⟩
  have HB3 : Hid (Below w.heap.size w w3) := Lib.hid (by rw [← hw3]; exact HB2.out.alloc HB2.out.size _)
  have hcv : Sem.run Try.prog (convert 22 9 (.slice (some ⟨g, 0, none⟩) 12 cap)) w3 = .ok (.string { data := #[4, 0, 0, 0, 0, 0, 0, 0, 0, 0, 0, 0] }) w3 := by
    rw [← qF_str]
    exact conv_L cap (HK2.out.below (by rw [← hw3]; exact (Below.refl _ _).alloc (Nat.le_refl _) _))
  have hq : QV w3 w2.heap.size 4 0 0 0 A 0 c := by rw [← hw3]; exact QV.of_new rfl
  have q0 := hq.c0
  have HW3 := Lib.hid hw3
  clear hw3 hq
  go_upto_region 3 with fail
  rw [HW3.out]
  go_wp2_with fail
  go_ret
  exact ⟨rfl, HB3.out⟩
end Go.Proofs.Ytoofgcdilgfclaa
