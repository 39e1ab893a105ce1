import Derived.Test.YtanlaannkdiieaaRf2
namespace Go.Proofs.Ytanlaannkdiieaa.Pk
open Go.RowKit Go.Sort
set_option maxRecDepth 100000
set_option maxHeartbeats 2000000

theorem RM.drew {w : World} {rb : Nat} {F : List Nat} {s : RfS} (h : RM w rb F s) : RM w.drew rb F s := h.keep (Turn.drew [] w) (by simp)
theorem RM0.drew {w : World} {rb hb mb : Nat} {v : Value} {FH : List Nat} {D : DataW Unit} {s : RfS} (h : RM0 w rb hb mb v FH D s) : RM0 w.drew rb hb mb v FH D s := h.keep (Turn.drew [] w) (by simp)

/-! Take. -/
theorem rf_take_no {w : World} {rb : Nat} {F : List Nat} {s : RfS} (h : RM w rb F s) (hs : s.S = []) :
    Calls Try.prog 9 #[.pointer (some ⟨rb, 0, none⟩)] w (RfPost rb F s (.tuple #[.int .i64 0, .bool false]) w) := by
  obtain ⟨hb, mb, v, FH, D, h, rfl⟩ := h
  obtain ⟨S, f, n, H⟩ := s
  dsimp only at hs
  subst hs
  have x0 : w.cell? ⟨rb, 0, none⟩ = some (.pointer (some ⟨hb, 0, none⟩)) := by simp [World.cell?, h.head]
  have HC := Lib.hid (popH18 hb FH [] w h.heap)
  have HM := Lib.hid h
  clear h
  go_enter Try.func9, Try.ntmps9
  go_wp2_with fail
  refine HC.out.mono ?_
  rintro e w2 ⟨rfl, FH', hi, st⟩
  obtain ⟨r, s2⟩ := HM.out.heaped hi st
  have HR := Lib.hid r
  have HT := Lib.hid s2
  clear r s2 hi st
  unfold hd itv
  go_wp2_with fail
  refine bodyPost_ret (v := .tuple #[.int .i64 0, .bool false]) (by rw [results_tmp2 rfl]; rfl) rfl ⟨rfl, _, ⟨hb, mb, v, FH', D, ?_, rfl⟩, ?_⟩
  · exact HR.out.keep (Turn.alloc [] _ _) (by simp)
  · exact ⟨HT.out.turn.trans ((Turn.alloc [] _ _).mono (by simp)), HT.out.blocks⟩
theorem rf_take_yes {w : World} {rb : Nat} {F : List Nat} {s : RfS} {id : Int} {S' : List It} (h : RM w rb F s) (hs : s.S = (id, id) :: S') (hn : s.n ≤ 1000000) :
    Calls Try.prog 9 #[.pointer (some ⟨rb, 0, none⟩)] w (RfPost rb F (s.took id) (.tuple #[.int .i64 id, .bool true]) w) := by
  obtain ⟨hb, mb, v, FH, D, h, rfl⟩ := h
  obtain ⟨S, f, n, H⟩ := s
  dsimp only at hs hn
  subst hs
  have x0 : w.cell? ⟨rb, 0, none⟩ = some (.pointer (some ⟨hb, 0, none⟩)) := by simp [World.cell?, h.head]
  have wi : I64 id := (h.heap.wf (id, id) (by simp)).1
  have HC := Lib.hid (popH18 hb FH ((id, id) :: S') w h.heap)
  have HM := Lib.hid h
  have hsz : Maps.size D < maxLen := by have := h.size; dsimp only at this; unfold maxLen; omega
  have HW := Lib.hid wi
  clear h wi
  go_enter Try.func9, Try.ntmps9
  go_wp2_with fail
  refine HC.out.mono ?_
  rintro e w2 ⟨rfl, FH', hi, st⟩
  obtain ⟨r, s2⟩ := HM.out.heaped hi st
  have HT0 : Hid (Step (blksR rb mb v FH) (blksR rb mb v FH') w (w2.alloc (.cells #[.int .i64 id, .int .i64 id] 41))) := Lib.hid ⟨s2.turn.trans ((Turn.alloc [] _ _).mono (by simp)), s2.blocks⟩
  have HR0 : Hid (RM0 (w2.alloc (.cells #[.int .i64 id, .int .i64 id] 41)) rb hb mb v FH' D ⟨S', f, n, H⟩) := Lib.hid (r.keep (Turn.alloc [] _ _) (by simp))
  have hlt2 : ∀ k ∈ blksR rb mb v FH', k < w2.heap.size := r.lt
  clear r s2 hi st
  unfold hd itv
  go_wp2_with fail
  obtain ⟨q, hq⟩ : ∃ q, w2.heap.size = q := ⟨_, rfl⟩
  have k0 : (w2.alloc (.cells #[.int .i64 id, .int .i64 id] 41)).cell? ⟨w2.heap.size, 0, none⟩ = some (.int .i64 id) := (cell_of_block (alloc_block w2 _)).trans rfl
  revert HT0 HR0 k0
  rw [hq] at hlt2 ⊢
  generalize (w2.alloc (.cells #[.int .i64 id, .int .i64 id] 41)) = wA
  intro HT0 HR0 k0
  have x1 : wA.cell? ⟨rb, 1, none⟩ = some (.map (some mb)) := by simp [World.cell?, HR0.out.head]
  have HQ := Lib.hid hq
  have HLT := Lib.hid hlt2
  have HK0 : Hid (wA.drew.cell? ⟨q, 0, none⟩ = some (.int .i64 id)) := Lib.hid k0
  have HR1 : Hid (RM0 wA.drew rb hb mb v FH' D ⟨S', f, n, H⟩) := Lib.hid HR0.out.drew
  have HT1 : Hid (Step (blksR rb mb v FH) (blksR rb mb v FH') w wA.drew) := Lib.hid ⟨HT0.out.turn.trans ((Turn.drew [] _).mono (by simp)), HT0.out.blocks⟩
  clear hq hlt2
  go_still_tail 6, (by kernel_rfl)
  change wpList _ _ _ _ _ wA.drew
  clear HT0 HR0 k0 x1
  revert HK0 HR1 HT1
  generalize wA.drew = w3
  intro HK0 HR1 HT1
  go_wp2_with (first | (at_mapUpdate; refine wpList_mapUpdate_in _ rfl _ _ _ 36 rfl 3 3 law3 Try.underlying36 _ mb (Maps.size D) D rfl HR1.out.own hsz _ _ (Pk.key id) rfl rfl (Maps.keyOf_int_mk Try.underlying3 (wf_of HW.out)) (num 1) [] (plainElem_int Try.underlying3 (by decide)) ?_; intro w4 hown4 hturn4; have k4 := (hturn4.grown.cell_far ⟨q, 0, none⟩ (cell?_lt HK0.out) (by have := HLT.out mb (mem_blksR.2 (Or.inr (Or.inl rfl))); simp; omega)).trans HK0.out) | fail)
  obtain ⟨r, st⟩ := HR1.out.put (c := 1) hown4 hturn4 (by decide)
  refine bodyPost_ret (v := .tuple #[.int .i64 id, .bool true]) (by rw [results_tmp2 rfl]; rfl) rfl ⟨rfl, _, ⟨hb, mb, v, FH', _, r, rfl⟩, HT1.out.trans st⟩
end Go.Proofs.Ytanlaannkdiieaa.Pk
