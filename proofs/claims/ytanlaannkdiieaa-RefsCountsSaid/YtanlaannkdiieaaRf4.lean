import Derived.Test.YtanlaannkdiieaaRf3
namespace Go.Proofs.Ytanlaannkdiieaa.Pk
open Go.RowKit Go.Sort
set_option maxRecDepth 100000
set_option maxHeartbeats 2000000

/-! Drop. -/
theorem RM0.slot2 {w w' : World} {rb hb mb : Nat} {v : Value} {FH : List Nat} {D : DataW Unit} {s : RfS} {o : Obj} (h : RM0 w rb hb mb v FH D s) (gr : (w.alloc o).grownBy w' v.ownBlock) : w'.cell? ⟨rb, 2, none⟩ = some v := by
  have h1 := h.keep (Turn.alloc [] w o) (by simp)
  have hx : w'.heap[rb]? = _ := (gr.block rb (lt_size h1.head) (fun e => (h.n4 rb e.symm).2.1 rfl)).trans h1.head
  simp [World.cell?, hx]
theorem RM0.slot2f {w w' : World} {rb hb mb : Nat} {v : Value} {FH : List Nat} {D : DataW Unit} {s : RfS} {o : Obj} (h : RM0 w rb hb mb v FH D s) (gr : (w.alloc o).grownBy w' v.ownBlock) : w'.frozen? ⟨rb, 2, none⟩ = false := by
  have h1 := h.keep (Turn.alloc [] w o) (by simp)
  have hx : w'.heap[rb]? = _ := (gr.block rb (lt_size h1.head) (fun e => (h.n4 rb e.symm).2.1 rfl)).trans h1.head
  simp [World.frozen?, hx]

theorem rf_drop {w : World} {rb : Nat} {F : List Nat} {s : RfS} (id : Int) (wi : I64 id) (h : RM w rb F s) (hc : s.f id ≤ 1000000) (hn : s.n ≤ 1000000) (hH : s.H.length ≤ 1000000) :
    Calls Try.prog 11 #[.pointer (some ⟨rb, 0, none⟩), .int .i64 id] w (RfPost rb F (s.drop id) (.bool (decide (s.f id ≠ 0))) w) := by
  have h' := h
  obtain ⟨hb, mb, v, FH, D, h, rfl⟩ := h
  obtain ⟨A, cap, rfl, hA⟩ := own_form h.row
  have x1 : w.cell? ⟨rb, 1, none⟩ = some (.map (some mb)) := by simp [World.cell?, h.head]
  have HD := Lib.hid h.own
  have HV := Lib.hid (h.val id)
  have HW := Lib.hid wi
  have HM := Lib.hid h
  have HC := Lib.hid (rf_count id wi h')
  have hsz : Maps.size D < maxLen := by rw [h.size]; unfold maxLen; omega
  have HS : Hid (s.drop id = if s.f id = 0 then s else if s.f id = 1 then ⟨s.S, upF s.f id 0, s.n - 1, s.H ++ [id]⟩ else ⟨s.S, upF s.f id (s.f id - 1), s.n, s.H⟩) := Lib.hid rfl
  have HM' := Lib.hid h'
  obtain ⟨c, hcc⟩ : ∃ c, s.f id = c := ⟨_, rfl⟩
  have HCC := Lib.hid hcc
  rw [hcc] at hc HS HC HV ⊢
  have wc : (Lit.int .i64 ((c : Int) - 1)).wf = true := wf_of (by constructor <;> omega)
  have HWC := Lib.hid wc
  clear h h' wi hcc wc hA
  by_cases hz : c = 0
  · subst hz
    have HS0 : Hid (s.drop id = s) := Lib.hid (HS.out.trans (if_pos rfl))
    clear HS
    go_enter Try.func11, Try.ntmps11
    go_wp2_with fail
    refine HC.out.mono ?_
    rintro e w2 ⟨rfl, rfl⟩
    go_wp2_with fail
    go_ret
    rw [HS0.out]
    exact ⟨by simp, _, HM'.out, Step.refl _ _⟩
  · have hne : ((c : Int) == 0) = false := beq_eq_false_iff_ne.2 (by omega)
    by_cases hz1 : c = 1
    · subst hz1
      have HS0 : Hid (s.drop id = ⟨s.S, upF s.f id 0, s.n - 1, s.H ++ [id]⟩) := Lib.hid ((HS.out.trans (if_neg (by decide))).trans (if_pos rfl))
      clear HS hne
      go_enter Try.func11, Try.ntmps11
      go_wp2_with fail
      refine HC.out.mono ?_
      rintro e w2 ⟨rfl, rfl⟩
      go_wp2_with (first | (at_delete; refine wpList_delete_own _ rfl _ _ 36 3 rfl 3 law3 Try.underlying36 _ mb (Maps.size D) D rfl HD.out _ (Pk.key id) rfl (Maps.keyOf_int_mk Try.underlying3 (wf_of HW.out)) ?_; intro w3 hown3 hturn3; have r3 := HM.out.del hown3 hturn3 (by rw [HCC.out]; decide); have HR3 := Lib.hid r3; clear hown3 hturn3 r3; have x2 : w3.cell? ⟨rb, 2, none⟩ = some (.slice A s.H.length cap) := by simp [World.cell?, HR3.out.1.head]) | (at_builtin; refine append_int _ rfl _ _ rfl 0 (.slice A s.H.length cap) s.H.length s.H rfl (HR3.out.1.row.alloc _) w3.heap.size id rfl (by simp [go_sem]) (by omega) (by omega) ?_; intro g6 cap6 w6 o6 gr6 y6 _; have HG6 := Lib.hid gr6; have HO6 := Lib.hid o6; have HY6 := Lib.hid y6; clear gr6 o6 y6; have x6 : w6.cell? ⟨rb, 2, none⟩ = some (.slice A s.H.length cap) := HR3.out.1.slot2 HG6.out; have f6 : w6.frozen? ⟨rb, 2, none⟩ = false := HR3.out.1.slot2f HG6.out))
      have HR6 := Lib.hid ((HR3.out.1.keep (Turn.alloc [] w3 (.cells #[.int .i64 id] 3)) (by simp)).heldTo (H' := s.H ++ [id]) HG6.out (by rw [List.length_append]; exact HO6.out) (fun g hg => by cases hg; exact HY6.out.elim Or.inl (fun y => Or.inr (Nat.le_of_eq y.symm))) (fun x hx => (List.mem_append.1 hx).elim (fun y => HM.out.ids x y) (fun y => (List.mem_singleton.1 y).symm ▸ HW.out)))
      go_ret
      rw [HS0.out]
      obtain ⟨r3, t3⟩ := HR3.out
      obtain ⟨r6, t6⟩ := HR6.out
      exact ⟨by simp, _, ⟨hb, mb, _, FH, _, r6, rfl⟩, t3.trans (Step.trans ⟨(Turn.alloc [] _ _).mono (by simp), fun k hk => Or.inl hk⟩ t6)⟩
    · have hne1 : ((c : Int) == 1) = false := beq_eq_false_iff_ne.2 (by omega)
      have HS0 : Hid (s.drop id = ⟨s.S, upF s.f id (c - 1), s.n, s.H⟩) := Lib.hid ((HS.out.trans (if_neg hz)).trans (if_neg hz1))
      clear HS
      go_enter Try.func11, Try.ntmps11
      go_wp2_with fail
      refine HC.out.mono ?_
      rintro e w2 ⟨rfl, rfl⟩
      go_wp2_with (first | (at_lookup; refine wpList_lookup_own_int _ rfl _ _ 36 rfl 3 3 .i64 law3 Try.underlying36 Try.underlying3 (zero3 _) mb (Maps.size D) D rfl HD.out _ (Pk.key id) rfl (Maps.keyOf_int_mk Try.underlying3 (wf_of HW.out)) ?_; intro c' hat hwc; obtain rfl := num_inj hat HV.out) | (at_mapUpdate; refine wpList_mapUpdate_in _ rfl _ _ _ 36 rfl 3 3 law3 Try.underlying36 _ mb (Maps.size D) D rfl HD.out hsz _ _ (Pk.key id) rfl rfl (Maps.keyOf_int_mk Try.underlying3 (wf_of HW.out)) (num ((c : Int) - 1)) [] (plainElem_int Try.underlying3 HWC.out) ?_; intro w3 hown3 hturn3))
      go_ret
      rw [HS0.out]
      obtain ⟨r, st⟩ := HM.out.put (c := c - 1) (by have e : ((c - 1 : Nat) : Int) = (c : Int) - 1 := by omega
                                                    rw [e]; exact hown3) hturn3 (by omega)
      rw [HCC.out, if_neg hz] at r
      exact ⟨by simp [hz], _, ⟨hb, mb, _, FH, _, r, rfl⟩, st⟩
end Go.Proofs.Ytanlaannkdiieaa.Pk
