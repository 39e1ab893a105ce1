import Derived.Test.YtanlaannkdiieaaRf1
namespace Go.Proofs.Ytanlaannkdiieaa.Pk
open Go.RowKit Go.Sort
set_option maxRecDepth 100000
set_option maxHeartbeats 2000000

/-! What an act on a part does to the whole. -/
theorem RM0.heaped {w w' : World} {rb hb mb : Nat} {v : Value} {FH FH' : List Nat} {D : DataW Unit} {s : RfS} {S' : List It} (h : RM0 w rb hb mb v FH D s) (hi : IsHeap w' hb FH' S') (st : Step FH FH' w w') :
    RM0 w' rb hb mb v FH' D ⟨S', s.f, s.n, s.H⟩ ∧ Step (blksR rb mb v FH) (blksR rb mb v FH') w w' := by
  have lr := lt_size h.head
  have lm := h.own.lt
  have nf : ∀ k, k < w.heap.size → k ∉ FH → k ∉ FH' := fun k hk hn hm => by
    rcases st.blocks k hm with y | y
    · exact hn y
    · omega
  refine ⟨⟨(st.turn.block rb lr h.n1).trans h.head, hi, h.own.keep (st.turn.block mb lm h.n2), h.val, h.has, h.tidy, h.size, row_keep h.row (fun g hg => st.turn.block g (row_lt h.row g hg) (h.n4 g hg).1), h.ids, nf rb lr h.n1, nf mb lm h.n2, h.n3, fun g hg => ⟨nf g (row_lt h.row g hg) (h.n4 g hg).1, (h.n4 g hg).2⟩⟩, st.turn.mono (fun k hk => mem_blksR.2 (Or.inr (Or.inr (Or.inr hk)))), fun k hk => ?_⟩
  rcases mem_blksR.1 hk with e | e | e | e
  · exact Or.inl (mem_blksR.2 (Or.inl e))
  · exact Or.inl (mem_blksR.2 (Or.inr (Or.inl e)))
  · exact Or.inl (mem_blksR.2 (Or.inr (Or.inr (Or.inl e))))
  · rcases st.blocks k e with y | y
    · exact Or.inl (mem_blksR.2 (Or.inr (Or.inr (Or.inr y))))
    · exact Or.inr y

theorem val_put {D : DataW Unit} {f : Int → Nat} {id : Int} {c : Nat} (ht : Maps.Tidy D) (hv : ∀ k, D.atKey (key k) (num 0) = num (f k)) (k : Int) : (D.put (key id) (num (c : Int))).atKey (key k) (num 0) = num (upF f id c k) := by
  unfold upF
  by_cases e : k = id
  · subst e
    rw [if_pos rfl]
    exact Maps.atKey_put_same ht.isMap (isKey k) _ _
  · rw [if_neg e, Maps.atKey_put_other (key_ne e)]
    exact hv k

theorem RM0.turned {w w' : World} {rb hb mb : Nat} {v : Value} {FH : List Nat} {D D' : DataW Unit} {s : RfS} {f' : Int → Nat} {n' : Nat} (h : RM0 w rb hb mb v FH D s) (ho : OwnsI w' mb D') (t : w.mapTurned w' mb)
    (hv : ∀ k, D'.atKey (key k) (num 0) = num (f' k)) (hh : ∀ k, Maps.has D' (key k) = true ↔ f' k ≠ 0) (ht : Maps.Tidy D') (hz : Maps.size D' = n') :
    RM0 w' rb hb mb v FH D' ⟨s.S, f', n', s.H⟩ ∧ Step (blksR rb mb v FH) (blksR rb mb v FH) w w' := by
  have T : Turn [mb] w w' := Turn.map t (by simp)
  refine ⟨⟨(T.block rb (lt_size h.head) (by simp [h.n3])).trans h.head, h.heap.keep T (fun k hk hm => ?_), ho, hv, hh, ht, hz, row_keep h.row (fun g hg => T.block g (row_lt h.row g hg) (by simp [(h.n4 g hg).2.2])), h.ids, h.n1, h.n2, h.n3, h.n4⟩, T.mono (fun k hk => ?_), fun _ hk => Or.inl hk⟩
  · rw [List.mem_singleton.1 hm] at hk
    exact h.n2 hk
  · rw [List.mem_singleton.1 hk]
    exact mem_blksR.2 (Or.inr (Or.inl rfl))

theorem RM0.put {w w' : World} {rb hb mb m c : Nat} {v : Value} {FH : List Nat} {D : DataW Unit} {s : RfS} {id : Int} (h : RM0 w rb hb mb v FH D s) (ho : w'.ownsMap Try.prog 3 (plainElem Try.prog 3) mb m (D.put (key id) (num (c : Int)))) (t : w.mapTurned w' mb) (hc : c ≠ 0) :
    RM0 w' rb hb mb v FH (D.put (key id) (num (c : Int))) ⟨s.S, upF s.f id c, s.n + (if s.f id = 0 then 1 else 0), s.H⟩ ∧ Step (blksR rb mb v FH) (blksR rb mb v FH) w w' := by
  refine h.turned (ownsMap_exact ho) t (val_put h.tidy h.val) (fun k => ?_) (h.tidy.put (isKey id) _) ?_
  · unfold upF
    by_cases e : k = id
    · subst e
      rw [if_pos rfl, Maps.has_put_same h.tidy.isMap (isKey k)]
      simp [hc]
    · rw [if_neg e, Maps.has_put_other (key_ne e)]
      exact h.has k
  · rw [Maps.size_put h.tidy, h.size]
    by_cases e : s.f id = 0
    · have : Maps.has D (key id) = false := by
        cases q : Maps.has D (key id)
        · rfl
        · exact absurd e ((h.has id).1 q)
      rw [this, if_pos e]
      rfl
    · rw [(h.has id).2 e, if_neg e]
      rfl

theorem RM0.del {w w' : World} {rb hb mb m : Nat} {v : Value} {FH : List Nat} {D : DataW Unit} {s : RfS} {id : Int} (h : RM0 w rb hb mb v FH D s) (ho : w'.ownsMap Try.prog 3 (plainElem Try.prog 3) mb m (D.del (key id))) (t : w.mapTurned w' mb) (hc : s.f id ≠ 0) :
    RM0 w' rb hb mb v FH (D.del (key id)) ⟨s.S, upF s.f id 0, s.n - 1, s.H⟩ ∧ Step (blksR rb mb v FH) (blksR rb mb v FH) w w' := by
  refine h.turned (ownsMap_exact ho) t (fun k => ?_) (fun k => ?_) (h.tidy.del _) ?_
  · unfold upF
    by_cases e : k = id
    · subst e
      rw [if_pos rfl, Maps.atKey_del_same]
      rfl
    · rw [if_neg e, Maps.atKey_del_other (key_ne e)]
      exact h.val k
  · unfold upF
    by_cases e : k = id
    · subst e
      rw [if_pos rfl, Maps.has_del_same]
      simp
    · rw [if_neg e, Maps.has_del_other (key_ne e)]
      exact h.has k
  · have := Maps.size_del (k := key id) h.tidy
    rw [(h.has id).2 hc, h.size] at this
    simp at this
    omega

/-- What is held is written anew. -/
theorem RM0.heldTo {w w' : World} {rb hb mb : Nat} {v u : Value} {FH : List Nat} {D : DataW Unit} {s : RfS} {H' : List Int} (h : RM0 w rb hb mb v FH D s) (hg : w.grownBy w' v.ownBlock) (ho : w'.ownsRow 0 3 1 u H'.length (intsV H')) (hu : ∀ g, u.ownBlock = some g → v.ownBlock = some g ∨ w.heap.size ≤ g) (hi : ∀ x ∈ H', I64 x) :
    RM0 (w'.setCell ⟨rb, 2, none⟩ u) rb hb mb u FH D ⟨s.S, s.f, s.n, H'⟩ ∧ Step (blksR rb mb v FH) (blksR rb mb u FH) w (w'.setCell ⟨rb, 2, none⟩ u) := by
  have lr := lt_size h.head
  have hne : ∀ k, k < w.heap.size → (v.ownBlock ≠ some k) → w'.heap[k]? = w.heap[k]? := fun k hk hn => hg.block k hk (fun e => hn e.symm)
  have T1 : Turn (v.ownBlock.toList) w w' := ⟨hg.os, hg.tape, hg.output, hg.size, fun k hk hn => hne k hk (fun e => hn (by rw [e]; simp))⟩
  have T : Turn (rb :: v.ownBlock.toList) w (w'.setCell ⟨rb, 2, none⟩ u) := (T1.mono (fun k hk => List.mem_cons_of_mem _ hk)).trans (Turn.set _ _ _ _ (by simp))
  have hr : w'.heap[rb]? = some (.cells #[.pointer (some ⟨hb, 0, none⟩), .map (some mb), v] 38 (0, 0)) := (hne rb lr (fun e => (h.n4 rb e).2.1 rfl)).trans h.head
  have nu : ∀ g, u.ownBlock = some g → g ∉ FH ∧ g ≠ rb ∧ g ≠ mb := fun g hgu => by
    rcases hu g hgu with e | e
    · exact h.n4 g e
    · have a1 := h.own.lt
      exact ⟨fun hm => by have := h.heap.lt g hm; omega, by omega, by omega⟩
  refine ⟨⟨?_, h.heap.keep T (fun k hk hm => ?_), h.own.keep (T.block mb h.own.lt (by simp [Ne.symm h.n3]; intro e; exact (h.n4 mb e).2.2 rfl)), h.val, h.has, h.tidy, h.size, row_keep ho (fun g hgu => Below.heap_setCell _ _ _ _ (nu g hgu).2.1), hi, h.n1, h.n2, h.n3, nu⟩, T.mono (fun k hk => ?_), fun k hk => ?_⟩
  · rw [set_block hr]
    rfl
  · simp at hm
    rcases hm with rfl | e
    · exact h.n1 hk
    · exact (h.n4 k e).1 hk
  · simp at hk
    rcases hk with rfl | e
    · exact mem_blksR.2 (Or.inl rfl)
    · exact mem_blksR.2 (Or.inr (Or.inr (Or.inl e)))
  · rcases mem_blksR.1 hk with e | e | e | e
    · exact Or.inl (mem_blksR.2 (Or.inl e))
    · exact Or.inl (mem_blksR.2 (Or.inr (Or.inl e)))
    · rcases hu k e with y | y
      · exact Or.inl (mem_blksR.2 (Or.inr (Or.inr (Or.inl y))))
      · exact Or.inr y
    · exact Or.inl (mem_blksR.2 (Or.inr (Or.inr (Or.inr e))))

/-! release. -/
theorem rf_release {w : World} {rb hb mb : Nat} {v : Value} {FH : List Nat} {D : DataW Unit} {s : RfS} (id : Int) (wi : I64 id) (h : RM0 w rb hb mb v FH D s) (hl : s.S.length < 1000) :
    Calls Try.prog 18 #[.pointer (some ⟨rb, 0, none⟩), .int .i64 id] w fun e w' => e = .returned (.tuple #[]) ∧ ∃ FH', RM0 w' rb hb mb v FH' D ⟨putI s.S id, s.f, s.n, s.H⟩ ∧ Step (blksR rb mb v FH) (blksR rb mb v FH') w w' := by
  have x0 : w.cell? ⟨rb, 0, none⟩ = some (.pointer (some ⟨hb, 0, none⟩)) := by simp [World.cell?, h.head]
  have HC := Lib.hid (put11 hb FH s.S id id ⟨wi, wi⟩ w h.heap hl)
  have HM := Lib.hid h
  clear h wi hl
  go_enter Try.func18, Try.ntmps18
  go_wp2_with fail
  refine HC.out.mono ?_
  rintro e w2 ⟨rfl, FH', hi, st⟩
  obtain ⟨r, s2⟩ := HM.out.heaped hi st
  have HR := Lib.hid r
  have HT := Lib.hid s2
  clear r s2 hi st
  go_wp2_with fail
  go_end0
  exact ⟨rfl, _, HR.out, HT.out⟩

/-! Add. -/
theorem rf_add {w : World} {rb : Nat} {F : List Nat} {s : RfS} (id : Int) (wi : I64 id) (h : RM w rb F s) (hc : s.f id ≤ 1000000) (hn : s.n ≤ 1000000) :
    Calls Try.prog 8 #[.pointer (some ⟨rb, 0, none⟩), .int .i64 id] w (RfPost rb F (s.add id) (.bool (decide (s.f id ≠ 0))) w) := by
  have h' := h
  obtain ⟨hb, mb, v, FH, D, h, rfl⟩ := h
  have x1 : w.cell? ⟨rb, 1, none⟩ = some (.map (some mb)) := by simp [World.cell?, h.head]
  have HD := Lib.hid h.own
  have HV := Lib.hid (h.val id)
  have HW := Lib.hid wi
  have HM := Lib.hid h
  have HC := Lib.hid (rf_count id wi h')
  have hsz : Maps.size D < maxLen := by rw [h.size]; unfold maxLen; omega
  have HS : Hid (s.add id = if s.f id = 0 then s else ⟨s.S, upF s.f id (s.f id + 1), s.n, s.H⟩) := Lib.hid rfl
  have HM' := Lib.hid h'
  obtain ⟨c, hcc⟩ : ∃ c, s.f id = c := ⟨_, rfl⟩
  have HCC := Lib.hid hcc
  rw [hcc] at hc HS HC HV ⊢
  have wc : (Lit.int .i64 ((c : Int) + 1)).wf = true := wf_of (by constructor <;> omega)
  have HWC := Lib.hid wc
  clear h h' wi hcc wc
  by_cases hz : c = 0
  · subst hz
    have HS0 : Hid (s.add id = s) := Lib.hid (HS.out.trans (if_pos rfl))
    clear HS
    go_enter Try.func8, Try.ntmps8
    go_wp2_with fail
    refine HC.out.mono ?_
    rintro e w2 ⟨rfl, rfl⟩
    go_wp2_with fail
    go_ret
    rw [HS0.out]
    exact ⟨by simp, _, HM'.out, Step.refl _ _⟩
  · have hne : ((c : Int) == 0) = false := beq_eq_false_iff_ne.2 (by omega)
    go_enter Try.func8, Try.ntmps8
    go_wp2_with fail
    refine HC.out.mono ?_
    rintro e w2 ⟨rfl, rfl⟩
    go_wp2_with (first | (at_lookup; refine wpList_lookup_own_int _ rfl _ _ 36 rfl 3 3 .i64 law3 Try.underlying36 Try.underlying3 (zero3 _) mb (Maps.size D) D rfl HD.out _ (Pk.key id) rfl (Maps.keyOf_int_mk Try.underlying3 (wf_of HW.out)) ?_; intro c' hat hwc; obtain rfl := num_inj hat HV.out) | (at_mapUpdate; refine wpList_mapUpdate_in _ rfl _ _ _ 36 rfl 3 3 law3 Try.underlying36 _ mb (Maps.size D) D rfl HD.out hsz _ _ (Pk.key id) rfl rfl (Maps.keyOf_int_mk Try.underlying3 (wf_of HW.out)) (num ((c : Int) + 1)) [] (plainElem_int Try.underlying3 HWC.out) ?_; intro w3 hown3 hturn3))
    go_ret
    rw [HS.out, if_neg hz]
    obtain ⟨r, st⟩ := HM.out.put (c := c + 1) (by simpa using hown3) hturn3 (by omega)
    rw [HCC.out, if_neg hz] at r
    exact ⟨by simp [hz], _, ⟨hb, mb, v, FH, _, r, rfl⟩, st⟩
end Go.Proofs.Ytanlaannkdiieaa.Pk
