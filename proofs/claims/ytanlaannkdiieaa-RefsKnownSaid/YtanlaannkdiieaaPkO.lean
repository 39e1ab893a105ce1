import Derived.Test.YtanlaannkdiieaaPkN
namespace Go.Proofs.Ytanlaannkdiieaa.Pk
open Go.RowKit Go.Sort

theorem at_set (l : List It) (i : Nat) (x : It) (k : Nat) (hi : i < l.length) : at' (l.set i x) k = if k = i then x else at' l k := by
  unfold at'
  simp only [List.getD_eq_getElem?_getD, List.getElem?_set]
  by_cases h : k = i
  · subst h; simp [hi]
  · simp [h, Ne.symm h]

theorem Raw.set {w : World} {hb g mb cap i : Nat} {l : List It} {id k : Int} (h : Raw w hb g mb cap l) (hi : i < l.length) (hid : (at' l i).1 = id) (hk : Wf (id, k)) :
    Raw (w.setCell ⟨g, i * 2 + 1, none⟩ (.int .i64 k)) hb g mb cap (l.set i (id, k)) := by
  obtain ⟨h0, ⟨⟨cur, b1, b2⟩, b3, b4, b5⟩, ⟨D, hD, hI⟩, hwf, hd, hsh, hcp, n1, n2, n3⟩ := h
  have ids : ∀ j, (at' (l.set i (id, k)) j).1 = (at' l j).1 := fun j => by
    rw [at_set l i _ j hi]
    split
    · rename_i e; subst e; exact hid.symm
    · rfl
  have hlen : (l.set i (id, k)).length = l.length := List.length_set
  have S := set_get (b5 i hi) (.int .i64 k)
  refine ⟨by rw [hlen]; exact (Below.heap_setCell _ _ _ _ n1).trans h0, ⟨⟨_, set_block b1 _ _, by simpa using b2⟩, by rw [hlen]; exact b3, fun j hj => ?_, fun j hj => ?_⟩, ⟨D, hD.keep (Below.heap_setCell _ _ _ _ (Ne.symm n3)), ?_⟩, fun x hx => ?_, fun a b ha hb e => ?_, by rw [hlen]; exact hsh, hcp, n1, n2, n3⟩
  · rw [hlen] at hj
    rw [S, if_neg (by omega), ids]
    exact b4 j hj
  · rw [hlen] at hj
    rw [S, at_set l i _ j hi]
    by_cases e : j = i
    · rw [if_pos (by omega), if_pos e]
    · rw [if_neg (by omega), if_neg e]; exact b5 j hj
  · refine ⟨hI.tidy, by rw [hlen]; exact hI.size, fun j hj => ?_, fun j hj => ?_, fun q hq => ?_⟩
    · rw [hlen] at hj; rw [ids]; exact hI.has j hj
    · rw [hlen] at hj; rw [ids]; exact hI.val j hj
    · obtain ⟨j, hj, e⟩ := hI.back q hq
      exact ⟨j, by rw [hlen]; exact hj, by rw [ids]; exact e⟩
  · obtain ⟨j, hj, rfl⟩ := mem_at hx
    rw [hlen] at hj
    rw [at_set l i _ j hi]
    split
    · exact hk
    · exact hwf _ (at_mem l j hj)
  · rw [hlen] at ha hb
    rw [ids, ids] at e
    exact hd a b ha hb e

theorem grew_heap {hb : Nat} {F : List Nat} {l S : List It} {x : It} {w w' : World} {e : Ending} (h : GrewPost hb F l x w e w') (hF : hb ∈ F) (hs : Srt S) (p : (x :: l).Perm S) : ∃ F', IsHeap w' hb F' S ∧ Step F F' w w' := by
  obtain ⟨_, g, mb, cap, l', R, H, P, hg, hm, T⟩ := h
  refine ⟨_, Or.inr ⟨g, mb, cap, l', R, H, (P.trans (List.perm_append_comm (l₁ := l) (l₂ := [x]))).trans p, hs, rfl⟩, T, fun k hk => ?_⟩
  simp at hk
  rcases hk with rfl | rfl | rfl
  · exact Or.inl hF
  · exact hg
  · exact hm

set_option maxHeartbeats 2000000 in
set_option maxRecDepth 100000 in
theorem put11 (hb : Nat) (F : List Nat) (S : List It) (id k : Int) (wx : Wf (id, k)) (w : World) (h : IsHeap w hb F S) (hlen : S.length < 1000) :
    Calls Try.prog 21 #[.pointer (some ⟨hb, 0, none⟩), .int .i64 id, .int .i64 k] w (HeapPost hb F (ins (id, k) (rem id S)) (.bool (!hasId id S)) w) := by
  have hn := h.nodup
  have wi := wx.1
  have hsr : Srt (ins (id, k) (rem id S)) := ins_srt (rem_srt h.srt id) (fun y hy => by
    have := (List.mem_filter.1 hy).2
    simpa using this)
  have hpi := ins_perm (id, k) (rem id S)
  rcases h with ⟨h0, rfl, hF⟩ | ⟨g, mb, cap, l, R, hH, p, hs, hF⟩
  · have c1 : w.cell? ⟨hb, 1, none⟩ = some (.map none) := by simp [World.cell?, h0]
    have q := lookNil id wi
    subst hF
    have HC := Lib.hid (push20 hb [hb] [] id k w (pushNew68 hb id k w h0 wx) (fun j h0 hj => absurd hj (Nat.not_lt_zero _)))
    have HS := Lib.hid hsr
    clear h0 hsr hn hpi
    go_enter Try.func21, Try.ntmps21
    go_wp2_with fail
    refine HC.out.mono ?_
    intro e w2 hG
    have he := hG.1
    have HG := Lib.hid (grew_heap hG (by simp) HS.out (List.Perm.refl _))
    subst he
    clear hG
    go_wp2_with fail
    go_ret
    exact ⟨rfl, HG.out⟩
  · obtain ⟨D, hD, hI⟩ := R.idx
    have c0 := headCell R.head
    have c1 : w.cell? ⟨hb, 1, none⟩ = some (.map (some mb)) := by simp [World.cell?, R.head]
    have hh := hI.hasId id
    rw [hasId_perm p id] at hh
    have HD := Lib.hid hD
    subst hF
    cases hid : hasId id S
    · rw [hid] at hh
      have hne : ∀ i, i < l.length → (at' l i).1 ≠ id := fun i hi e => by
        have := (hasId_iff id S).2 ⟨_, p.mem_iff.1 (at_mem l i hi), e⟩
        rw [hid] at this
        cases this
      have HC := Lib.hid (push20 hb [hb, g, mb] l id k w (push68 hb g mb cap l id k w R hne wx (by rw [p.length_eq]; exact hlen)) hH)
      have HS := Lib.hid hsr
      have HP : Hid (((id, k) :: l).Perm (ins (id, k) (rem id S))) := Lib.hid (by
        rw [rem_none hid] at hpi ⊢
        exact (p.cons _).trans hpi.symm)
      clear R hD hI p hs hH hid hn hsr hpi hne
      go_enter Try.func21, Try.ntmps21
      go_wp2_with (first | (at_lookup; refine wpList_lookup_own_ok_int _ rfl _ _ 36 rfl 3 3 .i64 law3 Try.underlying36 Try.underlying3 (zero3 _) mb (Maps.size D) D rfl HD.out _ (Pk.key id) rfl (Maps.keyOf_int_mk Try.underlying3 (wf_of wi)) ?_; intro c hat hwc; rw [hh]) | fail)
      refine HC.out.mono ?_
      intro e w2 hG
      have he := hG.1
      have HG := Lib.hid (grew_heap hG (by simp) HS.out HP.out)
      subst he
      clear hG
      go_wp2_with fail
      go_ret
      exact ⟨rfl, HG.out⟩
    · rw [hid] at hh
      rw [hasId_perm p.symm id] at hid
      obtain ⟨x, hx, hxe⟩ := (hasId_iff id l).1 hid
      obtain ⟨i, hi, rfl⟩ := mem_at hx
      have HV := Lib.hid (hI.val i hi)
      rw [hxe] at HV
      have R1 := R.set hi hxe wx
      have hlen1 : (l.set i (id, k)).length = l.length := List.length_set
      have HX := Lib.hid (fix19 hb g mb cap i (l.set i (id, k)) _ R1 (by rw [hlen1]; exact hi) (by rw [hlen1]; exact q_set hH hi (fun j hj hne => by rw [at_set l i _ j hi, if_neg hne])))
      have HP : Hid ((l.set i (id, k)).Perm (ins (id, k) (rem id S))) := Lib.hid ((set_perm hi (id, k) hxe.symm (nodup_of_dist R.dist)).trans (((rem_perm p id).cons _).trans hpi.symm))
      have HS := Lib.hid hsr
      have a2 := R.row.key i hi
      have qi : (i : Int) < (l.length : Int) := by omega
      obtain ⟨cur, hg0, _⟩ := R.row.block
      have f2 : w.frozen? ⟨g, i * 2 + 1, none⟩ = false := by simp [World.frozen?, hg0]
      clear R R1 hD hI p hs hH hn hx hxe hsr hpi hlen1 hg0 hid
      go_enter Try.func21, Try.ntmps21
      go_wp2_with (first | (at_lookup; refine wpList_lookup_own_ok_int _ rfl _ _ 36 rfl 3 3 .i64 law3 Try.underlying36 Try.underlying3 (zero3 _) mb (Maps.size D) D rfl HD.out _ (Pk.key id) rfl (Maps.keyOf_int_mk Try.underlying3 (wf_of wi)) ?_; intro c hat hwc; rw [hh]; obtain rfl := num_inj hat HV.out) | fail)
      refine HX.out.mono ?_
      rintro e w2 ⟨rfl, l', R2, T2, P2, H2⟩
      have HG : Hid (∃ F', IsHeap w2 hb F' (ins (id, k) (rem id S)) ∧ Step [hb, g, mb] F' w w2) :=
        Lib.hid ⟨_, Or.inr ⟨g, mb, cap, l', R2, H2, P2.trans HP.out, HS.out, rfl⟩, (Turn.set _ _ _ _ (by simp)).trans (T2.mono (by simp)), fun _ h => Or.inl h⟩
      clear R2 T2 P2 H2
      go_wp2_with fail
      go_ret
      exact ⟨rfl, HG.out⟩
end Go.Proofs.Ytanlaannkdiieaa.Pk
