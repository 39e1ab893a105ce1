import Derived.Test.YtfhlipalfebfaaaM
namespace Go.Proofs.Ytfhlipalfebfaaa
open Go.RowKit Go.Sort

theorem lookNil (id : Int) (h : I64 id) (w : World) : (Instr.lookup 46 (.map none) (.int .i64 id) true).run Try.prog w = .ok (.tuple #[.int .i64 0, .bool false]) w :=
  Maps.look_nil true law3 Try.underlying46 (zero3 w) (Maps.keyOf_int_mk Try.underlying3 (wf_of h))

theorem num_inj {D : DataW Unit} {k : Lit} {c : Int} {i : Nat} (h : D.atKey k (.lit (.int .i64 0)) = .lit (.int .i64 c)) (h2 : D.atKey k (num 0) = num i) : c = i := by
  have : (num i) = DataW.lit (.int .i64 c) := h2.symm.trans h
  injection this with e
  injection e with e1 e2
  exact e2.symm

def keyAt (id : Int) (S : List It) : Int × Bool := match S.find? (fun x => x.1 == id) with | some x => (x.2, true) | none => (0, false)

theorem keyAt_none {id : Int} {S : List It} (h : hasId id S = false) : keyAt id S = (0, false) := by
  unfold keyAt
  have : S.find? (fun x => x.1 == id) = none := by
    rw [List.find?_eq_none]
    intro x hx he
    have := (hasId_iff id S).2 ⟨x, hx, by simpa using he⟩
    rw [h] at this
    cases this
  rw [this]

theorem keyAt_some {id : Int} {S : List It} (h : (S.map (·.1)).Nodup) {x : It} (hx : x ∈ S) (e : x.1 = id) : keyAt id S = (x.2, true) := by
  induction S with
  | nil => cases hx
  | cons y S ih =>
    rw [List.map_cons, List.nodup_cons] at h
    unfold keyAt
    rw [List.find?_cons]
    rcases List.mem_cons.1 hx with e2 | hx
    · subst e2
      simp [e]
    · have : (y.1 == id) = false := beq_eq_false_iff_ne.2 (fun e3 => h.1 (by rw [e3, ← e]; exact List.mem_map_of_mem hx))
      rw [this]
      exact ih h.2 hx

set_option maxHeartbeats 1000000 in
set_option maxRecDepth 100000 in
theorem key12 (hb : Nat) (F : List Nat) (S : List It) (id : Int) (wi : I64 id) (w : World) (h : IsHeap w hb F S) :
    Calls Try.prog 12 #[.pointer (some ⟨hb, 0, none⟩), .int .i64 id] w fun e w' => e = .returned (.tuple #[.int .i64 (keyAt id S).1, .bool (keyAt id S).2]) ∧ w' = w := by
  have hn := h.nodup
  rcases h with ⟨h0, rfl, _⟩ | ⟨g, mb, cap, l, R, hH, p, hs, hF⟩
  · have c1 : w.cell? ⟨hb, 1, none⟩ = some (.map none) := by simp [World.cell?, h0]
    have q := lookNil id wi
    clear h0
    go_enter Try.func12, Try.ntmps12
    go_wp2
    go_ret2
    exact ⟨rfl, rfl⟩
  · obtain ⟨D, hD, hI⟩ := R.idx
    have c0 := headCell R.head
    have c1 : w.cell? ⟨hb, 1, none⟩ = some (.map (some mb)) := by simp [World.cell?, R.head]
    have hh := hI.hasId id
    rw [hasId_perm p id] at hh
    have HD := Lib.hid hD
    cases hid : hasId id S
    · rw [hid] at hh
      rw [keyAt_none hid]
      clear R hD hI p hs hF hH hid hn
      go_enter Try.func12, Try.ntmps12
      go_wp2_with (at_lookup; refine wpList_lookup_own_ok_int _ rfl _ _ 46 rfl 3 3 .i64 law3 Try.underlying46 Try.underlying3 (zero3 _) mb (Maps.size D) D rfl HD.out _ (key id) rfl (Maps.keyOf_int_mk Try.underlying3 (wf_of wi)) ?_; intro c hat hwc; rw [hh])
      go_ret2
      exact ⟨rfl, rfl⟩
    · rw [hid] at hh
      rw [hasId_perm p.symm id] at hid
      obtain ⟨x, hx, hxe⟩ := (hasId_iff id l).1 hid
      obtain ⟨i, hi, rfl⟩ := mem_at hx
      have HV := Lib.hid (hI.val i hi)
      rw [hxe] at HV
      rw [keyAt_some hn (p.mem_iff.1 hx) hxe]
      have a2 := R.row.key i hi
      have qi : (i : Int) < (l.length : Int) := by omega
      clear R hD hI p hs hF hH hid hn hx hxe
      go_enter Try.func12, Try.ntmps12
      go_wp2_with (at_lookup; refine wpList_lookup_own_ok_int _ rfl _ _ 46 rfl 3 3 .i64 law3 Try.underlying46 Try.underlying3 (zero3 _) mb (Maps.size D) D rfl HD.out _ (key id) rfl (Maps.keyOf_int_mk Try.underlying3 (wf_of wi)) ?_; intro c hat hwc; rw [hh]; obtain rfl := num_inj hat HV.out)
      go_ret2
      exact ⟨rfl, rfl⟩

set_option maxHeartbeats 1000000 in
set_option maxRecDepth 100000 in
theorem drop13 (hb : Nat) (F : List Nat) (S : List It) (id : Int) (wi : I64 id) (w : World) (h : IsHeap w hb F S) :
    Calls Try.prog 13 #[.pointer (some ⟨hb, 0, none⟩), .int .i64 id] w (HeapPost hb F (rem id S) (.bool (hasId id S)) w) := by
  have hn := h.nodup
  have hsr := rem_srt h.srt id
  have h' := h
  rcases h with ⟨h0, rfl, _⟩ | ⟨g, mb, cap, l, R, hH, p, hs, hF⟩
  · have c1 : w.cell? ⟨hb, 1, none⟩ = some (.map none) := by simp [World.cell?, h0]
    have q := lookNil id wi
    have HH := Lib.hid h'
    clear h0 h'
    go_enter Try.func13, Try.ntmps13
    go_wp2
    go_ret
    exact ⟨rfl, F, HH.out, Step.refl _ _⟩
  · obtain ⟨D, hD, hI⟩ := R.idx
    have c0 := headCell R.head
    have c1 : w.cell? ⟨hb, 1, none⟩ = some (.map (some mb)) := by simp [World.cell?, R.head]
    have hh := hI.hasId id
    rw [hasId_perm p id] at hh
    have HD := Lib.hid hD
    cases hid : hasId id S
    · rw [hid] at hh
      have HH := Lib.hid h'
      have HE := Lib.hid (rem_none hid)
      clear R hD hI p hs hF hH hid hn h' hsr
      go_enter Try.func13, Try.ntmps13
      go_wp2_with (at_lookup; refine wpList_lookup_own_ok_int _ rfl _ _ 46 rfl 3 3 .i64 law3 Try.underlying46 Try.underlying3 (zero3 _) mb (Maps.size D) D rfl HD.out _ (key id) rfl (Maps.keyOf_int_mk Try.underlying3 (wf_of wi)) ?_; intro c hat hwc; rw [hh])
      go_ret
      rw [HE.out]
      exact ⟨rfl, F, HH.out, Step.refl _ _⟩
    · rw [hid] at hh
      rw [hasId_perm p.symm id] at hid
      obtain ⟨x, hx, hxe⟩ := (hasId_iff id l).1 hid
      obtain ⟨i, hi, rfl⟩ := mem_at hx
      have HV := Lib.hid (hI.val i hi)
      rw [hxe] at HV
      have HR := Lib.hid (remove21 hb g mb cap i l w R hi hH)
      have HP : Hid (∀ l', (l' ++ [at' l i]).Perm l → l'.Perm (rem id S)) := Lib.hid (fun l' q => by
        have := rem_cons q (nodup_of_dist R.dist)
        rw [hxe] at this
        exact this.symm.trans (rem_perm p id))
      have HS := Lib.hid hsr
      clear R hD hI p hs hH hid hn hx hxe h' hsr
      subst hF
      go_enter Try.func13, Try.ntmps13
      go_wp2_with (first | (at_lookup; refine wpList_lookup_own_ok_int _ rfl _ _ 46 rfl 3 3 .i64 law3 Try.underlying46 Try.underlying3 (zero3 _) mb (Maps.size D) D rfl HD.out _ (key id) rfl (Maps.keyOf_int_mk Try.underlying3 (wf_of wi)) ?_; intro c hat hwc; rw [hh]; obtain rfl := num_inj hat HV.out) | fail)
      refine HR.out.mono ?_
      intro e w2 hG
      have he := hG.1
      have HG := Lib.hid (gone_heap hG HS.out HP.out)
      subst he
      clear hG
      go_wp2_with fail
      go_ret
      exact ⟨rfl, HG.out⟩
end Go.Proofs.Ytfhlipalfebfaaa
