import Derived.Test.YtfhlipalfebfaaaP
import Derived.Test.YtfhlipalfebfaaaSort
namespace Go.Proofs.Ytfhlipalfebfaaa
open Go.RowKit Go.Sort

theorem ltOf_cmp (x y : It) : ltOf cmpIt x y = ltIt x y := by
  obtain ⟨x1, x2⟩ := x
  obtain ⟨y1, y2⟩ := y
  unfold ltOf cmpIt orv cmp1 ltIt
  refine decide_eq_decide.2 ?_
  dsimp only
  split <;> rename_i h <;> revert h <;> repeat' split
  all_goals (intros; first | omega | simp_all)

theorem swo : SWO (ltOf cmpIt) where
  irrefl x := by rw [ltOf_cmp]; exact lt_irrefl' x
  trans x y z h k := by rw [ltOf_cmp] at *; exact lt_trans' h k
  ntrans x y z h k := by
    rw [ltOf_cmp] at *
    exact le_trans (x := z) (y := y) (z := x) k h

theorem isAgg26 (w : World) : (isAgg 26).run Try.prog w = .ok true w := by kernel_rfl
theorem sizeOf26 (w : World) : (Go.sizeOf 26).run Try.prog w = .ok 2 w := by kernel_rfl

theorem cmpLays24 (blk off size : Nat) (w : World) : CmpLays Try.prog 24 #[] enc 2 cmpIt blk off size w :=
  fun _ _ _ _ x y => compare24 x y _

theorem get_arr (l : List It) (i : Nat) (hi : i < l.length) : l.toArray[i]! = at' l i := by
  unfold at'
  rw [List.getD_eq_getElem?_getD, List.getElem?_eq_getElem hi, getElem!_pos l.toArray i (by simpa using hi)]
  simp

theorem Row.holds {w : World} {g cap : Nat} {l : List It} (h : Row w g cap l) : HoldsK enc 2 w g 0 l.toArray := by
  obtain ⟨⟨cur, h1, h2⟩, h3, h4, h5⟩ := h
  intro j hj
  have hj' : j < l.length * 2 := by simpa using hj
  refine ⟨?_, by simp [World.frozen?, h1]⟩
  rw [get_flatK enc 2 l.toArray j (by simpa using hj'), get_arr l (j / 2) (by omega), Nat.zero_add]
  rcases (show j = j / 2 * 2 ∨ j = j / 2 * 2 + 1 by omega) with e | e
  · have := h4 (j / 2) (by omega)
    rw [← e] at this
    rw [this, show j % 2 = 0 by omega]
    rfl
  · have := h5 (j / 2) (by omega)
    rw [← e] at this
    rw [this, show j % 2 = 1 by omega]
    rfl

theorem holds_cell {w : World} {g : Nat} {d : Array It} (h : HoldsK enc 2 w g 0 d) {i : Nat} (hi : i < d.size) :
    w.cell? ⟨g, i * 2, none⟩ = some (.int .i64 (at' d.toList i).1) ∧ w.cell? ⟨g, i * 2 + 1, none⟩ = some (.int .i64 (at' d.toList i).2) := by
  have e : d[i]! = at' d.toList i := by
    have := get_arr d.toList i (by simpa using hi)
    simpa using this
  have a := (h (i * 2) (by simp; omega)).1
  have b := (h (i * 2 + 1) (by simp; omega)).1
  rw [get_flatK enc 2 d _ (by omega), Nat.zero_add] at a b
  rw [show i * 2 / 2 = i by omega, show i * 2 % 2 = 0 by omega, e] at a
  rw [show (i * 2 + 1) / 2 = i by omega, show (i * 2 + 1) % 2 = 1 by omega, e] at b
  exact ⟨a, b⟩

theorem sorted_grown {w : World} {g n : Nat} {os : Array Obj} (d : Array It) : w.grownBy (sortWorldK enc 2 w g 0 n d os) (some g) := by
  refine ⟨rfl, rfl, rfl, by simp [sortWorldK, grow, putRowK, putRow, mapBlock, Sort.ahead], fun k hk hne => ?_⟩
  have : g ≠ k := fun e => hne (by rw [e])
  simp [sortWorldK, grow, putRowK, putRow, mapBlock, Sort.ahead, Array.getElem?_append, hk]
  rw [Array.getElem_modify, if_neg this]

/-- Sorted, and of unlike IDs: in the order of S. -/
theorem sorted_is {l S : List It} {d' : Array It} (hd : (l.map (·.1)).Nodup) (p : l.Perm S) (hs : Srt S) (h1 : PermIn 0 l.toArray.size l.toArray d') (h2 : SortedIn (ltOf cmpIt) 0 l.toArray.size d') : d'.toList = S := by
  obtain ⟨hz, _, hp⟩ := h1
  have hz' : d'.size = l.length := by simpa using hz
  have hp' : d'.toList.Perm l := by
    have e1 : d'.extract 0 l.toArray.size = d' := by rw [← hz]; exact Array.extract_size
    have e2 : l.toArray.extract 0 l.toArray.size = l.toArray := Array.extract_size
    rw [e1, e2] at hp
    exact hp
  have hn : (d'.toList.map (·.1)).Nodup := (hp'.map (·.1)).nodup_iff.2 hd
  refine srt_unique ?_ hs (hp'.trans p)
  unfold Srt
  rw [List.pairwise_iff_getElem]
  intro i j hi hj hij
  have hi' : i < d'.size := by simpa using hi
  have hj' : j < d'.size := by simpa using hj
  have a := h2 i j (Nat.zero_le _) hij (by simpa [hz'] using hj')
  rw [ltOf_cmp, getElem!_pos d' i hi', getElem!_pos d' j hj'] at a
  rw [List.nodup_iff_pairwise_ne, List.pairwise_map, List.pairwise_iff_getElem] at hn
  have b := hn i j hi hj hij
  simp only [Array.getElem_toList] at b ⊢
  revert a b
  generalize d'[i] = x
  generalize d'[j] = y
  intro a b
  rw [lt_iff]
  have := (le_iff x y).1 a
  rcases this with h | ⟨h, k⟩
  · exact Or.inl h
  · exact Or.inr ⟨h, by omega⟩

/-- A slice of items in new memory. -/
def SliceOf (B : Nat) (w : World) (v : Value) (S : List It) : Prop :=
  ∃ a cap, v = .slice a S.length cap ∧ ∀ i, i < S.length → ∃ g, a = some ⟨g, 0, none⟩ ∧ B ≤ g ∧ g < w.heap.size ∧ w.cell? ⟨g, i * 2, none⟩ = some (.int .i64 (at' S i).1) ∧ w.cell? ⟨g, i * 2 + 1, none⟩ = some (.int .i64 (at' S i).2)

theorem flat_one (l : List It) : ∀ u ∈ flat l, u.oneCell' = true := by
  intro u hu
  obtain ⟨x, _, hx⟩ := List.mem_flatMap.1 hu
  simp [enc] at hx
  rcases hx with rfl | rfl <;> rfl

theorem eqSl (a : Addr) (n c : Nat) (w : World) : (binOp .eql 33 (.slice (some a) n c) (.slice none 0 0)).run Try.prog w = .ok (.bool false) w := by kernel_rfl

set_option maxHeartbeats 1000000 in
set_option maxRecDepth 100000 in
theorem clone22 (g cap : Nat) (l : List It) (w : World) (hR : Row w g cap l) (hc : cap ≤ maxLen) (hl : 0 < l.length) (hs : l.length ≤ 1000) :
    Calls Try.prog 22 #[.slice (some ⟨g, 0, none⟩) l.length cap] w fun e w' => ∃ g' cap', e = .returned (.slice (some ⟨g', 0, none⟩) l.length cap') ∧ Row w' g' cap' l ∧ w.heap.size ≤ g' ∧ g' < w'.heap.size ∧ Below w.heap.size w w' := by
  have HO := Lib.hid (hR.owns hc)
  have q := eqSl ⟨g, 0, none⟩ l.length cap
  obtain ⟨cur, hg, _⟩ := hR.block
  have hgl := lt_size hg
  have HR := Lib.hid hR
  obtain ⟨i0, hi0, hz0, hz1, hz2⟩ := info_parts info26
  clear hR hg
  go_enter Try.func22, Try.ntmps22
  have h9 : (w.alloc (.cells #[] 26)).ownsRow w.heap.size 26 2 (.slice (some ⟨w.heap.size, 0, none⟩) 0 0) 0 [] :=
    ⟨rfl, Or.inr ⟨w.heap.size, 0, #[], rfl, Nat.le_refl _, by show (w.heap.push _)[w.heap.size]? = _; rw [Array.getElem?_push, if_pos rfl], Nat.le_refl _, Nat.zero_le _, rfl, rfl⟩⟩
  have H9 := Lib.hid h9
  clear h9
  go_wp2_with (at_builtin; refine wpList_append_lies _ rfl _ _ 33 rfl w.heap.size 26 i0 (.agg #[.int .i64 0, .int .i64 0]) 2 16 Try.underlying33 hi0 hz0 hz1 hz2 rfl (by decide) (.slice (some ⟨w.heap.size, 0, none⟩) 0 0) 0 [] rfl H9.out ⟨g, 0, none⟩ l.length cap (flat l) rfl (length_flat l) (fun j u hj => (HO.out.alloc _).cells rfl j u hj) (flat_one l) (hm := hl) (h63 := by unfold maxLen; omega) (hbytes := by omega) (hbase := by simp) _ rfl ?_; intro g' cap' w4 hown4 hgrow4 hlies4 hlt4)
  go_ret
  have hg' : w.heap.size ≤ g' := by
    rcases hlies4 with e | e
    · injection e with e; dsimp only at e; omega
    · simp at e; omega
  have e0 : 0 + l.length = l.length := Nat.zero_add _
  rw [e0] at hown4
  obtain ⟨R, _, _⟩ := row_of_owns (l := l) (by simpa using hown4)
  refine ⟨g', cap', by rw [← e0]; rfl, R, hg', hlt4, ⟨hgrow4.os, hgrow4.tape, hgrow4.output, Nat.le_trans (by simp) hgrow4.size, fun k hk => ?_⟩⟩
  exact (hgrow4.block k (by simp; omega) (by simp [Value.ownBlock]; omega)).trans ((Turn.alloc [] w _).block k hk (by simp))

theorem eqSlNil (w : World) : (binOp .eql 33 (.slice none 0 0) (.slice none 0 0)).run Try.prog w = .ok (.bool true) w := by kernel_rfl

theorem cloneN22 (w : World) : Calls Try.prog 22 #[.slice none 0 0] w fun e w' => e = .returned (.slice none 0 0) ∧ w' = w := by
  have q := eqSlNil
  go_enter Try.func22, Try.ntmps22
  go_wp2
  go_ret
  exact ⟨rfl, rfl⟩

theorem cloneE22 (a : Addr) (cap : Nat) (w : World) : Calls Try.prog 22 #[.slice (some a) 0 cap] w fun e w' => (∃ a' cap', e = .returned (.slice a' 0 cap')) ∧ Below w.heap.size w w' := by
  have q := eqSl a 0 cap
  go_enter Try.func22, Try.ntmps22
  go_wp2
  go_ret
  exact ⟨⟨_, _, rfl⟩, (Below.refl _ _).alloc (Nat.le_refl _) _⟩

theorem sortN23 (p : Option Addr) (cap : Nat) (fv : Value) (w : World) : Calls Try.prog 23 #[.slice p 0 cap, fv] w fun e w' => e = .returned (.tuple #[]) ∧ w' = w :=
  AnyF.slices_SortFunc_none Try.sortItems p cap fv w

theorem sort23 (g cap : Nat) (l S : List It) (w : World) (hR : Row w g cap l) (hs : l.length ≤ 1000) (hd : (l.map (·.1)).Nodup) (p : l.Perm S) (hS : Srt S) :
    Calls Try.prog 23 #[.slice (some ⟨g, 0, none⟩) l.length cap, .func (.func 24) #[] #[]] w fun e w' => e = .returned (.tuple #[]) ∧ w.grownBy w' (some g) ∧
      ∀ i, i < S.length → w'.cell? ⟨g, i * 2, none⟩ = some (.int .i64 (at' S i).1) ∧ w'.cell? ⟨g, i * 2 + 1, none⟩ = some (.int .i64 (at' S i).2) := by
  have eg : ∀ args w, (callFunc 24 args).run Try.prog w = .ok (.enter 24 args) w := enters_of Try.func24 (by kernel_rfl) rfl
  obtain ⟨cur, hg, _⟩ := hR.block
  have hcon := AnyQ.slices_SortFunc Try.sortItems 2 isAgg26 sizeOf26 enc (fun _ => rfl) (fun x v hv => by simp [enc] at hv; rcases hv with rfl | rfl <;> rfl) cmpIt swo 24 #[] g 0 cap l.toArray w eg (cmpLays24 _ _ _ _) hR.holds (lt_size hg) (by simp; omega)
  refine Calls.mono hcon ?_
  rintro e w' ⟨rfl, d', n, os, h1, h2, rfl⟩
  refine ⟨rfl, sorted_grown d', fun i hi => ?_⟩
  have e := sorted_is hd p hS h1 h2
  have hz : d'.size = l.toArray.size := h1.1
  have := holds_cell (holdsK_sortWorldK_c enc 2 w g 0 l.toArray d' n os hR.holds (lt_size hg) hz) (i := i) (by rw [← e] at hi; simpa using hi)
  rw [e] at this
  exact this

theorem SliceOf.nil (B : Nat) (w : World) (a : Option Addr) (cap : Nat) : SliceOf B w (.slice a 0 cap) [] := ⟨a, cap, rfl, fun i hi => absurd hi (Nat.not_lt_zero _)⟩

set_option maxHeartbeats 1000000 in
set_option maxRecDepth 100000 in
theorem all14 (hb : Nat) (F : List Nat) (S : List It) (w : World) (h : IsHeap w hb F S) :
    Calls Try.prog 14 #[.pointer (some ⟨hb, 0, none⟩)] w fun e w' => ∃ v, e = .returned v ∧ Below w.heap.size w w' ∧ SliceOf w.heap.size w' v S := by
  rcases h with ⟨h0, rfl, _⟩ | ⟨g, mb, cap, l, R, _, p, hs, _⟩
  · have c0 := headCell h0
    clear h0
    go_enter Try.func14, Try.ntmps14
    go_wp2_with fail
    refine (cloneN22 w).mono ?_
    rintro e w1 ⟨rfl, rfl⟩
    go_wp2_with fail
    refine (sortN23 none 0 _ w1).mono ?_
    rintro e w2 ⟨rfl, rfl⟩
    go_wp2_with fail
    go_ret
    exact ⟨_, rfl, Below.refl _ _, SliceOf.nil _ _ _ _⟩
  · have c0 := headCell R.head
    by_cases hl : l.length = 0
    · have hS : S = [] := by
        have := p.length_eq
        rw [hl] at this
        exact List.eq_nil_of_length_eq_zero this.symm
      subst hS
      rw [hl] at c0
      clear R p hs hl
      go_enter Try.func14, Try.ntmps14
      go_wp2_with fail
      refine (cloneE22 ⟨g, 0, none⟩ cap w).mono ?_
      rintro e w1 ⟨⟨a', cap', rfl⟩, b1⟩
      have HB := Lib.hid b1
      clear b1
      go_wp2_with fail
      refine (sortN23 a' cap' _ w1).mono ?_
      rintro e w2 ⟨rfl, rfl⟩
      go_wp2_with fail
      go_ret
      exact ⟨_, rfl, HB.out, SliceOf.nil _ _ _ _⟩
    · have HC := Lib.hid (clone22 g cap l w R.row R.caps (by omega) R.short)
      have HS := Lib.hid (fun g' cap' w1 hR => sort23 g' cap' l S w1 hR R.short (nodup_of_dist R.dist) p hs)
      have HL := Lib.hid p.length_eq
      clear R p hs
      go_enter Try.func14, Try.ntmps14
      go_wp2_with fail
      refine HC.out.mono ?_
      rintro e w1 ⟨g', cap', rfl, R1, hg1, hg2, b1⟩
      have HR1 := Lib.hid R1
      have HB1 := Lib.hid b1
      clear R1 b1
      go_wp2_with fail
      refine (HS.out g' cap' w1 HR1.out).mono ?_
      rintro e w2 ⟨rfl, G2, k2⟩
      have HG2 := Lib.hid G2
      have HK2 := Lib.hid k2
      clear G2 k2
      go_wp2_with fail
      go_ret
      refine ⟨_, rfl, ?_, ⟨some ⟨g', 0, none⟩, cap', by rw [← HL.out]; rfl, fun i hi => ⟨g', rfl, hg1, Nat.lt_of_lt_of_le hg2 HG2.out.size, HK2.out i hi⟩⟩⟩
      exact ⟨HG2.out.os.trans HB1.out.os, HG2.out.tape.trans HB1.out.tape, HG2.out.output.trans HB1.out.output, Nat.le_trans HB1.out.size HG2.out.size, fun k hk => (HG2.out.block k (Nat.lt_of_lt_of_le hk HB1.out.size) (fun e => by injection e with e; omega)).trans (HB1.out.block k hk)⟩
end Go.Proofs.Ytfhlipalfebfaaa
