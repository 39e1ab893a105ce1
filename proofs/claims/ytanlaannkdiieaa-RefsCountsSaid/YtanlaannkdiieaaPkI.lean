import Derived.Test.YtanlaannkdiieaaPkH
namespace Go.Proofs.Ytanlaannkdiieaa.Pk
open Go.RowKit Go.Sort

def flat (l : List It) : List Value := l.flatMap enc

theorem length_flat (l : List It) : (flat l).length = l.length * 2 := by
  induction l with
  | nil => rfl
  | cons x l ih => unfold flat at *; simp only [List.flatMap_cons, List.length_append, ih, enc, List.length_cons, List.length_nil]; omega

theorem flat_get (l : List It) : ∀ i, i < l.length → (flat l)[i * 2]? = some (.int .i64 (at' l i).1) ∧ (flat l)[i * 2 + 1]? = some (.int .i64 (at' l i).2) := by
  induction l with
  | nil => intro i hi; cases hi
  | cons x l ih =>
    intro i hi
    cases i with
    | zero => exact ⟨rfl, rfl⟩
    | succ i =>
      have h := ih i (by simpa using hi)
      have e1 : (i + 1) * 2 = i * 2 + 2 := by omega
      rw [e1]
      exact h

theorem flat_append (l m : List It) : flat (l ++ m) = flat l ++ flat m := by simp [flat]

theorem Row.owns {w : World} {g cap : Nat} {l : List It} (h : Row w g cap l) (hc : cap ≤ maxLen) : w.ownsRow 0 41 2 (.slice (some ⟨g, 0, none⟩) l.length cap) l.length (flat l) := by
  obtain ⟨⟨cur, h1, h2⟩, h3, h4, h5⟩ := h
  refine ⟨length_flat l, Or.inr ⟨g, cap, cur, rfl, Nat.zero_le _, h1, h3, hc, h2, ?_⟩⟩
  apply List.ext_getElem?
  intro j
  have hcell : ∀ o, w.cell? ⟨g, o, none⟩ = cur[o]? := fun o => by simp [World.cell?, h1]
  rw [List.getElem?_take]
  by_cases hj : j < l.length * 2
  · rw [if_pos hj]
    have f := flat_get l (j / 2) (by omega)
    have a := h4 (j / 2) (by omega)
    have b := h5 (j / 2) (by omega)
    rw [hcell] at a b
    rcases (show j = j / 2 * 2 ∨ j = j / 2 * 2 + 1 by omega) with e | e
    · rw [e, Array.getElem?_toList, a, f.1]
    · rw [e, Array.getElem?_toList, b, f.2]
  · rw [if_neg hj, List.getElem?_eq_none (by rw [length_flat]; omega)]

theorem row_of_owns {w : World} {B g cap n : Nat} {l : List It} (h : w.ownsRow B 41 2 (.slice (some ⟨g, 0, none⟩) n cap) n (flat l)) : Row w g cap l ∧ cap ≤ maxLen ∧ n = l.length := by
  obtain ⟨h1, h | ⟨g', cap', cur, e, hb, hg, h2, h3, h4, h5⟩⟩ := h
  · cases h.1
  · rw [length_flat] at h1
    have hn : n = l.length := by omega
    injection e with e1 e2 e3
    injection e1 with e1
    injection e1 with e1
    subst e1 e3
    have hc : ∀ o u, (flat l)[o]? = some u → w.cell? ⟨g, o, none⟩ = some u := by
      intro o u hu
      rw [← h5, List.getElem?_take] at hu
      split at hu
      · simpa [World.cell?, hg] using hu
      · cases hu
    exact ⟨⟨⟨cur, hg, h4⟩, by omega, fun i hi => hc _ _ (flat_get l i hi).1, fun i hi => hc _ _ (flat_get l i hi).2⟩, h3, hn⟩

theorem at_push (l : List It) (x : It) (i : Nat) : at' (l ++ [x]) i = if i < l.length then at' l i else if i = l.length then x else (0, 0) := by
  unfold at'
  simp only [List.getD_eq_getElem?_getD]
  by_cases h : i < l.length
  · rw [if_pos h, List.getElem?_append_left h]
  · rw [if_neg h, List.getElem?_append_right (by omega)]
    by_cases h2 : i = l.length
    · subst h2; simp
    · rw [if_neg h2]
      obtain ⟨k, hk⟩ : ∃ k, i - l.length = k + 1 := ⟨i - l.length - 1, by omega⟩
      rw [hk]; rfl

theorem Idx.push {D : DataW Unit} {l : List It} (h : Idx D l) (x : It) (hx : ∀ i, i < l.length → (at' l i).1 ≠ x.1) : Idx (D.put (key x.1) (num l.length)) (l ++ [x]) := by
  have hI := h.tidy.isMap
  have hno : Maps.has D (key x.1) = false := by
    cases e : Maps.has D (key x.1)
    · rfl
    · obtain ⟨i, hi, e2⟩ := h.back _ e
      exact absurd e2 (hx i hi)
  refine ⟨h.tidy.put (isKey _) _, ?_, fun i hi => ?_, fun i hi => ?_, fun k hk => ?_⟩
  · rw [Maps.size_put h.tidy, hno]
    simp [h.size]
  · rw [at_push]
    rw [List.length_append] at hi
    by_cases e : i < l.length
    · rw [if_pos e, Maps.has_put_other (key_ne (hx i e))]; exact h.has i e
    · rw [if_neg e, if_pos (by simp at hi; omega), Maps.has_put_same hI (isKey _)]
  · rw [at_push]
    rw [List.length_append] at hi
    by_cases e : i < l.length
    · rw [if_pos e, Maps.atKey_put_other (key_ne (hx i e))]; exact h.val i e
    · have : i = l.length := by simp at hi; omega
      rw [if_neg e, if_pos this, this, Maps.atKey_put_same hI (isKey _)]
  · by_cases e : k = x.1
    · exact ⟨l.length, by simp, by rw [at_push, if_neg (by omega), if_pos rfl]; exact e.symm⟩
    · rw [Maps.has_put_other (key_ne e)] at hk
      obtain ⟨i, hi, e2⟩ := h.back k hk
      exact ⟨i, by simp; omega, by rw [at_push, if_pos hi]; exact e2⟩

theorem Dist.push {l : List It} (h : Dist l) (x : It) (hx : ∀ i, i < l.length → (at' l i).1 ≠ x.1) : Dist (l ++ [x]) := by
  intro i j hi hj e
  rw [List.length_append] at hi hj
  simp at hi hj
  rw [at_push, at_push] at e
  by_cases a : i < l.length <;> by_cases b : j < l.length
  · rw [if_pos a, if_pos b] at e; exact h i j a b e
  · rw [if_pos a, if_neg b, if_pos (by omega)] at e; exact absurd e (hx i a)
  · rw [if_neg a, if_pos b, if_pos (by omega)] at e; exact absurd e.symm (hx j b)
  · omega

theorem idx_none : Idx (.map []) [] :=
  ⟨Maps.tidy_empty, rfl, fun i hi => absurd hi (Nat.not_lt_zero _), fun i hi => absurd hi (Nat.not_lt_zero _), fun k hk => by simp [Maps.has] at hk⟩

theorem info26 : (Try.prog.info? 41).map (fun i => (i.zero, i.size, i.bytes)) = some (some (.agg #[.int .i64 0, .int .i64 0]), 2, 16) := by kernel_rfl
theorem eqMap (b : Nat) (w : World) : (binOp .eql 36 (.map (some b)) (.map none)).run Try.prog w = .ok (.bool false) w := by kernel_rfl
theorem eqMapNil (w : World) : (binOp .eql 36 (.map none) (.map none)).run Try.prog w = .ok (.bool true) w := by kernel_rfl
theorem ta26 (v : Value) (xT : TypeId) (w : World) : (Instr.typeAssert (.iface 41 v) xT 41 false).run Try.prog w = .ok v w := by kernel_rfl

theorem owns_keep {w w' : World} {row : Option Nat} {B n : Nat} {v : Value} {xs : List Value} (h : w.ownsRow B 41 2 v n xs) (hg : w.grownBy w' row) (hne : v.ownBlock = none ∨ v.ownBlock ≠ row) : w'.ownsRow B 41 2 v n xs := by
  obtain ⟨h1, h | ⟨g, cap, cur, rfl, hb, h2, h3⟩⟩ := h
  · exact ⟨h1, Or.inl h⟩
  · refine ⟨h1, Or.inr ⟨g, cap, cur, rfl, hb, (hg.block g (lt_size h2) ?_).trans h2, h3⟩⟩
    rcases hne with hne | hne
    · cases hne
    · exact hne

/-- Behind a push: the row is the same one or new; so is the index. -/
def PushPost (hb : Nat) (S : List Nat) (l : List It) (x : It) (w : World) (e : Ending) (w' : World) : Prop :=
  e = .returned (.tuple #[]) ∧ ∃ g mb cap, Raw w' hb g mb cap (l ++ [x]) ∧ (g ∈ S ∨ w.heap.size ≤ g) ∧ (mb ∈ S ∨ w.heap.size ≤ mb) ∧ Turn S w w'

theorem push_end {hb mb n cap' g' : Nat} {S : List Nat} {V : Value} {l : List It} {x1 x2 : Int} {w w3 w4 : World} {D : DataW Unit} {o : Obj} (hS : hb ∈ S) (hm : mb ∈ S ∨ w.heap.size ≤ mb) (hV : V.ownBlock = none ∨ ∃ g, V.ownBlock = some g ∧ g ∈ S ∧ g ≠ hb ∧ g ≠ mb)
    (hbm : hb ≠ mb) (X3 : w3.heap[hb]? = some (.cells #[V, .map (some mb)] 48 (0, 0))) (M3 : w3.ownsMap Try.prog 3 (plainElem Try.prog 3) mb n D) (HI : Idx D (l ++ [(x1, x2)])) (WX : ∀ x ∈ l ++ [(x1, x2)], Wf x) (DX : Dist (l ++ [(x1, x2)])) (hl : l.length < 1000)
    (T3 : Turn S w w3) (hown : w4.ownsRow 0 41 2 (.slice (some ⟨g', 0, none⟩) (l.length + 1) cap') (l.length + 1) (flat l ++ [.int .i64 x1, .int .i64 x2])) (hgrow : (w3.alloc o).drew.grownBy w4 V.ownBlock) (hlies : V.ownBlock = some g' ∨ g' = (w3.alloc o).drew.heap.size) :
    PushPost hb S l (x1, x2) w (.returned (.tuple #[])) (w4.setCell ⟨hb, 0, none⟩ (.slice (some ⟨g', 0, none⟩) (l.length + 1) cap')) := by
  have sz : (w3.alloc o).drew.heap.size = w3.heap.size + 1 := by show (w3.alloc o).heap.size = _; simp
  have hb3 := lt_size X3
  have mb3 : mb < w3.heap.size := World.ownsMap.lt M3
  have keep : ∀ k, k < w3.heap.size → some k ≠ V.ownBlock → w4.heap[k]? = w3.heap[k]? := fun k hk hne =>
    (hgrow.block k (by rw [sz]; omega) hne).trans ((Turn.alloc [] w3 o).block k hk (by simp))
  have n1 : some hb ≠ V.ownBlock := by rcases hV with e | ⟨g, e, _, h1, _⟩ <;> rw [e] <;> simp; omega
  have n2 : some mb ≠ V.ownBlock := by rcases hV with e | ⟨g, e, _, _, h1⟩ <;> rw [e] <;> simp; omega
  have h1 : hb ≠ g' := by
    rcases hlies with e | e
    · intro h; subst h; exact n1 e.symm
    · rw [sz] at e; omega
  have h2 : g' ≠ mb := by
    rcases hlies with e | e
    · intro h; subst h; exact n2 e.symm
    · rw [sz] at e; omega
  have X4 := (keep hb hb3 n1).trans X3
  obtain ⟨R4, c4, _⟩ := row_of_owns (l := l ++ [(x1, x2)]) (by rw [flat_append]; exact hown)
  have hlen : (l ++ [(x1, x2)]).length = l.length + 1 := by simp
  have M4 : OwnsI w4 mb D := OwnsI.keep (ownsMap_exact M3) (keep mb mb3 n2)
  refine ⟨rfl, g', mb, cap', ⟨by rw [hlen]; exact set_block X4 0 _, R4.keep (Below.heap_setCell _ _ _ _ (Ne.symm h1)), ⟨D, M4.keep (Below.heap_setCell _ _ _ _ (Ne.symm hbm)), HI⟩, WX, DX, by rw [hlen]; omega, c4, h1, hbm, h2⟩, ?_, hm, ?_⟩
  · rcases hlies with e | e
    · rcases hV with e2 | ⟨g, e2, h3, _⟩
      · rw [e2] at e; cases e
      · rw [e2] at e; cases e; exact Or.inl h3
    · rw [sz] at e; exact Or.inr (by have := T3.size; omega)
  · refine (T3.trans ((Turn.alloc S w3 o).trans (Turn.drew S _))).trans (Turn.trans (b := w4) ⟨hgrow.os, hgrow.tape, hgrow.output, hgrow.size, fun k hk hn => hgrow.block k hk ?_⟩ (Turn.set _ _ _ _ hS))
    rcases hV with e2 | ⟨g, e2, h3, _⟩
    · rw [e2]; simp
    · rw [e2]; intro e; cases e; exact hn h3

set_option maxHeartbeats 2000000 in
set_option maxRecDepth 100000 in
theorem push68 (hb g mb cap : Nat) (l : List It) (x1 x2 : Int) (w : World) (h : Raw w hb g mb cap l) (hx : ∀ i, i < l.length → (at' l i).1 ≠ x1) (wx : Wf (x1, x2)) (hl : l.length < 1000) :
    Calls Try.prog 47 #[.pointer (some ⟨hb, 0, none⟩), .iface 41 (.agg #[.int .i64 x1, .int .i64 x2])] w (PushPost hb [hb, g, mb] l (x1, x2) w) := by
  obtain ⟨h0, hR, ⟨D, hD, hI⟩, hwf, hd, hsh, hcp, n1, n2, n3⟩ := h
  have hc : w.cell? ⟨hb, 0, none⟩ = some (.slice (some ⟨g, 0, none⟩) l.length cap) := by simp [World.cell?, h0]
  have hc1 : w.cell? ⟨hb, 1, none⟩ = some (.map (some mb)) := by simp [World.cell?, h0]
  have hb1 := lt_size h0
  have hmb := hD.lt
  have HI := Lib.hid (hI.push (x1, x2) hx)
  have HO := Lib.hid (hR.owns hcp)
  have HD := Lib.hid hD
  have HX := Lib.hid h0
  have WX : Hid (∀ x ∈ l ++ [(x1, x2)], Wf x) := Lib.hid (fun x hx => by rcases List.mem_append.1 hx with h | h; exact hwf x h; rw [List.mem_singleton.1 h]; exact wx)
  have DX := Lib.hid (hd.push (x1, x2) hx)
  have W1 := wf_of wx.1
  have W2 := wf_of (x := (l.length : Int)) (by constructor <;> omega)
  have hsz : Maps.size D < maxLen := by rw [hI.size]; unfold maxLen; omega
  obtain ⟨cur0, hg0, _⟩ := hR.block
  have hgl := lt_size hg0
  have q1 := ta26 (.agg #[.int .i64 x1, .int .i64 x2])
  obtain ⟨i0, hi0, hz0, hz1, hz2⟩ := info_parts info26
  clear h0 hR hI hD hwf hd hx wx hg0
  have q2 := eqMap mb
  go_enter Try.func47, Try.ntmps47
  go_wp2_with fail
  have T1 : Turn [hb, g, mb] w (w.alloc (.cells #[.int .i64 x1, .int .i64 x2] 41)) := Turn.alloc _ _ _
  have k1 : (w.alloc (.cells #[.int .i64 x1, .int .i64 x2] 41)).cell? ⟨w.heap.size, 0, none⟩ = some (.int .i64 x1) := by simp [go_sem]
  have k2 : (w.alloc (.cells #[.int .i64 x1, .int .i64 x2] 41)).cell? ⟨w.heap.size, 1, none⟩ = some (.int .i64 x2) := by simp [go_sem]
  have X1 : (w.alloc (.cells #[.int .i64 x1, .int .i64 x2] 41)).heap[hb]? = some (.cells #[.slice (some ⟨g, 0, none⟩) l.length cap, .map (some mb)] 48 (0, 0)) := ((Turn.alloc [] _ _).block hb hb1 (by simp)).trans HX.out
  have O1 : (w.alloc (.cells #[.int .i64 x1, .int .i64 x2] 41)).ownsRow 0 41 2 (.slice (some ⟨g, 0, none⟩) l.length cap) l.length (flat l) := HO.out.alloc _
  have M1 : OwnsI (w.alloc (.cells #[.int .i64 x1, .int .i64 x2] 41)) mb D := HD.out.keep ((Turn.alloc [] _ _).block mb hmb (by simp))
  clear hc hc1 HX HO HD
  revert T1 k1 k2 X1 O1 M1
  generalize w.alloc (.cells #[.int .i64 x1, .int .i64 x2] 41) = w1
  intro T1 k1 k2 X1 O1 M1
  have c0 : w1.cell? ⟨hb, 0, none⟩ = some (.slice (some ⟨g, 0, none⟩) l.length cap) := by simp [World.cell?, X1]
  have c1 : w1.cell? ⟨hb, 1, none⟩ = some (.map (some mb)) := by simp [World.cell?, X1]
  have HX1 := Lib.hid X1
  have HO1 := Lib.hid O1
  have HM1 := Lib.hid M1
  have HT1 := Lib.hid T1
  clear X1 O1 M1 T1
  go_still_tail 11, (by kernel_rfl)
  change wpList _ _ _ _ _ w1.drew
  have T2 := HT1.out.trans (Turn.drew _ w1)
  have M2 := HM1.out.keep (w' := w1.drew) rfl
  have X2 : w1.drew.heap[hb]? = _ := HX1.out
  have O2 : w1.drew.ownsRow _ _ _ _ _ _ := HO1.out
  have K1 : w1.drew.cell? ⟨w.heap.size, 0, none⟩ = _ := k1
  have K2 : w1.drew.cell? ⟨w.heap.size, 1, none⟩ = _ := k2
  revert T2 M2 X2 O2 K1 K2
  clear c0 c1 k1 k2 HT1 HM1 HX1 HO1
  generalize w1.drew = w2
  intro T2 M2 X2 O2 K1 K2
  have HM2 := Lib.hid M2
  have HX2 := Lib.hid X2
  have HO2 := Lib.hid O2
  have HT2 := Lib.hid T2
  have HK1 := Lib.hid K1
  have HK2 := Lib.hid K2
  clear T2 M2 X2 O2 K1 K2
  go_wp2_with (at_mapUpdate; refine wpList_mapUpdate_in _ rfl _ _ _ 36 rfl 3 3 law3 Try.underlying36 _ mb (Maps.size D) D rfl HM2.out hsz _ _ (key x1) rfl rfl (Maps.keyOf_int_mk Try.underlying3 W1) (num l.length) [] (plainElem_int Try.underlying3 W2) ?_; intro w3 hown3 hturn3)
  simp only [Act.put]
  have g3 := hturn3.grown
  have T3 := HT2.out.trans (Turn.map hturn3 (by simp))
  have X3 := (g3.block hb (lt_size HX2.out) (by intro e; injection e with e; omega)).trans HX2.out
  have O3 : w3.ownsRow 0 41 2 (.slice (some ⟨g, 0, none⟩) l.length cap) l.length _ := owns_keep HO2.out g3 (by simp [Value.ownBlock, n3])
  have k1 := (g3.cell_far ⟨w.heap.size, 0, none⟩ (cell?_lt HK1.out) (by intro e; injection e with e; dsimp only at e; omega)).trans HK1.out
  have k2 := (g3.cell_far ⟨w.heap.size, 1, none⟩ (cell?_lt HK1.out) (by intro e; injection e with e; dsimp only at e; omega)).trans HK2.out
  have c0 : w3.cell? ⟨hb, 0, none⟩ = some (.slice (some ⟨g, 0, none⟩) l.length cap) := by simp [World.cell?, X3]
  have f0 : w3.frozen? ⟨hb, 0, none⟩ = false := by simp [World.frozen?, X3]
  have z3 := lt_size X3
  have HX3 := Lib.hid X3
  have HO3 := Lib.hid O3
  have HM3 := Lib.hid hown3
  have HT3 := Lib.hid T3
  have zA := cell?_lt k1
  clear X3 O3 hown3 T3 g3 hturn3 HM2 HX2 HO2 HT2 HK1 HK2
  go_wp2_with fail
  go_region_law (refine step_append_lies _ rfl _ _ 44 rfl 0 41 i0 (.agg #[.int .i64 0, .int .i64 0]) 2 16 Try.underlying44 hi0 hz0 hz1 hz2 rfl (by decide) (.slice (some ⟨g, 0, none⟩) l.length cap) l.length _ rfl (HO3.out.alloc _) ⟨w3.heap.size, 0, none⟩ 1 1 [.int .i64 x1, .int .i64 x2] rfl rfl (by intro j u hj; match j, hj with | 0, hj => (simp at hj; subst hj; simp [Addr.add, go_sem]) | 1, hj => (simp at hj; subst hj; simp [Addr.add, go_sem])) (by intro u hu; simp at hu; rcases hu with rfl | rfl <;> rfl) (hm := by omega) (h63 := by unfold maxLen; omega) (hbytes := by omega) (hbase := Nat.zero_le _) _ rfl ?_; intro g' cap' w4 hown4 hgrow4 hlies4 hlt4; have e0 := (hgrow4.cell_far ⟨hb, 0, none⟩ (by simp; omega) (by simp [Value.ownBlock, n1])).trans ((World.cell?_alloc_past _ _ _ z3).trans c0); have e1 := (hgrow4.frozen_far ⟨hb, 0, none⟩ (by simp; omega) (by simp [Value.ownBlock, n1])).trans ((World.frozen?_alloc_past _ _ _ z3).trans f0))
  all_goals go_end0
  all_goals exact push_end (by simp) (by simp) (Or.inr ⟨g, rfl, by simp, Ne.symm n1, n3⟩) n2 HX3.out HM3.out HI.out WX.out DX.out hl HT3.out hown4 hgrow4 hlies4
end Go.Proofs.Ytanlaannkdiieaa.Pk
