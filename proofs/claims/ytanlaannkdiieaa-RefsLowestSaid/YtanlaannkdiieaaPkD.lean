import Derived.Test.YtanlaannkdiieaaPkC
namespace Go.Proofs.Ytanlaannkdiieaa.Pk
open Go.RowKit Go.Sort

/-- A heap that has its row and its index: block hb, row g, index mb. -/
structure Raw (w : World) (hb g mb cap : Nat) (l : List It) : Prop where
  head : w.heap[hb]? = some (.cells #[.slice (some ⟨g, 0, none⟩) l.length cap, .map (some mb)] 48 (0, 0))
  row : Row w g cap l
  idx : ∃ D, OwnsI w mb D ∧ Idx D l
  wf : ∀ x ∈ l, Wf x
  dist : Dist l
  short : l.length ≤ 1000
  caps : cap ≤ maxLen
  apart : hb ≠ g ∧ hb ≠ mb ∧ g ≠ mb

theorem Raw.keep {w w' : World} {hb g mb cap : Nat} {l : List It} (h : Raw w hb g mb cap l) (e : ∀ k, k < w.heap.size → k = hb ∨ k = g ∨ k = mb → w'.heap[k]? = w.heap[k]?) : Raw w' hb g mb cap l := by
  obtain ⟨cur, h1, h2⟩ := h.row.block
  obtain ⟨D, hD, hI⟩ := h.idx
  exact ⟨(e hb (lt_size h.head) (Or.inl rfl)).trans h.head, h.row.keep (e g (lt_size h1) (Or.inr (Or.inl rfl))), ⟨D, hD.keep (e mb hD.lt (Or.inr (Or.inr rfl))), hI⟩, h.wf, h.dist, h.short, h.caps, h.apart⟩

theorem at_mem (l : List It) (i : Nat) (hi : i < l.length) : at' l i ∈ l := by
  unfold at'
  rw [List.getD_eq_getElem?_getD, List.getElem?_eq_getElem hi]
  exact List.getElem_mem hi

theorem mem_at {l : List It} {x : It} (h : x ∈ l) : ∃ i, i < l.length ∧ at' l i = x := by
  obtain ⟨i, hi, e⟩ := List.getElem_of_mem h
  exact ⟨i, hi, by unfold at'; rw [List.getD_eq_getElem?_getD, List.getElem?_eq_getElem hi]; exact e⟩

theorem wf_swp {l : List It} (h : ∀ x ∈ l, Wf x) {i j : Nat} (hi : i < l.length) (hj : j < l.length) : ∀ x ∈ swp l i j, Wf x := by
  intro x hx
  obtain ⟨k, hk, rfl⟩ := mem_at hx
  rw [length_swp] at hk
  rw [at_swp l i j k hi hj]
  repeat' split
  all_goals exact h _ (at_mem _ _ (by assumption))

theorem at_swp' (l : List It) (i j k : Nat) (hi : i < l.length) (hj : j < l.length) : at' (swp l i j) k = at' l (if k = j then i else if k = i then j else k) := by
  rw [at_swp l i j k hi hj]
  split
  · rfl
  · split <;> rfl

theorem dist_swp {l : List It} (h : Dist l) {i j : Nat} (hi : i < l.length) (hj : j < l.length) : Dist (swp l i j) := by
  intro a b ha hb e
  rw [length_swp] at ha hb
  rw [at_swp' l i j a hi hj, at_swp' l i j b hi hj] at e
  have := h _ _ (by repeat' split
                    all_goals assumption) (by repeat' split
                                              all_goals assumption) e
  by_cases a1 : a = j <;> by_cases b1 : b = j <;> by_cases a2 : a = i <;> by_cases b2 : b = i <;> simp only [a1, b1, a2, b2, if_true, if_false] at this <;> first | omega | (repeat' split at this) <;> omega

set_option maxHeartbeats 2000000 in
set_option maxRecDepth 100000 in
theorem swap69 (hb g mb cap i j : Nat) (l : List It) (w : World) (h : Raw w hb g mb cap l) (hi : i < l.length) (hj : j < l.length) :
    Calls Try.prog 48 #[.pointer (some ⟨hb, 0, none⟩), .int .i64 i, .int .i64 j] w fun e w' => e = .returned (.tuple #[]) ∧ Raw w' hb g mb cap (swp l i j) ∧ Turn [g, mb] w w' := by
  obtain ⟨h0, hR, ⟨D, hD, hI⟩, hwf, hd, hsh, hcp, n1, n2, n3⟩ := h
  have hc : w.cell? ⟨hb, 0, none⟩ = some (.slice (some ⟨g, 0, none⟩) l.length cap) := by simp [World.cell?, h0]
  have a1 := hR.id i hi
  have a2 := hR.key i hi
  have b1 := hR.id j hj
  have b2 := hR.key j hj
  have HS := Lib.hid (hR.swap hi hj)
  have HI := Lib.hid (hI.swap hd hi hj)
  have HD := Lib.hid hD
  have HR := Lib.hid hR
  have HX := Lib.hid h0
  have WX := Lib.hid (wf_swp hwf hi hj)
  have DX := Lib.hid (dist_swp hd hi hj)
  have hsz : Maps.size D < maxLen := by rw [hI.size]; unfold maxLen; omega
  have hsz1 : Maps.size D + 1 < maxLen := by rw [hI.size]; unfold maxLen; omega
  obtain ⟨x, hx⟩ : ∃ x, at' l i = x := ⟨_, rfl⟩
  obtain ⟨y, hy⟩ : ∃ y, at' l j = y := ⟨_, rfl⟩
  rw [hx] at a1 a2 HS
  rw [hy] at b1 b2 HS
  obtain ⟨x1, x2⟩ := x
  obtain ⟨y1, y2⟩ := y
  have q1 : (i : Int) < (l.length : Int) := by omega
  have q2 : (j : Int) < (l.length : Int) := by omega
  obtain ⟨cur, hg, hs⟩ := hR.block
  have f1 : w.frozen? ⟨g, i * 2, none⟩ = false := by simp [World.frozen?, hg]
  have f2 : w.frozen? ⟨g, i * 2 + 1, none⟩ = false := by simp [World.frozen?, hg]
  have f3 : w.frozen? ⟨g, j * 2, none⟩ = false := by simp [World.frozen?, hg]
  have f4 : w.frozen? ⟨g, j * 2 + 1, none⟩ = false := by simp [World.frozen?, hg]
  obtain ⟨u1, k1⟩ := cell?_setCell_some (w := w) (p := ⟨g, i * 2, none⟩) (x := .int .i64 y1) (q := ⟨g, j * 2, none⟩) (v := .int .i64 y1) b1
  obtain ⟨u3, k3⟩ := cell?_setCell_some (w := w) (p := ⟨g, i * 2, none⟩) (x := .int .i64 y1) (q := ⟨g, j * 2 + 1, none⟩) (v := .int .i64 y2) b2
  obtain ⟨u2, k2⟩ := cell?_setCell_some (w := w.setCell ⟨g, i * 2, none⟩ (.int .i64 y1)) (p := ⟨g, i * 2 + 1, none⟩) (x := .int .i64 y2) (q := ⟨g, j * 2 + 1, none⟩) (v := u3) k3
  clear k3 hR h0 hx hy hg hI hD hd hwf
  go_enter Try.func48, Try.ntmps48
  go_wp2_with fail
  go_region
  clear k1 k2 f1 f2 f3 f4 a1 a2 b1 b2 hc
  have T1 : Turn [g, mb] w ((((w.setCell ⟨g, i * 2, none⟩ (.int .i64 y1)).setCell ⟨g, i * 2 + 1, none⟩ (.int .i64 y2)).setCell ⟨g, j * 2, none⟩ (.int .i64 x1)).setCell ⟨g, j * 2 + 1, none⟩ (.int .i64 x2)).drew :=
    ((((Turn.set _ _ _ _ (by simp)).trans (Turn.set _ _ _ _ (by simp))).trans (Turn.set _ _ _ _ (by simp))).trans (Turn.set _ _ _ _ (by simp))).trans (Turn.drew _ _)
  have M1 : ((((w.setCell ⟨g, i * 2, none⟩ (.int .i64 y1)).setCell ⟨g, i * 2 + 1, none⟩ (.int .i64 y2)).setCell ⟨g, j * 2, none⟩ (.int .i64 x1)).setCell ⟨g, j * 2 + 1, none⟩ (.int .i64 x2)).drew.heap[mb]? = w.heap[mb]? := by
    show ((((w.setCell ⟨g, i * 2, none⟩ (.int .i64 y1)).setCell ⟨g, i * 2 + 1, none⟩ (.int .i64 y2)).setCell ⟨g, j * 2, none⟩ (.int .i64 x1)).setCell ⟨g, j * 2 + 1, none⟩ (.int .i64 x2)).heap[mb]? = w.heap[mb]?
    rw [Below.heap_setCell _ _ _ _ (Ne.symm n3), Below.heap_setCell _ _ _ _ (Ne.symm n3), Below.heap_setCell _ _ _ _ (Ne.symm n3), Below.heap_setCell _ _ _ _ (Ne.symm n3)]
  have R1 : Row ((((w.setCell ⟨g, i * 2, none⟩ (.int .i64 y1)).setCell ⟨g, i * 2 + 1, none⟩ (.int .i64 y2)).setCell ⟨g, j * 2, none⟩ (.int .i64 x1)).setCell ⟨g, j * 2 + 1, none⟩ (.int .i64 x2)).drew g cap (swp l i j) := HS.out.keep rfl
  revert T1 M1 R1
  generalize ((((w.setCell ⟨g, i * 2, none⟩ (.int .i64 y1)).setCell ⟨g, i * 2 + 1, none⟩ (.int .i64 y2)).setCell ⟨g, j * 2, none⟩ (.int .i64 x1)).setCell ⟨g, j * 2 + 1, none⟩ (.int .i64 x2)).drew = w1
  intro T1 M1 R1
  have HT := Lib.hid T1
  have X1 : w1.heap[hb]? = some (.cells #[.slice (some ⟨g, 0, none⟩) l.length cap, .map (some mb)] 48 (0, 0)) := (T1.block hb (lt_size HX.out) (by simp [n1, n2])).trans HX.out
  have c0 : w1.cell? ⟨hb, 0, none⟩ = some (.slice (some ⟨g, 0, none⟩) l.length cap) := by simp [World.cell?, X1]
  have c1 : w1.cell? ⟨hb, 1, none⟩ = some (.map (some mb)) := by simp [World.cell?, X1]
  have HX1 := Lib.hid X1
  have HR1 := Lib.hid R1
  have e1 := R1.id i (by rw [length_swp]; exact hi)
  have HM := Lib.hid (HD.out.keep M1)
  have W1 := wf_of (WX.out _ (at_mem (swp l i j) i (by rw [length_swp]; exact hi))).1
  have W2 := wf_of (WX.out _ (at_mem (swp l i j) j (by rw [length_swp]; exact hj))).1
  have G1 := HI.out
  have e2 := R1.id j (by rw [length_swp]; exact hj)
  revert e1 e2 W1 W2 G1
  generalize (at' (swp l i j) i).1 = p1
  generalize (at' (swp l i j) j).1 = p2
  intro e1 W1 W2 G1 e2
  have HE2 := Lib.hid e2
  have HG := Lib.hid G1
  have w0 : ∀ k : Nat, k ≤ 1000 → (Lit.int .i64 (k : Int)).wf = true := fun k hk => wf_of (by constructor <;> omega)
  have wi := w0 i (by omega)
  have wj := w0 j (by omega)
  clear T1 M1 X1 e2 G1 R1 HI HS HD HR w0
  go_wp2_with fail
  go_still_tail 13, (by kernel_rfl)
  change wpList _ _ _ _ _ w1.drew
  have T2 := HT.out.trans (Turn.drew _ w1)
  have HM2 := Lib.hid (HM.out.keep (w' := w1.drew) rfl)
  have HX2 : Hid (w1.drew.heap[hb]? = _) := HX1
  have HR2 := Lib.hid (HR1.out.keep (w' := w1.drew) rfl)
  have HE3 : Hid (w1.drew.cell? ⟨g, j * 2, none⟩ = some (.int .i64 p2)) := HE2
  revert T2 HM2 HX2 HR2 HE3
  clear e1 c0 c1 HT HM HX1 HR1 HE2
  generalize w1.drew = w2
  intro T2 HM2 HX2 HR2 HE3
  have HT2 := Lib.hid T2
  clear T2
  go_wp2_with (at_mapUpdate; refine wpList_mapUpdate_in _ rfl _ _ _ 36 rfl 3 3 law3 Try.underlying36 _ mb (Maps.size D) D rfl HM2.out hsz _ _ (key p1) rfl rfl (Maps.keyOf_int_mk Try.underlying3 W1) (num i) [] (plainElem_int Try.underlying3 wi) ?_; intro w3 hown3 hturn3)
  simp only [Act.put]
  have T3 := HT2.out.trans (Turn.map hturn3 (by simp))
  have g3 := hturn3.grown
  have X3 : w3.heap[hb]? = some (.cells #[.slice (some ⟨g, 0, none⟩) l.length cap, .map (some mb)] 48 (0, 0)) := (g3.block hb (lt_size HX2.out) (by simp [n2])).trans HX2.out
  have c0 : w3.cell? ⟨hb, 0, none⟩ = some (.slice (some ⟨g, 0, none⟩) l.length cap) := by simp [World.cell?, X3]
  have c1 : w3.cell? ⟨hb, 1, none⟩ = some (.map (some mb)) := by simp [World.cell?, X3]
  have HX3 := Lib.hid X3
  obtain ⟨cur3, hg3, _⟩ := HR2.out.block
  have B3 := g3.block g (lt_size hg3) (by simp [n3])
  have HR3 := Lib.hid (HR2.out.keep B3)
  have e3 : w3.cell? ⟨g, j * 2, none⟩ = some (.int .i64 p2) := (World.cell?_of_block (w := w2) B3).trans HE3.out
  have HM3 := Lib.hid hown3
  clear hg3 hown3 hturn3 g3 X3 B3 HM2 HX2 HR2 HE3 HT2
  have HT3 := Lib.hid T3
  clear T3
  go_wp2_with fail
  go_still_tail 13, (by kernel_rfl)
  change wpList _ _ _ _ _ w3.drew
  have T4 := HT3.out.trans (Turn.drew _ w3)
  have HM4 : Hid (w3.drew.ownsMap _ _ _ _ _ _) := Lib.hid (HM3.out.kept (w' := w3.drew) (row := Option.none) ⟨rfl, rfl, rfl, Nat.le_refl _, fun _ _ _ => rfl⟩ (by simp))
  have HX4 : Hid (w3.drew.heap[hb]? = _) := HX3
  have HR4 := Lib.hid (HR3.out.keep (w' := w3.drew) rfl)
  revert T4 HM4 HX4 HR4
  clear e3 c0 c1 HT3 HM3 HX3 HR3
  generalize w3.drew = w4
  intro T4 HM4 HX4 HR4
  have HT4 := Lib.hid T4
  clear T4
  go_wp2_with (at_mapUpdate; refine wpList_mapUpdate_in _ rfl _ _ _ 36 rfl 3 3 law3 Try.underlying36 _ mb (Maps.size D + 1) _ rfl HM4.out hsz1 _ _ (key p2) rfl rfl (Maps.keyOf_int_mk Try.underlying3 W2) (num j) [] (plainElem_int Try.underlying3 wj) ?_; intro w5 hown5 hturn5)
  go_end0
  have g5 := hturn5.grown
  obtain ⟨cur4, hg4, _⟩ := HR4.out.block
  refine ⟨rfl, ⟨?_, HR4.out.keep (g5.block g (lt_size hg4) (by simp [n3])), ⟨_, ownsMap_exact hown5, HG.out⟩, WX.out, DX.out, by rw [length_swp]; exact hsh, hcp, n1, n2, n3⟩, HT4.out.trans (Turn.map hturn5 (by simp))⟩
  rw [length_swp]
  exact (g5.block hb (lt_size HX4.out) (by simp [n2])).trans HX4.out
end Go.Proofs.Ytanlaannkdiieaa.Pk
