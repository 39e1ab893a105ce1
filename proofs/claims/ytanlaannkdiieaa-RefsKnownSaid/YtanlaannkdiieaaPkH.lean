import Derived.Test.YtanlaannkdiieaaPkG
namespace Go.Proofs.Ytanlaannkdiieaa.Pk
open Go.RowKit Go.Sort

theorem len25 (hb len cap : Nat) (a : Option Addr) (w : World) (h : w.cell? ⟨hb, 0, none⟩ = some (.slice a len cap)) :
    Calls Try.prog 24 #[.pointer (some ⟨hb, 0, none⟩)] w fun e w' => e = .returned (.int .i64 len) ∧ w' = w := by
  go_enter Try.func24, Try.ntmps24
  go_wp2
  go_ret
  exact ⟨rfl, rfl⟩

theorem Turn.alloc (S : List Nat) (w : World) (o : Obj) : Turn S w (w.alloc o) := Turn.of ((Below.refl _ _).alloc (Nat.le_refl _) _)

theorem cell?_lt {w : World} {b o : Nat} {v : Value} (h : w.cell? ⟨b, o, none⟩ = some v) : b < w.heap.size := by
  unfold World.cell? at h
  by_cases hb : b < w.heap.size
  · exact hb
  · simp [Array.getElem?_eq_none (by omega : w.heap.size ≤ b)] at h

theorem at_dropLast (l : List It) (i : Nat) (h : i < l.length - 1) : at' l.dropLast i = at' l i := by
  unfold at'
  simp only [List.getD_eq_getElem?_getD]
  rw [List.getElem?_dropLast, if_pos h]

theorem Idx.drop {D : DataW Unit} {l : List It} (h : Idx D l) (hd : Dist l) (hl : 0 < l.length) : Idx (D.del (key (at' l (l.length - 1)).1)) l.dropLast := by
  have hne : ∀ i, i < l.length - 1 → (at' l i).1 ≠ (at' l (l.length - 1)).1 := fun i hi e => by have := hd _ _ (by omega) (by omega) e; omega
  refine ⟨h.tidy.del _, ?_, fun i hi => ?_, fun i hi => ?_, fun k hk => ?_⟩
  · have := Maps.size_del (k := key (at' l (l.length - 1)).1) h.tidy
    rw [h.has _ (by omega), h.size] at this
    simp at this ⊢
    omega
  · rw [List.length_dropLast] at hi
    rw [at_dropLast l i hi, Maps.has_del_other (key_ne (hne i hi))]
    exact h.has i (by omega)
  · rw [List.length_dropLast] at hi
    rw [at_dropLast l i hi, Maps.atKey_del_other (key_ne (hne i hi))]
    exact h.val i (by omega)
  · by_cases e : k = (at' l (l.length - 1)).1
    · rw [e, Maps.has_del_same] at hk; cases hk
    · rw [Maps.has_del_other (key_ne e)] at hk
      obtain ⟨i, hi, ei⟩ := h.back k hk
      have : i ≠ l.length - 1 := fun e2 => e (by rw [← ei, e2])
      refine ⟨i, by rw [List.length_dropLast]; omega, by rw [at_dropLast l i (by omega)]; exact ei⟩

theorem Row.drop {w : World} {g cap : Nat} {l : List It} (h : Row w g cap l) : Row w g cap l.dropLast :=
  ⟨h.block, by rw [List.length_dropLast]; have := h.cap; omega, fun i hi => by rw [List.length_dropLast] at hi; rw [at_dropLast l i hi]; exact h.id i (by omega), fun i hi => by rw [List.length_dropLast] at hi; rw [at_dropLast l i hi]; exact h.key i (by omega)⟩

theorem Dist.drop {l : List It} (h : Dist l) : Dist l.dropLast := by
  intro i j hi hj e
  rw [List.length_dropLast] at hi hj
  rw [at_dropLast l i hi, at_dropLast l j hj] at e
  exact h i j (by omega) (by omega) e

set_option maxHeartbeats 2000000 in
set_option maxRecDepth 100000 in
theorem pop67 (hb g mb cap : Nat) (l : List It) (w : World) (h : Raw w hb g mb cap l) (hl : 0 < l.length) :
    Calls Try.prog 46 #[.pointer (some ⟨hb, 0, none⟩)] w fun e w' => e = .returned (.iface 41 (.agg #[.int .i64 (at' l (l.length - 1)).1, .int .i64 (at' l (l.length - 1)).2])) ∧ Raw w' hb g mb cap l.dropLast ∧ Turn [hb, g, mb] w w' := by
  obtain ⟨h0, hR, ⟨D, hD, hI⟩, hwf, hd, hsh, hcp, n1, n2, n3⟩ := h
  have hc : w.cell? ⟨hb, 0, none⟩ = some (.slice (some ⟨g, 0, none⟩) l.length cap) := by simp [World.cell?, h0]
  have hc1 : w.cell? ⟨hb, 1, none⟩ = some (.map (some mb)) := by simp [World.cell?, h0]
  have hf : w.frozen? ⟨hb, 0, none⟩ = false := by simp [World.frozen?, h0]
  have a1 := hR.id (l.length - 1) (by omega)
  have a2 := hR.key (l.length - 1) (by omega)
  have hb1 := lt_size h0
  have hmb := hD.lt
  have HI := Lib.hid (hI.drop hd hl)
  have HD := Lib.hid hD
  have HR := Lib.hid hR
  have HX := Lib.hid h0
  have WX := Lib.hid (fun x hx => hwf x (List.dropLast_subset l hx))
  have DX := Lib.hid hd.drop
  have W1 := wf_of (hwf _ (at_mem l (l.length - 1) (by omega))).1
  have hsz : Maps.size D < maxLen := by rw [hI.size]; unfold maxLen; omega
  revert a1 a2 HI W1
  generalize (at' l (l.length - 1)).1 = p1
  generalize (at' l (l.length - 1)).2 = p2
  intro a1 a2 HI W1
  obtain ⟨m, hm⟩ : ∃ m, l.length = m + 1 := ⟨l.length - 1, by omega⟩
  have hdl : l.dropLast.length = m := by rw [List.length_dropLast]; omega
  have HDL := Lib.hid hdl
  rw [hm] at hc a1 a2 hsh HX
  rw [Nat.add_sub_cancel] at a1 a2
  have hcm := hR.cap
  rw [hm] at hcm
  have HM := Lib.hid hm
  clear h0 hR hI hD hwf hd hm hdl hl
  go_enter Try.func46, Try.ntmps46
  go_wp2_with fail
  have T1 : Turn [hb, g, mb] w ((w.setCell ⟨hb, 0, none⟩ (.slice (some ⟨g, 0, none⟩) m cap)).alloc (.cells #[.int .i64 p1, .int .i64 p2] 41)) := (Turn.set _ _ _ _ (by simp)).trans (Turn.alloc _ _ _)
  have k1 : ((w.setCell ⟨hb, 0, none⟩ (.slice (some ⟨g, 0, none⟩) m cap)).alloc (.cells #[.int .i64 p1, .int .i64 p2] 41)).cell? ⟨w.heap.size, 0, none⟩ = some (.int .i64 p1) := by simp [go_sem]
  have k2 : ((w.setCell ⟨hb, 0, none⟩ (.slice (some ⟨g, 0, none⟩) m cap)).alloc (.cells #[.int .i64 p1, .int .i64 p2] 41)).cell? ⟨w.heap.size, 1, none⟩ = some (.int .i64 p2) := by simp [go_sem]
  have X1 : ((w.setCell ⟨hb, 0, none⟩ (.slice (some ⟨g, 0, none⟩) m cap)).alloc (.cells #[.int .i64 p1, .int .i64 p2] 41)).heap[hb]? = some (.cells #[.slice (some ⟨g, 0, none⟩) m cap, .map (some mb)] 48 (0, 0)) :=
    ((Turn.alloc [] _ _).block hb (by simpa using hb1) (by simp)).trans (set_block HX.out 0 _)
  have R1 : Row ((w.setCell ⟨hb, 0, none⟩ (.slice (some ⟨g, 0, none⟩) m cap)).alloc (.cells #[.int .i64 p1, .int .i64 p2] 41)) g cap l := by
    obtain ⟨cur, hg, _⟩ := HR.out.block
    exact HR.out.keep (((Turn.alloc [] _ _).block g (by simpa using lt_size hg) (by simp)).trans (Below.heap_setCell _ _ _ _ (Ne.symm n1)))
  have M1 : OwnsI ((w.setCell ⟨hb, 0, none⟩ (.slice (some ⟨g, 0, none⟩) m cap)).alloc (.cells #[.int .i64 p1, .int .i64 p2] 41)) mb D :=
    HD.out.keep (((Turn.alloc [] _ _).block mb (by simpa using HD.out.lt) (by simp)).trans (Below.heap_setCell _ _ _ _ (Ne.symm n2)))
  revert T1 k1 k2 X1 R1 M1
  generalize (w.setCell ⟨hb, 0, none⟩ (.slice (some ⟨g, 0, none⟩) m cap)).alloc (.cells #[.int .i64 p1, .int .i64 p2] 41) = w1
  intro T1 k1 k2 X1 R1 M1
  clear hc hc1 hf a1 a2 HX HR HD
  have c1 : w1.cell? ⟨hb, 1, none⟩ = some (.map (some mb)) := by simp [World.cell?, X1]
  have HX1 := Lib.hid X1
  have HR1 := Lib.hid R1
  have HM1 := Lib.hid M1
  have HT1 := Lib.hid T1
  have HK1 : Hid (w1.drew.cell? ⟨w.heap.size, 0, none⟩ = _) := Lib.hid k1
  have HK2 : Hid (w1.drew.cell? ⟨w.heap.size, 1, none⟩ = _) := Lib.hid k2
  clear X1 R1 M1 T1
  go_still_tail 6, (by kernel_rfl)
  change wpList _ _ _ _ _ w1.drew
  have T2 := HT1.out.trans (Turn.drew _ w1)
  have HM2 := Lib.hid (HM1.out.keep (w' := w1.drew) rfl)
  have HX2 : Hid (w1.drew.heap[hb]? = _) := HX1
  have HR2 := Lib.hid (HR1.out.keep (w' := w1.drew) rfl)
  revert T2 HM2 HX2 HR2 HK1 HK2
  clear c1 HT1 HM1 HX1 HR1 k1 k2
  generalize w1.drew = w2
  intro HK1 HK2 T2 HM2 HX2 HR2
  have HT2 := Lib.hid T2
  clear T2
  go_wp2_with (at_delete; refine wpList_delete_own _ rfl _ _ 36 3 rfl 3 law3 Try.underlying36 _ mb (Maps.size D) D rfl HM2.out _ (key p1) rfl (Maps.keyOf_int_mk Try.underlying3 W1) ?_; intro w3 hown3 hturn3; have k1 := (hturn3.grown.cell_far ⟨w.heap.size, 0, none⟩ (cell?_lt HK1.out) (by simp; omega)).trans HK1.out; have k2 := (hturn3.grown.cell_far ⟨w.heap.size, 1, none⟩ (cell?_lt HK1.out) (by simp; omega)).trans HK2.out)
  have g3 := hturn3.grown
  have T3 := HT2.out.trans (Turn.map hturn3 (by simp))
  have X3 := (g3.block hb (lt_size HX2.out) (by simp [n2])).trans HX2.out
  obtain ⟨cur3, hg3, _⟩ := HR2.out.block
  have R3 := HR2.out.keep (g3.block g (lt_size hg3) (by simp [n3]))
  have HX3 := Lib.hid X3
  have HR3 := Lib.hid R3
  have HT3 := Lib.hid T3
  have HM3 := Lib.hid hown3
  clear X3 R3 T3 g3 hg3 hturn3 hown3
  go_ret
  refine ⟨rfl, ⟨?_, HR3.out.drop, ⟨_, ownsMap_exact HM3.out, HI.out⟩, WX.out, DX.out, by rw [HDL.out]; omega, hcp, n1, n2, n3⟩, HT3.out⟩
  rw [HDL.out]
  exact HX3.out
end Go.Proofs.Ytanlaannkdiieaa.Pk
