import Derived.Test.YtanlaannkdiieaaPkI
namespace Go.Proofs.Ytanlaannkdiieaa.Pk
open Go.RowKit Go.Sort

theorem Turn.mapNew {S : List Nat} {w w2 w3 : World} {b : Nat} (h : Turn S w w2) (t : w2.mapTurned w3 b) (hb : w.heap.size ≤ b) : Turn S w w3 :=
  ⟨t.grown.os.trans h.os, t.grown.tape.trans h.tape, t.grown.output.trans h.output, Nat.le_trans h.size t.grown.size, fun k hk hn => (t.grown.block k (Nat.lt_of_lt_of_le hk h.size) (fun e => by cases e; omega)).trans (h.block k hk hn)⟩

set_option maxHeartbeats 2000000 in
set_option maxRecDepth 100000 in
theorem pushNew68 (hb : Nat) (x1 x2 : Int) (w : World) (h0 : w.heap[hb]? = some (.cells #[.slice none 0 0, .map none] 48 (0, 0))) (wx : Wf (x1, x2)) :
    Calls Try.prog 47 #[.pointer (some ⟨hb, 0, none⟩), .iface 41 (.agg #[.int .i64 x1, .int .i64 x2])] w (PushPost hb [hb] [] (x1, x2) w) := by
  have hc : w.cell? ⟨hb, 0, none⟩ = some (.slice none 0 0) := by simp [World.cell?, h0]
  have hc1 : w.cell? ⟨hb, 1, none⟩ = some (.map none) := by simp [World.cell?, h0]
  have hf1 : w.frozen? ⟨hb, 1, none⟩ = false := by simp [World.frozen?, h0]
  have hb1 := lt_size h0
  have HI : Hid (Idx ((DataW.map []).put (key x1) (num 0)) ([] ++ [(x1, x2)])) := Lib.hid (idx_none.push (x1, x2) (fun i hi => absurd hi (Nat.not_lt_zero _)))
  have HX := Lib.hid h0
  have WX : Hid (∀ x ∈ [] ++ [(x1, x2)], Wf x) := Lib.hid (fun x hx => by rw [List.mem_singleton.1 hx]; exact wx)
  have DX : Hid (Dist ([] ++ [(x1, x2)])) := Lib.hid (fun i j hi hj _ => by simp at hi hj; omega)
  have W1 := wf_of wx.1
  have W2 : (Lit.int .i64 0).wf = true := wf_of (by constructor <;> simp)
  have hsz : Maps.size (DataW.map [] : DataW Unit) < maxLen := by unfold maxLen; simp [Maps.size]
  have q1 := ta26 (.agg #[.int .i64 x1, .int .i64 x2])
  have q2 := eqMapNil
  have hmm := @run_makeMap Try.prog
  obtain ⟨i0, hi0, hz0, hz1, hz2⟩ := info_parts info26
  obtain ⟨D, hD0⟩ : ∃ D : DataW Unit, D = .map [] := ⟨_, rfl⟩
  rw [← hD0] at HI
  rw [← hD0] at hsz
  clear h0 wx
  go_enter Try.func47, Try.ntmps47
  go_wp2_with fail
  have A2 := set_block HX.out 1 (.map (some w.heap.size))
  have M9 : OwnsI ((w.setCell ⟨hb, 1, none⟩ (.map (some w.heap.size))).alloc (.map #[] 0)) w.heap.size D := by
    have h := World.ownsMap_made (H := Unit) (w.setCell ⟨hb, 1, none⟩ (.map (some w.heap.size))) Try.prog 3 (plainElem Try.prog 3)
    rw [World.size_setCell] at h
    rw [hD0]
    exact h
  have T1 : Turn [hb] w (((w.setCell ⟨hb, 1, none⟩ (.map (some w.heap.size))).alloc (.map #[] 0)).alloc (.cells #[.int .i64 x1, .int .i64 x2] 41)) := ((Turn.set _ _ _ _ (by simp)).trans (Turn.alloc _ _ _)).trans (Turn.alloc _ _ _)
  have k1 : (((w.setCell ⟨hb, 1, none⟩ (.map (some w.heap.size))).alloc (.map #[] 0)).alloc (.cells #[.int .i64 x1, .int .i64 x2] 41)).cell? ⟨w.heap.size + 1, 0, none⟩ = some (.int .i64 x1) := by simp [go_sem]
  have k2 : (((w.setCell ⟨hb, 1, none⟩ (.map (some w.heap.size))).alloc (.map #[] 0)).alloc (.cells #[.int .i64 x1, .int .i64 x2] 41)).cell? ⟨w.heap.size + 1, 1, none⟩ = some (.int .i64 x2) := by simp [go_sem]
  have X1 : (((w.setCell ⟨hb, 1, none⟩ (.map (some w.heap.size))).alloc (.map #[] 0)).alloc (.cells #[.int .i64 x1, .int .i64 x2] 41)).heap[hb]? = some (.cells #[.slice none 0 0, .map (some w.heap.size)] 48 (0, 0)) := (((Turn.alloc [] _ _).trans (Turn.alloc [] _ _)).block hb (by simp; omega) (by simp)).trans A2
  have O1 : (((w.setCell ⟨hb, 1, none⟩ (.map (some w.heap.size))).alloc (.map #[] 0)).alloc (.cells #[.int .i64 x1, .int .i64 x2] 41)).ownsRow 0 41 2 (.slice none 0 0) 0 (flat []) := World.ownsRow_nil _ _ _ _
  have M1 : OwnsI (((w.setCell ⟨hb, 1, none⟩ (.map (some w.heap.size))).alloc (.map #[] 0)).alloc (.cells #[.int .i64 x1, .int .i64 x2] 41)) w.heap.size D := M9.keep ((Turn.alloc [] _ _).block w.heap.size (by simp) (by simp))
  clear hc hc1 hf1 HX A2 M9 hmm
  revert T1 k1 k2 X1 O1 M1
  generalize (((w.setCell ⟨hb, 1, none⟩ (.map (some w.heap.size))).alloc (.map #[] 0)).alloc (.cells #[.int .i64 x1, .int .i64 x2] 41)) = w1
  intro T1 k1 k2 X1 O1 M1
  have c0 : w1.cell? ⟨hb, 0, none⟩ = some (.slice none 0 0) := by simp [World.cell?, X1]
  have c1 : w1.cell? ⟨hb, 1, none⟩ = some (.map (some w.heap.size)) := by simp [World.cell?, X1]
  have HX1 := Lib.hid X1
  have HO1 := Lib.hid O1
  have HM1 := Lib.hid M1
  have HT1 := Lib.hid T1
  clear X1 O1 M1 T1
  go_still_tail 11, (by kernel_rfl)
  change wpList _ _ _ _ _ w1.drew
  have T2 := HT1.out.trans (Turn.drew _ w1)
  have M2 := HM1.out.keep (w' := w1.drew) rfl
  have X2 : w1.drew.heap[hb]? = _ := HX1.out
  have O2 : w1.drew.ownsRow _ _ _ _ _ _ := HO1.out
  have K1 : w1.drew.cell? ⟨w.heap.size + 1, 0, none⟩ = _ := k1
  have K2 : w1.drew.cell? ⟨w.heap.size + 1, 1, none⟩ = _ := k2
  revert T2 M2 X2 O2 K1 K2
  clear c0 c1 k1 k2 HT1 HM1 HX1 HO1
  generalize w1.drew = w2
  intro T2 M2 X2 O2 K1 K2
  have HM2 := Lib.hid M2
  have HX2 := Lib.hid X2
  have HO2 := Lib.hid O2
  have HT2 := Lib.hid T2
  have HK1 := Lib.hid K1
  have HK2 := Lib.hid K2
  clear T2 M2 X2 O2 K1 K2
  go_wp2_with (at_mapUpdate; refine wpList_mapUpdate_in _ rfl _ _ _ 36 rfl 3 3 law3 Try.underlying36 _ w.heap.size (Maps.size D) D rfl HM2.out hsz _ _ (key x1) rfl rfl (Maps.keyOf_int_mk Try.underlying3 W1) (num 0) [] (plainElem_int Try.underlying3 W2) ?_; intro w3 hown3 hturn3)
  simp only [Act.put]
  have g3 := hturn3.grown
  have T3 := Turn.mapNew HT2.out hturn3 (Nat.le_refl _)
  have X3 := (g3.block hb (lt_size HX2.out) (by intro e; injection e with e; omega)).trans HX2.out
  have O3 : w3.ownsRow 0 41 2 (.slice none 0 0) 0 _ := owns_keep HO2.out g3 (by simp [Value.ownBlock])
  have k1 := (g3.cell_far ⟨w.heap.size + 1, 0, none⟩ (cell?_lt HK1.out) (by intro e; injection e with e; dsimp only at e; omega)).trans HK1.out
  have k2 := (g3.cell_far ⟨w.heap.size + 1, 1, none⟩ (cell?_lt HK1.out) (by intro e; injection e with e; dsimp only at e; omega)).trans HK2.out
  have c0 : w3.cell? ⟨hb, 0, none⟩ = some (.slice none 0 0) := by simp [World.cell?, X3]
  have f0 : w3.frozen? ⟨hb, 0, none⟩ = false := by simp [World.frozen?, X3]
  have z3 := lt_size X3
  have HX3 := Lib.hid X3
  have HO3 := Lib.hid O3
  have HM3 := Lib.hid hown3
  have HT3 := Lib.hid T3
  have zA := cell?_lt k1
  clear X3 O3 hown3 T3 g3 hturn3 HM2 HX2 HO2 HT2 HK1 HK2
  go_wp2_with fail
  go_region_law (refine step_append_lies _ rfl _ _ 44 rfl 0 41 i0 (.agg #[.int .i64 0, .int .i64 0]) 2 16 Try.underlying44 hi0 hz0 hz1 hz2 rfl (by decide) (.slice none 0 0) 0 _ rfl (HO3.out.alloc _) ⟨w3.heap.size, 0, none⟩ 1 1 [.int .i64 x1, .int .i64 x2] rfl rfl (by intro j u hj; match j, hj with | 0, hj => (simp at hj; subst hj; simp [Addr.add, go_sem]) | 1, hj => (simp at hj; subst hj; simp [Addr.add, go_sem])) (by intro u hu; simp at hu; rcases hu with rfl | rfl <;> rfl) (hm := by omega) (h63 := by unfold maxLen; omega) (hbytes := by omega) (hbase := Nat.zero_le _) _ rfl ?_; intro g' cap' w4 hown4 hgrow4 hlies4 hlt4; have e0 := (hgrow4.cell_far ⟨hb, 0, none⟩ (by simp; omega) (by simp [Value.ownBlock])).trans ((World.cell?_alloc_past _ _ _ z3).trans c0); have e1 := (hgrow4.frozen_far ⟨hb, 0, none⟩ (by simp; omega) (by simp [Value.ownBlock])).trans ((World.frozen?_alloc_past _ _ _ z3).trans f0))
  all_goals go_end0
  all_goals exact push_end (l := []) (by simp) (Or.inr (Nat.le_refl _)) (Or.inl rfl) (by omega) HX3.out HM3.out HI.out WX.out DX.out (by simp) HT3.out hown4 hgrow4 hlies4
end Go.Proofs.Ytanlaannkdiieaa.Pk
