import Derived.Test.YtobkmohoepgfmaaGreatDoorV40
import Derived.Test.YtobkmohoepgfmaaGreatDoorV37
namespace Go.Proofs.YtobkmohoepgfmaaGreatDoor
open Go.RowKit Go.Sort
set_option maxRecDepth 100000
set_option maxHeartbeats 8000000

def KnRet (w : World) (is : List (Nat × It)) (ps : List Pc) (en : Ending) (w' : World) : Prop :=
 ∃ Q l k, en = .returned (.agg #[.int .i64 ((genF is ps : Nat) : Int), .int .i64 (((topF is ps : Nat) : Int) + 1), .bool false, .slice Q l k]) ∧ Below w.heap.size w w' ∧
  ((bytF is (genF is ps) = none ∧ Q = none ∧ l = 0 ∧ k = 0) ∨ ∃ D, bytF is (genF is ps) = some D ∧ l = 128 ∧ DatI w' Q D)
theorem kn_cells {w : World} {b : Nat} {x0 x1 x2 x3 : Value} (h : w.heap[b]? = some (.cells #[x0, x1, x2, x3] 67 (0, 0))) : w.cell? ⟨b, 0, none⟩ = some x0 ∧ w.cell? ⟨b, 1, none⟩ = some x1 ∧ w.cell? ⟨b, 2, none⟩ = some x2 ∧ w.cell? ⟨b, 3, none⟩ = some x3 ∧
  w.frozen? ⟨b, 0, none⟩ = false ∧ w.frozen? ⟨b, 1, none⟩ = false ∧ w.frozen? ⟨b, 2, none⟩ = false ∧ w.frozen? ⟨b, 3, none⟩ = false :=
 ⟨cell_of_block h, cell_of_block h, cell_of_block h, cell_of_block h, free_of_block h, free_of_block h, free_of_block h, free_of_block h⟩
theorem kn_load {w : World} {b : Nat} {gn nx : Int} {db : Bool} {u : Value} (h : KV w b gn nx db u) : (loadVar 67 ⟨b, 0, none⟩).run Tryz.prog w = .ok (.agg #[.int .i64 gn, .int .i64 nx, .bool db, u]) w := by
 have c0 := h.c0
 have c1 := h.c1
 have c2 := h.c2
 have c3 := h.c3
 have s0 : b < w.heap.size := heap_lt h
 simp [go_sem, c0, c1, c2, c3]
theorem kn_dat {w : World} {b : Nat} {gn nx : Int} {db : Bool} {u x0 x1 x2 x3 : Value} (h : KV w b gn nx db u) {A : Option Addr} {D : Nat → Nat} (hd : DatI w A D) :
  DatI ((((w.setCell ⟨b, 0, none⟩ x0).setCell ⟨b, 1, none⟩ x1).setCell ⟨b, 2, none⟩ x2).setCell ⟨b, 3, none⟩ x3) A D := by
 have h0 : w.heap[b]? = _ := h
 have h1 := set_block h0 0 x0
 have h2 := set_block h1 1 x1
 have h3 := set_block h2 2 x2
 exact (((hd.far h0 (by decide)).far h1 (by decide)).far h2 (by decide)).far h3 (by decide)
theorem o_known {w : World} {B : Nat} {A1 A2 : Option Addr} {n1 c1 n2 c2 : Nat} {is : List (Nat × It)} {ps : List Pc} (hn1 : is.length = n1) (hm1 : n1 ≤ 1000000) (h1 : TLr w (.slice A1 n1 c1) is) (hn2 : ps.length = n2) (hm2 : n2 ≤ 1000000) (h2 : PL w B (.slice A2 n2 c2) ps) (h6 : ∀ p ∈ ps, p.i < 6) (htp : topF is ps ≤ 1099511627776) :
  Calls Tryz.prog 27 #[.agg #[.slice A1 n1 c1, .slice A2 n2 c2]] w (KnRet w is ps) := by
 have HN1 := Lib.hid hn1
 obtain ⟨w1, hw1⟩ : ∃ w1, w.alloc (.cells #[.slice A1 n1 c1, .slice A2 n2 c2] 65) = w1 := ⟨_, rfl⟩
 have B1 : Below w.heap.size w w1 := by rw [← hw1]; exact (Below.refl _ _).alloc (Nat.le_refl _) _
 obtain ⟨q0, hq0⟩ : ∃ q0, w.heap.size = q0 := ⟨_, rfl⟩
 have hb1 : w1.heap[q0]? = some (.cells #[.slice A1 n1 c1, .slice A2 n2 c2] 65 (0, 0)) := by rw [← hw1, ← hq0]; exact alloc_block _ _
 obtain ⟨w2, hw2⟩ : ∃ w2, w1.alloc (.cells #[.int .i64 0, .int .i64 0, .bool false, .slice none 0 0] 67) = w2 := ⟨_, rfl⟩
 have B2 : Below w1.heap.size w1 w2 := by rw [← hw2]; exact (Below.refl _ _).alloc (Nat.le_refl _) _
 have hq1 : w1.heap.size = q0 + 1 := by rw [← hw1, ← hq0]; simp
 have HTL : Hid (TLr w2 (.slice A1 n1 c1) is ∧ PL w2 B (.slice A2 n2 c2) ps ∧ Below w.heap.size w w2) := Lib.hid ⟨(h1.below B1).below B2, (h2.below B1).below B2, B1.trans (B2.mono B1.size)⟩
 have HCE : Hid (∀ W, Below w2.heap.size w2 W → W.cell? ⟨q0, 0, none⟩ = some (.slice A1 n1 c1) ∧ W.cell? ⟨q0, 1, none⟩ = some (.slice A2 n2 c2)) := Lib.hid (fun W hW => by
  have hb2 : w2.heap[q0]? = some (.cells #[.slice A1 n1 c1, .slice A2 n2 c2] 65 (0, 0)) := (B2.block q0 (heap_lt hb1)).trans hb1
  have hb3 := (hW.block q0 (heap_lt hb2)).trans hb2
  exact ⟨cell_of_block hb3, cell_of_block hb3⟩)
 have HBK : Hid (∀ W, Below w2.heap.size w2 W → W.heap[q0]? = some (.cells #[.slice A1 n1 c1, .slice A2 n2 c2] 65 (0, 0)) ∧ KV W (q0 + 1) 0 0 false (.slice none 0 0)) := Lib.hid (fun W hW => by
  have hb2 : w2.heap[q0]? = some (.cells #[.slice A1 n1 c1, .slice A2 n2 c2] 65 (0, 0)) := (B2.block q0 (heap_lt hb1)).trans hb1
  have hb4 : KV w2 (q0 + 1) 0 0 false (.slice none 0 0) := by rw [← hw2]; exact KV.of_new hq1
  exact ⟨(hW.block q0 (heap_lt hb2)).trans hb2, hb4.below hW⟩)
 have HQ2 : Hid (w2.heap.size = q0 + 2) := Lib.hid (by rw [← hw2]; simp; omega)
 have hwq : w.heap.size ≤ q0 := Nat.le_of_eq hq0
 have hwk : w.heap.size ≤ w2.heap.size := Nat.le_trans B1.size B2.size
 obtain ⟨gn, hgn⟩ : ∃ gn, genF is ps = gn := ⟨_, rfl⟩
 obtain ⟨tp, htpp⟩ : ∃ tp, topF is ps = tp := ⟨_, rfl⟩
 have HGE : Hid (∀ W, Below w2.heap.size w2 W → Calls Tryz.prog 50 #[.agg #[.slice A1 n1 c1, .slice A2 n2 c2]] W fun e w' => e = .returned (.int .i64 (gn : Int)) ∧ Below W.heap.size W w') := Lib.hid (fun W hW => by rw [← hgn]; exact o_gen hn1 hm1 (HTL.out.1.below hW) hn2 hm2 (HTL.out.2.1.below hW) h6)
 have HTO : Hid (∀ W, Below w2.heap.size w2 W → Calls Tryz.prog 51 #[.agg #[.slice A1 n1 c1, .slice A2 n2 c2]] W fun e w' => e = .returned (.int .i64 (tp : Int)) ∧ Below W.heap.size W w') := Lib.hid (fun W hW => by rw [← htpp]; exact o_top hn1 hm1 (HTL.out.1.below hW) hn2 hm2 (HTL.out.2.1.below hW))
 have htp2 : tp ≤ 1099511627776 := by rw [← htpp]; exact htp
 have HGN := Lib.hid (And.intro hgn htpp)
 have hwr : IntKind.i64.wrap ((tp : Int) + 1) = (tp : Int) + 1 := IntWalk.i64_in _ (by omega)
 have HV1 := Lib.hid hw1
 have HV2 := Lib.hid hw2
 have HQ0 := Lib.hid hq0
 have HQ1 := Lib.hid hq1
 clear hw1 hw2 hq0 hq1 B1 B2 hb1 h1 h2 h6 hgn htpp htp hn1 hn2
 have BC : Hid (Below w2.heap.size w2 w2.drew) := Lib.hid (below_drewN 1 w2)
 go_enter Tryz.func27, Tryz.ntmps27
 go_upto_region 1 with fail
 rw [HQ0.out, HV1.out, HV2.out]
 try rw [HQ1.out]
 go_cut [3] from 6 to 11 (fun s3 wx => ∃ kb, s3 = .pointer (some ⟨kb, 0, none⟩) ∧ Hid (KV wx kb (gn : Int) ((tp : Int) + 1) false (.slice none 0 0) ∧ Below w2.heap.size w2 wx ∧ w2.heap.size ≤ kb))
 case first =>
  refine wp_region_held_drew (S := (fun W => W.cell? ⟨q0, 0, none⟩ = some (.slice A1 n1 c1) ∧ W.cell? ⟨q0, 1, none⟩ = some (.slice A2 n2 c2))) (by as_aux_lemma => kernel_rfl) ?_ (fun hHeld => ?_)
  ·exact HCE.out _ BC.out
  refine wpAnyH_take (i := 0) (v := ?_) rfl (by as_aux_lemma => kernel_rfl) (by as_aux_lemma => kernel_rfl) (by as_aux_lemma => kernel_rfl) (fun _ _ _ h => h) (Or.inl ⟨by as_aux_lemma => kernel_rfl, ?_⟩) (by assumption) ?_
  rotate_left
  ·intro w hSw; (try dsimp only at hSw); go_simp; (try with_reducible rfl)
  simp only [Act.put, List.getElem_toArray, List.getElem_cons_zero, List.setIfInBounds_toArray, List.set_cons_zero, List.set_cons_succ]
  refine wpAnyH_take (i := 2) (v := ?_) rfl (by as_aux_lemma => kernel_rfl) (by as_aux_lemma => kernel_rfl) (by as_aux_lemma => kernel_rfl) (fun _ _ _ h => h) (Or.inl ⟨by as_aux_lemma => kernel_rfl, ?_⟩) (by assumption) ?_
  rotate_left
  ·intro w hSw; (try dsimp only at hSw); go_simp; (try with_reducible rfl)
  simp only [Act.put, List.getElem_toArray, List.getElem_cons_zero, List.getElem_cons_succ, List.setIfInBounds_toArray, List.set_cons_zero, List.set_cons_succ]
  refine wpAnyH_ready (rs := [1, 6]) (by as_aux_lemma => kernel_rfl) (by simp) ?_
  refine AllReadyH.cons rfl (fun K hK => ?_) (AllReadyH.cons rfl (fun K hK => ?_) AllReadyH.nil)
  go_simp; go_at_call 50; (first | with_reducible refine (HGE.out _ BC.out).mono ?_ | refine (HGE.out _ BC.out).mono ?_); rintro en w5 ⟨rfl, b5⟩; (try dsimp only); replace BC := Lib.hid (BC.out.trans (b5.mono BC.out.size)); have S5 := Lib.hid BC.out.size
  clear b5
  refine hK.out _ _ ?_ (fun hHeld2 => ?_)
  ·(try dsimp only); exact HCE.out _ BC.out
  clear hK K hHeld
  have hHeld := hHeld2
  clear hHeld2
  refine wpAnyH_ready (rs := [3, 6]) (by as_aux_lemma => kernel_rfl) (by simp) ?_
  refine AllReadyH.cons rfl (fun K hK => ?_) (AllReadyH.cons rfl (fun K hK => ?_) AllReadyH.nil)
  go_simp; go_at_call 51; (with_reducible refine (HTO.out _ BC.out).mono ?_); rintro en w6 ⟨rfl, b6⟩; (try dsimp only); replace BC := Lib.hid (BC.out.trans (b6.mono BC.out.size))
  clear b6
  refine hK.out _ _ ?_ (fun hHeld2 => ?_)
  ·(try dsimp only); exact HCE.out _ BC.out
  clear hK K hHeld
  have hHeld := hHeld2
  clear hHeld2
  refine wpAnyH_take (i := 4) (v := ?_) rfl (by as_aux_lemma => kernel_rfl) (by as_aux_lemma => kernel_rfl) (by as_aux_lemma => kernel_rfl) (fun _ _ _ h => h) (Or.inl ⟨by as_aux_lemma => kernel_rfl, ?_⟩) (by assumption) ?_
  rotate_left
  ·intro w hSw; (try dsimp only at hSw); go_simp; (try with_reducible rfl)
  simp only [Act.put, List.getElem_toArray, List.getElem_cons_zero, List.getElem_cons_succ, List.setIfInBounds_toArray, List.set_cons_zero, List.set_cons_succ]
  refine wpAnyH_take (i := 5) (v := ?_) rfl (by as_aux_lemma => kernel_rfl) (by as_aux_lemma => kernel_rfl) (by as_aux_lemma => kernel_rfl) (fun _ _ _ h => h) (Or.inl ⟨by as_aux_lemma => kernel_rfl, ?_⟩) (by assumption) ?_
  rotate_left
  ·intro w hSw; (try dsimp only at hSw); go_simp; (try with_reducible rfl)
  simp only [Act.put, List.getElem_toArray, List.getElem_cons_zero, List.getElem_cons_succ, List.setIfInBounds_toArray, List.set_cons_zero, List.set_cons_succ]
  refine wpAnyH_ready (rs := [6]) (by as_aux_lemma => kernel_rfl) (by simp) ?_
  refine AllReadyH.cons rfl (fun K hK => ?_) AllReadyH.nil
  go_simp
  have BD := Lib.hid BC.out; replace BC := Lib.hid (BC.out.alloc BC.out.size (.cells #[.int .i64 0, .int .i64 0, .bool false, .slice none 0 0] 67))
  refine hK.out _ _ ?_ (fun hHeld2 => ?_)
  ·(try dsimp only); exact HCE.out _ BC.out
  clear hK K hHeld
  have hHeld := hHeld2
  clear hHeld2
  refine wpAnyH_ready (rs := [7]) (by as_aux_lemma => kernel_rfl) (by simp) ?_
  refine AllReadyH.cons rfl (fun K hK => ?_) AllReadyH.nil
  go_simp
  refine hK.out _ _ ?_ (fun hHeld2 => ?_)
  ·(try dsimp only); first | exact HCE.out _ (BD.out.alloc BD.out.size _) | exact HCE.out _ ((((BC.out.setCell S5.out _).setCell S5.out _).setCell S5.out _).setCell S5.out _) | exact HCE.out _ ((((BC.out.setCell (Nat.le_refl _) _).setCell (Nat.le_refl _) _).setCell (Nat.le_refl _) _).setCell (Nat.le_refl _) _)
  clear hK K hHeld
  have hHeld := hHeld2
  clear hHeld2
  refine wpAnyH_done (by as_aux_lemma => kernel_rfl) ?_ _
  rotate_left
  go_simp
  have BD := Lib.hid BC.out; replace BC := Lib.hid (BC.out.alloc BC.out.size (.cells #[.int .i64 0, .int .i64 0, .bool false, .slice none 0 0] 67))
  refine hK.out _ _ ?_ (fun hHeld2 => ?_)
  ·(try dsimp only); exact HCE.out _ BC.out
  clear hK K hHeld
  have hHeld := hHeld2
  clear hHeld2
  refine wpAnyH_ready (rs := [3]) (by as_aux_lemma => kernel_rfl) (by simp) ?_
  refine AllReadyH.cons rfl (fun K hK => ?_) AllReadyH.nil
  go_simp; go_at_call 51; (with_reducible refine (HTO.out _ BC.out).mono ?_); rintro en w6 ⟨rfl, b6⟩; (try dsimp only); replace BC := Lib.hid (BC.out.trans (b6.mono BC.out.size))
  have KB : Hid (w6.heap[w5.heap.size]? = some (.cells #[.int .i64 0, .int .i64 0, .bool false, .slice none 0 0] 67 (0, 0))) := Lib.hid ((b6.block w5.heap.size (by simp)).trans (alloc_block w5 _))
  clear b6
  refine hK.out _ _ ?_ (fun hHeld2 => ?_)
  ·(try dsimp only); exact HCE.out _ BC.out
  clear hK K hHeld
  have hHeld := hHeld2
  clear hHeld2
  refine wpAnyH_take (i := 4) (v := ?_) rfl (by as_aux_lemma => kernel_rfl) (by as_aux_lemma => kernel_rfl) (by as_aux_lemma => kernel_rfl) (fun _ _ _ h => h) (Or.inl ⟨by as_aux_lemma => kernel_rfl, ?_⟩) (by assumption) ?_
  rotate_left
  ·intro w hSw; (try dsimp only at hSw); go_simp; (try with_reducible rfl)
  simp only [Act.put, List.getElem_toArray, List.getElem_cons_zero, List.getElem_cons_succ, List.setIfInBounds_toArray, List.set_cons_zero, List.set_cons_succ]
  refine wpAnyH_take (i := 5) (v := ?_) rfl (by as_aux_lemma => kernel_rfl) (by as_aux_lemma => kernel_rfl) (by as_aux_lemma => kernel_rfl) (fun _ _ _ h => h) (Or.inl ⟨by as_aux_lemma => kernel_rfl, ?_⟩) (by assumption) ?_
  rotate_left
  ·intro w hSw; (try dsimp only at hSw); go_simp; (try with_reducible rfl)
  simp only [Act.put, List.getElem_toArray, List.getElem_cons_zero, List.getElem_cons_succ, List.setIfInBounds_toArray, List.set_cons_zero, List.set_cons_succ]
  refine wpAnyH_ready (rs := [7]) (by as_aux_lemma => kernel_rfl) (by simp) ?_
  refine AllReadyH.cons rfl (fun K hK => ?_) AllReadyH.nil
  obtain ⟨k0, k1, k2, k3, f0, f1, f2, f3⟩ := kn_cells KB.out
  go_simp
  refine hK.out _ _ ?_ (fun hHeld2 => ?_)
  ·(try dsimp only); first | exact HCE.out _ (BD.out.alloc BD.out.size _) | exact HCE.out _ ((((BC.out.setCell S5.out _).setCell S5.out _).setCell S5.out _).setCell S5.out _) | exact HCE.out _ ((((BC.out.setCell (Nat.le_refl _) _).setCell (Nat.le_refl _) _).setCell (Nat.le_refl _) _).setCell (Nat.le_refl _) _)
  clear hK K hHeld
  have hHeld := hHeld2
  clear hHeld2
  refine wpAnyH_done (by as_aux_lemma => kernel_rfl) ?_ _
  rotate_left
  go_simp
  have BD := Lib.hid BC.out; replace BC := Lib.hid (BC.out.alloc BC.out.size (.cells #[.int .i64 0, .int .i64 0, .bool false, .slice none 0 0] 67))
  refine hK.out _ _ ?_ (fun hHeld2 => ?_)
  ·(try dsimp only); exact HCE.out _ BC.out
  clear hK K hHeld
  have hHeld := hHeld2
  clear hHeld2
  refine wpAnyH_ready (rs := [1]) (by as_aux_lemma => kernel_rfl) (by simp) ?_
  refine AllReadyH.cons rfl (fun K hK => ?_) AllReadyH.nil
  go_simp; go_at_call 50; (first | with_reducible refine (HGE.out _ BC.out).mono ?_ | refine (HGE.out _ BC.out).mono ?_); rintro en w5 ⟨rfl, b5⟩; (try dsimp only); replace BC := Lib.hid (BC.out.trans (b5.mono BC.out.size)); have S5 := Lib.hid BC.out.size
  have KB : Hid (w5.heap[w2.heap.size]? = some (.cells #[.int .i64 0, .int .i64 0, .bool false, .slice none 0 0] 67 (0, 0))) := Lib.hid ((b5.block w2.heap.size (by simp)).trans (alloc_block w2.drew _))
  clear b5
  refine hK.out _ _ ?_ (fun hHeld2 => ?_)
  ·(try dsimp only); exact HCE.out _ BC.out
  clear hK K hHeld
  have hHeld := hHeld2
  clear hHeld2
  refine wpAnyH_ready (rs := [3]) (by as_aux_lemma => kernel_rfl) (by simp) ?_
  refine AllReadyH.cons rfl (fun K hK => ?_) AllReadyH.nil
  go_simp; go_at_call 51; (with_reducible refine (HTO.out _ BC.out).mono ?_); rintro en w6 ⟨rfl, b6⟩; (try dsimp only); replace BC := Lib.hid (BC.out.trans (b6.mono BC.out.size))
  replace KB := Lib.hid ((b6.block w2.heap.size (heap_lt KB.out)).trans KB.out)
  clear b6
  refine hK.out _ _ ?_ (fun hHeld2 => ?_)
  ·(try dsimp only); exact HCE.out _ BC.out
  clear hK K hHeld
  have hHeld := hHeld2
  clear hHeld2
  refine wpAnyH_take (i := 4) (v := ?_) rfl (by as_aux_lemma => kernel_rfl) (by as_aux_lemma => kernel_rfl) (by as_aux_lemma => kernel_rfl) (fun _ _ _ h => h) (Or.inl ⟨by as_aux_lemma => kernel_rfl, ?_⟩) (by assumption) ?_
  rotate_left
  ·intro w hSw; (try dsimp only at hSw); go_simp; (try with_reducible rfl)
  simp only [Act.put, List.getElem_toArray, List.getElem_cons_zero, List.getElem_cons_succ, List.setIfInBounds_toArray, List.set_cons_zero, List.set_cons_succ]
  refine wpAnyH_take (i := 5) (v := ?_) rfl (by as_aux_lemma => kernel_rfl) (by as_aux_lemma => kernel_rfl) (by as_aux_lemma => kernel_rfl) (fun _ _ _ h => h) (Or.inl ⟨by as_aux_lemma => kernel_rfl, ?_⟩) (by assumption) ?_
  rotate_left
  ·intro w hSw; (try dsimp only at hSw); go_simp; (try with_reducible rfl)
  simp only [Act.put, List.getElem_toArray, List.getElem_cons_zero, List.getElem_cons_succ, List.setIfInBounds_toArray, List.set_cons_zero, List.set_cons_succ]
  refine wpAnyH_ready (rs := [7]) (by as_aux_lemma => kernel_rfl) (by simp) ?_
  refine AllReadyH.cons rfl (fun K hK => ?_) AllReadyH.nil
  obtain ⟨k0, k1, k2, k3, f0, f1, f2, f3⟩ := kn_cells KB.out
  go_simp
  refine hK.out _ _ ?_ (fun hHeld2 => ?_)
  ·(try dsimp only); first | exact HCE.out _ (BD.out.alloc BD.out.size _) | exact HCE.out _ ((((BC.out.setCell S5.out _).setCell S5.out _).setCell S5.out _).setCell S5.out _) | exact HCE.out _ ((((BC.out.setCell (Nat.le_refl _) _).setCell (Nat.le_refl _) _).setCell (Nat.le_refl _) _).setCell (Nat.le_refl _) _)
  clear hK K hHeld
  have hHeld := hHeld2
  clear hHeld2
  refine wpAnyH_done (by as_aux_lemma => kernel_rfl) ?_ _
  rotate_left
  all_goals
   (try simp only [List.setIfInBounds_toArray])
   go_wp2_with fail
   go_meet
  ·exact ⟨_, rfl, Lib.hid ⟨KV.of_new rfl, BD.out.alloc BD.out.size _, BD.out.size⟩⟩
  ·exact ⟨_, rfl, Lib.hid ⟨KV.put4 KB.out, (((BC.out.setCell S5.out _).setCell S5.out _).setCell S5.out _).setCell S5.out _, S5.out⟩⟩
  ·exact ⟨_, rfl, Lib.hid ⟨KV.put4 KB.out, (((BC.out.setCell (Nat.le_refl _) _).setCell (Nat.le_refl _) _).setCell (Nat.le_refl _) _).setCell (Nat.le_refl _) _, Nat.le_refl _⟩⟩
 case rest =>
  obtain ⟨kb, rfl, HK⟩ := hcut
  generalize wc = v at *
  clear BC HGE HTO
  have k0 := HK.out.1.c0
  have x0 : v.cell? ⟨q0, 0, none⟩ = some (.slice A1 n1 c1) := (HCE.out v HK.out.2.1).1
  have HS0 : Hid (TLr v (.slice A1 n1 c1) is ∧ Below w.heap.size w v ∧ KV v kb (gn : Int) ((tp : Int) + 1) false (.slice none 0 0) ∧ w2.heap.size ≤ kb ∧ KV v (q0 + 1) 0 0 false (.slice none 0 0)) := Lib.hid ⟨HTL.out.1.below HK.out.2.1, HTL.out.2.2.trans (HK.out.2.1.mono HTL.out.2.2.size), HK.out.1, HK.out.2.2, (HBK.out v HK.out.2.1).2⟩
  clear HCE HK HBK
  go_wp2_with fail
  go_loopg [15] n1 (fun q s15 u => ∃ k : Nat, s15 = .int .i64 (k : Int) ∧ k ≤ n1 ∧ q = n1 - k ∧ Hid ((∀ (j : Nat) (p : Nat × It), j < k → is[j]? = some p → p.2.g ≠ gn) ∧ TLr u (.slice A1 n1 c1) is ∧ Below w.heap.size w u ∧ KV u kb (gn : Int) ((tp : Int) + 1) false (.slice none 0 0) ∧ w2.heap.size ≤ kb ∧ KV u (q0 + 1) 0 0 false (.slice none 0 0)))
  case atStart => exact ⟨0, rfl, by omega, rfl, Lib.hid ⟨fun j p hj => absurd hj (Nat.not_lt_zero j), HS0.out⟩⟩
  case round =>
   obtain ⟨k, rfl, hk, rfl, HS⟩ := hrel
   generalize wr = v at *
   clear HS0 k0 x0
   by_cases hlt : k < n1
   ·have t1 : (k : Int) < (n1 : Int) := by omega
    obtain ⟨z, hz⟩ : ∃ z, is[k]? = some z := ⟨_, List.getElem?_eq_getElem (by rw [HN1.out]; exact hlt)⟩
    obtain ⟨b, c', Az, cz, hv, hbl, z0, z1, z2, z3, hdz⟩ := HS.out.2.1.at hz
    rw [HN1.out] at hv
    cases hv
    obtain ⟨Q, hQ⟩ : ∃ Q, v.heap.size = Q := ⟨_, rfl⟩
    obtain ⟨w4, hw4⟩ : ∃ w4, v.alloc (.cells #[.int .i64 (z.1 : Int), .int .i64 (z.2.s : Int), .int .i64 (z.2.g : Int), .slice Az 128 cz] 112) = w4 := ⟨_, rfl⟩
    have B4 : Below v.heap.size v w4 := by rw [← hw4]; exact (Below.refl _ _).alloc (Nat.le_refl _) _
    have y2 : w4.cell? ⟨Q, 2, none⟩ = some (.int .i64 (z.2.g : Int)) := by rw [← hw4, ← hQ, cell_of_block (alloc_block _ _)]; rfl
    have y3 : w4.cell? ⟨Q, 3, none⟩ = some (.slice Az 128 cz) := by rw [← hw4, ← hQ, cell_of_block (alloc_block _ _)]; rfl
    have HS4 : Hid (TLr w4 (.slice (some ⟨b, 0, none⟩) n1 c1) is ∧ Below w.heap.size w w4 ∧ KV w4 kb (gn : Int) ((tp : Int) + 1) false (.slice none 0 0) ∧ w2.heap.size ≤ kb ∧ KV w4 (q0 + 1) 0 0 false (.slice none 0 0)) := Lib.hid ⟨HS.out.2.1.below B4, HS.out.2.2.1.trans (B4.mono HS.out.2.2.1.size), HS.out.2.2.2.1.below B4, HS.out.2.2.2.2.1, HS.out.2.2.2.2.2.below B4⟩
    have HD4 : Hid (DatI w4 Az z.2.D) := Lib.hid (hdz.below B4)
    have HNO := Lib.hid HS.out.1
    have HZ := Lib.hid hz
    have e0 := HS4.out.2.2.1.c0
    obtain ⟨zg, hzg⟩ : ∃ zg, z.2.g = zg := ⟨_, rfl⟩
    have HQ := Lib.hid hQ
    have HV4 := Lib.hid hw4
    have HZG := Lib.hid hzg
    rw [hzg] at z2 y2 HV4
    clear hz hdz hQ hw4 B4 hzg HS
    go_upto_region 5 with fail
    rw [HV4.out, HQ.out]
    clear HV4 HQ z0 z1 z2 z3
    by_cases hg : zg = gn
    ·subst hg
     obtain ⟨w5, hw5⟩ : ∃ w5, w4.setCell ⟨kb, 3, none⟩ (.slice Az 128 cz) = w5 := ⟨_, rfl⟩
     have HV5 := Lib.hid hw5
     have g3 := HS4.out.2.2.1.c3
     have gf := HS4.out.2.2.1.f
     have HBD : Hid (bytF is (genF is ps) = some z.2.D) := Lib.hid (by
      rw [HGN.out.1]
      unfold bytF
      rw [List.find?_eq_some_iff_getElem.2 ⟨by simp [HZG.out], k, (List.getElem?_eq_some_iff.1 HZ.out).1, (List.getElem?_eq_some_iff.1 HZ.out).2, fun j hj => by
       have := HNO.out j _ hj (List.getElem?_eq_getElem (Nat.lt_trans hj (List.getElem?_eq_some_iff.1 HZ.out).1))
       simp [this]⟩]
      rfl)
     have HK5 : Hid (KV w5 kb (zg : Int) ((tp : Int) + 1) false (.slice Az 128 cz)) := Lib.hid (by rw [← hw5]; exact set_block HS4.out.2.2.1 3 _)
     have hkq : q0 + 1 ≠ kb := by have := HS4.out.2.2.2.1; have := HQ2.out; omega
     have HR5 : Hid (KV w5 (q0 + 1) 0 0 false (.slice none 0 0)) := Lib.hid (by rw [← hw5]; exact (set_other hkq 3 _).trans HS4.out.2.2.2.2)
     have HB5 : Hid (Below w.heap.size w w5) := Lib.hid (by rw [← hw5]; exact HS4.out.2.1.setCell (Nat.le_trans hwk HS4.out.2.2.2.1) _)
     have HD5 : Hid (DatI w5 Az z.2.D) := Lib.hid (by rw [← hw5]; exact HD4.out.far HS4.out.2.2.1 (by decide))
     have k0 := HK5.out.c0
     have k1 := HK5.out.c1
     have k2 := HK5.out.c2
     have k3 := HK5.out.c3
     have r0 := HR5.out.c0
     have r1 := HR5.out.c1
     have r2 := HR5.out.c2
     have r3 := HR5.out.c3
     have rf := HR5.out.f
     clear hw5 hkq HS4 HD4 HNO
     go_upto_region 8 with fail
     rw [HV5.out]
     go_wp2_with fail
     refine bodyPost_ret (v := .agg #[.int .i64 (zg : Int), .int .i64 ((tp : Int) + 1), .bool false, .slice Az 128 cz]) ?_ rfl ?_
     ·rw [results_cell1 rfl]
      simp [kn_load (HR5.out.put4 (gn' := (zg : Int)) (nx' := (tp : Int) + 1) (db' := false) (u' := .slice Az 128 cz)), Result.andThen, asAddr]
     exact ⟨Az, 128, cz, by rw [HGN.out.1, HGN.out.2], below_put4 HB5.out (by omega) _ _ _ _, Or.inr ⟨_, HBD.out, rfl, kn_dat HR5.out HD5.out⟩⟩
    ·have hgi : ¬ (zg : Int) = (gn : Int) := by omega
     have HNO' : Hid (∀ (j : Nat) (p : Nat × It), j < k + 1 → is[j]? = some p → p.2.g ≠ gn) := Lib.hid (fun j p hj hp => by
      rcases Nat.lt_succ_iff_lt_or_eq.1 hj with h | rfl
      ·exact HNO.out j p h hp
      ·rw [HZ.out] at hp; cases hp; rw [HZG.out]; exact hg)
     go_wp2_with fail
     go_roundg (n1 - (k + 1))
     case measure => omega
     case rel => exact ⟨k + 1, by go_num, by omega, rfl, Lib.hid ⟨HNO'.out, HS4.out⟩⟩
   ·obtain rfl : k = n1 := by omega
    have HBN : Hid (bytF is (genF is ps) = none) := Lib.hid (by
     rw [HGN.out.1]
     unfold bytF
     rw [List.find?_eq_none.2]; · rfl
     intro x hx
     obtain ⟨j, hj, rfl⟩ := List.mem_iff_getElem.1 hx
     simp only [decide_eq_true_eq]
     exact HS.out.1 j _ (by rw [← HN1.out]; exact hj) (List.getElem?_eq_getElem hj))
    have k0 := HS.out.2.2.2.1.c0
    have k1 := HS.out.2.2.2.1.c1
    have k2 := HS.out.2.2.2.1.c2
    have k3 := HS.out.2.2.2.1.c3
    have r0 := HS.out.2.2.2.2.2.c0
    have r1 := HS.out.2.2.2.2.2.c1
    have r2 := HS.out.2.2.2.2.2.c2
    have r3 := HS.out.2.2.2.2.2.c3
    have rf := HS.out.2.2.2.2.2.f
    go_wp2_with fail
    refine bodyPost_ret (v := .agg #[.int .i64 (gn : Int), .int .i64 ((tp : Int) + 1), .bool false, .slice none 0 0]) ?_ rfl ?_
    ·rw [results_cell1 rfl]
     simp [kn_load (HS.out.2.2.2.2.2.put4 (gn' := (gn : Int)) (nx' := (tp : Int) + 1) (db' := false) (u' := .slice none 0 0)), Result.andThen, asAddr]
    exact ⟨none, 0, 0, by rw [HGN.out.1, HGN.out.2], below_put4 HS.out.2.2.1 (by omega) _ _ _ _, Or.inl ⟨HBN.out, rfl, rfl, rfl⟩⟩
end Go.Proofs.YtobkmohoepgfmaaGreatDoor
namespace Go.Proofs.YtobkmohoepgfmaaGreatDoor
open Go.RowKit Go.Sort
set_option maxRecDepth 100000
set_option maxHeartbeats 4000000

theorem chL_lt (f : Nat → Option Pc) : ∀ n, ∀ p ∈ chL f n, p.1 < n
 | 0, p, h => by cases h
 | n + 1, p, h => by
  have ih := chL_lt f n
  unfold chL at h
  rcases List.mem_append.1 h with h | h
  ·have := ih p h; omega
  ·split at h
   ·rw [List.mem_singleton.1 h]; exact Nat.lt_succ_self n
   ·cases h
theorem at_chL (f : Nat → Option Pc) (l : Nat) : ∀ n, at_ (chL f n) l = if l < n then (f l).map (fun p => (l, p.D)) else none
 | 0 => by rw [if_neg (by omega)]; rfl
 | n + 1 => by
  have ih := at_chL f l n
  unfold chL
  cases hf : f n with
  | none =>
   dsimp only
   rw [List.append_nil, ih]
   by_cases e : l = n
   ·subst e
    rw [if_neg (by omega), if_pos (by omega), hf]
    rfl
   ·by_cases e2 : l < n
    ·rw [if_pos e2, if_pos (by omega)]
    ·rw [if_neg e2, if_neg (by omega)]
  | some p =>
   dsimp only
   rw [at_snoc (chL_lt f n), ih]
   by_cases e : l = n
   ·subst e
    rw [if_pos rfl, if_pos (by omega), hf]
    rfl
   ·rw [if_neg e]
    by_cases e2 : l < n
    ·rw [if_pos e2, if_pos (by omega)]
    ·rw [if_neg e2, if_neg (by omega)]
theorem chL_cnt (f : Nat → Option Pc) : ∀ n, n ≤ 6 → ((List.range n).filter (fun l => (at_ (chL f 6) l).isSome)).length = cntT f n
 | 0, _ => rfl
 | n + 1, h => by
  have ih := chL_cnt f n (by omega)
  show _ = cntT f n + (if (f n).isSome = true then 1 else 0)
  rw [List.range_succ, List.filter_append, List.length_append, ih]
  congr 1
  have e : at_ (chL f 6) n = (f n).map (fun p => (n, p.D)) := by rw [at_chL, if_pos (by omega)]
  rw [List.filter_cons, List.filter_nil, e]
  cases f n <;> rfl
theorem chL_whole {f : Nat → Option Pc} (h : 4 ≤ cntF f) : Kc.Whole (rowsP (chL f 6)) := by
 have hp : (Kc.pres (rowsP (chL f 6)) 6).length = min 4 (cntF f) := by
  unfold Kc.pres
  rw [List.length_take]
  have e1 : (List.range 6).filter (fun l => decide (Kc.lenOf (rowsP (chL f 6)) l ≠ 0)) = (List.range 6).filter (fun l => (at_ (chL f 6) l).isSome) := List.filter_congr (fun l hl => by
   rw [lenOf_rows _ (List.mem_range.1 hl)]
   cases at_ (chL f 6) l <;> simp)
  rw [e1, chL_cnt f 6 (Nat.le_refl _)]
  rfl
 refine ⟨by simp [rowsP], fun l hl => ?_, by rw [hp]; omega⟩
 rw [lenOf_rows _ hl]
 split
 ·exact Or.inr rfl
 ·exact Or.inl rfl
theorem CkP.ck {w : World} {b : Nat} {f : Nat → Option Pc} (h : CkP w b f) : Ck w b (chL f 6) := by
 refine ⟨h.1, fun l hl => ?_⟩
 have h2 := h.2 l hl
 rw [at_chL, if_pos hl]
 cases hf : f l with
 | none => rw [hf] at h2; exact h2
 | some p => rw [hf] at h2; exact h2
theorem chF_mem (g : Nat) (ps : List Pc) : ∀ l p, chF ps g l = some p → p ∈ ps ∧ p.g = g ∧ p.i = l := by
 have key : ∀ (ps : List Pc) (f : Nat → Option Pc) (l : Nat) (p : Pc), ps.foldl (chS g) f l = some p → f l = some p ∨ (p ∈ ps ∧ p.g = g ∧ p.i = l) := by
  intro ps
  induction ps with
  | nil => exact fun f l p h => Or.inl h
  | cons x ps ih =>
   intro f l p h
   rcases ih (chS g f x) l p h with h2 | ⟨h2, h3⟩
   ·unfold chS at h2
    split at h2
    ·next hg =>
     dsimp only at h2
     split at h2
     ·next hl =>
      cases h2
      exact Or.inr ⟨by simp, hg, hl.symm⟩
     ·exact Or.inl h2
    ·exact Or.inl h2
   ·exact Or.inr ⟨by simp [h2], h3⟩
 intro l p h
 rcases key ps _ l p h with h2 | h2
 ·cases h2
 ·exact h2
theorem chL_mem (f : Nat → Option Pc) : ∀ n, ∀ q ∈ chL f n, ∃ p, f q.1 = some p ∧ q.2 = p.D
 | 0, q, h => by cases h
 | n + 1, q, h => by
  have ih := chL_mem f n
  unfold chL at h
  rcases List.mem_append.1 h with h | h
  ·exact ih q h
  ·cases hf : f n with
   | none => rw [hf] at h; cases h
   | some p => rw [hf] at h; rw [List.mem_singleton.1 h]; exact ⟨p, hf, rfl⟩
theorem chL_bytes {ps : List Pc} (h : ∀ p ∈ ps, ∀ j, j < 32 → p.D j < 256) (g : Nat) : ∀ q ∈ chL (chF ps g) 6, ∀ j, j < 32 → q.2 j < 256 := by
 intro q hq j hj
 obtain ⟨p, h1, h2⟩ := chL_mem _ 6 q hq
 rw [h2]
 exact h p (chF_mem g ps _ p h1).1 j hj
theorem genP_four (ps : List Pc) : ∀ (l : List Pc) (a : Nat), genP ps a l = a ∨ 4 ≤ cntF (chF ps (genP ps a l)) := by
 intro l
 induction l with
 | nil => exact fun a => Or.inl rfl
 | cons x l ih =>
  intro a
  show genP ps (genS ps a x) l = a ∨ 4 ≤ cntF (chF ps (genP ps (genS ps a x) l))
  rcases ih (genS ps a x) with h | h
  ·by_cases e : a < x.g ∧ 4 ≤ cntF (chF ps x.g)
   ·right
    rw [h]
    unfold genS
    rw [if_pos e]
    exact e.2
   ·left
    rw [h]
    unfold genS
    rw [if_neg e]
  ·exact Or.inr h
theorem topI_hit (l : List (Nat × It)) : ∀ a, topI a l = a ∨ ∃ x ∈ l, x.2.g = topI a l := by
 induction l with
 | nil => exact fun a => Or.inl rfl
 | cons x l ih =>
  intro a
  show topI (max a x.2.g) l = a ∨ ∃ y ∈ x :: l, y.2.g = topI (max a x.2.g) l
  rcases ih (max a x.2.g) with h | ⟨y, h1, h2⟩
  ·by_cases e : a < x.2.g
   ·right
    exact ⟨x, by simp, by rw [h]; omega⟩
   ·left
    rw [h]
    omega
  ·exact Or.inr ⟨y, by simp [h1], h2⟩
theorem gen_four {is : List (Nat × It)} {ps : List Pc} (h0 : genF is ps ≠ 0) (hb : bytF is (genF is ps) = none) : 4 ≤ cntF (chF ps (genF is ps)) := by
 rcases genP_four ps ps (topI 0 is) with h | h
 ·exfalso
  have hg : genF is ps = topI 0 is := h
  rcases topI_hit is 0 with h2 | ⟨x, hx, h2⟩
  ·exact h0 (hg.trans h2)
  ·unfold bytF at hb
   rw [Option.map_eq_none_iff, List.find?_eq_none] at hb
   exact hb x hx (by simpa using h2.trans hg.symm)
 ·exact h
end Go.Proofs.YtobkmohoepgfmaaGreatDoor
namespace Go.Proofs.YtobkmohoepgfmaaGreatDoor
open Go.RowKit Go.Sort
set_option maxRecDepth 100000
set_option maxHeartbeats 4000000

theorem gatN_mem {s : Wp} {m0 st : Nat} (h : s.Fit m0) (hst : st < 40) : ∀ m, ∀ p ∈ (gatN s st m).2.2, p.Ok
 | 0, p, hp => by cases hp
 | m + 1, p, hp => by
  have ih := gatN_mem h hst m
  have hf := gatN_fit (st := st) h m
  obtain ⟨s1, o, l, he⟩ : ∃ s1 o l, gatN s st m = (s1, o, l) := ⟨_, _, _, rfl⟩
  rw [he] at ih hf
  dsimp only at ih hf
  cases o with
  | some e =>
   rw [show gatN s st (m + 1) = (s1, some e, l) from gatN_stay he 1] at hp
   exact ih p hp
  | none =>
   obtain ⟨s2, a, hc⟩ : ∃ s2 a, s1.call (nodeN st m) (qGt st) = (s2, a) := ⟨_, _, rfl⟩
   cases a with
   | err c =>
    rw [gatN_err he hc] at hp
    exact ih p hp
   | ok y =>
    rw [gatN_ok he hc] at hp
    rcases List.mem_append.1 hp with hp | hp
    ·exact ih p hp
    ·exact Wp.ps_ok hf.1 (by unfold nodeN; omega) hst hc p (List.mem_filter.1 hp).1
theorem gatS_mem {s : Wp} {m0 : Nat} (h : s.Fit m0) : ∀ k, k ≤ 40 → ∀ i, ((gatS s k).2.2 i).length ≤ 12 ∧ ∀ p ∈ (gatS s k).2.2 i, p.Ok ∧ p.i < 6
 | 0, _, i => ⟨Nat.zero_le _, fun p hp => by cases hp⟩
 | k + 1, hk, i => by
  have ih := gatS_mem h k (by omega)
  have hf := gatS_fit h k
  obtain ⟨s1, o, F, he⟩ : ∃ s1 o F, gatS s k = (s1, o, F) := ⟨_, _, _, rfl⟩
  rw [he] at ih hf
  dsimp only at ih hf
  cases o with
  | some e =>
   rw [show gatS s (k + 1) = (s1, some e, F) from gatS_stay he 1]
   exact ih i
  | none =>
   have h1 := gatN_few s1 (st := k) (by omega) 6
   have h2 := gatN_mem (st := k) hf (by omega) 6
   obtain ⟨s2, o2, l, hc⟩ : ∃ s2 o2 l, gatN s1 k 6 = (s2, o2, l) := ⟨_, _, _, rfl⟩
   rw [hc] at h1 h2
   dsimp only at h1 h2
   cases o2 with
   | some z => rw [gatS_err he hc]; exact ih i
   | none =>
    rw [gatS_ok he hc]
    dsimp only
    by_cases e : i = k
    ·rw [if_pos e]
     exact ⟨h1.1, fun p hp => ⟨h2 p hp, h1.2 p hp⟩⟩
    ·rw [if_neg e]
     exact ih i
theorem intsF_mem {L : List (Nat × It)} {st : Nat} (h : ∀ x ∈ L, x.1 < 8 ∧ x.2.Ok) : ∀ x ∈ intsF L st, x.1 < 8 ∧ x.2.Ok ∧ x.2.s = st := fun x hx => by
 obtain ⟨h1, h2⟩ := List.mem_filter.1 hx
 exact ⟨(h x h1).1, (h x h1).2, by simpa using h2⟩
theorem top_le {is : List (Nat × It)} {ps : List Pc} (h1 : ∀ x ∈ is, x.2.Ok) (h2 : ∀ p ∈ ps, p.Ok) : topF is ps ≤ 1099511627776 :=
 topP_le ps _ (fun p hp => (h2 p hp).2.2.1) _ (topI_le is _ (fun x hx => (h1 x hx).2.2.1) 0 (by omega))
theorem genP_le (ps : List Pc) (b : Nat) : ∀ l : List Pc, (∀ x ∈ l, x.g ≤ b) → ∀ a, a ≤ b → genP ps a l ≤ b := by
 intro l
 induction l with
 | nil => exact fun _ a h => h
 | cons x l ih =>
  intro hx a ha
  show genP ps (genS ps a x) l ≤ b
  refine ih (fun y hy => hx y (by simp [hy])) _ ?_
  unfold genS
  split
  ·exact hx x (by simp)
  ·exact ha
theorem gen_le {is : List (Nat × It)} {ps : List Pc} (h1 : ∀ x ∈ is, x.2.Ok) (h2 : ∀ p ∈ ps, p.Ok) : genF is ps ≤ 1099511627776 :=
 genP_le ps _ ps (fun p hp => (h2 p hp).2.2.1) _ (topI_le is _ (fun x hx => (h1 x hx).2.2.1) 0 (by omega))
theorem relsI_fit {st : Nat} : ∀ (is : List (Nat × It)) (s : Wp) (m : Nat), (∀ x ∈ is, x.1 < 8) → s.Fit m → (relsI s st is).Fit (m + 3 * is.length)
 | [], s, m, _, h => h
 | x :: is, s, m, hl, h => by
  have h1 := h.cal (n := x.1) (q := qRl st x.2.g) (hl x (by simp)) (none_lt rfl)
  have h2 := relsI_fit (st := st) is _ _ (fun y hy => hl y (by simp [hy])) h1
  exact h2.mono (by simp only [List.length_cons]; omega)
theorem relsI_snoc (s : Wp) (st : Nat) (is : List (Nat × It)) (x : Nat × It) : relsI s st (is ++ [x]) = ((relsI s st is).call x.1 (qRl st x.2.g)).1 := by
 unfold relsI
 rw [List.foldl_append]
 rfl
theorem fit_carry {e : Ep} {m st gn : Nat} {E : (Nat → Nat) → Nat → Nat → Nat} {D : Nat → Nat} (h : e.w.Fit m) (hD : ∀ j, j < 128 → D j < 256) (hE : ∀ i j, j < 32 → E D i j < 256) : (e.carry E st gn D).1.w.Fit (m + 564) := by
 have h1 := Ep.fit_askN (e := e) (st := st) (q := qLg st gn D) h hD 8
 unfold Ep.carry
 dsimp only
 split
 ·exact h1.mono (by omega)
 ·have h2 : ((e.held (e.askN (qLg st gn D) st 8).1 st gn D)).w.Fit (m + 63 * 8) := h1
  exact (Ep.fit_fin h2 hE).mono (by omega)
theorem mend_fit {e : Ep} {m st : Nat} {E : (Nat → Nat) → Nat → Nat → Nat} {dec : List (Nat × (Nat → Nat)) → Nat → Nat} {is : List (Nat × It)} {ps : List Pc} (h : e.w.Fit m) (hp : ∀ D, e.pend st = some D → ∀ j, j < 128 → D j < 256) (hd : ∀ l j, j < 128 → dec l j < 256) (hE : ∀ D i j, j < 32 → E D i j < 256) (hl : ∀ x ∈ is, x.1 < 8) :
  (mendF E dec e st is ps).1.w.Fit (m + 564 + 3 * is.length) := by
 have key : ∀ Dq : Nat → Nat, (∀ j, j < 128 → Dq j < 256) → (match e.carry E st (e.gen st) Dq with
   | (e1, some l) => (e1, some (OErr.car st l))
   | (e1, none) => if (e1.pend st).isSome = true then (e1, some (OErr.io st)) else ({ e1 with w := relsI e1.w st is }, none)).1.w.Fit (m + 564 + 3 * is.length) := by
  intro Dq hDq
  have hc := fit_carry (st := st) (gn := e.gen st) (E := E) (D := Dq) h hDq (hE _)
  split
  ·next e1 l hx => rw [hx] at hc; exact hc.mono (by omega)
  ·next e1 hx =>
   rw [hx] at hc
   split
   ·exact hc.mono (by omega)
   ·exact relsI_fit is _ _ hl hc
 unfold mendF
 split
 ·exact h.mono (by omega)
 ·refine key _ ?_
  cases hq : e.pend st with
  | some D => exact hp D hq
  | none => exact hd _
end Go.Proofs.YtobkmohoepgfmaaGreatDoor
