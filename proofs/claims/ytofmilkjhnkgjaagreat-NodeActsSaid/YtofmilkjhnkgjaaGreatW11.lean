import Derived.Test.YtofmilkjhnkgjaaGreatW10
namespace Go.Proofs.YtofmilkjhnkgjaaGreat
open Go.RowKit Go.Sort
set_option maxRecDepth 100000
set_option maxHeartbeats 2000000

/-- Write. -/
def DWriteRet (p : Nat) (S : List Nat) (N : Nat) (d : Disk) (k : Nat) (F : Blk) (wr : Nat) (w : World) (e : Ending) (w' : World) : Prop :=
  ∃ S', e = .returned (.bool true) ∧ Plt w' p S' N (d.write k F) (wr + 1) ∧ Step S S' w w'
theorem dwrite {w : World} {p : Nat} {S : List Nat} {N : Nat} {d : Disk} {wr : Nat} (k : Nat) (A : Option Addr) (c : Nat) (F : Blk) (h : Plt w p S N d wr) (hk : k < N) (hA : Rd w A 160 F) (hwr : wr ≤ 1000000000) :
    Calls Tryz.prog 60 #[.pointer (some ⟨p, 0, none⟩), .int .i64 (k : Int), .slice A 160 c] w (DWriteRet p S N d k F wr w) := by
  have HB := Lib.hid (dhas (k : Int) h true ⟨fun _ => ⟨by omega, by omega⟩, fun _ => rfl⟩)
  obtain ⟨g0, q0, hA0, hA1⟩ := hA (by omega)
  subst hA0
  have HCL := Lib.hid (bclone ⟨g0, q0, none⟩ 160 c F w hA (by omega))
  have HP := Lib.hid h
  have hkN : (k : Int) < (N : Int) := by omega
  have hk0 : k < N := hk
  have HK := Lib.hid hk
  obtain ⟨i0, hi0, hz0, hz1, hz2⟩ := info_parts info_write
  clear h hA hA1 hk
  go_enter Tryz.func60, Tryz.ntmps60
  go_wp2_with fail
  refine HB.out.mono ?_
  rintro e w' ⟨rfl, hw⟩
  obtain rfl := hw.symm
  go_wp2_with fail
  refine HCL.out.mono ?_
  rintro e w1 ⟨g1, d1, rfl, o1, hb1, hg1, hl1, hd1⟩
  try dsimp only
  have HO := Lib.hid (own_blk o1)
  have HB1 := Lib.hid hb1
  have HP1 := Lib.hid (HP.out.below hb1)
  clear o1 hb1 HP HB HCL
  go_wp2_with fail
  have HL2 : Hid ((w1.alloc (.cells #[.int .i64 (k : Int), .slice (some ⟨g1, 0, none⟩) 160 d1] 105)).heap[w1.heap.size]? = some (.cells #[.int .i64 (k : Int), .slice (some ⟨g1, 0, none⟩) 160 d1] 105 (0, 0))) := Lib.hid (alloc_block _ _)
  have HP2 := Lib.hid (HP1.out.below ((Below.refl _ _).alloc (Nat.le_refl _) (.cells #[.int .i64 (k : Int), .slice (some ⟨g1, 0, none⟩) 160 d1] 105)))
  have HR2 : Hid (Ref (w1.alloc (.cells #[.int .i64 (k : Int), .slice (some ⟨g1, 0, none⟩) 160 d1] 105)) (.slice (some ⟨g1, 0, none⟩) 160 d1) F) := Lib.hid ⟨g1, d1, rfl, hd1, HO.out.below ((Below.refl _ _).alloc (Nat.le_refl _) _)⟩
  have HW2 : Hid (Below w.heap.size w (w1.alloc (.cells #[.int .i64 (k : Int), .slice (some ⟨g1, 0, none⟩) 160 d1] 105))) := Lib.hid (HB1.out.alloc HB1.out.size _)
  clear HP1 HO HB1 hg1 hl1
  generalize w1.alloc (.cells #[.int .i64 (k : Int), .slice (some ⟨g1, 0, none⟩) 160 d1] 105) = w2 at *
  generalize w1.heap.size = L at *
  obtain ⟨db, nb, pv, h1, h2, hS⟩ := HP2.out
  have HS := Lib.hid hS
  clear hS
  have H1 := Lib.hid h1
  have H2 := Lib.hid h2
  have a1 := h1.c1
  have a2 := (h1.arr).free k
  obtain ⟨v0, a3⟩ := h1.arr.cell hk0
  have b1 : w2.cell? ⟨L, 1, none⟩ = some (.slice (some ⟨g1, 0, none⟩) 160 d1) := cell_of_block HL2.out
  clear h1 h2
  go_still_tail 8, (by kernel_rfl)
  change wpList _ _ _ _ _ w2.drew
  have a2' : w2.drew.frozen? ⟨nb, k, none⟩ = false := a2
  go_wp2_with fail
  have hLnb : L ≠ nb := by
    rintro rfl
    obtain ⟨cs, hc, _⟩ := H1.out.arr
    have := HL2.out
    rw [hc] at this
    cases this
  have T3 : Hid (Step ([p, db, nb] ++ pb pv) ([p, db, nb] ++ pb pv) w ((w2.setCell ⟨nb, k, none⟩ (.slice (some ⟨g1, 0, none⟩) 160 d1)).drew)) := Lib.hid ⟨((Turn.of HW2.out).trans (Turn.set _ _ _ _ (by simp))).trans (Turn.drew _ _), fun _ h => Or.inl h⟩
  have P3 : Hid (PltR ((w2.setCell ⟨nb, k, none⟩ (.slice (some ⟨g1, 0, none⟩) 160 d1)).drew) p db nb N pv d.done d.pend wr) := Lib.hid (PltR.now H1.out).drew
  have N3 : Hid (Slab ((w2.setCell ⟨nb, k, none⟩ (.slice (some ⟨g1, 0, none⟩) 160 d1)).drew) nb N (upd d.now (k, F))) := Lib.hid (Slab.put (w := w2) H2.out hk0 HR2.out)
  have R3 : Hid (Ref ((w2.setCell ⟨nb, k, none⟩ (.slice (some ⟨g1, 0, none⟩) 160 d1)).drew) (.slice (some ⟨g1, 0, none⟩) 160 d1) F) := Lib.hid (by
    obtain ⟨cs, hc, _⟩ := H1.out.arr
    exact HR2.out.keep (bytes_far (w := w2) hc (by decide)))
  have L3 : Hid (((w2.setCell ⟨nb, k, none⟩ (.slice (some ⟨g1, 0, none⟩) 160 d1)).drew).heap[L]? = some (.cells #[.int .i64 (k : Int), .slice (some ⟨g1, 0, none⟩) 160 d1] 105 (0, 0))) := Lib.hid ((set_other hLnb k _).trans HL2.out)
  clear a1 a2 a3 b1 a2' H1 H2 HL2 HP2 HR2 HW2 hLnb
  generalize (w2.setCell ⟨nb, k, none⟩ (.slice (some ⟨g1, 0, none⟩) 160 d1)).drew = w3 at *
  obtain ⟨xs, own, hxs⟩ := P3.out.pend
  have HO := Lib.hid own
  have HX := Lib.hid hxs
  have c0 := P3.out.c2
  have f0 := P3.out.f 2
  have e3 := P3.out.c3
  have f3 := P3.out.f 3
  have z3 := heap_lt P3.out.head
  have hnp : p ∉ pb pv := P3.out.ne1.2.2.1
  have hwl := P3.out.len
  have k1 : w3.cell? ⟨L, 0, none⟩ = some (.int .i64 (k : Int)) := cell_of_block L3.out
  have k2 : w3.cell? ⟨L, 1, none⟩ = some (.slice (some ⟨g1, 0, none⟩) 160 d1) := cell_of_block L3.out
  have zL := heap_lt L3.out
  have hpn : ∀ i, pv.ownBlock = some i → p ≠ i := fun i hi e => hnp (by subst e; unfold Value.ownBlock at hi; split at hi; (injection hi with e2; subst e2; simp [pb]); cases hi)
  have HPN := Lib.hid hpn
  clear own hxs hnp hpn
  generalize hnl : d.pend.length = n at *
  have HNL := Lib.hid hnl
  clear hnl
  go_region_law (refine step_append_lies _ rfl _ _ 85 rfl 0 105 i0 (.agg #[.int .i64 0, .slice none 0 0]) 2 32 Tryz.underlying85 hi0 hz0 hz1 hz2 rfl (by decide) pv n _ rfl (HO.out.alloc _) ⟨w3.heap.size, 0, none⟩ 1 1 [.int .i64 (k : Int), .slice (some ⟨g1, 0, none⟩) 160 d1] rfl rfl (by intro j u hj; match j, hj with | 0, hj => (simp at hj; subst hj; simp [Addr.add, go_sem]) | 1, hj => (simp at hj; subst hj; simp [Addr.add, go_sem])) (by intro u hu; simp at hu; rcases hu with rfl | rfl <;> rfl) (hm := by omega) (h63 := by unfold maxLen; omega) (hbytes := by omega) (hbase := Nat.zero_le _) _ rfl ?_; intro g' cap' w4 hown4 hgrow4 hlies4 hlt4; have y0 := (hgrow4.cell_far ⟨p, 2, none⟩ (by simp; omega) (fun e => HPN.out p e.symm rfl)).trans ((World.cell?_alloc_past _ _ _ z3).trans c0); have y1 := (hgrow4.frozen_far ⟨p, 2, none⟩ (by simp; omega) (fun e => HPN.out p e.symm rfl)).trans ((World.frozen?_alloc_past _ _ _ z3).trans f0); have y2 := (hgrow4.cell_far ⟨p, 3, none⟩ (by simp; omega) (fun e => HPN.out p e.symm rfl)).trans ((World.cell?_alloc_past _ _ _ z3).trans e3); have y3 := (hgrow4.frozen_far ⟨p, 3, none⟩ (by simp; omega) (fun e => HPN.out p e.symm rfl)).trans ((World.frozen?_alloc_past _ _ _ z3).trans f3); have HW4 := Lib.hid hown4; have HG4 := Lib.hid hgrow4; have HY4 := Lib.hid hlies4; clear hown4 hgrow4 hlies4)
  all_goals
    clear c0 f0 e3 f3 k1 k2
    go_wp2_with fail
    go_ret
    have hE := write_end P3.out N3.out R3.out hk0 HX.out (by rw [HNL.out]; exact HO.out.1) (Wa := w3.alloc (.cells #[.int .i64 (k : Int), .slice (some ⟨g1, 0, none⟩) 160 d1] 105)) (w4 := w4) (g := g') (cap := cap') ((Below.refl _ _).alloc (Nat.le_refl _) _) (by rw [HNL.out]; exact HW4.out) ⟨HG4.out.os, HG4.out.tape, HG4.out.output, HG4.out.size, HG4.out.block⟩ (by rcases HY4.out with h | h; exact Or.inl h; exact Or.inr (by rw [h]; simp))
    rw [HNL.out] at hE
    have e5 : ((wr + 1 : Nat) : Int) = (wr : Int) + 1 := by omega
    rw [e5] at hE
    obtain ⟨E1, E2, E3⟩ := hE
    exact ⟨[p, db, nb] ++ [g'], rfl, ⟨db, nb, _, E1, by rw [now_write]; exact E2, rfl⟩, by rw [HS.out]; exact T3.out.trans E3⟩
end Go.Proofs.YtofmilkjhnkgjaaGreat
namespace Go.Proofs.YtofmilkjhnkgjaaGreat
open Go.RowKit Go.Sort
set_option maxRecDepth 100000
set_option maxHeartbeats 1000000

theorem infoBool : (Tryz.prog.info? 4).map (fun i => (i.zero, i.size, i.bytes)) = some (some (.bool false), 1, 1) := by kernel_rfl
theorem infoRow : (Tryz.prog.info? 35).map (fun i => (i.zero, i.size, i.bytes)) = some (some (.slice none 0 0), 1, 24) := by kernel_rfl
/-- 'make([]bool, n)'. -/
theorem makeB (n : Nat) (hn : n ≤ 1000000000) : ∃ zs : Array Value, n ≤ zs.size ∧ (∀ j, j < n → zs[j]? = some (.bool false)) ∧
    ∀ W : World, Sem.run Tryz.prog (Instr.makeSlice 103 (.int .i64 (n : Int)) (.int .i64 (n : Int))) W = .ok (.slice (some ⟨W.heap.size, 0, none⟩) n n) (W.alloc (.cells zs 4)) := by
  obtain ⟨i0, hi0, hz0, hz1, hz2⟩ := info_parts infoBool
  have hz : ∀ j, j < n → (madeCells (Value.bool false).cells (n * i0.size))[j]? = some (.bool false) := fun j hj => by
    rw [hz1]
    simp [madeCells, Value.cells, hj]
    rw [Nat.mod_one]; rfl
  refine ⟨madeCells (Value.bool false).cells (n * i0.size), ?_, hz, fun W => ?_⟩
  · rcases Nat.eq_zero_or_pos n with h0 | h0
    · omega
    · have := (Array.getElem?_eq_some_iff.1 (hz (n - 1) (by omega))).1
      omega
  · have h := run_make W 103 4 i0 (.bool false) Tryz.underlying103 hi0 hz0 .i64 .i64 (n : Int) (n : Int) (by omega) (by omega) (by rw [hz2]; omega) (by omega)
    simpa using h
/-- 'make([][]byte, n)'. -/
theorem makeR (n : Nat) (hn : n ≤ 1000000) : ∃ zs : Array Value, zs.size = n ∧
    ∀ W : World, Sem.run Tryz.prog (Instr.makeSlice 84 (.int .i64 (n : Int)) (.int .i64 (n : Int))) W = .ok (.slice (some ⟨W.heap.size, 0, none⟩) n n) (W.alloc (.cells zs 35)) := by
  obtain ⟨i0, hi0, hz0, hz1, hz2⟩ := info_parts infoRow
  refine ⟨madeCells (Value.slice none 0 0).cells (n * i0.size), by rw [hz1]; simp [madeCells], fun W => ?_⟩
  have h := run_make W 84 35 i0 (.slice none 0 0) Tryz.underlying84 hi0 hz0 .i64 .i64 (n : Int) (n : Int) (by omega) (by omega) (by rw [hz2]; omega) (by omega)
  simpa using h
/-- A block of bools. -/
def BlkB (w : World) (g n : Nat) (f : Nat → Bool) : Prop := ∃ cs : Array Value, w.heap[g]? = some (.cells cs 4 (0, 0)) ∧ n ≤ cs.size ∧ ∀ j, j < n → cs[j]? = some (.bool (f j))
theorem BlkB.keep {w w' : World} {g n : Nat} {f : Nat → Bool} (h : BlkB w g n f) (e : w'.heap[g]? = w.heap[g]?) : BlkB w' g n f := by
  obtain ⟨cs, hb, hc⟩ := h
  exact ⟨cs, e.trans hb, hc⟩
theorem BlkB.lt {w : World} {g n : Nat} {f : Nat → Bool} (h : BlkB w g n f) : g < w.heap.size := by
  obtain ⟨cs, hb, _⟩ := h
  exact heap_lt hb
theorem BlkB.cell {w : World} {g n j : Nat} {f : Nat → Bool} (h : BlkB w g n f) (hj : j < n) : w.cell? ⟨g, j, none⟩ = some (.bool (f j)) := by
  obtain ⟨cs, hb, hs, hc⟩ := h
  exact (cell_of_block hb).trans (hc j hj)
theorem BlkB.free {w : World} {g n : Nat} {f : Nat → Bool} (h : BlkB w g n f) (k : Nat) : w.frozen? ⟨g, k, none⟩ = false := by
  obtain ⟨cs, hb, _⟩ := h
  exact free_of_block hb
theorem BlkB.congr {w : World} {g n : Nat} {f f' : Nat → Bool} (h : BlkB w g n f) (e : ∀ j, j < n → f j = f' j) : BlkB w g n f' := by
  obtain ⟨cs, hb, hs, hc⟩ := h
  exact ⟨cs, hb, hs, fun j hj => by rw [← e j hj]; exact hc j hj⟩
theorem BlkB.put {w : World} {g n q : Nat} {x : Bool} {f : Nat → Bool} (h : BlkB w g n f) (hq : q < n) : BlkB (w.setCell ⟨g, q, none⟩ (.bool x)) g n (fun j => if j = q then x else f j) := by
  obtain ⟨cs, hb, hs, hc⟩ := h
  refine ⟨cs.setIfInBounds q (.bool x), set_block hb q _, by simpa using hs, fun j hj => ?_⟩
  dsimp only
  rw [Array.getElem?_setIfInBounds]
  by_cases e : q = j
  · subst e
    rw [if_pos rfl, if_pos (by omega), if_pos rfl]
  · rw [if_neg e, if_neg (fun h => e h.symm), hc j hj]
/-- copy of a disk's list over the other. -/
theorem copy_arr (w : World) {ops : Array Oper} {rest : List Oper} {o : Oper} {a : Act} {Q : Exit → Act → World → Prop} (hgd : o.guard = none) (d s : Operand)
    (ho : o.op = .call { callee := .builtin .copy, args := #[d, s], argTypes := #[84, 84] })
    (nb db N : Nat) (D : Nat → Blk) (hd : a.eval d = .slice (some ⟨nb, 0, none⟩) N N) (hs : a.eval s = .slice (some ⟨db, 0, none⟩) N N) (h1 : Arr w nb N) (h2 : Slab w db N D)
    (h : ∀ w', Slab w' nb N D → w.grownBy w' (some nb) → w'.heap.size = w.heap.size → wpList Tryz.prog ops Q rest (a.put o.dst (.int .i64 (N : Int))) w') :
    wpList Tryz.prog ops Q (o :: rest) a w := by
  obtain ⟨i0, hi0, hz0, hz1, hz2⟩ := info_parts infoRow
  have isz : (Tryz.prog.info? 35).map (·.size) = some 1 := by rw [hi0]; simp [hz1]
  obtain ⟨cur, hg, hsz⟩ := h1
  obtain ⟨cs, hc, hcs, hr⟩ := h2
  have hl : cs.toList.length = N := by simpa using hcs
  refine wpList_copy_own hgd d s _ _ ho _ Tryz.underlying84 isz nb 0 N N ⟨db, 0, none⟩ N N hd hs cur _ hg cs.toList (by rw [hl]; exact (Nat.min_self N).symm) (fun j v hv => ?_) (by rw [hl]; omega) (fun v hv => ?_) ?_
  · rw [addr_add, Nat.zero_add, cell_of_block hc]
    simpa using hv
  · obtain ⟨j, hj⟩ := List.getElem?_of_mem hv
    have hjl : j < N := by have := (List.getElem?_eq_some_iff.1 hj).1; omega
    obtain ⟨u, hu, g, cap, rfl, _⟩ := hr j hjl
    have hj' : cs[j]? = some v := by simpa using hj
    rw [hu] at hj'
    cases hj'
    rfl
  · have hW := h (w.setRow nb (cur.toList.take 0 ++ (cs.toList ++ cur.toList.drop (0 + cs.toList.length))).toArray) ⟨_, setRow_heap w nb _ _ 35 _ hg, by simp; omega, fun k hk => by
      obtain ⟨u, hu, hr'⟩ := hr k hk
      refine ⟨u, ?_, hr'.keep (fun g cs' hg' => setRow_other w nb g _ (by rintro rfl; rw [hg] at hg'; cases hg'))⟩
      have : (cur.toList.drop (0 + cs.toList.length)) = [] := by rw [List.drop_eq_nil_iff]; simp; omega
      rw [this]
      simpa using hu⟩
      ⟨rfl, rfl, rfl, by simp [World.setRow], fun i _ hne => setRow_other w nb i _ (fun e => hne (by rw [e]))⟩ (by simp [World.setRow])
    rw [hl] at hW ⊢
    exact hW
end Go.Proofs.YtofmilkjhnkgjaaGreat
