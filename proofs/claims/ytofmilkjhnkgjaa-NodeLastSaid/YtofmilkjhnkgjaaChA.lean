import Derived.Test.YtofmilkjhnkgjaaCh9
namespace Go.Proofs.Ytofmilkjhnkgjaa
open Go.RowKit Go.Sort
set_option maxRecDepth 100000
set_option maxHeartbeats 1000000

/-- insertionSort of one piece, or none. -/
theorem cinsert1 (A : Option Addr) (n c : Nat) (f : Value) (w : World) (hn : n ≤ 1) :
    Calls Try.prog 76 #[.slice A n c, .int .i64 0, .int .i64 (n : Int), f] w fun e w' => e = .returned (.tuple #[]) ∧ w' = w := by
  have h1 : ¬ (1 : Int) < (n : Int) := by omega
  go_enter Try.func76, Try.ntmps76
  go_wp2_with fail
  refine wp_loop_rounds 1 ?_
  rw [rounds_succ]
  go_wp2_with fail
  go_end0
  exact ⟨rfl, rfl⟩
/-- Two pieces that lie one behind the other. -/
def PV2 (w : World) (b : Nat) (s0 g0 i0 s1 g1 i1 : Int) (A0 A1 : Option Addr) (n0 c0 n1 c1 : Nat) : Prop :=
  ∃ cur : Array Value, w.heap[b]? = some (.cells cur 44 (0, 0)) ∧ cur[0]? = some (.int .i64 s0) ∧ cur[1]? = some (.int .i64 g0) ∧ cur[2]? = some (.int .i64 i0) ∧ cur[3]? = some (.slice A0 n0 c0) ∧
    cur[4]? = some (.int .i64 s1) ∧ cur[5]? = some (.int .i64 g1) ∧ cur[6]? = some (.int .i64 i1) ∧ cur[7]? = some (.slice A1 n1 c1)
theorem PV2.below {w w' : World} {b n0 c0 n1 c1 : Nat} {s0 g0 i0 s1 g1 i1 : Int} {A0 A1 : Option Addr} (h : PV2 w b s0 g0 i0 s1 g1 i1 A0 A1 n0 c0 n1 c1) (e : Below w.heap.size w w') : PV2 w' b s0 g0 i0 s1 g1 i1 A0 A1 n0 c0 n1 c1 := by
  obtain ⟨cur, h0, r⟩ := h
  exact ⟨cur, (e.block b (heap_lt h0)).trans h0, r⟩
theorem PV2.cells {w : World} {b n0 c0 n1 c1 : Nat} {s0 g0 i0 s1 g1 i1 : Int} {A0 A1 : Option Addr} (h : PV2 w b s0 g0 i0 s1 g1 i1 A0 A1 n0 c0 n1 c1) :
    w.cell? ⟨b, 0, none⟩ = some (.int .i64 s0) ∧ w.cell? ⟨b, 1, none⟩ = some (.int .i64 g0) ∧ w.cell? ⟨b, 2, none⟩ = some (.int .i64 i0) ∧ w.cell? ⟨b, 3, none⟩ = some (.slice A0 n0 c0) ∧
    w.cell? ⟨b, 4, none⟩ = some (.int .i64 s1) ∧ w.cell? ⟨b, 5, none⟩ = some (.int .i64 g1) ∧ w.cell? ⟨b, 6, none⟩ = some (.int .i64 i1) ∧ w.cell? ⟨b, 7, none⟩ = some (.slice A1 n1 c1) ∧ (∀ k, w.frozen? ⟨b, k, none⟩ = false) ∧ b < w.heap.size := by
  obtain ⟨cur, h, a0, a1, a2, a3, a4, a5, a6, a7⟩ := h
  exact ⟨(cell_of_block h).trans a0, (cell_of_block h).trans a1, (cell_of_block h).trans a2, (cell_of_block h).trans a3, (cell_of_block h).trans a4, (cell_of_block h).trans a5, (cell_of_block h).trans a6, (cell_of_block h).trans a7, fun k => free_of_block h, heap_lt h⟩
theorem cinsert2 (b c : Nat) (s0 g0 i0 s1 g1 i1 : Int) (A0 A1 : Option Addr) (n0 c0 n1 c1 : Nat) (w : World) (h : PV2 w b s0 g0 i0 s1 g1 i1 A0 A1 n0 c0 n1 c1) (hg : ¬ g0 < g1) :
    Calls Try.prog 76 #[.slice (some ⟨b, 0, none⟩) 2 c, .int .i64 0, .int .i64 2, .func (.func 55) #[] #[]] w fun e w' => e = .returned (.tuple #[]) ∧ Below w.heap.size w w' := by
  obtain ⟨a0, a1, a2, a3, a4, a5, a6, a7, f0, hl⟩ := h.cells
  have HC : Hid (∀ W, Calls Try.prog 55 #[pv s1 g1 i1 A1 n1 c1, pv s0 g0 i0 A0 n0 c0] W fun e w' => e = .returned (.int .i64 (if g0 < g1 then -1 else if g1 < g0 then 1 else 0)) ∧ Below W.heap.size W w') := Lib.hid (fun W => cgetcmp s1 g1 i1 s0 g0 i0 A1 A0 n1 c1 n0 c0 W)
  rw [if_neg hg] at HC
  obtain ⟨r, hr⟩ : ∃ r : Int, (if g1 < g0 then (1 : Int) else 0) = r := ⟨_, rfl⟩
  have hr0 : ¬ r < 0 := by rw [← hr]; split <;> omega
  rw [hr] at HC
  unfold pv at HC
  have HB : Hid (Below w.heap.size w w.drew) := Lib.hid (below_drewN 1 w)
  have wr0 : IntKind.i64.wrap 0 = 0 := by decide
  clear hr hg h
  go_enter Try.func76, Try.ntmps76
  go_wp2_with fail
  refine wp_loop_rounds 2 ?_
  rw [rounds_succ]
  go_wp2_with fail
  refine wp_loop_rounds 2 ?_
  rw [rounds_succ]
  go_wp2_with fail
  go_still_tail 14, (by kernel_rfl)
  change wpList _ _ _ _ _ w.drew
  go_wp2_with fail
  refine (HC.out _).mono ?_
  rintro e w2 ⟨rfl, hb2⟩
  try dsimp only
  have HB2 : Hid (Below w.heap.size w w2) := Lib.hid (HB.out.trans hb2)
  clear hb2
  go_wp2_with fail
  rw [rounds_succ]
  go_wp2_with fail
  go_end0
  exact ⟨rfl, HB2.out⟩
theorem PV2.swap {w : World} {b n0 c0 n1 c1 : Nat} {s0 g0 i0 s1 g1 i1 : Int} {A0 A1 : Option Addr} (h : PV2 w b s0 g0 i0 s1 g1 i1 A0 A1 n0 c0 n1 c1) (w' : World)
    (e : w' = (((((((w.setCell ⟨b, 4, none⟩ (.int .i64 s0)).setCell ⟨b, 5, none⟩ (.int .i64 g0)).setCell ⟨b, 6, none⟩ (.int .i64 i0)).setCell ⟨b, 7, none⟩ (.slice A0 n0 c0)).setCell ⟨b, 0, none⟩ (.int .i64 s1)).setCell ⟨b, 1, none⟩ (.int .i64 g1)).setCell ⟨b, 2, none⟩ (.int .i64 i1)).setCell ⟨b, 3, none⟩ (.slice A1 n1 c1)) :
    PV2 w' b s1 g1 i1 s0 g0 i0 A1 A0 n1 c1 n0 c0 := by
  subst e
  obtain ⟨cur, h0, a0, a1, a2, a3, a4, a5, a6, a7⟩ := h
  have hz : 7 < cur.size := (Array.getElem?_eq_some_iff.1 a7).1
  refine ⟨_, set_block (set_block (set_block (set_block (set_block (set_block (set_block (set_block h0 4 _) 5 _) 6 _) 7 _) 0 _) 1 _) 2 _) 3 _, ?_, ?_, ?_, ?_, ?_, ?_, ?_, ?_⟩ <;> simp [Array.getElem?_setIfInBounds] <;> first | omega | (rintro rfl; simp at hz)
theorem Turn.put8 {b : Nat} {w w2 : World} (h : Turn [b] w w2) (k1 k2 k3 k4 k5 k6 k7 k8 : Nat) (v1 v2 v3 v4 v5 v6 v7 v8 : Value) :
    Turn [b] w ((((((((w2.setCell ⟨b, k1, none⟩ v1).setCell ⟨b, k2, none⟩ v2).setCell ⟨b, k3, none⟩ v3).setCell ⟨b, k4, none⟩ v4).setCell ⟨b, k5, none⟩ v5).setCell ⟨b, k6, none⟩ v6).setCell ⟨b, k7, none⟩ v7).setCell ⟨b, k8, none⟩ v8) := by
  have s : ∀ (W : World) (k : Nat) (v : Value), Turn [b] w W → Turn [b] w (W.setCell ⟨b, k, none⟩ v) := fun W k v hW => hW.trans (Turn.set _ _ _ _ (by simp))
  exact s _ _ _ (s _ _ _ (s _ _ _ (s _ _ _ (s _ _ _ (s _ _ _ (s _ _ _ (s _ _ _ h)))))))
theorem cinsert2s (b c : Nat) (s0 g0 i0 s1 g1 i1 : Int) (A0 A1 : Option Addr) (n0 c0 n1 c1 : Nat) (w : World) (h : PV2 w b s0 g0 i0 s1 g1 i1 A0 A1 n0 c0 n1 c1) (hg : g0 < g1) :
    Calls Try.prog 76 #[.slice (some ⟨b, 0, none⟩) 2 c, .int .i64 0, .int .i64 2, .func (.func 55) #[] #[]] w fun e w' => e = .returned (.tuple #[]) ∧ PV2 w' b s1 g1 i1 s0 g0 i0 A1 A0 n1 c1 n0 c0 ∧ Turn [b] w w' := by
  obtain ⟨a0, a1, a2, a3, a4, a5, a6, a7, f0, hl⟩ := h.cells
  have HC : Hid (∀ W, Calls Try.prog 55 #[pv s1 g1 i1 A1 n1 c1, pv s0 g0 i0 A0 n0 c0] W fun e w' => e = .returned (.int .i64 (if g0 < g1 then -1 else if g1 < g0 then 1 else 0)) ∧ Below W.heap.size W w') := Lib.hid (fun W => cgetcmp s1 g1 i1 s0 g0 i0 A1 A0 n1 c1 n0 c0 W)
  rw [if_pos hg] at HC
  unfold pv at HC
  have HB : Hid (Below w.heap.size w w.drew) := Lib.hid (below_drewN 1 w)
  have wr0 : IntKind.i64.wrap 0 = 0 := by decide
  have HP := Lib.hid h
  clear hg h
  go_enter Try.func76, Try.ntmps76
  go_wp2_with fail
  refine wp_loop_rounds 2 ?_
  rw [rounds_succ]
  go_wp2_with fail
  refine wp_loop_rounds 2 ?_
  rw [rounds_succ]
  go_wp2_with fail
  go_still_tail 14, (by kernel_rfl)
  change wpList _ _ _ _ _ w.drew
  go_wp2_with fail
  refine (HC.out _).mono ?_
  rintro e w2 ⟨rfl, hb2⟩
  try dsimp only
  have HB2 : Hid (Below w.heap.size w w2) := Lib.hid (HB.out.trans hb2)
  have HP2 := Lib.hid (HP.out.below HB2.out)
  clear hb2 a0 a1 a2 a3 a4 a5 a6 a7 f0 hl
  obtain ⟨a0, a1, a2, a3, a4, a5, a6, a7, f0, hl⟩ := HP2.out.cells
  go_wp2_with fail
  go_region
  all_goals
    obtain ⟨w3, hw3⟩ : ∃ w3, (((((((w2.setCell ⟨b, 4, none⟩ (.int .i64 s0)).setCell ⟨b, 5, none⟩ (.int .i64 g0)).setCell ⟨b, 6, none⟩ (.int .i64 i0)).setCell ⟨b, 7, none⟩ (.slice A0 n0 c0)).setCell ⟨b, 0, none⟩ (.int .i64 s1)).setCell ⟨b, 1, none⟩ (.int .i64 g1)).setCell ⟨b, 2, none⟩ (.int .i64 i1)).setCell ⟨b, 3, none⟩ (.slice A1 n1 c1) = w3 := ⟨_, rfl⟩
    have HP3 := Lib.hid (HP2.out.swap w3 hw3.symm)
    have HT3 : Hid (Turn [b] w w3) := Lib.hid (by rw [← hw3]; exact Turn.put8 (Turn.of HB2.out) _ _ _ _ _ _ _ _ _ _ _ _ _ _ _ _)
    rw [hw3]
    clear hw3 a0 a1 a2 a3 a4 a5 a6 a7 f0 hl HC HB2 HP2
    go_wp2_with fail
    rw [rounds_succ]
    go_wp2_with fail
    go_big_quiet (fail)
    go_wp2_with fail
    rw [rounds_succ]
    go_wp2_with fail
    go_end0
    exact ⟨rfl, HP3.out, HT3.out.trans (Turn.of (below_drewN _ _))⟩
/-- pdqsort of at most two: insertionSort. -/
theorem cpdq (A : Option Addr) (n c : Nat) (l : Int) (f : Value) (w : World) (Q : Ending → World → Prop) (hn : n ≤ 12)
    (h : Calls Try.prog 76 #[.slice A n c, .int .i64 0, .int .i64 (n : Int), f] w fun e w' => e = .returned (.tuple #[]) ∧ Q (.returned (.tuple #[])) w') :
    Calls Try.prog 69 #[.slice A n c, .int .i64 0, .int .i64 (n : Int), .int .i64 l, f] w Q := by
  have HC := Lib.hid h
  have h12 : (n : Int) ≤ 12 := by omega
  clear h
  go_enter Try.func69, Try.ntmps69
  go_wp2_with fail
  refine wp_loop_rounds 1 ?_
  rw [rounds_succ]
  go_wp2_with fail
  refine HC.out.mono ?_
  rintro e w2 ⟨rfl, hq⟩
  try dsimp only
  have HQ := Lib.hid hq
  clear hq
  go_wp2_with fail
  go_end0
  exact HQ.out
theorem csort (A : Option Addr) (n c : Nat) (f : Value) (w : World) (Q : Ending → World → Prop) (hn : n < 3)
    (h : Calls Try.prog 76 #[.slice A n c, .int .i64 0, .int .i64 (n : Int), f] w fun e w' => e = .returned (.tuple #[]) ∧ Q (.returned (.tuple #[])) w') :
    Calls Try.prog 54 #[.slice A n c, f] w Q := by
  have HL := Lib.hid (blen n hn w)
  have HC := Lib.hid (cpdq A n c (n : Int) f w (fun e w' => e = .returned (.tuple #[]) ∧ Q (.returned (.tuple #[])) w') (by omega) (h.mono (by rintro e w' ⟨rfl, hq⟩; exact ⟨rfl, rfl, hq⟩)))
  clear h
  go_enter Try.func54, Try.ntmps54
  go_wp2_with fail
  refine HL.out.mono ?_
  rintro e w' ⟨rfl, hw⟩
  obtain rfl := hw.symm
  go_wp2_with fail
  refine HC.out.mono ?_
  rintro e w2 ⟨rfl, hq⟩
  try dsimp only
  have HQ := Lib.hid hq
  clear hq
  go_wp2_with fail
  go_end0
  exact HQ.out
end Go.Proofs.Ytofmilkjhnkgjaa
