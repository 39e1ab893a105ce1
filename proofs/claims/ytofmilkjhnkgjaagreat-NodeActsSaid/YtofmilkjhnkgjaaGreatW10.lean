import Derived.Test.YtofmilkjhnkgjaaGreatW07
import Derived.Test.YtofmilkjhnkgjaaGreatW06
namespace Go.Proofs.YtofmilkjhnkgjaaGreat
open Go.RowKit Go.Sort
set_option maxRecDepth 100000
set_option maxHeartbeats 1000000

theorem blen64_0 (w : World) : Calls Tryz.prog 118 #[.int .u64 0] w fun e w' => e = .returned (.int .i64 0) ∧ w' = w := by
  go_enter Tryz.func118, Tryz.ntmps118
  go_wp2_with fail
  go_ret
  exact ⟨by kernel_rfl, rfl⟩
theorem blen64_1 (w : World) : Calls Tryz.prog 118 #[.int .u64 1] w fun e w' => e = .returned (.int .i64 1) ∧ w' = w := by
  go_enter Tryz.func118, Tryz.ntmps118
  go_wp2_with fail
  go_ret
  exact ⟨by kernel_rfl, rfl⟩
theorem blen64_2 (w : World) : Calls Tryz.prog 118 #[.int .u64 2] w fun e w' => e = .returned (.int .i64 2) ∧ w' = w := by
  go_enter Tryz.func118, Tryz.ntmps118
  go_wp2_with fail
  go_ret
  exact ⟨by kernel_rfl, rfl⟩
theorem blen (n : Nat) (hn : n < 3) (w : World) : Calls Tryz.prog 103 #[.int .u64 (n : Int)] w fun e w' => e = .returned (.int .i64 (n : Int)) ∧ w' = w := by
  have HC : Hid (Calls Tryz.prog 118 #[.int .u64 (n : Int)] w fun e w' => e = .returned (.int .i64 (n : Int)) ∧ w' = w) := Lib.hid (by
    match n, hn with
    | 0, _ => exact blen64_0 w
    | 1, _ => exact blen64_1 w
    | 2, _ => exact blen64_2 w)
  go_enter Tryz.func103, Tryz.ntmps103
  go_wp2_with fail
  refine HC.out.mono ?_
  rintro e w' ⟨rfl, hw⟩
  obtain rfl := hw.symm
  go_wp2_with fail
  go_ret
  exact ⟨rfl, rfl⟩
theorem cisnan (a : Int) (w : World) : Calls Tryz.prog 96 #[.int .i64 a] w fun e w' => e = .returned (.bool false) ∧ w' = w := by
  have h : (a != a) = false := by simp
  go_enter Tryz.func96, Tryz.ntmps96
  go_wp2_with fail
  go_ret
  exact ⟨rfl, rfl⟩
theorem ccompare (a b : Int) (w : World) : Calls Tryz.prog 75 #[.int .i64 a, .int .i64 b] w fun e w' => e = .returned (.int .i64 (if a < b then -1 else if b < a then 1 else 0)) ∧ w' = w := by
  have HA := Lib.hid (cisnan a w)
  have HB := Lib.hid (cisnan b w)
  by_cases h1 : a < b
  · rw [if_pos h1]
    go_enter Tryz.func75, Tryz.ntmps75
    go_wp2_with fail
    refine HA.out.mono ?_
    rintro e w' ⟨rfl, hw⟩
    obtain rfl := hw.symm
    go_wp2_with fail
    refine HB.out.mono ?_
    rintro e w' ⟨rfl, hw⟩
    obtain rfl := hw.symm
    go_wp2_with fail
    go_ret
    exact ⟨rfl, rfl⟩
  · rw [if_neg h1]
    by_cases h2 : b < a
    · rw [if_pos h2]
      go_enter Tryz.func75, Tryz.ntmps75
      go_wp2_with fail
      refine HA.out.mono ?_
      rintro e w' ⟨rfl, hw⟩
      obtain rfl := hw.symm
      go_wp2_with fail
      refine HB.out.mono ?_
      rintro e w' ⟨rfl, hw⟩
      obtain rfl := hw.symm
      go_wp2_with fail
      go_ret
      exact ⟨rfl, rfl⟩
    · rw [if_neg h2]
      go_enter Tryz.func75, Tryz.ntmps75
      go_wp2_with fail
      refine HA.out.mono ?_
      rintro e w' ⟨rfl, hw⟩
      obtain rfl := hw.symm
      go_wp2_with fail
      refine HB.out.mono ?_
      rintro e w' ⟨rfl, hw⟩
      obtain rfl := hw.symm
      go_wp2_with fail
      go_ret
      exact ⟨rfl, rfl⟩
/-- The order: the greater gen first. -/
theorem cgetcmp (s g i s' g' i' : Int) (A A' : Option Addr) (n c n' c' : Nat) (w : World) :
    Calls Tryz.prog 87 #[pv s g i A n c, pv s' g' i' A' n' c'] w fun e w' => e = .returned (.int .i64 (if g' < g then -1 else if g < g' then 1 else 0)) ∧ Below w.heap.size w w' := by
  have HC := Lib.hid (fun W => ccompare g' g W)
  have HB : Hid (Below w.heap.size w ((w.alloc (.cells #[.int .i64 s, .int .i64 g, .int .i64 i, .slice A n c] 74)).alloc (.cells #[.int .i64 s', .int .i64 g', .int .i64 i', .slice A' n' c'] 74))) := Lib.hid (((Below.refl _ _).alloc (Nat.le_refl _) _).alloc (by simp) _)
  unfold pv
  obtain ⟨r, hr⟩ : ∃ r : Int, (if g' < g then -1 else if g < g' then 1 else 0) = r := ⟨_, rfl⟩
  rw [hr] at HC ⊢
  clear hr
  go_enter Tryz.func87, Tryz.ntmps87
  go_wp2_with fail
  refine (HC.out _).mono ?_
  rintro e w' ⟨rfl, hw⟩
  obtain rfl := hw.symm
  go_wp2_with fail
  go_ret
  exact ⟨rfl, HB.out⟩
end Go.Proofs.YtofmilkjhnkgjaaGreat
namespace Go.Proofs.YtofmilkjhnkgjaaGreat
open Go.RowKit Go.Sort
set_option maxRecDepth 100000
set_option maxHeartbeats 1000000

/-- Read. -/
def DReadRet (F : Blk) (w : World) (e : Ending) (w' : World) : Prop := ∃ g cap, e = .returned (.tuple #[.slice (some ⟨g, 0, none⟩) 160 cap, .bool true]) ∧ Blk8 w' g 160 F ∧ Below w.heap.size w w' ∧ w.heap.size ≤ g ∧ 160 ≤ cap
theorem dread_no {w : World} {p : Nat} {S : List Nat} {N : Nat} {d : Disk} {wr : Nat} (k : Int) (h : Plt w p S N d wr) (hk : ¬ (0 ≤ k ∧ k < (N : Int))) :
    Calls Tryz.prog 19 #[.pointer (some ⟨p, 0, none⟩), .int .i64 k] w fun e w' => e = .returned (.tuple #[.slice none 0 0, .bool false]) ∧ w' = w := by
  have HB := Lib.hid (dhas k h false ⟨fun h => (by cases h), fun h => absurd h hk⟩)
  clear h hk
  go_enter Tryz.func19, Tryz.ntmps19
  go_wp2_with fail
  refine HB.out.mono ?_
  rintro e w' ⟨rfl, hw⟩
  obtain rfl := hw.symm
  go_wp2_with fail
  go_ret2
  exact ⟨rfl, rfl⟩
theorem dread {w : World} {p : Nat} {S : List Nat} {N : Nat} {d : Disk} {wr : Nat} (k : Nat) (h : Plt w p S N d wr) (hk : k < N) :
    Calls Tryz.prog 19 #[.pointer (some ⟨p, 0, none⟩), .int .i64 (k : Int)] w (DReadRet (d.now k) w) := by
  have HB := Lib.hid (dhas (k : Int) h true ⟨fun _ => ⟨by omega, by omega⟩, fun _ => rfl⟩)
  obtain ⟨db, nb, pv, h1, h2, _⟩ := h
  have c1 := h1.c1
  obtain ⟨g, cap, c2, hc1, hb⟩ := h2.cell hk
  have HCL := Lib.hid (bclone ⟨g, 0, none⟩ 160 cap (d.now k) w hb.rd (by omega))
  have hkN : (k : Int) < (N : Int) := by omega
  clear h1 h2 hb hk
  go_enter Tryz.func19, Tryz.ntmps19
  go_wp2_with fail
  refine HB.out.mono ?_
  rintro e w' ⟨rfl, hw⟩
  obtain rfl := hw.symm
  go_wp2_with fail
  refine HCL.out.mono ?_
  rintro e w1 ⟨g1, d1, rfl, o1, hb1, hg1, _, hd1⟩
  try dsimp only
  have HO := Lib.hid o1
  have HB1 := Lib.hid hb1
  clear o1 hb1
  go_wp2_with fail
  go_ret2
  exact ⟨g1, d1, rfl, own_blk HO.out, HB1.out, hg1, hd1⟩
end Go.Proofs.YtofmilkjhnkgjaaGreat
namespace Go.Proofs.YtofmilkjhnkgjaaGreat
open Go.RowKit Go.Sort
set_option maxRecDepth 100000
set_option maxHeartbeats 1000000

theorem info_write : (Tryz.prog.info? 105).map (fun i => (i.zero, i.size, i.bytes)) = some (some (.agg #[.int .i64 0, .slice none 0 0]), 2, 32) := by kernel_rfl
theorem bytes_far {w : World} {b o : Nat} {cs : Array Value} {t : TypeId} {fr : Nat × Nat} {u : Value} (hb : w.heap[b]? = some (.cells cs t fr)) (ht : t ≠ 5) : ∀ (g : Nat) (cs : Array Value), w.heap[g]? = some (Obj.cells cs 5 (0, 0)) → (w.setCell ⟨b, o, none⟩ u).heap[g]? = w.heap[g]? := by
  intro g cs' hg
  refine set_other ?_ o u
  rintro rfl
  rw [hb] at hg
  cases hg
  exact ht rfl
theorem Slab.put {w : World} {b N k : Nat} {D : Nat → Blk} {v : Value} {F : Blk} (h : Slab w b N D) (hk : k < N) (hr : Ref w v F) : Slab (w.setCell ⟨b, k, none⟩ v) b N (upd D (k, F)) := by
  obtain ⟨cs, h1, h2, h3⟩ := h
  have hf := bytes_far (o := k) (u := v) h1 (by decide)
  refine ⟨_, set_block h1 k v, by simpa using h2, fun j hj => ?_⟩
  rw [Array.getElem?_setIfInBounds]
  unfold upd
  by_cases e : k = j
  · subst e
    rw [if_pos rfl, if_pos (by omega), if_pos rfl]
    exact ⟨v, rfl, hr.keep hf⟩
  · rw [if_neg e, if_neg (fun h => e h.symm)]
    obtain ⟨u, hu, hr'⟩ := h3 j hj
    exact ⟨u, hu, hr'.keep hf⟩
/-- A cell of another of a disk's blocks is put. -/
theorem Slab.far {w : World} {b N b' o : Nat} {D : Nat → Blk} {u : Value} {cs : Array Value} {t : TypeId} {fr : Nat × Nat} (h : Slab w b N D) (hb : w.heap[b']? = some (.cells cs t fr)) (ht : t ≠ 5) (hne : b ≠ b') : Slab (w.setCell ⟨b', o, none⟩ u) b N D :=
  h.keep (bytes_far hb ht) (set_other hne o u)
theorem Pend.far {w : World} {b' o N : Nat} {pv u : Value} {l : List (Nat × Blk)} {cs : Array Value} {t : TypeId} {fr : Nat × Nat} (h : Pend w pv N l) (hb : w.heap[b']? = some (.cells cs t fr)) (ht : t ≠ 5) (hne : ∀ k ∈ pb pv, k ≠ b') : Pend (w.setCell ⟨b', o, none⟩ u) pv N l :=
  h.keep (bytes_far hb ht) (fun k hk => set_other (hne k hk) o u)
theorem PltR.ne1 {w : World} {p db nb N : Nat} {pv : Value} {D : Nat → Blk} {l : List (Nat × Blk)} {wr : Nat} (h : PltR w p db nb N pv D l wr) : p ≠ db ∧ p ≠ nb ∧ p ∉ pb pv ∧ db ∉ pb pv ∧ nb ∉ pb pv := by
  have h0 := h.head
  obtain ⟨c1, h1, _⟩ := h.rows
  obtain ⟨c2, h2, _⟩ := h.arr
  obtain ⟨xs, ⟨_, h3⟩, _⟩ := h.pend
  unfold Head at h0
  refine ⟨?_, ?_, ?_, ?_, ?_⟩
  · rintro rfl; rw [h0] at h1; cases h1
  · rintro rfl; rw [h0] at h2; cases h2
  all_goals
    intro hm
    rcases h3 with ⟨rfl, _⟩ | ⟨g, cap, cur, rfl, _, hh, _⟩
    · simp [pb] at hm
    · simp [pb] at hm
      subst hm
      simp_all
/-- A byte slice's place into now. -/
theorem PltR.now {w : World} {p db nb N k : Nat} {pv v : Value} {D : Nat → Blk} {l : List (Nat × Blk)} {wr : Nat} (h : PltR w p db nb N pv D l wr) : PltR (w.setCell ⟨nb, k, none⟩ v) p db nb N pv D l wr := by
  obtain ⟨n1, n2, n3, n4, n5⟩ := h.ne1
  obtain ⟨c2, h2, hs⟩ := h.arr
  exact ⟨(set_other n2 k v).trans h.head, h.rows.far h2 (by decide) h.ne, ⟨_, set_block h2 k v, by simpa using hs⟩, h.ne, h.pend.far h2 (by decide) (fun i hi e => n5 (e ▸ hi)), h.n1, h.n2, h.len⟩
theorem head_put2 {w : World} {p db nb N : Nat} {pv u : Value} {wr : Nat} (h : Head w p db nb N pv wr) : Head (w.setCell ⟨p, 2, none⟩ u) p db nb N u wr := set_block h 2 u
theorem head_put3 {w : World} {p db nb N : Nat} {pv : Value} {wr wr' : Nat} (h : Head w p db nb N pv wr) : Head (w.setCell ⟨p, 3, none⟩ (.int .i64 (wr' : Int))) p db nb N pv wr' := set_block h 3 _
theorem list_snoc {α : Type} {l : List α} {x y : α} {i : Nat} (h : (l ++ [x])[i]? = some y) : (i < l.length ∧ l[i]? = some y) ∨ (i = l.length ∧ x = y) := by
  by_cases hi : i < l.length
  · rw [List.getElem?_append_left hi] at h
    exact Or.inl ⟨hi, h⟩
  · rw [List.getElem?_append_right (by omega)] at h
    obtain ⟨hlt, h2⟩ := List.getElem?_eq_some_iff.1 h
    have hlen : i - l.length = 0 := by simpa using hlt
    exact Or.inr ⟨by omega, by simpa [hlen] using h⟩

/-- What stands behind a write. -/
theorem write_end {W Wa w4 : World} {p db nb N k g cap wr : Nat} {pv v : Value} {D E : Nat → Blk} {l : List (Nat × Blk)} {F : Blk} {xs : List Value} (h : PltR W p db nb N pv D l wr) (hn : Slab W nb N E) (hr : Ref W v F) (hk : k < N)
    (hxs : ∀ i k F, l[i]? = some (k, F) → k < N ∧ xs[2 * i]? = some (.int .i64 (k : Int)) ∧ ∃ v, xs[2 * i + 1]? = some v ∧ Ref W v F) (hlen : xs.length = l.length * 2)
    (hb : Below W.heap.size W Wa) (own : w4.ownsRow 0 105 2 (.slice (some ⟨g, 0, none⟩) (l.length + 1) cap) (l.length + 1) (xs ++ [.int .i64 (k : Int), v])) (gr : Wa.grownBy w4 pv.ownBlock) (hl : pv.ownBlock = some g ∨ W.heap.size ≤ g) :
    PltR ((w4.setCell ⟨p, 2, none⟩ (.slice (some ⟨g, 0, none⟩) (l.length + 1) cap)).setCell ⟨p, 3, none⟩ (.int .i64 ((wr + 1 : Nat) : Int))) p db nb N (.slice (some ⟨g, 0, none⟩) (l.length + 1) cap) D (l ++ [(k, F)]) (wr + 1) ∧
    Slab ((w4.setCell ⟨p, 2, none⟩ (.slice (some ⟨g, 0, none⟩) (l.length + 1) cap)).setCell ⟨p, 3, none⟩ (.int .i64 ((wr + 1 : Nat) : Int))) nb N E ∧
    Step ([p, db, nb] ++ pb pv) ([p, db, nb] ++ [g]) W ((w4.setCell ⟨p, 2, none⟩ (.slice (some ⟨g, 0, none⟩) (l.length + 1) cap)).setCell ⟨p, 3, none⟩ (.int .i64 ((wr + 1 : Nat) : Int))) := by
  obtain ⟨n1, n2, n3, n4, n5⟩ := h.ne1
  have hpb : ∀ i, pv.ownBlock = some i → i ∈ pb pv := by
    intro i hi
    unfold Value.ownBlock at hi
    split at hi
    · injection hi with e; subst e; simp [pb]
    · cases hi
  have hw4 : ∀ i, i < W.heap.size → i ∉ pb pv → w4.heap[i]? = W.heap[i]? := fun i hi hn => (gr.block i (Nat.lt_of_lt_of_le hi hb.size) (fun e => hn (hpb i e.symm))).trans (hb.block i hi)
  have hp4 : Head w4 p db nb N pv wr := (hw4 p (heap_lt h.head) n3).trans h.head
  have hbytes : ∀ (g : Nat) (cs : Array Value), W.heap[g]? = some (Obj.cells cs 5 (0, 0)) → w4.heap[g]? = W.heap[g]? := by
    intro i cs hi
    refine hw4 i (heap_lt hi) ?_
    intro hm
    obtain ⟨xs', ⟨_, h3⟩, _⟩ := h.pend
    rcases h3 with ⟨rfl, _⟩ | ⟨g', cap', cur, rfl, _, hh, _⟩
    · simp [pb] at hm
    · simp [pb] at hm; subst hm; rw [hh] at hi; cases hi
  have s4 : Slab w4 db N D := h.rows.keep hbytes (hw4 db h.rows.arr.lt n4)
  have t4 : Slab w4 nb N E := hn.keep hbytes (hw4 nb hn.arr.lt n5)
  have hp5 := head_put2 (u := .slice (some ⟨g, 0, none⟩) (l.length + 1) cap) hp4
  have hp6 := head_put3 (wr' := wr + 1) hp5
  have P4 : Pend w4 (.slice (some ⟨g, 0, none⟩) (l.length + 1) cap) N (l ++ [(k, F)]) := by
    refine ⟨_, by simpa using own, fun i k' F' hi => ?_⟩
    rcases list_snoc hi with ⟨hi1, hi2⟩ | ⟨rfl, e⟩
    · obtain ⟨a, b, v', hv', hr'⟩ := hxs i k' F' hi2
      exact ⟨a, by rw [List.getElem?_append_left (by omega)]; exact b, v', by rw [List.getElem?_append_left (by omega)]; exact hv', hr'.keep hbytes⟩
    · cases e
      refine ⟨hk, ?_, v, ?_, hr.keep hbytes⟩
      · rw [List.getElem?_append_right (by omega), show 2 * l.length - xs.length = 0 by omega]; rfl
      · rw [List.getElem?_append_right (by omega), show 2 * l.length + 1 - xs.length = 1 by omega]; rfl
  have hgp : g ≠ p := by
    rcases hl with e | e
    · rintro rfl; exact n3 (hpb _ e)
    · have := heap_lt h.head; omega
  refine ⟨⟨hp6, (s4.far hp4 (by decide) n1.symm).far hp5 (by decide) n1.symm, ((t4.far hp4 (by decide) n2.symm).far hp5 (by decide) n2.symm).arr, h.ne, (P4.far hp4 (by decide) (fun i hi => by simp [pb] at hi; omega)).far hp5 (by decide) (fun i hi => by simp [pb] at hi; omega), h.n1, h.n2, by have := h.len; simp; omega⟩, (t4.far hp4 (by decide) n2.symm).far hp5 (by decide) n2.symm, ⟨?_, ?_⟩⟩
  · refine Turn.trans (Turn.trans ⟨gr.os.trans hb.os, gr.tape.trans hb.tape, gr.output.trans hb.output, Nat.le_trans hb.size gr.size, fun i hi hn => hw4 i hi (fun hm => hn (by simp [hm]))⟩ (Turn.set _ _ _ _ (by simp))) (Turn.set _ _ _ _ (by simp))
  · intro i hi
    simp only [List.mem_append, List.mem_cons, List.not_mem_nil, or_false] at hi
    rcases hi with hi | rfl
    · exact Or.inl (by rcases hi with rfl | rfl | rfl <;> simp)
    · rcases hl with e | e
      · exact Or.inl (by simp [hpb _ e])
      · exact Or.inr e

/-- Write of what may not be. -/
theorem dwrite_no {w : World} {p : Nat} {S : List Nat} {N : Nat} {d : Disk} {wr : Nat} (k : Int) (A : Option Addr) (n c : Nat) (h : Plt w p S N d wr) (hk : ¬ (0 ≤ k ∧ k < (N : Int) ∧ n = 160)) :
    Calls Tryz.prog 60 #[.pointer (some ⟨p, 0, none⟩), .int .i64 k, .slice A n c] w fun e w' => e = .returned (.bool false) ∧ w' = w := by
  by_cases hin : 0 ≤ k ∧ k < (N : Int)
  · have HB := Lib.hid (dhas k h true ⟨fun _ => hin, fun _ => rfl⟩)
    have e1 : ((n : Int) != 160) = true := by rw [bne_iff_ne]; omega
    clear h hk hin
    go_enter Tryz.func60, Tryz.ntmps60
    go_wp2_with fail
    refine HB.out.mono ?_
    rintro e w' ⟨rfl, hw⟩
    obtain rfl := hw.symm
    go_wp2_with fail
    go_ret
    exact ⟨rfl, rfl⟩
  · have HB := Lib.hid (dhas k h false ⟨fun h => (by cases h), fun h => absurd h hin⟩)
    clear h hk hin
    go_enter Tryz.func60, Tryz.ntmps60
    go_wp2_with fail
    refine HB.out.mono ?_
    rintro e w' ⟨rfl, hw⟩
    obtain rfl := hw.symm
    go_wp2_with fail
    go_ret
    exact ⟨rfl, rfl⟩
end Go.Proofs.YtofmilkjhnkgjaaGreat
