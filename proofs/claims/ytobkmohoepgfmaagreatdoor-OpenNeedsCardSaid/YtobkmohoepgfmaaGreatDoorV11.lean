import Derived.Test.YtobkmohoepgfmaaGreatDoorV09
import Derived.Test.YtobkmohoepgfmaaGreatDoorV08
namespace Go.Proofs.YtobkmohoepgfmaaGreatDoor
open Go.RowKit Go.Sort
set_option maxRecDepth 100000
set_option maxHeartbeats 1000000

theorem blen64_0 (w : World) : Calls Tryz.prog 130 #[.int .u64 0] w fun e w' => e = .returned (.int .i64 0) ∧ w' = w := by
 go_enter Tryz.func130, Tryz.ntmps130
 go_wp2_with fail
 go_ret
 exact ⟨by kernel_rfl, rfl⟩
theorem blen64_1 (w : World) : Calls Tryz.prog 130 #[.int .u64 1] w fun e w' => e = .returned (.int .i64 1) ∧ w' = w := by
 go_enter Tryz.func130, Tryz.ntmps130
 go_wp2_with fail
 go_ret
 exact ⟨by kernel_rfl, rfl⟩
theorem blen64_2 (w : World) : Calls Tryz.prog 130 #[.int .u64 2] w fun e w' => e = .returned (.int .i64 2) ∧ w' = w := by
 go_enter Tryz.func130, Tryz.ntmps130
 go_wp2_with fail
 go_ret
 exact ⟨by kernel_rfl, rfl⟩
theorem blen (n : Nat) (hn : n < 3) (w : World) : Calls Tryz.prog 91 #[.int .u64 (n : Int)] w fun e w' => e = .returned (.int .i64 (n : Int)) ∧ w' = w := by
 have HC : Hid (Calls Tryz.prog 130 #[.int .u64 (n : Int)] w fun e w' => e = .returned (.int .i64 (n : Int)) ∧ w' = w) := Lib.hid (by
  match n, hn with
  | 0, _ => exact blen64_0 w
  | 1, _ => exact blen64_1 w
  | 2, _ => exact blen64_2 w)
 go_enter Tryz.func91, Tryz.ntmps91
 go_wp2_with fail
 refine HC.out.mono ?_
 rintro e w' ⟨rfl, hw⟩
 obtain rfl := hw.symm
 go_wp2_with fail
 go_ret
 exact ⟨rfl, rfl⟩
theorem cisnan (a : Int) (w : World) : Calls Tryz.prog 131 #[.int .i64 a] w fun e w' => e = .returned (.bool false) ∧ w' = w := by
 have h : (a != a) = false := by simp
 go_enter Tryz.func131, Tryz.ntmps131
 go_wp2_with fail
 go_ret
 exact ⟨rfl, rfl⟩
theorem ccompare (a b : Int) (w : World) : Calls Tryz.prog 93 #[.int .i64 a, .int .i64 b] w fun e w' => e = .returned (.int .i64 (if a < b then -1 else if b < a then 1 else 0)) ∧ w' = w := by
 have HA := Lib.hid (cisnan a w)
 have HB := Lib.hid (cisnan b w)
 by_cases h1 : a < b
 ·rw [if_pos h1]
  go_enter Tryz.func93, Tryz.ntmps93
  go_wp2_with fail
  refine HA.out.mono ?_
  rintro e w' ⟨rfl, hw⟩
  obtain rfl := hw.symm
  go_wp2_with fail
  refine HB.out.mono ?_
  rintro e w' ⟨rfl, hw⟩
  obtain rfl := hw.symm
  go_wp2_with fail
  go_ret
  exact ⟨rfl, rfl⟩
 ·rw [if_neg h1]
  by_cases h2 : b < a
  ·rw [if_pos h2]
   go_enter Tryz.func93, Tryz.ntmps93
   go_wp2_with fail
   refine HA.out.mono ?_
   rintro e w' ⟨rfl, hw⟩
   obtain rfl := hw.symm
   go_wp2_with fail
   refine HB.out.mono ?_
   rintro e w' ⟨rfl, hw⟩
   obtain rfl := hw.symm
   go_wp2_with fail
   go_ret
   exact ⟨rfl, rfl⟩
  ·rw [if_neg h2]
   go_enter Tryz.func93, Tryz.ntmps93
   go_wp2_with fail
   refine HA.out.mono ?_
   rintro e w' ⟨rfl, hw⟩
   obtain rfl := hw.symm
   go_wp2_with fail
   refine HB.out.mono ?_
   rintro e w' ⟨rfl, hw⟩
   obtain rfl := hw.symm
   go_wp2_with fail
   go_ret
   exact ⟨rfl, rfl⟩
theorem cgetcmp (s g i s' g' i' : Int) (A A' : Option Addr) (n c n' c' : Nat) (w : World) :
  Calls Tryz.prog 192 #[pv s g i A n c, pv s' g' i' A' n' c'] w fun e w' => e = .returned (.int .i64 (if g' < g then -1 else if g < g' then 1 else 0)) ∧ Below w.heap.size w w' := by
 have HC := Lib.hid (fun W => ccompare g' g W)
 have HB : Hid (Below w.heap.size w ((w.alloc (.cells #[.int .i64 s, .int .i64 g, .int .i64 i, .slice A n c] 162)).alloc (.cells #[.int .i64 s', .int .i64 g', .int .i64 i', .slice A' n' c'] 162))) := Lib.hid (((Below.refl _ _).alloc (Nat.le_refl _) _).alloc (by simp) _)
 unfold pv
 obtain ⟨r, hr⟩ : ∃ r : Int, (if g' < g then -1 else if g < g' then 1 else 0) = r := ⟨_, rfl⟩
 rw [hr] at HC ⊢
 clear hr
 go_enter Tryz.func192, Tryz.ntmps192
 go_wp2_with fail
 refine (HC.out _).mono ?_
 rintro e w' ⟨rfl, hw⟩
 obtain rfl := hw.symm
 go_wp2_with fail
 go_ret
 exact ⟨rfl, HB.out⟩
end Go.Proofs.YtobkmohoepgfmaaGreatDoor
namespace Go.Proofs.YtobkmohoepgfmaaGreatDoor
open Go.RowKit Go.Sort
set_option maxRecDepth 100000
set_option maxHeartbeats 1000000

def DReadRet (F : Blk) (w : World) (e : Ending) (w' : World) : Prop := ∃ g cap, e = .returned (.tuple #[.slice (some ⟨g, 0, none⟩) 160 cap, .bool true]) ∧ Blk8 w' g 160 F ∧ Below w.heap.size w w' ∧ w.heap.size ≤ g ∧ 160 ≤ cap
theorem dread {w : World} {p : Nat} {S : List Nat} {N : Nat} {d : Disk} {wr : Nat} (k : Nat) (h : Plt w p S N d wr) (hk : k < N) :
  Calls Tryz.prog 99 #[.pointer (some ⟨p, 0, none⟩), .int .i64 (k : Int)] w (DReadRet (d.now k) w) := by
 have HB := Lib.hid (dhas (k : Int) h true ⟨fun _ => ⟨by omega, by omega⟩, fun _ => rfl⟩)
 obtain ⟨db, nb, pv, h1, h2, _⟩ := h
 have c1 := h1.c1
 obtain ⟨g, cap, c2, hc1, hb⟩ := h2.cell hk
 have HCL := Lib.hid (bclone ⟨g, 0, none⟩ 160 cap (d.now k) w hb.rd (by omega))
 have hkN : (k : Int) < (N : Int) := by omega
 clear h1 h2 hb hk
 go_enter Tryz.func99, Tryz.ntmps99
 go_wp2_with fail
 refine HB.out.mono ?_
 rintro e w' ⟨rfl, hw⟩
 obtain rfl := hw.symm
 go_wp2_with fail
 refine HCL.out.mono ?_
 rintro e w1 ⟨g1, d1, rfl, o1, hb1, hg1, _, hd1⟩
 try dsimp only
 have HO := Lib.hid o1
 have HB1 := Lib.hid hb1
 clear o1 hb1
 go_wp2_with fail
 go_ret2
 exact ⟨g1, d1, rfl, own_blk HO.out, HB1.out, hg1, hd1⟩
end Go.Proofs.YtobkmohoepgfmaaGreatDoor
namespace Go.Proofs.YtobkmohoepgfmaaGreatDoor
open Go.RowKit Go.Sort
set_option maxRecDepth 100000
set_option maxHeartbeats 1000000

theorem info_write : (Tryz.prog.info? 188).map (fun i => (i.zero, i.size, i.bytes)) = some (some (.agg #[.int .i64 0, .slice none 0 0]), 2, 32) := by kernel_rfl
theorem bytes_far {w : World} {b o : Nat} {cs : Array Value} {t : TypeId} {fr : Nat × Nat} {u : Value} (hb : w.heap[b]? = some (.cells cs t fr)) (ht : t ≠ 5) : ∀ (g : Nat) (cs : Array Value), w.heap[g]? = some (Obj.cells cs 5 (0, 0)) → (w.setCell ⟨b, o, none⟩ u).heap[g]? = w.heap[g]? := by
 intro g cs' hg
 refine set_other ?_ o u
 rintro rfl
 rw [hb] at hg
 cases hg
 exact ht rfl
theorem Slab.put {w : World} {b N k : Nat} {D : Nat → Blk} {v : Value} {F : Blk} (h : Slab w b N D) (hk : k < N) (hr : Ref w v F) : Slab (w.setCell ⟨b, k, none⟩ v) b N (upd D (k, F)) := by
 obtain ⟨cs, h1, h2, h3⟩ := h
 have hf := bytes_far (o := k) (u := v) h1 (by decide)
 refine ⟨_, set_block h1 k v, by simpa using h2, fun j hj => ?_⟩
 rw [Array.getElem?_setIfInBounds]
 unfold upd
 by_cases e : k = j
 ·subst e
  rw [if_pos rfl, if_pos (by omega), if_pos rfl]
  exact ⟨v, rfl, hr.keep hf⟩
 ·rw [if_neg e, if_neg (fun h => e h.symm)]
  obtain ⟨u, hu, hr'⟩ := h3 j hj
  exact ⟨u, hu, hr'.keep hf⟩
theorem Slab.far {w : World} {b N b' o : Nat} {D : Nat → Blk} {u : Value} {cs : Array Value} {t : TypeId} {fr : Nat × Nat} (h : Slab w b N D) (hb : w.heap[b']? = some (.cells cs t fr)) (ht : t ≠ 5) (hne : b ≠ b') : Slab (w.setCell ⟨b', o, none⟩ u) b N D :=
 h.keep (bytes_far hb ht) (set_other hne o u)
theorem Pend.far {w : World} {b' o N : Nat} {pv u : Value} {l : List (Nat × Blk)} {cs : Array Value} {t : TypeId} {fr : Nat × Nat} (h : Pend w pv N l) (hb : w.heap[b']? = some (.cells cs t fr)) (ht : t ≠ 5) (hne : ∀ k ∈ pb pv, k ≠ b') : Pend (w.setCell ⟨b', o, none⟩ u) pv N l :=
 h.keep (bytes_far hb ht) (fun k hk => set_other (hne k hk) o u)
theorem PltR.ne1 {w : World} {p db nb N : Nat} {pv : Value} {D : Nat → Blk} {l : List (Nat × Blk)} {wr : Nat} (h : PltR w p db nb N pv D l wr) : p ≠ db ∧ p ≠ nb ∧ p ∉ pb pv ∧ db ∉ pb pv ∧ nb ∉ pb pv := by
 have h0 := h.head
 obtain ⟨c1, h1, _⟩ := h.rows
 obtain ⟨c2, h2, _⟩ := h.arr
 obtain ⟨xs, ⟨_, h3⟩, _⟩ := h.pend
 unfold Head at h0
 refine ⟨?_, ?_, ?_, ?_, ?_⟩
 ·rintro rfl; rw [h0] at h1; cases h1
 ·rintro rfl; rw [h0] at h2; cases h2
 all_goals
  intro hm
  rcases h3 with ⟨rfl, _⟩ | ⟨g, cap, cur, rfl, _, hh, _⟩
  ·simp [pb] at hm
  ·simp [pb] at hm
   subst hm
   simp_all
theorem PltR.now {w : World} {p db nb N k : Nat} {pv v : Value} {D : Nat → Blk} {l : List (Nat × Blk)} {wr : Nat} (h : PltR w p db nb N pv D l wr) : PltR (w.setCell ⟨nb, k, none⟩ v) p db nb N pv D l wr := by
 obtain ⟨n1, n2, n3, n4, n5⟩ := h.ne1
 obtain ⟨c2, h2, hs⟩ := h.arr
 exact ⟨(set_other n2 k v).trans h.head, h.rows.far h2 (by decide) h.ne, ⟨_, set_block h2 k v, by simpa using hs⟩, h.ne, h.pend.far h2 (by decide) (fun i hi e => n5 (e ▸ hi)), h.n1, h.n2, h.len⟩
theorem head_put2 {w : World} {p db nb N : Nat} {pv u : Value} {wr : Nat} (h : Head w p db nb N pv wr) : Head (w.setCell ⟨p, 2, none⟩ u) p db nb N u wr := set_block h 2 u
theorem head_put3 {w : World} {p db nb N : Nat} {pv : Value} {wr wr' : Nat} (h : Head w p db nb N pv wr) : Head (w.setCell ⟨p, 3, none⟩ (.int .i64 (wr' : Int))) p db nb N pv wr' := set_block h 3 _
theorem list_snoc {α : Type} {l : List α} {x y : α} {i : Nat} (h : (l ++ [x])[i]? = some y) : (i < l.length ∧ l[i]? = some y) ∨ (i = l.length ∧ x = y) := by
 by_cases hi : i < l.length
 ·rw [List.getElem?_append_left hi] at h
  exact Or.inl ⟨hi, h⟩
 ·rw [List.getElem?_append_right (by omega)] at h
  obtain ⟨hlt, h2⟩ := List.getElem?_eq_some_iff.1 h
  have hlen : i - l.length = 0 := by simpa using hlt
  exact Or.inr ⟨by omega, by simpa [hlen] using h⟩

theorem write_end {W Wa w4 : World} {p db nb N k g cap wr : Nat} {pv v : Value} {D E : Nat → Blk} {l : List (Nat × Blk)} {F : Blk} {xs : List Value} (h : PltR W p db nb N pv D l wr) (hn : Slab W nb N E) (hr : Ref W v F) (hk : k < N)
  (hxs : ∀ i k F, l[i]? = some (k, F) → k < N ∧ xs[2 * i]? = some (.int .i64 (k : Int)) ∧ ∃ v, xs[2 * i + 1]? = some v ∧ Ref W v F) (hlen : xs.length = l.length * 2)
  (hb : Below W.heap.size W Wa) (own : w4.ownsRow 0 188 2 (.slice (some ⟨g, 0, none⟩) (l.length + 1) cap) (l.length + 1) (xs ++ [.int .i64 (k : Int), v])) (gr : Wa.grownBy w4 pv.ownBlock) (hl : pv.ownBlock = some g ∨ W.heap.size ≤ g) :
  PltR ((w4.setCell ⟨p, 2, none⟩ (.slice (some ⟨g, 0, none⟩) (l.length + 1) cap)).setCell ⟨p, 3, none⟩ (.int .i64 ((wr + 1 : Nat) : Int))) p db nb N (.slice (some ⟨g, 0, none⟩) (l.length + 1) cap) D (l ++ [(k, F)]) (wr + 1) ∧
  Slab ((w4.setCell ⟨p, 2, none⟩ (.slice (some ⟨g, 0, none⟩) (l.length + 1) cap)).setCell ⟨p, 3, none⟩ (.int .i64 ((wr + 1 : Nat) : Int))) nb N E ∧
  Step ([p, db, nb] ++ pb pv) ([p, db, nb] ++ [g]) W ((w4.setCell ⟨p, 2, none⟩ (.slice (some ⟨g, 0, none⟩) (l.length + 1) cap)).setCell ⟨p, 3, none⟩ (.int .i64 ((wr + 1 : Nat) : Int))) := by
 obtain ⟨n1, n2, n3, n4, n5⟩ := h.ne1
 have hpb : ∀ i, pv.ownBlock = some i → i ∈ pb pv := by
  intro i hi
  unfold Value.ownBlock at hi
  split at hi
  ·injection hi with e; subst e; simp [pb]
  ·cases hi
 have hw4 : ∀ i, i < W.heap.size → i ∉ pb pv → w4.heap[i]? = W.heap[i]? := fun i hi hn => (gr.block i (Nat.lt_of_lt_of_le hi hb.size) (fun e => hn (hpb i e.symm))).trans (hb.block i hi)
 have hp4 : Head w4 p db nb N pv wr := (hw4 p (heap_lt h.head) n3).trans h.head
 have hbytes : ∀ (g : Nat) (cs : Array Value), W.heap[g]? = some (Obj.cells cs 5 (0, 0)) → w4.heap[g]? = W.heap[g]? := by
  intro i cs hi
  refine hw4 i (heap_lt hi) ?_
  intro hm
  obtain ⟨xs', ⟨_, h3⟩, _⟩ := h.pend
  rcases h3 with ⟨rfl, _⟩ | ⟨g', cap', cur, rfl, _, hh, _⟩
  ·simp [pb] at hm
  ·simp [pb] at hm; subst hm; rw [hh] at hi; cases hi
 have s4 : Slab w4 db N D := h.rows.keep hbytes (hw4 db h.rows.arr.lt n4)
 have t4 : Slab w4 nb N E := hn.keep hbytes (hw4 nb hn.arr.lt n5)
 have hp5 := head_put2 (u := .slice (some ⟨g, 0, none⟩) (l.length + 1) cap) hp4
 have hp6 := head_put3 (wr' := wr + 1) hp5
 have P4 : Pend w4 (.slice (some ⟨g, 0, none⟩) (l.length + 1) cap) N (l ++ [(k, F)]) := by
  refine ⟨_, by simpa using own, fun i k' F' hi => ?_⟩
  rcases list_snoc hi with ⟨hi1, hi2⟩ | ⟨rfl, e⟩
  ·obtain ⟨a, b, v', hv', hr'⟩ := hxs i k' F' hi2
   exact ⟨a, by rw [List.getElem?_append_left (by omega)]; exact b, v', by rw [List.getElem?_append_left (by omega)]; exact hv', hr'.keep hbytes⟩
  ·cases e
   refine ⟨hk, ?_, v, ?_, hr.keep hbytes⟩
   ·rw [List.getElem?_append_right (by omega), show 2 * l.length - xs.length = 0 by omega]; rfl
   ·rw [List.getElem?_append_right (by omega), show 2 * l.length + 1 - xs.length = 1 by omega]; rfl
 have hgp : g ≠ p := by
  rcases hl with e | e
  ·rintro rfl; exact n3 (hpb _ e)
  ·have := heap_lt h.head; omega
 refine ⟨⟨hp6, (s4.far hp4 (by decide) n1.symm).far hp5 (by decide) n1.symm, ((t4.far hp4 (by decide) n2.symm).far hp5 (by decide) n2.symm).arr, h.ne, (P4.far hp4 (by decide) (fun i hi => by simp [pb] at hi; omega)).far hp5 (by decide) (fun i hi => by simp [pb] at hi; omega), h.n1, h.n2, by have := h.len; simp; omega⟩, (t4.far hp4 (by decide) n2.symm).far hp5 (by decide) n2.symm, ⟨?_, ?_⟩⟩
 ·refine Turn.trans (Turn.trans ⟨gr.os.trans hb.os, gr.tape.trans hb.tape, gr.output.trans hb.output, Nat.le_trans hb.size gr.size, fun i hi hn => hw4 i hi (fun hm => hn (by simp [hm]))⟩ (Turn.set _ _ _ _ (by simp))) (Turn.set _ _ _ _ (by simp))
 ·intro i hi
  simp only [List.mem_append, List.mem_cons, List.not_mem_nil, or_false] at hi
  rcases hi with hi | rfl
  ·exact Or.inl (by rcases hi with rfl | rfl | rfl <;> simp)
  ·rcases hl with e | e
   ·exact Or.inl (by simp [hpb _ e])
   ·exact Or.inr e

end Go.Proofs.YtobkmohoepgfmaaGreatDoor
namespace Go.Proofs.YtobkmohoepgfmaaGreatDoor
open Go.RowKit Go.Sort
set_option maxRecDepth 100000
set_option maxHeartbeats 2000000

def DWriteRet (p : Nat) (S : List Nat) (N : Nat) (d : Disk) (k : Nat) (F : Blk) (wr : Nat) (w : World) (e : Ending) (w' : World) : Prop :=
 ∃ S', e = .returned (.bool true) ∧ Plt w' p S' N (d.write k F) (wr + 1) ∧ Step S S' w w'
theorem dwrite {w : World} {p : Nat} {S : List Nat} {N : Nat} {d : Disk} {wr : Nat} (k : Nat) (A : Option Addr) (c : Nat) (F : Blk) (h : Plt w p S N d wr) (hk : k < N) (hA : Rd w A 160 F) (hwr : wr ≤ 1000000000) :
  Calls Tryz.prog 172 #[.pointer (some ⟨p, 0, none⟩), .int .i64 (k : Int), .slice A 160 c] w (DWriteRet p S N d k F wr w) := by
 have HB := Lib.hid (dhas (k : Int) h true ⟨fun _ => ⟨by omega, by omega⟩, fun _ => rfl⟩)
 obtain ⟨g0, q0, hA0, hA1⟩ := hA (by omega)
 subst hA0
 have HCL := Lib.hid (bclone ⟨g0, q0, none⟩ 160 c F w hA (by omega))
 have HP := Lib.hid h
 have hkN : (k : Int) < (N : Int) := by omega
 have hk0 : k < N := hk
 have HK := Lib.hid hk
 obtain ⟨i0, hi0, hz0, hz1, hz2⟩ := info_parts info_write
 clear h hA hA1 hk
 go_enter Tryz.func172, Tryz.ntmps172
 go_wp2_with fail
 refine HB.out.mono ?_
 rintro e w' ⟨rfl, hw⟩
 obtain rfl := hw.symm
 go_wp2_with fail
 refine HCL.out.mono ?_
 rintro e w1 ⟨g1, d1, rfl, o1, hb1, hg1, hl1, hd1⟩
 try dsimp only
 have HO := Lib.hid (own_blk o1)
 have HB1 := Lib.hid hb1
 have HP1 := Lib.hid (HP.out.below hb1)
 clear o1 hb1 HP HB HCL
 go_wp2_with fail
 have HL2 : Hid ((w1.alloc (.cells #[.int .i64 (k : Int), .slice (some ⟨g1, 0, none⟩) 160 d1] 188)).heap[w1.heap.size]? = some (.cells #[.int .i64 (k : Int), .slice (some ⟨g1, 0, none⟩) 160 d1] 188 (0, 0))) := Lib.hid (alloc_block _ _)
 have HP2 := Lib.hid (HP1.out.below ((Below.refl _ _).alloc (Nat.le_refl _) (.cells #[.int .i64 (k : Int), .slice (some ⟨g1, 0, none⟩) 160 d1] 188)))
 have HR2 : Hid (Ref (w1.alloc (.cells #[.int .i64 (k : Int), .slice (some ⟨g1, 0, none⟩) 160 d1] 188)) (.slice (some ⟨g1, 0, none⟩) 160 d1) F) := Lib.hid ⟨g1, d1, rfl, hd1, HO.out.below ((Below.refl _ _).alloc (Nat.le_refl _) _)⟩
 have HW2 : Hid (Below w.heap.size w (w1.alloc (.cells #[.int .i64 (k : Int), .slice (some ⟨g1, 0, none⟩) 160 d1] 188))) := Lib.hid (HB1.out.alloc HB1.out.size _)
 clear HP1 HO HB1 hg1 hl1
 generalize w1.alloc (.cells #[.int .i64 (k : Int), .slice (some ⟨g1, 0, none⟩) 160 d1] 188) = w2 at *
 generalize w1.heap.size = L at *
 obtain ⟨db, nb, pv, h1, h2, hS⟩ := HP2.out
 have HS := Lib.hid hS
 clear hS
 have H1 := Lib.hid h1
 have H2 := Lib.hid h2
 have a1 := h1.c1
 have a2 := (h1.arr).free k
 obtain ⟨v0, a3⟩ := h1.arr.cell hk0
 have b1 : w2.cell? ⟨L, 1, none⟩ = some (.slice (some ⟨g1, 0, none⟩) 160 d1) := cell_of_block HL2.out
 clear h1 h2
 go_still_tail 8, (by kernel_rfl)
 change wpList _ _ _ _ _ w2.drew
 have a2' : w2.drew.frozen? ⟨nb, k, none⟩ = false := a2
 go_wp2_with fail
 have hLnb : L ≠ nb := by
  rintro rfl
  obtain ⟨cs, hc, _⟩ := H1.out.arr
  have := HL2.out
  rw [hc] at this
  cases this
 have T3 : Hid (Step ([p, db, nb] ++ pb pv) ([p, db, nb] ++ pb pv) w ((w2.setCell ⟨nb, k, none⟩ (.slice (some ⟨g1, 0, none⟩) 160 d1)).drew)) := Lib.hid ⟨((Turn.of HW2.out).trans (Turn.set _ _ _ _ (by simp))).trans (Turn.drew _ _), fun _ h => Or.inl h⟩
 have P3 : Hid (PltR ((w2.setCell ⟨nb, k, none⟩ (.slice (some ⟨g1, 0, none⟩) 160 d1)).drew) p db nb N pv d.done d.pend wr) := Lib.hid (PltR.now H1.out).drew
 have N3 : Hid (Slab ((w2.setCell ⟨nb, k, none⟩ (.slice (some ⟨g1, 0, none⟩) 160 d1)).drew) nb N (upd d.now (k, F))) := Lib.hid (Slab.put (w := w2) H2.out hk0 HR2.out)
 have R3 : Hid (Ref ((w2.setCell ⟨nb, k, none⟩ (.slice (some ⟨g1, 0, none⟩) 160 d1)).drew) (.slice (some ⟨g1, 0, none⟩) 160 d1) F) := Lib.hid (by
  obtain ⟨cs, hc, _⟩ := H1.out.arr
  exact HR2.out.keep (bytes_far (w := w2) hc (by decide)))
 have L3 : Hid (((w2.setCell ⟨nb, k, none⟩ (.slice (some ⟨g1, 0, none⟩) 160 d1)).drew).heap[L]? = some (.cells #[.int .i64 (k : Int), .slice (some ⟨g1, 0, none⟩) 160 d1] 188 (0, 0))) := Lib.hid ((set_other hLnb k _).trans HL2.out)
 clear a1 a2 a3 b1 a2' H1 H2 HL2 HP2 HR2 HW2 hLnb
 generalize (w2.setCell ⟨nb, k, none⟩ (.slice (some ⟨g1, 0, none⟩) 160 d1)).drew = w3 at *
 obtain ⟨xs, own, hxs⟩ := P3.out.pend
 have HO := Lib.hid own
 have HX := Lib.hid hxs
 have c0 := P3.out.c2
 have f0 := P3.out.f 2
 have e3 := P3.out.c3
 have f3 := P3.out.f 3
 have z3 := heap_lt P3.out.head
 have hnp : p ∉ pb pv := P3.out.ne1.2.2.1
 have hwl := P3.out.len
 have k1 : w3.cell? ⟨L, 0, none⟩ = some (.int .i64 (k : Int)) := cell_of_block L3.out
 have k2 : w3.cell? ⟨L, 1, none⟩ = some (.slice (some ⟨g1, 0, none⟩) 160 d1) := cell_of_block L3.out
 have zL := heap_lt L3.out
 have hpn : ∀ i, pv.ownBlock = some i → p ≠ i := fun i hi e => hnp (by subst e; unfold Value.ownBlock at hi; split at hi; (injection hi with e2; subst e2; simp [pb]); cases hi)
 have HPN := Lib.hid hpn
 clear own hxs hnp hpn
 generalize hnl : d.pend.length = n at *
 have HNL := Lib.hid hnl
 clear hnl
 go_region_law (refine step_append_lies _ rfl _ _ 144 rfl 0 188 i0 (.agg #[.int .i64 0, .slice none 0 0]) 2 32 Tryz.underlying144 hi0 hz0 hz1 hz2 rfl (by decide) pv n _ rfl (HO.out.alloc _) ⟨w3.heap.size, 0, none⟩ 1 1 [.int .i64 (k : Int), .slice (some ⟨g1, 0, none⟩) 160 d1] rfl rfl (by intro j u hj; match j, hj with | 0, hj => (simp at hj; subst hj; simp [Addr.add, go_sem]) | 1, hj => (simp at hj; subst hj; simp [Addr.add, go_sem])) (by intro u hu; simp at hu; rcases hu with rfl | rfl <;> rfl) (hm := by omega) (h63 := by unfold maxLen; omega) (hbytes := by omega) (hbase := Nat.zero_le _) _ rfl ?_; intro g' cap' w4 hown4 hgrow4 hlies4 hlt4; have y0 := (hgrow4.cell_far ⟨p, 2, none⟩ (by simp; omega) (fun e => HPN.out p e.symm rfl)).trans ((World.cell?_alloc_past _ _ _ z3).trans c0); have y1 := (hgrow4.frozen_far ⟨p, 2, none⟩ (by simp; omega) (fun e => HPN.out p e.symm rfl)).trans ((World.frozen?_alloc_past _ _ _ z3).trans f0); have y2 := (hgrow4.cell_far ⟨p, 3, none⟩ (by simp; omega) (fun e => HPN.out p e.symm rfl)).trans ((World.cell?_alloc_past _ _ _ z3).trans e3); have y3 := (hgrow4.frozen_far ⟨p, 3, none⟩ (by simp; omega) (fun e => HPN.out p e.symm rfl)).trans ((World.frozen?_alloc_past _ _ _ z3).trans f3); have HW4 := Lib.hid hown4; have HG4 := Lib.hid hgrow4; have HY4 := Lib.hid hlies4; clear hown4 hgrow4 hlies4)
 all_goals
  clear c0 f0 e3 f3 k1 k2
  go_wp2_with fail
  go_ret
  have hE := write_end P3.out N3.out R3.out hk0 HX.out (by rw [HNL.out]; exact HO.out.1) (Wa := w3.alloc (.cells #[.int .i64 (k : Int), .slice (some ⟨g1, 0, none⟩) 160 d1] 188)) (w4 := w4) (g := g') (cap := cap') ((Below.refl _ _).alloc (Nat.le_refl _) _) (by rw [HNL.out]; exact HW4.out) ⟨HG4.out.os, HG4.out.tape, HG4.out.output, HG4.out.size, HG4.out.block⟩ (by rcases HY4.out with h | h; exact Or.inl h; exact Or.inr (by rw [h]; simp))
  rw [HNL.out] at hE
  have e5 : ((wr + 1 : Nat) : Int) = (wr : Int) + 1 := by omega
  rw [e5] at hE
  obtain ⟨E1, E2, E3⟩ := hE
  exact ⟨[p, db, nb] ++ [g'], rfl, ⟨db, nb, _, E1, by rw [now_write]; exact E2, rfl⟩, by rw [HS.out]; exact T3.out.trans E3⟩
end Go.Proofs.YtobkmohoepgfmaaGreatDoor
namespace Go.Proofs.YtobkmohoepgfmaaGreatDoor
open Go.RowKit Go.Sort
set_option maxRecDepth 100000
set_option maxHeartbeats 1000000

theorem infoBool : (Tryz.prog.info? 4).map (fun i => (i.zero, i.size, i.bytes)) = some (some (.bool false), 1, 1) := by kernel_rfl
theorem infoRow : (Tryz.prog.info? 36).map (fun i => (i.zero, i.size, i.bytes)) = some (some (.slice none 0 0), 1, 24) := by kernel_rfl
theorem makeB (n : Nat) (hn : n ≤ 1000000000) : ∃ zs : Array Value, n ≤ zs.size ∧ (∀ j, j < n → zs[j]? = some (.bool false)) ∧
  ∀ W : World, Sem.run Tryz.prog (Instr.makeSlice 186 (.int .i64 (n : Int)) (.int .i64 (n : Int))) W = .ok (.slice (some ⟨W.heap.size, 0, none⟩) n n) (W.alloc (.cells zs 4)) := by
 obtain ⟨i0, hi0, hz0, hz1, hz2⟩ := info_parts infoBool
 have hz : ∀ j, j < n → (madeCells (Value.bool false).cells (n * i0.size))[j]? = some (.bool false) := fun j hj => by
  rw [hz1]
  simp [madeCells, Value.cells, hj]
  rw [Nat.mod_one]; rfl
 refine ⟨madeCells (Value.bool false).cells (n * i0.size), ?_, hz, fun W => ?_⟩
 ·rcases Nat.eq_zero_or_pos n with h0 | h0
  ·omega
  ·have := (Array.getElem?_eq_some_iff.1 (hz (n - 1) (by omega))).1
   omega
 ·have h := run_make W 186 4 i0 (.bool false) Tryz.underlying186 hi0 hz0 .i64 .i64 (n : Int) (n : Int) (by omega) (by omega) (by rw [hz2]; omega) (by omega)
  simpa using h
theorem makeR (n : Nat) (hn : n ≤ 1000000) : ∃ zs : Array Value, zs.size = n ∧
  ∀ W : World, Sem.run Tryz.prog (Instr.makeSlice 117 (.int .i64 (n : Int)) (.int .i64 (n : Int))) W = .ok (.slice (some ⟨W.heap.size, 0, none⟩) n n) (W.alloc (.cells zs 36)) := by
 obtain ⟨i0, hi0, hz0, hz1, hz2⟩ := info_parts infoRow
 refine ⟨madeCells (Value.slice none 0 0).cells (n * i0.size), by rw [hz1]; simp [madeCells], fun W => ?_⟩
 have h := run_make W 117 36 i0 (.slice none 0 0) Tryz.underlying117 hi0 hz0 .i64 .i64 (n : Int) (n : Int) (by omega) (by omega) (by rw [hz2]; omega) (by omega)
 simpa using h
def BlkB (w : World) (g n : Nat) (f : Nat → Bool) : Prop := ∃ cs : Array Value, w.heap[g]? = some (.cells cs 4 (0, 0)) ∧ n ≤ cs.size ∧ ∀ j, j < n → cs[j]? = some (.bool (f j))
theorem BlkB.keep {w w' : World} {g n : Nat} {f : Nat → Bool} (h : BlkB w g n f) (e : w'.heap[g]? = w.heap[g]?) : BlkB w' g n f := by
 obtain ⟨cs, hb, hc⟩ := h
 exact ⟨cs, e.trans hb, hc⟩
theorem BlkB.lt {w : World} {g n : Nat} {f : Nat → Bool} (h : BlkB w g n f) : g < w.heap.size := by
 obtain ⟨cs, hb, _⟩ := h
 exact heap_lt hb
theorem BlkB.cell {w : World} {g n j : Nat} {f : Nat → Bool} (h : BlkB w g n f) (hj : j < n) : w.cell? ⟨g, j, none⟩ = some (.bool (f j)) := by
 obtain ⟨cs, hb, hs, hc⟩ := h
 exact (cell_of_block hb).trans (hc j hj)
theorem BlkB.free {w : World} {g n : Nat} {f : Nat → Bool} (h : BlkB w g n f) (k : Nat) : w.frozen? ⟨g, k, none⟩ = false := by
 obtain ⟨cs, hb, _⟩ := h
 exact free_of_block hb
theorem BlkB.congr {w : World} {g n : Nat} {f f' : Nat → Bool} (h : BlkB w g n f) (e : ∀ j, j < n → f j = f' j) : BlkB w g n f' := by
 obtain ⟨cs, hb, hs, hc⟩ := h
 exact ⟨cs, hb, hs, fun j hj => by rw [← e j hj]; exact hc j hj⟩
theorem BlkB.put {w : World} {g n q : Nat} {x : Bool} {f : Nat → Bool} (h : BlkB w g n f) (hq : q < n) : BlkB (w.setCell ⟨g, q, none⟩ (.bool x)) g n (fun j => if j = q then x else f j) := by
 obtain ⟨cs, hb, hs, hc⟩ := h
 refine ⟨cs.setIfInBounds q (.bool x), set_block hb q _, by simpa using hs, fun j hj => ?_⟩
 dsimp only
 rw [Array.getElem?_setIfInBounds]
 by_cases e : q = j
 ·subst e
  rw [if_pos rfl, if_pos (by omega), if_pos rfl]
 ·rw [if_neg e, if_neg (fun h => e h.symm), hc j hj]
theorem copy_arr (w : World) {ops : Array Oper} {rest : List Oper} {o : Oper} {a : Act} {Q : Exit → Act → World → Prop} (hgd : o.guard = none) (d s : Operand)
  (ho : o.op = .call { callee := .builtin .copy, args := #[d, s], argTypes := #[117, 117] })
  (nb db N : Nat) (D : Nat → Blk) (hd : a.eval d = .slice (some ⟨nb, 0, none⟩) N N) (hs : a.eval s = .slice (some ⟨db, 0, none⟩) N N) (h1 : Arr w nb N) (h2 : Slab w db N D)
  (h : ∀ w', Slab w' nb N D → w.grownBy w' (some nb) → w'.heap.size = w.heap.size → wpList Tryz.prog ops Q rest (a.put o.dst (.int .i64 (N : Int))) w') :
  wpList Tryz.prog ops Q (o :: rest) a w := by
 obtain ⟨i0, hi0, hz0, hz1, hz2⟩ := info_parts infoRow
 have isz : (Tryz.prog.info? 36).map (·.size) = some 1 := by rw [hi0]; simp [hz1]
 obtain ⟨cur, hg, hsz⟩ := h1
 obtain ⟨cs, hc, hcs, hr⟩ := h2
 have hl : cs.toList.length = N := by simpa using hcs
 refine wpList_copy_own hgd d s _ _ ho _ Tryz.underlying117 isz nb 0 N N ⟨db, 0, none⟩ N N hd hs cur _ hg cs.toList (by rw [hl]; exact (Nat.min_self N).symm) (fun j v hv => ?_) (by rw [hl]; omega) (fun v hv => ?_) ?_
 ·rw [addr_add, Nat.zero_add, cell_of_block hc]
  simpa using hv
 ·obtain ⟨j, hj⟩ := List.getElem?_of_mem hv
  have hjl : j < N := by have := (List.getElem?_eq_some_iff.1 hj).1; omega
  obtain ⟨u, hu, g, cap, rfl, _⟩ := hr j hjl
  have hj' : cs[j]? = some v := by simpa using hj
  rw [hu] at hj'
  cases hj'
  rfl
 ·have hW := h (w.setRow nb (cur.toList.take 0 ++ (cs.toList ++ cur.toList.drop (0 + cs.toList.length))).toArray) ⟨_, setRow_heap w nb _ _ 36 _ hg, by simp; omega, fun k hk => by
   obtain ⟨u, hu, hr'⟩ := hr k hk
   refine ⟨u, ?_, hr'.keep (fun g cs' hg' => setRow_other w nb g _ (by rintro rfl; rw [hg] at hg'; cases hg'))⟩
   have : (cur.toList.drop (0 + cs.toList.length)) = [] := by rw [List.drop_eq_nil_iff]; simp; omega
   rw [this]
   simpa using hu⟩
   ⟨rfl, rfl, rfl, by simp [World.setRow], fun i _ hne => setRow_other w nb i _ (fun e => hne (by rw [e]))⟩ (by simp [World.setRow])
  rw [hl] at hW ⊢
  exact hW
end Go.Proofs.YtobkmohoepgfmaaGreatDoor
