import Derived.Test.YtobkmohoepgfmaaGreatDoorV11
namespace Go.Proofs.YtobkmohoepgfmaaGreatDoor
open Go.RowKit Go.Sort
set_option maxRecDepth 100000
set_option maxHeartbeats 1000000

def keepF (xs : List Int) (j : Nat) : Bool := decide ((j : Int) ∈ xs)
theorem keepF_take {xs : List Int} {i : Nat} {x : Int} (h : xs[i]? = some x) (j : Nat) : keepF (xs.take (i + 1)) j = (if (j : Int) = x then true else keepF (xs.take i) j) := by
 unfold keepF
 rw [List.take_add_one, h]
 by_cases e : (j : Int) = x
 ·rw [if_pos e]; simp [e]
 ·rw [if_neg e]; simp [e]
theorem kept_take {f : Nat → Bool} {l : List (Nat × Blk)} {i : Nat} {x : Nat × Blk} (h : l[i]? = some x) (D : Nat → Blk) :
  (keptAt f 0 (l.take (i + 1))).foldl upd D = if f i then upd ((keptAt f 0 (l.take i)).foldl upd D) x else (keptAt f 0 (l.take i)).foldl upd D := by
 have hi := (List.getElem?_eq_some_iff.1 h).1
 rw [List.take_add_one, h, keptAt_append, List.length_take, Nat.zero_add, Nat.min_eq_left (by omega)]
 simp only [Option.toList, keptAt]
 split <;> simp [List.foldl_append]
theorem Pend.form {w : World} {pv : Value} {N : Nat} {l : List (Nat × Blk)} (h : Pend w pv N l) : ∃ a cap, pv = .slice a l.length cap ∧ (0 < l.length → ∃ q, a = some ⟨q, 0, none⟩) := by
 obtain ⟨xs, ⟨_, h1⟩, _⟩ := h
 rcases h1 with ⟨rfl, h0⟩ | ⟨g, cap, cur, rfl, _⟩
 ·exact ⟨none, 0, by rw [h0], fun h => by omega⟩
 ·exact ⟨_, cap, rfl, fun _ => ⟨g, rfl⟩⟩
theorem Pend.at {w : World} {q n cap N i k : Nat} {l : List (Nat × Blk)} {F : Blk} (h : Pend w (.slice (some ⟨q, 0, none⟩) n cap) N l) (hi : l[i]? = some (k, F)) :
  k < N ∧ w.cell? ⟨q, i * 2, none⟩ = some (.int .i64 (k : Int)) ∧ ∃ g c, w.cell? ⟨q, i * 2 + 1, none⟩ = some (.slice (some ⟨g, 0, none⟩) 160 c) ∧ Ref w (.slice (some ⟨g, 0, none⟩) 160 c) F := by
 obtain ⟨xs, ⟨h0, h1⟩, h2⟩ := h
 obtain ⟨hk, e1, v, e2, hr⟩ := h2 i k F hi
 rcases h1 with ⟨h1, _⟩ | ⟨g, cap', cur, e, _, hh, _, _, _, ht⟩
 ·cases h1
 ·cases e
  have hc : ∀ j u, xs[j]? = some u → w.cell? ⟨q, j, none⟩ = some u := by
   intro j u hu
   rw [cell_of_block hh]
   rw [← ht, List.getElem?_take] at hu
   split at hu
   ·simpa using hu
   ·cases hu
  obtain ⟨g, c, rfl, hx⟩ := hr
  refine ⟨hk, by rw [Nat.mul_comm]; exact hc _ _ e1, g, c, by rw [Nat.mul_comm]; exact hc _ _ e2, g, c, rfl, hx⟩
theorem PltR.put {w : World} {p db nb N k : Nat} {pv v : Value} {D : Nat → Blk} {l : List (Nat × Blk)} {wr : Nat} {F : Blk} (h : PltR w p db nb N pv D l wr) (hk : k < N) (hr : Ref w v F) : PltR (w.setCell ⟨db, k, none⟩ v) p db nb N pv (upd D (k, F)) l wr := by
 obtain ⟨n1, n2, n3, n4, n5⟩ := h.ne1
 obtain ⟨c2, h2, hs⟩ := h.rows.arr
 exact ⟨(set_other n1 k v).trans h.head, h.rows.put hk hr, h.arr.keep (set_other (fun e => h.ne e.symm) k v), h.ne, h.pend.far h2 (by decide) (fun i hi e => n4 (e ▸ hi)), h.n1, h.n2, h.len⟩
theorem PltR.below {w w' : World} {p db nb N : Nat} {pv : Value} {D : Nat → Blk} {l : List (Nat × Blk)} {wr : Nat} (h : PltR w p db nb N pv D l wr) (b : Below w.heap.size w w') : PltR w' p db nb N pv D l wr := h.keep (Same.below b h.lt)
theorem crash_end {w w' : World} {p db nb N : Nat} {pv : Value} {D : Nat → Blk} {l : List (Nat × Blk)} {wr : Nat} (h : PltR w p db nb N pv D l wr) (hs : Slab w' nb N D) (gr : w.grownBy w' (some nb)) :
  PltR (w'.setCell ⟨p, 2, none⟩ (.slice none 0 0)) p db nb N (.slice none 0 0) D [] wr ∧ Slab (w'.setCell ⟨p, 2, none⟩ (.slice none 0 0)) nb N D := by
 obtain ⟨n1, n2, n3, n4, n5⟩ := h.ne1
 obtain ⟨cs, hc, _⟩ := h.arr
 have hk : ∀ i, i < w.heap.size → i ≠ nb → w'.heap[i]? = w.heap[i]? := fun i hi hn => gr.block i hi (fun e => hn (by injection e))
 have hh : Head w' p db nb N pv wr := (hk p (heap_lt h.head) n2).trans h.head
 have hb : ∀ (g : Nat) (cs : Array Value), w.heap[g]? = some (Obj.cells cs 5 (0, 0)) → w'.heap[g]? = w.heap[g]? := fun g cs' hg => hk g (heap_lt hg) (by rintro rfl; rw [hc] at hg; cases hg)
 have hd : Slab w' db N D := h.rows.keep hb (hk db h.rows.arr.lt h.ne)
 exact ⟨⟨head_put2 hh, hd.far hh (by decide) n1.symm, (hs.far hh (by decide) n2.symm).arr, h.ne, Pend.nil, h.n1, h.n2, Nat.zero_le _⟩, hs.far hh (by decide) n2.symm⟩

def DCrash0 (p db nb N : Nat) (D : Nat → Blk) (l : List (Nat × Blk)) (wr : Nat) (xs : List Int) (w : World) (e : Ending) (w' : World) : Prop :=
 e = .returned (.tuple #[]) ∧ PltR w' p db nb N (.slice none 0 0) ((keptAt (keepF xs) 0 l).foldl upd D) [] wr ∧ Slab w' nb N ((keptAt (keepF xs) 0 l).foldl upd D) ∧ Turn [p, db, nb] w w'
theorem dcrash0 (w : World) (p db nb N : Nat) (pv : Value) (D : Nat → Blk) (l : List (Nat × Blk)) (nw : Nat) (A : Option Addr) (xs : List Int) (c : Nat) (h : PltR w p db nb N pv D l nw) (hxs : Nums w A xs) (hlen : xs.length ≤ 9223372036854775807) (hwr : nw ≤ 1000000000) :
  Calls Tryz.prog 67 #[.pointer (some ⟨p, 0, none⟩), .slice A xs.length c] w (DCrash0 p db nb N D l nw xs w) := by
 obtain ⟨a, cap, rfl, ha⟩ := h.pend.form
 have hl := h.len
 obtain ⟨zs, z0, z1, z2⟩ := makeB l.length (by omega)
 have c2 := h.c2
 have HA := Lib.hid ha
 have HP := Lib.hid h
 have HXS := Lib.hid hxs
 have HK : Hid (BlkB (w.alloc (.cells zs 4)) w.heap.size l.length (fun _ => false)) := Lib.hid ⟨zs, alloc_block w _, z0, z1⟩
 have HB : Hid (Below w.heap.size w (w.alloc (.cells zs 4))) := Lib.hid ((Below.refl _ _).alloc (Nat.le_refl _) _)
 have hz := heap_lt h.head
 clear z0 z1 ha h hxs
 generalize hn : l.length = n at *
 have HN := Lib.hid hn
 clear hn
 obtain ⟨m, hm⟩ : ∃ m, xs.length = m := ⟨_, rfl⟩
 rw [hm] at hlen ⊢
 have HM := Lib.hid hm
 clear hm
 go_enter Tryz.func67, Tryz.ntmps67
 go_wp2_with fail
 clear z2 c2
 generalize w.alloc (.cells zs 4) = w1 at *
 obtain ⟨B, hB⟩ : ∃ B, w.heap.size = B := ⟨_, rfl⟩
 rw [hB] at HK HB hz ⊢
 have HBB := Lib.hid hB
 clear hB
 go_loopg [6, 19] m (fun q s6 s19 v => ∃ i : Nat, s19 = .int .i64 (i : Int) ∧ i ≤ m ∧ q = m - i ∧ Hid (BlkB v B n (keepF (xs.take i)) ∧ Below B w v))
 case atStart => exact ⟨0, rfl, by omega, rfl, Lib.hid ⟨HK.out.congr (fun j _ => by simp [keepF]), HB.out⟩⟩
 case round =>
  obtain ⟨i, rfl, hi, rfl, HS⟩ := hrel
  clear HK HB
  by_cases hlt : i < m
  ·have hl2 : (i : Int) < (m : Int) := by omega
   obtain ⟨x, hx⟩ : ∃ x, xs[i]? = some x := ⟨_, List.getElem?_eq_getElem (by rw [HM.out]; exact hlt)⟩
   obtain ⟨g, o, rfl, hg, hc⟩ := HXS.out i x hx
   have HX := Lib.hid hx
   have c1 := (HS.out.2.cell (p := ⟨g, o + i, none⟩) (by rw [← HBB.out]; exact hg)).trans hc
   clear hx hg hc
   by_cases hin : 0 ≤ x ∧ x < (n : Int)
   ·obtain ⟨y, rfl⟩ : ∃ y : Nat, x = (y : Int) := ⟨x.toNat, by omega⟩
    have hy : y < n := by omega
    have hyi : (y : Int) < (n : Int) := by omega
    have c2 := HS.out.1.cell hy
    have f2 := HS.out.1.free y
    clear hin
    go_wp2_with fail
    go_roundg (m - (i + 1))
    case measure => omega
    case rel => exact ⟨i + 1, by go_num, by omega, rfl, Lib.hid ⟨(HS.out.1.put (x := true) hy).congr (fun j _ => by
     rw [keepF_take HX.out]
     by_cases e : j = y
     ·rw [if_pos e, if_pos (by omega)]
     ·rw [if_neg e, if_neg (by omega)]), HS.out.2.setCell (Nat.le_refl _) _⟩⟩
   ·by_cases h0 : 0 ≤ x
    ·have h1 : decide (x < (n : Int)) = false := decide_eq_false (fun h => hin ⟨h0, h⟩)
     have HI := Lib.hid hin
     clear hin
     go_wp2_with fail
     go_roundg (m - (i + 1))
     case measure => omega
     case rel => exact ⟨i + 1, by go_num, by omega, rfl, Lib.hid ⟨HS.out.1.congr (fun j hj => by rw [keepF_take HX.out, if_neg (fun e => HI.out ⟨by omega, by omega⟩)]), HS.out.2⟩⟩
    ·have HI := Lib.hid hin
     clear hin
     go_wp2_with fail
     go_roundg (m - (i + 1))
     case measure => omega
     case rel => exact ⟨i + 1, by go_num, by omega, rfl, Lib.hid ⟨HS.out.1.congr (fun j hj => by rw [keepF_take HX.out, if_neg (fun e => HI.out ⟨by omega, by omega⟩)]), HS.out.2⟩⟩
  ·obtain rfl : i = m := by omega
   have hge : ¬ (i : Int) < (i : Int) := by omega
   generalize wr = v at *
   have K1 : Hid (BlkB v B n (keepF xs)) := Lib.hid (HS.out.1.congr (fun j _ => by rw [List.take_of_length_le (by rw [HM.out]; omega)]))
   have B1 : Hid (Below B w v) := Lib.hid HS.out.2
   have hBv : Below w.heap.size w v := by rw [HBB.out]; exact HS.out.2
   have P1 : Hid (PltR v p db nb N (.slice a n cap) D l nw) := Lib.hid (HP.out.below hBv)
   have c2 := P1.out.c2
   clear HS hBv hlt
   go_wp2_with fail
   have L1 := P1.out.pend
   go_loopg [7, 8, 40] n (fun q s7 s8 s40 v2 => ∃ j : Nat, s40 = .int .i64 (j : Int) ∧ j ≤ n ∧ q = n - j ∧ Hid (PltR v2 p db nb N (.slice a n cap) ((keptAt (keepF xs) 0 (l.take j)).foldl upd D) l nw ∧ BlkB v2 B n (keepF xs) ∧ Turn [p, db, nb] w v2))
   case atStart => exact ⟨0, rfl, by omega, rfl, Lib.hid ⟨P1.out, K1.out, Turn.of (by rw [HBB.out]; exact B1.out)⟩⟩
   case round =>
    obtain ⟨j, rfl, hj, rfl, HT⟩ := hrel
    clear K1 B1 P1 c2 L1
    by_cases hlt : j < n
    ·have hl3 : (j : Int) < (n : Int) := by omega
     obtain ⟨⟨k, F⟩, hx⟩ : ∃ x, l[j]? = some x := ⟨_, List.getElem?_eq_getElem (by rw [HN.out]; exact hlt)⟩
     obtain ⟨q, rfl⟩ := HA.out (by omega)
     obtain ⟨hk, c1, g, c', c2, hr⟩ := HT.out.1.pend.at hx
     have HX := Lib.hid hx
     have HR := Lib.hid hr
     generalize wr = v2 at *
     have zB := HT.out.2.1.lt
     have zq := cell?_lt c1
     have b1 := HT.out.2.1.cell hlt
     clear hx hr
     cases hf : keepF xs j
     ·rw [hf] at b1
      have HF := Lib.hid hf
      clear hf
      go_wp2_with fail
      go_roundg (n - (j + 1))
      case measure => omega
      case rel => exact ⟨j + 1, by go_num, by omega, rfl, Lib.hid ⟨by rw [kept_take HX.out, if_neg (by rw [HF.out]; simp)]; exact HT.out.1.below ((Below.refl _ _).alloc (Nat.le_refl _) _), HT.out.2.1.keep (alloc_old _ _ zB), HT.out.2.2.trans (Turn.alloc _ _ _)⟩⟩
     ·rw [hf] at b1
      have HF := Lib.hid hf
      clear hf
      go_wp2_with fail
      have HL : Hid ((v2.alloc (.cells #[.int .i64 (k : Int), .slice (some ⟨g, 0, none⟩) 160 c'] 188)).heap[v2.heap.size]? = some (.cells #[.int .i64 (k : Int), .slice (some ⟨g, 0, none⟩) 160 c'] 188 (0, 0))) := Lib.hid (alloc_block _ _)
      have HP2 : Hid (PltR (v2.alloc (.cells #[.int .i64 (k : Int), .slice (some ⟨g, 0, none⟩) 160 c'] 188)) p db nb N (.slice (some ⟨q, 0, none⟩) n cap) ((keptAt (keepF xs) 0 (l.take j)).foldl upd D) l nw) := Lib.hid (HT.out.1.below ((Below.refl _ _).alloc (Nat.le_refl _) _))
      have HK2 : Hid (BlkB (v2.alloc (.cells #[.int .i64 (k : Int), .slice (some ⟨g, 0, none⟩) 160 c'] 188)) B n (keepF xs)) := Lib.hid (HT.out.2.1.keep (alloc_old _ _ zB))
      have HT2 : Hid (Turn [p, db, nb] w (v2.alloc (.cells #[.int .i64 (k : Int), .slice (some ⟨g, 0, none⟩) 160 c'] 188))) := Lib.hid (HT.out.2.2.trans (Turn.alloc _ _ _))
      have HR2 : Hid (Ref (v2.alloc (.cells #[.int .i64 (k : Int), .slice (some ⟨g, 0, none⟩) 160 c'] 188)) (.slice (some ⟨g, 0, none⟩) 160 c') F) := Lib.hid (HR.out.keep (fun _ _ h => alloc_old _ _ (heap_lt h)))
      clear HT HR c1 c2 b1 zB zq
      generalize v2.heap.size = L at *
      generalize v2.alloc (.cells #[.int .i64 (k : Int), .slice (some ⟨g, 0, none⟩) 160 c'] 188) = v3 at *
      have d0 := HP2.out.c0
      have d1 := cell_of_block (k := 0) HL.out
      have d2 := cell_of_block (k := 1) HL.out
      have d1' : v3.cell? ⟨L, 0, none⟩ = some (.int .i64 (k : Int)) := d1
      have d2' : v3.cell? ⟨L, 1, none⟩ = some (.slice (some ⟨g, 0, none⟩) 160 c') := d2
      have hkN : (k : Int) < (N : Int) := by omega
      clear d1 d2
      go_still_tail 9, (by kernel_rfl)
      change wpList _ _ _ _ _ v3.drew
      have f1 : v3.drew.frozen? ⟨db, k, none⟩ = false := HP2.out.rows.arr.free k
      obtain ⟨v0, f2⟩ := HP2.out.rows.arr.cell hk
      have f3 : v3.drew.cell? ⟨db, k, none⟩ = some v0 := f2
      clear f2
      go_wp2_with fail
      have hBd : B ≠ db := by
       rintro rfl
       obtain ⟨cs, h1, _⟩ := HP2.out.rows
       obtain ⟨cs', h2, _⟩ := HK2.out
       rw [h1] at h2
       cases h2
      go_roundg (n - (j + 1))
      case measure => omega
      case rel => exact ⟨j + 1, by go_num, by omega, rfl, Lib.hid ⟨by rw [kept_take HX.out, if_pos HF.out]; exact (HP2.out.put hk HR2.out).drew, HK2.out.keep (set_other hBd _ _), (HT2.out.trans (Turn.set _ _ _ _ (by simp))).trans (Turn.drew _ _)⟩⟩
    ·obtain rfl : j = n := by omega
     generalize wr = v2 at *
     have P2 : Hid (PltR v2 p db nb N (.slice a j cap) ((keptAt (keepF xs) 0 l).foldl upd D) l nw) := Lib.hid (by have := HT.out.1; rwa [List.take_of_length_le (by rw [HN.out]; omega)] at this)
     have T2 := Lib.hid HT.out.2.2
     have hge2 : ¬ (j : Int) < (j : Int) := by omega
     obtain ⟨D', hD'⟩ : ∃ D', D' = (keptAt (keepF xs) 0 l).foldl upd D := ⟨_, rfl⟩
     rw [← hD'] at P2
     have HD := Lib.hid hD'
     clear hD'
     have d0 := P2.out.c0
     have d1 := P2.out.c1
     clear HT hlt
     go_wp2_with fail
     go_still_tail 8, (by kernel_rfl)
     change wpList _ _ _ _ _ v2.drew
     go_wp2_with ((with_reducible refine copy_arr v2.drew rfl (.tmp 62) (.tmp 66) rfl nb db N D' rfl rfl P2.out.drew.arr P2.out.drew.rows ?_); intro v3 hs3 hg3 hz3; have HS3 := Lib.hid hs3; have HG3 := Lib.hid hg3; have y0 := (hg3.cell_far ⟨p, 2, none⟩ (heap_lt P2.out.head) (fun e => P2.out.ne1.2.1 (by injection e))).trans P2.out.c2; have y1 := (hg3.frozen_far ⟨p, 2, none⟩ (heap_lt P2.out.head) (fun e => P2.out.ne1.2.1 (by injection e))).trans (P2.out.f 2); clear hs3 hg3 hz3)
     go_end0
     have hE := crash_end P2.out.drew HS3.out HG3.out
     rw [HD.out] at hE
     exact ⟨rfl, hE.1, hE.2, ((T2.out.trans (Turn.drew _ _)).trans (Turn.only HG3.out (by simp))).trans (Turn.set _ _ _ _ (by simp))⟩
end Go.Proofs.YtobkmohoepgfmaaGreatDoor
namespace Go.Proofs.YtobkmohoepgfmaaGreatDoor
open Go.RowKit Go.Sort
set_option maxRecDepth 100000
set_option maxHeartbeats 1000000

def DCrashRet (p : Nat) (S : List Nat) (N : Nat) (d : Disk) (wr : Nat) (xs : List Int) (w : World) (e : Ending) (w' : World) : Prop :=
 ∃ S', e = .returned (.tuple #[]) ∧ Plt w' p S' N (d.crash (keepF xs)) wr ∧ Step S S' w w'
theorem dcrash {w : World} {p : Nat} {S : List Nat} {N : Nat} {d : Disk} {wr : Nat} (A : Option Addr) (xs : List Int) (c : Nat) (h : Plt w p S N d wr) (hxs : Nums w A xs) (hlen : xs.length ≤ 9223372036854775807) (hwr : wr ≤ 1000000000) :
  Calls Tryz.prog 67 #[.pointer (some ⟨p, 0, none⟩), .slice A xs.length c] w (DCrashRet p S N d wr xs w) := by
 obtain ⟨db, nb, pv, h1, _, rfl⟩ := h
 refine (dcrash0 w p db nb N pv d.done d.pend wr A xs c h1 hxs hlen hwr).mono ?_
 rintro e w' ⟨rfl, a, b, t⟩
 exact ⟨[p, db, nb] ++ pb (.slice none 0 0), rfl, ⟨db, nb, _, a, b, rfl⟩, t.mono (fun k hk => List.mem_append_left _ hk), fun k hk => Or.inl (List.mem_append_left _ (by simpa [pb] using hk))⟩

theorem flush_end {w w' : World} {p db nb N : Nat} {pv : Value} {D E : Nat → Blk} {l : List (Nat × Blk)} {wr : Nat} (h : PltR w p db nb N pv D l wr) (hn : Slab w nb N E) (hs : Slab w' db N E) (gr : w.grownBy w' (some db)) :
  PltR (w'.setCell ⟨p, 2, none⟩ (.slice none 0 0)) p db nb N (.slice none 0 0) E [] wr ∧ Slab (w'.setCell ⟨p, 2, none⟩ (.slice none 0 0)) nb N E := by
 obtain ⟨n1, n2, n3, n4, n5⟩ := h.ne1
 obtain ⟨cs, hc, _⟩ := h.rows
 have hk : ∀ i, i < w.heap.size → i ≠ db → w'.heap[i]? = w.heap[i]? := fun i hi hn => gr.block i hi (fun e => hn (by injection e))
 have hh : Head w' p db nb N pv wr := (hk p (heap_lt h.head) n1).trans h.head
 have hb : ∀ (g : Nat) (cs : Array Value), w.heap[g]? = some (Obj.cells cs 5 (0, 0)) → w'.heap[g]? = w.heap[g]? := fun g cs' hg => hk g (heap_lt hg) (by rintro rfl; rw [hc] at hg; cases hg)
 have hd : Slab w' nb N E := hn.keep hb (hk nb hn.arr.lt (fun e => h.ne e.symm))
 exact ⟨⟨head_put2 hh, hs.far hh (by decide) n1.symm, (hd.far hh (by decide) n2.symm).arr, h.ne, Pend.nil, h.n1, h.n2, Nat.zero_le _⟩, hd.far hh (by decide) n2.symm⟩
def DFlushRet (p : Nat) (S : List Nat) (N : Nat) (d : Disk) (wr : Nat) (w : World) (e : Ending) (w' : World) : Prop :=
 ∃ S', e = .returned (.tuple #[]) ∧ Plt w' p S' N d.flush wr ∧ Step S S' w w'
theorem dflush {w : World} {p : Nat} {S : List Nat} {N : Nat} {d : Disk} {wr : Nat} (h : Plt w p S N d wr) :
  Calls Tryz.prog 150 #[.pointer (some ⟨p, 0, none⟩)] w (DFlushRet p S N d wr w) := by
 obtain ⟨db, nb, pv, h1, h2, hS⟩ := h
 have HS := Lib.hid hS
 have P2 := Lib.hid h1
 have N2 : Hid (Slab w.drew nb N d.now) := Lib.hid h2
 have d0 := h1.c0
 have d1 := h1.c1
 clear hS h1 h2
 go_enter Tryz.func150, Tryz.ntmps150
 go_wp2_with fail
 go_still_tail 8, (by kernel_rfl)
 change wpList _ _ _ _ _ w.drew
 go_wp2_with ((with_reducible refine copy_arr w.drew rfl (.tmp 7) (.tmp 11) rfl db nb N d.now rfl rfl P2.out.drew.rows.arr N2.out ?_); intro v3 hs3 hg3 hz3; have HS3 := Lib.hid hs3; have HG3 := Lib.hid hg3; have y0 := (hg3.cell_far ⟨p, 2, none⟩ (heap_lt P2.out.head) (fun e => P2.out.ne1.1 (by injection e))).trans P2.out.c2; have y1 := (hg3.frozen_far ⟨p, 2, none⟩ (heap_lt P2.out.head) (fun e => P2.out.ne1.1 (by injection e))).trans (P2.out.f 2); clear hs3 hg3 hz3)
 go_end0
 have hE := flush_end P2.out.drew (w := w.drew) N2.out HS3.out HG3.out
 refine ⟨[p, db, nb] ++ pb (.slice none 0 0), rfl, ⟨db, nb, _, hE.1, by rw [now_flush]; exact hE.2, rfl⟩, ⟨?_, ?_⟩⟩
 ·rw [HS.out]
  exact ((Turn.drew _ _).trans (Turn.only HG3.out (by simp))).trans (Turn.set _ _ _ _ (by simp))
 ·intro k hk
  rw [HS.out]
  exact Or.inl (List.mem_append_left _ (by simpa [pb] using hk))

def SlabTo (w : World) (b N m : Nat) (D : Nat → Blk) : Prop := ∃ cs, w.heap[b]? = some (.cells cs 36 (0, 0)) ∧ cs.size = N ∧ ∀ k, k < m → ∃ v, cs[k]? = some v ∧ Ref w v (D k)
theorem Arr.to {w : World} {b N : Nat} (h : Arr w b N) (D : Nat → Blk) : SlabTo w b N 0 D := by
 obtain ⟨cs, h1, h2⟩ := h
 exact ⟨cs, h1, h2, fun k hk => absurd hk (Nat.not_lt_zero _)⟩
theorem SlabTo.arr {w : World} {b N m : Nat} {D : Nat → Blk} (h : SlabTo w b N m D) : Arr w b N := by
 obtain ⟨cs, h1, h2, _⟩ := h
 exact ⟨cs, h1, h2⟩
theorem SlabTo.put {w : World} {b N m : Nat} {D : Nat → Blk} {v : Value} (h : SlabTo w b N m D) (hm : m < N) (hr : Ref w v (D m)) : SlabTo (w.setCell ⟨b, m, none⟩ v) b N (m + 1) D := by
 obtain ⟨cs, h1, h2, h3⟩ := h
 have hf := bytes_far (o := m) (u := v) h1 (by decide)
 refine ⟨_, set_block h1 m v, by simpa using h2, fun j hj => ?_⟩
 rw [Array.getElem?_setIfInBounds]
 by_cases e : m = j
 ·subst e
  rw [if_pos rfl, if_pos (by omega)]
  exact ⟨v, rfl, hr.keep hf⟩
 ·rw [if_neg e]
  obtain ⟨u, hu, hr'⟩ := h3 j (by omega)
  exact ⟨u, hu, hr'.keep hf⟩
structure PltW (w : World) (p db nb N : Nat) (pv : Value) (l : List (Nat × Blk)) (wr : Nat) : Prop where
 head : Head w p db nb N pv wr
 arr1 : Arr w db N
 arr : Arr w nb N
 ne : db ≠ nb
 pend : Pend w pv N l
 n1 : 1 ≤ N
 n2 : N ≤ 1000
 len : l.length ≤ wr
theorem PltW.lt {w : World} {p db nb N : Nat} {pv : Value} {l : List (Nat × Blk)} {wr : Nat} (h : PltW w p db nb N pv l wr) : ∀ k ∈ [p, db, nb] ++ pb pv, k < w.heap.size := by
 intro k hk
 simp only [List.mem_append, List.mem_cons, List.not_mem_nil, or_false] at hk
 rcases hk with (rfl | rfl | rfl) | hk
 ·exact heap_lt h.head
 ·exact h.arr1.lt
 ·exact h.arr.lt
 ·obtain ⟨xs, ⟨_, h1⟩, _⟩ := h.pend
  rcases h1 with ⟨rfl, _⟩ | ⟨g, cap, cur, rfl, _, hh, _⟩
  ·simp [pb] at hk
  ·simp [pb] at hk; subst hk; exact heap_lt hh
theorem PltW.ne1 {w : World} {p db nb N : Nat} {pv : Value} {l : List (Nat × Blk)} {wr : Nat} (h : PltW w p db nb N pv l wr) : p ≠ db ∧ db ∉ pb pv := by
 have h0 := h.head
 obtain ⟨c1, h1, _⟩ := h.arr1
 obtain ⟨xs, ⟨_, h3⟩, _⟩ := h.pend
 unfold Head at h0
 refine ⟨?_, ?_⟩
 ·rintro rfl; rw [h0] at h1; cases h1
 ·intro hm
  rcases h3 with ⟨rfl, _⟩ | ⟨g, cap, cur, rfl, _, hh, _⟩
  ·simp [pb] at hm
  ·simp [pb] at hm
   subst hm
   simp_all
theorem PltW.below {w w' : World} {p db nb N : Nat} {pv : Value} {l : List (Nat × Blk)} {wr : Nat} (h : PltW w p db nb N pv l wr) (b : Below w.heap.size w w') : PltW w' p db nb N pv l wr :=
 have s := Same.below b h.lt
 ⟨(s.own p (by simp)).trans h.head, h.arr1.keep (s.own db (by simp)), h.arr.keep (s.own nb (by simp)), h.ne, h.pend.keep s.bytes (fun k hk => s.own k (by simp [hk])), h.n1, h.n2, h.len⟩
theorem PltW.turn {w w' : World} {p db nb N : Nat} {pv : Value} {l : List (Nat × Blk)} {wr : Nat} (h : PltW w p db nb N pv l wr) (t : Turn [db] w w') (ha : Arr w' db N) : PltW w' p db nb N pv l wr := by
 obtain ⟨n1, n2⟩ := h.ne1
 obtain ⟨cs, hc, _⟩ := h.arr1
 have hk : ∀ k, k < w.heap.size → k ≠ db → w'.heap[k]? = w.heap[k]? := fun k hk hn => t.block k hk (by simpa using hn)
 refine ⟨(hk p (heap_lt h.head) n1).trans h.head, ha, h.arr.keep (hk nb h.arr.lt (fun e => h.ne e.symm)), h.ne, h.pend.keep (fun g cs' hg => hk g (heap_lt hg) (by rintro rfl; rw [hc] at hg; cases hg)) (fun k hm => hk k (h.lt k (by simp [hm])) (fun e => n2 (e ▸ hm))), h.n1, h.n2, h.len⟩
theorem PltW.full {w : World} {p db nb N : Nat} {pv : Value} {l : List (Nat × Blk)} {wr : Nat} {D : Nat → Blk} (h : PltW w p db nb N pv l wr) (hs : SlabTo w db N N D) : PltR w p db nb N pv D l wr := ⟨h.head, hs, h.arr, h.ne, h.pend, h.n1, h.n2, h.len⟩
def DWipe0 (p db nb N : Nat) (wr : Nat) (w : World) (e : Ending) (w' : World) : Prop :=
 e = .returned (.tuple #[]) ∧ PltR w' p db nb N (.slice none 0 0) (fun _ _ => 0) [] wr ∧ Slab w' nb N (fun _ _ => 0) ∧ Turn [p, db, nb] w w'
theorem kept_no (l : List (Nat × Blk)) (D : Nat → Blk) : (keptAt (keepF []) 0 l).foldl upd D = D := by
 have : keepF [] = fun _ => false := by funext j; simp [keepF]
 rw [this, keptAt_none]
 rfl
theorem dwipe0 (w : World) (p db nb N : Nat) (pv : Value) (l : List (Nat × Blk)) (nw : Nat) (h : PltW w p db nb N pv l nw) (hwr : nw ≤ 1000000000) :
  Calls Tryz.prog 41 #[.pointer (some ⟨p, 0, none⟩)] w (DWipe0 p db nb N nw w) := by
 obtain ⟨zs, z0, z1, z2⟩ := make8s 160 (by omega)
 have z3 : ∀ W : World, Sem.run Tryz.prog (Instr.makeSlice 36 (.int .i64 160) (.int .i64 160)) W = .ok (.slice (some ⟨W.heap.size, 0, none⟩) 160 160) (W.alloc (.cells zs 5)) := z2
 have HK : Hid (Blk8 (w.alloc (.cells zs 5)) w.heap.size 160 (fun _ => 0)) := Lib.hid (Blk8.new z0 z1)
 have HB : Hid (Below w.heap.size w (w.alloc (.cells zs 5))) := Lib.hid ((Below.refl _ _).alloc (Nat.le_refl _) _)
 have HP := Lib.hid (h.below HB.out)
 have HT0 : Hid (Turn [db] w (w.alloc (.cells zs 5))) := Lib.hid (Turn.of HB.out)
 have hN := h.n2
 have c0 : w.cell? ⟨p, 0, none⟩ = some (.slice (some ⟨db, 0, none⟩) N N) := cell_of_block h.head
 have hz := heap_lt h.head
 clear z0 z1 z2 h
 go_enter Tryz.func41, Tryz.ntmps41
 go_wp2_with fail
 clear z3 c0
 generalize w.alloc (.cells zs 5) = w1 at *
 generalize w.heap.size = g at *
 go_loopg [3, 12] N (fun q s3 s12 v => ∃ i : Nat, s12 = .int .i64 (i : Int) ∧ i ≤ N ∧ q = N - i ∧ Hid (SlabTo v db N i (fun _ _ => 0) ∧ Turn [db] w1 v))
 case atStart => exact ⟨0, rfl, by omega, rfl, Lib.hid ⟨HP.out.arr1.to _, Turn.refl _ _⟩⟩
 case round =>
  obtain ⟨i, rfl, hi, rfl, HS⟩ := hrel
  generalize wr = v at *
  by_cases hlt : i < N
  ·have hl : (i : Int) < (N : Int) := by omega
   have HP2 : Hid (PltW v p db nb N pv l nw) := Lib.hid (HP.out.turn HS.out.2 HS.out.1.arr)
   have c0 : v.cell? ⟨p, 0, none⟩ = some (.slice (some ⟨db, 0, none⟩) N N) := cell_of_block HP2.out.head
   have f1 := HS.out.1.arr.free i
   obtain ⟨v0, c1⟩ := HS.out.1.arr.cell hlt
   have hbk : Ref v (.slice (some ⟨g, 0, none⟩) 160 160) (fun _ => 0) := by
    obtain ⟨cs, hb, hc⟩ := HK.out
    obtain ⟨cs', hd, _⟩ := HP.out.arr1
    exact ⟨g, 160, rfl, Nat.le_refl _, cs, (HS.out.2.block g (heap_lt hb) (by simp; rintro rfl; rw [hb] at hd; cases hd)).trans hb, hc⟩
   have HR := Lib.hid hbk
   clear hbk
   go_wp2_with fail
   go_roundg (N - (i + 1))
   case measure => omega
   case rel => exact ⟨i + 1, by go_num, by omega, rfl, Lib.hid ⟨HS.out.1.put hlt HR.out, HS.out.2.trans (Turn.set _ _ _ _ (by simp))⟩⟩
  ·obtain rfl : i = N := by omega
   have hge : ¬ (i : Int) < (i : Int) := by omega
   have HP2 : Hid (PltR v p db nb i pv (fun _ _ => 0) l nw) := Lib.hid ((HP.out.turn HS.out.2 HS.out.1.arr).full HS.out.1)
   have HT : Hid (Turn [db] w1 v) := Lib.hid HS.out.2
   clear HS HK hlt
   go_wp2_with fail
   refine (dcrash0 v p db nb i pv (fun _ _ => 0) l nw none [] 0 HP2.out (fun i x hx => by simp at hx) (by simp) hwr).mono ?_
   rintro e w2 ⟨rfl, a, b, t⟩
   rw [kept_no] at a b
   have HA := Lib.hid a
   have HBB := Lib.hid b
   have HTT := Lib.hid t
   clear a b t
   go_wp2_with fail
   go_end0
   exact ⟨rfl, HA.out, HBB.out, ((HT0.out.trans HT.out).mono (by simp)).trans HTT.out⟩
end Go.Proofs.YtobkmohoepgfmaaGreatDoor
namespace Go.Proofs.YtobkmohoepgfmaaGreatDoor
open Go.RowKit Go.Sort
set_option maxRecDepth 100000
set_option maxHeartbeats 1000000

def DWipeRet (p : Nat) (S : List Nat) (N : Nat) (wr : Nat) (w : World) (e : Ending) (w' : World) : Prop :=
 ∃ S', e = .returned (.tuple #[]) ∧ Plt w' p S' N Disk.blank wr ∧ Step S S' w w'
theorem dwipe {w : World} {p : Nat} {S : List Nat} {N : Nat} {d : Disk} {wr : Nat} (h : Plt w p S N d wr) (hwr : wr ≤ 1000000000) :
  Calls Tryz.prog 41 #[.pointer (some ⟨p, 0, none⟩)] w (DWipeRet p S N wr w) := by
 obtain ⟨db, nb, pv, h1, _, rfl⟩ := h
 refine (dwipe0 w p db nb N pv d.pend wr ⟨h1.head, h1.rows.arr, h1.arr, h1.ne, h1.pend, h1.n1, h1.n2, h1.len⟩ hwr).mono ?_
 rintro e w' ⟨rfl, a, b, t⟩
 exact ⟨[p, db, nb] ++ pb (.slice none 0 0), rfl, ⟨db, nb, _, a, b, rfl⟩, t.mono (fun k hk => List.mem_append_left _ hk), fun k hk => Or.inl (List.mem_append_left _ (by simpa [pb] using hk))⟩

def DNewRet (N : Nat) (w : World) (e : Ending) (w' : World) : Prop :=
 ∃ p S, e = .returned (.pointer (some ⟨p, 0, none⟩)) ∧ Plt w' p S N Disk.blank 0 ∧ Below w.heap.size w w' ∧ ∀ k ∈ S, w.heap.size ≤ k
theorem new_end {W : World} {p db nb N : Nat} {zs ys : Array Value} (hN : 1 ≤ N ∧ N ≤ 1000) (hd : W.heap[db]? = some (.cells zs 36 (0, 0))) (hn : W.heap[nb]? = some (.cells ys 36 (0, 0))) (hz : zs.size = N) (hy : ys.size = N) (hne : db ≠ nb)
  (hh : W.heap[p]? = some (.cells #[.slice (some ⟨db, 0, none⟩) N N, .slice (some ⟨nb, 0, none⟩) N N, .slice none 0 0, .int .i64 0] 146 (0, 0))) : PltW W p db nb N (.slice none 0 0) [] 0 :=
 ⟨hh, ⟨zs, hd, hz⟩, ⟨ys, hn, hy⟩, hne, Pend.nil, hN.1, hN.2, Nat.le_refl _⟩
theorem new_world (w : World) (zs : Array Value) (a b : Value) : Below w.heap.size w ((((w.alloc (.cells zs 36)).alloc (.cells zs 36)).alloc (.cells #[a, b, .slice none 0 0, .int .i64 0] 146)).drew) ∧
  ((((w.alloc (.cells zs 36)).alloc (.cells zs 36)).alloc (.cells #[a, b, .slice none 0 0, .int .i64 0] 146)).drew).heap[w.heap.size]? = some (.cells zs 36 (0, 0)) ∧
  ((((w.alloc (.cells zs 36)).alloc (.cells zs 36)).alloc (.cells #[a, b, .slice none 0 0, .int .i64 0] 146)).drew).heap[w.heap.size + 1]? = some (.cells zs 36 (0, 0)) ∧
  ((((w.alloc (.cells zs 36)).alloc (.cells zs 36)).alloc (.cells #[a, b, .slice none 0 0, .int .i64 0] 146)).drew).heap[w.heap.size + 1 + 1]? = some (.cells #[a, b, .slice none 0 0, .int .i64 0] 146 (0, 0)) := by
 refine ⟨((((Below.refl _ _).alloc (Nat.le_refl _) _).alloc (by simp) _).alloc (by simp; omega) _).drew, ?_, ?_, ?_⟩
 ·exact (alloc_old _ _ (by simp; omega)).trans ((alloc_old _ _ (by simp)).trans (alloc_block w _))
 ·have := alloc_block (w.alloc (.cells zs 36)) (.cells zs 36)
  rw [alloc_size] at this
  exact (alloc_old _ _ (by simp)).trans this
 ·have := alloc_block ((w.alloc (.cells zs 36)).alloc (.cells zs 36)) (.cells #[a, b, .slice none 0 0, .int .i64 0] 146)
  rw [alloc_size, alloc_size] at this
  exact this
theorem dnew_of (w : World) (x : Int) (N : Nat) (hN : 1 ≤ N ∧ N ≤ 1000) (h : (N : Int) = x) : Calls Tryz.prog 72 #[.int .i64 x] w (DNewRet N w) := by
 obtain ⟨zs, z1, z2⟩ := makeR N (by omega)
 have HZ := Lib.hid z1
 have HN := Lib.hid hN
 subst h
 have t1 : ¬ (N : Int) < 1 := by omega
 have t2 : (N : Int) ≤ 1000 := by omega
 clear z1 hN
 go_enter Tryz.func72, Tryz.ntmps72
 go_wp2_with fail
 go_region
 ·obtain ⟨HB, n1, n2, n3⟩ := new_world w zs (.slice (some ⟨w.heap.size, 0, none⟩) N N) (.slice (some ⟨w.heap.size + 1, 0, none⟩) N N)
  have HP := Lib.hid (new_end (W := (((w.alloc (.cells zs 36)).alloc (.cells zs 36)).alloc (.cells #[.slice (some ⟨w.heap.size, 0, none⟩) N N, .slice (some ⟨w.heap.size + 1, 0, none⟩) N N, .slice none 0 0, .int .i64 0] 146)).drew) HN.out n1 n2 HZ.out HZ.out (by omega) n3)
  have HW := Lib.hid HB
  clear HB n1 n2 n3
  generalize (((w.alloc (.cells zs 36)).alloc (.cells zs 36)).alloc (.cells #[.slice (some ⟨w.heap.size, 0, none⟩) N N, .slice (some ⟨w.heap.size + 1, 0, none⟩) N N, .slice none 0 0, .int .i64 0] 146)).drew = W at *
  go_wp2_with fail
  refine (dwipe0 W _ _ _ N _ [] 0 HP.out (by omega)).mono ?_
  rintro e w2 ⟨rfl, a, b, t⟩
  have HE : Hid (DNewRet N w (.returned (.pointer (some ⟨w.heap.size + 1 + 1, 0, none⟩))) w2) := Lib.hid ⟨_, _, rfl, ⟨_, _, _, a, b, rfl⟩, Below.of_turn HW.out t (by simp; omega) HW.out.size, by simp [pb]; omega⟩
  clear a b t HP HW
  go_wp2_with fail
  go_ret
  exact HE.out
 ·obtain ⟨HB, n1, n2, n3⟩ := new_world w zs (.slice (some ⟨w.heap.size + 1, 0, none⟩) N N) (.slice (some ⟨w.heap.size, 0, none⟩) N N)
  have HP := Lib.hid (new_end (W := (((w.alloc (.cells zs 36)).alloc (.cells zs 36)).alloc (.cells #[.slice (some ⟨w.heap.size + 1, 0, none⟩) N N, .slice (some ⟨w.heap.size, 0, none⟩) N N, .slice none 0 0, .int .i64 0] 146)).drew) HN.out n2 n1 HZ.out HZ.out (by omega) n3)
  have HW := Lib.hid HB
  clear HB n1 n2 n3
  generalize (((w.alloc (.cells zs 36)).alloc (.cells zs 36)).alloc (.cells #[.slice (some ⟨w.heap.size + 1, 0, none⟩) N N, .slice (some ⟨w.heap.size, 0, none⟩) N N, .slice none 0 0, .int .i64 0] 146)).drew = W at *
  go_wp2_with fail
  refine (dwipe0 W _ _ _ N _ [] 0 HP.out (by omega)).mono ?_
  rintro e w2 ⟨rfl, a, b, t⟩
  have HE : Hid (DNewRet N w (.returned (.pointer (some ⟨w.heap.size + 1 + 1, 0, none⟩))) w2) := Lib.hid ⟨_, _, rfl, ⟨_, _, _, a, b, rfl⟩, Below.of_turn HW.out t (by simp; omega) HW.out.size, by simp [pb]; omega⟩
  clear a b t HP HW
  go_wp2_with fail
  go_ret
  exact HE.out
end Go.Proofs.YtobkmohoepgfmaaGreatDoor
namespace Go.Proofs.YtobkmohoepgfmaaGreatDoor
open Go.RowKit Go.Sort
set_option maxRecDepth 100000
set_option maxHeartbeats 1000000

theorem infoInt : (Tryz.prog.info? 3).map (fun i => (i.zero, i.size, i.bytes)) = some (some (.int .i64 0), 1, 8) := by kernel_rfl
def intsV (xs : List Int) : List Value := xs.map (Value.int .i64)
theorem own_nums {w : World} {B n cap : Nat} {A : Option Addr} {xs : List Int} (h : w.ownsRow B 3 1 (.slice A n cap) n (intsV xs)) : Nums w A xs ∧ xs.length = n := by
 have hl : xs.length = n := by have := h.1; simpa [intsV] using this
 refine ⟨fun i x hi => ?_, hl⟩
 have hi' : i < n := by have := (List.getElem?_eq_some_iff.1 hi).1; omega
 rcases h.2 with ⟨h0, h1⟩ | ⟨g, cap', cur, e, _, hh, _⟩
 ·omega
 ·cases e
  refine ⟨g, 0, rfl, heap_lt hh, ?_⟩
  have := h.cells (g := g) rfl i (.int .i64 x) (by simp [intsV, hi])
  rw [addr_add] at this
  exact this
theorem own_form {w : World} {B n : Nat} {v : Value} {t : TypeId} {s : Nat} {xs : List Value} (h : w.ownsRow B t s v n xs) : ∃ A cap, v = .slice A n cap ∧ (A = none ∧ n = 0 ∧ cap = 0 ∨ ∃ g, A = some ⟨g, 0, none⟩ ∧ B ≤ g ∧ g < w.heap.size) := by
 rcases h.2 with ⟨rfl, h0⟩ | ⟨g, cap', cur, rfl, hb, hh, _⟩
 ·exact ⟨none, 0, by rw [h0], Or.inl ⟨rfl, h0, rfl⟩⟩
 ·exact ⟨_, cap', rfl, Or.inr ⟨g, rfl, hb, heap_lt hh⟩⟩
theorem own_ge {w : World} {B n s : Nat} {v : Value} {t : TypeId} {xs : List Value} (h : w.ownsRow B t s v n xs) : ∀ k, v.ownBlock = some k → B ≤ k := by
 intro k hk
 rcases h.2 with ⟨rfl, _⟩ | ⟨g, cap', cur, rfl, hb, _⟩
 ·cases hk
 ·cases hk; exact hb
theorem Nums.keep {w w' : World} {A : Option Addr} {xs : List Int} (h : Nums w A xs) (b : Below w.heap.size w w') : Nums w' A xs := fun i x hi => by
 obtain ⟨g, o, e, hl, hc⟩ := h i x hi
 exact ⟨g, o, e, Nat.lt_of_lt_of_le hl b.size, (b.cell (p := ⟨g, o + i, none⟩) hl).trans hc⟩

end Go.Proofs.YtobkmohoepgfmaaGreatDoor
