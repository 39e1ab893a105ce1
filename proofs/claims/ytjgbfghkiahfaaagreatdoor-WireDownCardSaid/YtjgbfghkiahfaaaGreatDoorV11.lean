import Derived.Test.YtjgbfghkiahfaaaGreatDoorV10
namespace Go.Proofs.YtjgbfghkiahfaaaGreatDoor
open Go.RowKit Go.Sort
set_option maxRecDepth 100000
set_option maxHeartbeats 1000000

/-- What is kept, of a list of numbers. -/
def keepF (xs : List Int) (j : Nat) : Bool := decide ((j : Int) ∈ xs)
theorem keepF_take {xs : List Int} {i : Nat} {x : Int} (h : xs[i]? = some x) (j : Nat) : keepF (xs.take (i + 1)) j = (if (j : Int) = x then true else keepF (xs.take i) j) := by
  unfold keepF
  rw [List.take_add_one, h]
  by_cases e : (j : Int) = x
  · rw [if_pos e]; simp [e]
  · rw [if_neg e]; simp [e]
theorem kept_take {f : Nat → Bool} {l : List (Nat × Blk)} {i : Nat} {x : Nat × Blk} (h : l[i]? = some x) (D : Nat → Blk) :
    (keptAt f 0 (l.take (i + 1))).foldl upd D = if f i then upd ((keptAt f 0 (l.take i)).foldl upd D) x else (keptAt f 0 (l.take i)).foldl upd D := by
  have hi := (List.getElem?_eq_some_iff.1 h).1
  rw [List.take_add_one, h, keptAt_append, List.length_take, Nat.zero_add, Nat.min_eq_left (by omega)]
  simp only [Option.toList, keptAt]
  split <;> simp [List.foldl_append]
theorem Pend.form {w : World} {pv : Value} {N : Nat} {l : List (Nat × Blk)} (h : Pend w pv N l) : ∃ a cap, pv = .slice a l.length cap ∧ (0 < l.length → ∃ q, a = some ⟨q, 0, none⟩) := by
  obtain ⟨xs, ⟨_, h1⟩, _⟩ := h
  rcases h1 with ⟨rfl, h0⟩ | ⟨g, cap, cur, rfl, _⟩
  · exact ⟨none, 0, by rw [h0], fun h => by omega⟩
  · exact ⟨_, cap, rfl, fun _ => ⟨g, rfl⟩⟩
theorem Pend.at {w : World} {q n cap N i k : Nat} {l : List (Nat × Blk)} {F : Blk} (h : Pend w (.slice (some ⟨q, 0, none⟩) n cap) N l) (hi : l[i]? = some (k, F)) :
    k < N ∧ w.cell? ⟨q, i * 2, none⟩ = some (.int .i64 (k : Int)) ∧ ∃ g c, w.cell? ⟨q, i * 2 + 1, none⟩ = some (.slice (some ⟨g, 0, none⟩) 160 c) ∧ Ref w (.slice (some ⟨g, 0, none⟩) 160 c) F := by
  obtain ⟨xs, ⟨h0, h1⟩, h2⟩ := h
  obtain ⟨hk, e1, v, e2, hr⟩ := h2 i k F hi
  rcases h1 with ⟨h1, _⟩ | ⟨g, cap', cur, e, _, hh, _, _, _, ht⟩
  · cases h1
  · cases e
    have hc : ∀ j u, xs[j]? = some u → w.cell? ⟨q, j, none⟩ = some u := by
      intro j u hu
      rw [cell_of_block hh]
      rw [← ht, List.getElem?_take] at hu
      split at hu
      · simpa using hu
      · cases hu
    obtain ⟨g, c, rfl, hx⟩ := hr
    refine ⟨hk, by rw [Nat.mul_comm]; exact hc _ _ e1, g, c, by rw [Nat.mul_comm]; exact hc _ _ e2, g, c, rfl, hx⟩
theorem Slab.other {w w' : World} {b N b' o : Nat} {D : Nat → Blk} {u : Value} {cs : Array Value} {t : TypeId} {fr : Nat × Nat} (h : Slab w b N D) (hb : w.heap[b']? = some (.cells cs t fr)) (ht : t ≠ 5) (hne : b ≠ b') (e : w' = w.setCell ⟨b', o, none⟩ u) : Slab w' b N D := by
  subst e; exact h.far hb ht hne
/-- A write that was kept is done. -/
theorem PltR.put {w : World} {p db nb N k : Nat} {pv v : Value} {D : Nat → Blk} {l : List (Nat × Blk)} {wr : Nat} {F : Blk} (h : PltR w p db nb N pv D l wr) (hk : k < N) (hr : Ref w v F) : PltR (w.setCell ⟨db, k, none⟩ v) p db nb N pv (upd D (k, F)) l wr := by
  obtain ⟨n1, n2, n3, n4, n5⟩ := h.ne1
  obtain ⟨c2, h2, hs⟩ := h.rows.arr
  exact ⟨(set_other n1 k v).trans h.head, h.rows.put hk hr, h.arr.keep (set_other (fun e => h.ne e.symm) k v), h.ne, h.pend.far h2 (by decide) (fun i hi e => n4 (e ▸ hi)), h.n1, h.n2, h.len⟩
theorem PltR.below {w w' : World} {p db nb N : Nat} {pv : Value} {D : Nat → Blk} {l : List (Nat × Blk)} {wr : Nat} (h : PltR w p db nb N pv D l wr) (b : Below w.heap.size w w') : PltR w' p db nb N pv D l wr := h.keep (Same.below b h.lt)
/-- Another block, new or of another kind, is put. -/
theorem PltR.set {w : World} {p db nb N g o : Nat} {pv v : Value} {D : Nat → Blk} {l : List (Nat × Blk)} {wr : Nat} {cs : Array Value} {t : TypeId} {fr : Nat × Nat} (h : PltR w p db nb N pv D l wr) (hg : w.heap[g]? = some (.cells cs t fr)) (ht : t ≠ 5) (hn : g ∉ [p, db, nb] ++ pb pv) : PltR (w.setCell ⟨g, o, none⟩ v) p db nb N pv D l wr :=
  h.keep ⟨bytes_far hg ht, fun k hk => set_other (by rintro rfl; exact hn hk) o v⟩
theorem PltR.notMem {w : World} {p db nb N : Nat} {pv : Value} {D : Nat → Blk} {l : List (Nat × Blk)} {wr : Nat} (h : PltR w p db nb N pv D l wr) {k : Nat} {cs : Array Value} {t : TypeId} {fr : Nat × Nat} (hk : w.heap[k]? = some (.cells cs t fr)) (h1 : t ≠ 108) (h2 : t ≠ 36) (h3 : t ≠ 149) : k ∉ [p, db, nb] ++ pb pv := by
  intro hm
  obtain ⟨cs', t', e, ht⟩ := h.type hm
  rw [hk] at e
  cases e
  rcases ht with rfl | rfl | rfl
  · exact h1 rfl
  · exact h2 rfl
  · exact h3 rfl
/-- The end of a Crash. -/
theorem crash_end {w w' : World} {p db nb N : Nat} {pv : Value} {D : Nat → Blk} {l : List (Nat × Blk)} {wr : Nat} (h : PltR w p db nb N pv D l wr) (hs : Slab w' nb N D) (gr : w.grownBy w' (some nb)) :
    PltR (w'.setCell ⟨p, 2, none⟩ (.slice none 0 0)) p db nb N (.slice none 0 0) D [] wr ∧ Slab (w'.setCell ⟨p, 2, none⟩ (.slice none 0 0)) nb N D := by
  obtain ⟨n1, n2, n3, n4, n5⟩ := h.ne1
  obtain ⟨cs, hc, _⟩ := h.arr
  have hk : ∀ i, i < w.heap.size → i ≠ nb → w'.heap[i]? = w.heap[i]? := fun i hi hn => gr.block i hi (fun e => hn (by injection e))
  have hh : Head w' p db nb N pv wr := (hk p (heap_lt h.head) n2).trans h.head
  have hb : ∀ (g : Nat) (cs : Array Value), w.heap[g]? = some (Obj.cells cs 5 (0, 0)) → w'.heap[g]? = w.heap[g]? := fun g cs' hg => hk g (heap_lt hg) (by rintro rfl; rw [hc] at hg; cases hg)
  have hd : Slab w' db N D := h.rows.keep hb (hk db h.rows.arr.lt h.ne)
  exact ⟨⟨head_put2 hh, hd.far hh (by decide) n1.symm, (hs.far hh (by decide) n2.symm).arr, h.ne, Pend.nil, h.n1, h.n2, Nat.zero_le _⟩, hs.far hh (by decide) n2.symm⟩

/-- Crash. -/
def DCrash0 (p db nb N : Nat) (D : Nat → Blk) (l : List (Nat × Blk)) (wr : Nat) (xs : List Int) (w : World) (e : Ending) (w' : World) : Prop :=
  e = .returned (.tuple #[]) ∧ PltR w' p db nb N (.slice none 0 0) ((keptAt (keepF xs) 0 l).foldl upd D) [] wr ∧ Slab w' nb N ((keptAt (keepF xs) 0 l).foldl upd D) ∧ Turn [p, db, nb] w w'
theorem dcrash0 (w : World) (p db nb N : Nat) (pv : Value) (D : Nat → Blk) (l : List (Nat × Blk)) (nw : Nat) (A : Option Addr) (xs : List Int) (c : Nat) (h : PltR w p db nb N pv D l nw) (hxs : Nums w A xs) (hlen : xs.length ≤ 9223372036854775807) (hwr : nw ≤ 1000000000) :
    Calls Tryz.prog 75 #[.pointer (some ⟨p, 0, none⟩), .slice A xs.length c] w (DCrash0 p db nb N D l nw xs w) := by
  obtain ⟨a, cap, rfl, ha⟩ := h.pend.form
  have hl := h.len
  obtain ⟨zs, z0, z1, z2⟩ := makeB l.length (by omega)
  have c2 := h.c2
  have HA := Lib.hid ha
  have HP := Lib.hid h
  have HXS := Lib.hid hxs
  have HK : Hid (BlkB (w.alloc (.cells zs 4)) w.heap.size l.length (fun _ => false)) := Lib.hid ⟨zs, alloc_block w _, z0, z1⟩
  have HB : Hid (Below w.heap.size w (w.alloc (.cells zs 4))) := Lib.hid ((Below.refl _ _).alloc (Nat.le_refl _) _)
  have hz := heap_lt h.head
  clear z0 z1 ha h hxs
  generalize hn : l.length = n at *
  have HN := Lib.hid hn
  clear hn
  obtain ⟨m, hm⟩ : ∃ m, xs.length = m := ⟨_, rfl⟩
  rw [hm] at hlen ⊢
  have HM := Lib.hid hm
  clear hm
  go_enter Tryz.func75, Tryz.ntmps75
  go_wp2_with fail
  clear z2 c2
  generalize w.alloc (.cells zs 4) = w1 at *
  obtain ⟨B, hB⟩ : ∃ B, w.heap.size = B := ⟨_, rfl⟩
  rw [hB] at HK HB hz ⊢
  have HBB := Lib.hid hB
  clear hB
  go_loopg [6, 19] m (fun q s6 s19 v => ∃ i : Nat, s19 = .int .i64 (i : Int) ∧ i ≤ m ∧ q = m - i ∧ Hid (BlkB v B n (keepF (xs.take i)) ∧ Below B w v))
  case atStart => exact ⟨0, rfl, by omega, rfl, Lib.hid ⟨HK.out.congr (fun j _ => by simp [keepF]), HB.out⟩⟩
  case round =>
    obtain ⟨i, rfl, hi, rfl, HS⟩ := hrel
    clear HK HB
    by_cases hlt : i < m
    · have hl2 : (i : Int) < (m : Int) := by omega
      obtain ⟨x, hx⟩ : ∃ x, xs[i]? = some x := ⟨_, List.getElem?_eq_getElem (by rw [HM.out]; exact hlt)⟩
      obtain ⟨g, o, rfl, hg, hc⟩ := HXS.out i x hx
      have HX := Lib.hid hx
      have c1 := (HS.out.2.cell (p := ⟨g, o + i, none⟩) (by rw [← HBB.out]; exact hg)).trans hc
      clear hx hg hc
      by_cases hin : 0 ≤ x ∧ x < (n : Int)
      · obtain ⟨y, rfl⟩ : ∃ y : Nat, x = (y : Int) := ⟨x.toNat, by omega⟩
        have hy : y < n := by omega
        have hyi : (y : Int) < (n : Int) := by omega
        have c2 := HS.out.1.cell hy
        have f2 := HS.out.1.free y
        clear hin
        go_wp2_with fail
        go_roundg (m - (i + 1))
        case measure => omega
        case rel => exact ⟨i + 1, by go_num, by omega, rfl, Lib.hid ⟨(HS.out.1.put (x := true) hy).congr (fun j _ => by
          rw [keepF_take HX.out]
          by_cases e : j = y
          · rw [if_pos e, if_pos (by omega)]
          · rw [if_neg e, if_neg (by omega)]), HS.out.2.setCell (Nat.le_refl _) _⟩⟩
      · by_cases h0 : 0 ≤ x
        · have h1 : decide (x < (n : Int)) = false := decide_eq_false (fun h => hin ⟨h0, h⟩)
          have HI := Lib.hid hin
          clear hin
          go_wp2_with fail
          go_roundg (m - (i + 1))
          case measure => omega
          case rel => exact ⟨i + 1, by go_num, by omega, rfl, Lib.hid ⟨HS.out.1.congr (fun j hj => by rw [keepF_take HX.out, if_neg (fun e => HI.out ⟨by omega, by omega⟩)]), HS.out.2⟩⟩
        · have HI := Lib.hid hin
          clear hin
          go_wp2_with fail
          go_roundg (m - (i + 1))
          case measure => omega
          case rel => exact ⟨i + 1, by go_num, by omega, rfl, Lib.hid ⟨HS.out.1.congr (fun j hj => by rw [keepF_take HX.out, if_neg (fun e => HI.out ⟨by omega, by omega⟩)]), HS.out.2⟩⟩
    · obtain rfl : i = m := by omega
      have hge : ¬ (i : Int) < (i : Int) := by omega
      generalize wr = v at *
      have K1 : Hid (BlkB v B n (keepF xs)) := Lib.hid (HS.out.1.congr (fun j _ => by rw [List.take_of_length_le (by rw [HM.out]; omega)]))
      have B1 : Hid (Below B w v) := Lib.hid HS.out.2
      have hBv : Below w.heap.size w v := by rw [HBB.out]; exact HS.out.2
      have P1 : Hid (PltR v p db nb N (.slice a n cap) D l nw) := Lib.hid (HP.out.below hBv)
      have c2 := P1.out.c2
      clear HS hBv hlt
      go_wp2_with fail
      have L1 := P1.out.pend
      go_loopg [7, 8, 40] n (fun q s7 s8 s40 v2 => ∃ j : Nat, s40 = .int .i64 (j : Int) ∧ j ≤ n ∧ q = n - j ∧ Hid (PltR v2 p db nb N (.slice a n cap) ((keptAt (keepF xs) 0 (l.take j)).foldl upd D) l nw ∧ BlkB v2 B n (keepF xs) ∧ Turn [p, db, nb] w v2))
      case atStart => exact ⟨0, rfl, by omega, rfl, Lib.hid ⟨P1.out, K1.out, Turn.of (by rw [HBB.out]; exact B1.out)⟩⟩
      case round =>
        obtain ⟨j, rfl, hj, rfl, HT⟩ := hrel
        clear K1 B1 P1 c2 L1
        by_cases hlt : j < n
        · have hl3 : (j : Int) < (n : Int) := by omega
          obtain ⟨⟨k, F⟩, hx⟩ : ∃ x, l[j]? = some x := ⟨_, List.getElem?_eq_getElem (by rw [HN.out]; exact hlt)⟩
          obtain ⟨q, rfl⟩ := HA.out (by omega)
          obtain ⟨hk, c1, g, c', c2, hr⟩ := HT.out.1.pend.at hx
          have HX := Lib.hid hx
          have HR := Lib.hid hr
          generalize wr = v2 at *
          have zB := HT.out.2.1.lt
          have zq := cell?_lt c1
          have b1 := HT.out.2.1.cell hlt
          clear hx hr
          cases hf : keepF xs j
          · rw [hf] at b1
            have HF := Lib.hid hf
            clear hf
            go_wp2_with fail
            go_roundg (n - (j + 1))
            case measure => omega
            case rel => exact ⟨j + 1, by go_num, by omega, rfl, Lib.hid ⟨by rw [kept_take HX.out, if_neg (by rw [HF.out]; simp)]; exact HT.out.1.below ((Below.refl _ _).alloc (Nat.le_refl _) _), HT.out.2.1.keep (alloc_old _ _ zB), HT.out.2.2.trans (Turn.alloc _ _ _)⟩⟩
          · rw [hf] at b1
            have HF := Lib.hid hf
            clear hf
            go_wp2_with fail
            have HL : Hid ((v2.alloc (.cells #[.int .i64 (k : Int), .slice (some ⟨g, 0, none⟩) 160 c'] 149)).heap[v2.heap.size]? = some (.cells #[.int .i64 (k : Int), .slice (some ⟨g, 0, none⟩) 160 c'] 149 (0, 0))) := Lib.hid (alloc_block _ _)
            have HP2 : Hid (PltR (v2.alloc (.cells #[.int .i64 (k : Int), .slice (some ⟨g, 0, none⟩) 160 c'] 149)) p db nb N (.slice (some ⟨q, 0, none⟩) n cap) ((keptAt (keepF xs) 0 (l.take j)).foldl upd D) l nw) := Lib.hid (HT.out.1.below ((Below.refl _ _).alloc (Nat.le_refl _) _))
            have HK2 : Hid (BlkB (v2.alloc (.cells #[.int .i64 (k : Int), .slice (some ⟨g, 0, none⟩) 160 c'] 149)) B n (keepF xs)) := Lib.hid (HT.out.2.1.keep (alloc_old _ _ zB))
            have HT2 : Hid (Turn [p, db, nb] w (v2.alloc (.cells #[.int .i64 (k : Int), .slice (some ⟨g, 0, none⟩) 160 c'] 149))) := Lib.hid (HT.out.2.2.trans (Turn.alloc _ _ _))
            have HR2 : Hid (Ref (v2.alloc (.cells #[.int .i64 (k : Int), .slice (some ⟨g, 0, none⟩) 160 c'] 149)) (.slice (some ⟨g, 0, none⟩) 160 c') F) := Lib.hid (HR.out.keep (fun _ _ h => alloc_old _ _ (heap_lt h)))
            clear HT HR c1 c2 b1 zB zq
            generalize v2.heap.size = L at *
            generalize v2.alloc (.cells #[.int .i64 (k : Int), .slice (some ⟨g, 0, none⟩) 160 c'] 149) = v3 at *
            have d0 := HP2.out.c0
            have d1 := cell_of_block (k := 0) HL.out
            have d2 := cell_of_block (k := 1) HL.out
            have d1' : v3.cell? ⟨L, 0, none⟩ = some (.int .i64 (k : Int)) := d1
            have d2' : v3.cell? ⟨L, 1, none⟩ = some (.slice (some ⟨g, 0, none⟩) 160 c') := d2
            have hkN : (k : Int) < (N : Int) := by omega
            clear d1 d2
            go_still_tail 9, (by kernel_rfl)
            change wpList _ _ _ _ _ v3.drew
            have f1 : v3.drew.frozen? ⟨db, k, none⟩ = false := HP2.out.rows.arr.free k
            obtain ⟨v0, f2⟩ := HP2.out.rows.arr.cell hk
            have f3 : v3.drew.cell? ⟨db, k, none⟩ = some v0 := f2
            clear f2
            go_wp2_with fail
            have hBd : B ≠ db := by
              rintro rfl
              obtain ⟨cs, h1, _⟩ := HP2.out.rows
              obtain ⟨cs', h2, _⟩ := HK2.out
              rw [h1] at h2
              cases h2
            go_roundg (n - (j + 1))
            case measure => omega
            case rel => exact ⟨j + 1, by go_num, by omega, rfl, Lib.hid ⟨by rw [kept_take HX.out, if_pos HF.out]; exact (HP2.out.put hk HR2.out).drew, HK2.out.keep (set_other hBd _ _), (HT2.out.trans (Turn.set _ _ _ _ (by simp))).trans (Turn.drew _ _)⟩⟩
        · obtain rfl : j = n := by omega
          generalize wr = v2 at *
          have P2 : Hid (PltR v2 p db nb N (.slice a j cap) ((keptAt (keepF xs) 0 l).foldl upd D) l nw) := Lib.hid (by have := HT.out.1; rwa [List.take_of_length_le (by rw [HN.out]; omega)] at this)
          have T2 := Lib.hid HT.out.2.2
          have hge2 : ¬ (j : Int) < (j : Int) := by omega
          obtain ⟨D', hD'⟩ : ∃ D', D' = (keptAt (keepF xs) 0 l).foldl upd D := ⟨_, rfl⟩
          rw [← hD'] at P2
          have HD := Lib.hid hD'
          clear hD'
          have d0 := P2.out.c0
          have d1 := P2.out.c1
          clear HT hlt
          go_wp2_with fail
          go_still_tail 8, (by kernel_rfl)
          change wpList _ _ _ _ _ v2.drew
          go_wp2_with ((with_reducible refine copy_arr v2.drew rfl (.tmp 62) (.tmp 66) rfl nb db N D' rfl rfl P2.out.drew.arr P2.out.drew.rows ?_); intro v3 hs3 hg3 hz3; have HS3 := Lib.hid hs3; have HG3 := Lib.hid hg3; have y0 := (hg3.cell_far ⟨p, 2, none⟩ (heap_lt P2.out.head) (fun e => P2.out.ne1.2.1 (by injection e))).trans P2.out.c2; have y1 := (hg3.frozen_far ⟨p, 2, none⟩ (heap_lt P2.out.head) (fun e => P2.out.ne1.2.1 (by injection e))).trans (P2.out.f 2); clear hs3 hg3 hz3)
          go_end0
          have hE := crash_end P2.out.drew HS3.out HG3.out
          rw [HD.out] at hE
          exact ⟨rfl, hE.1, hE.2, ((T2.out.trans (Turn.drew _ _)).trans (Turn.only HG3.out (by simp))).trans (Turn.set _ _ _ _ (by simp))⟩
end Go.Proofs.YtjgbfghkiahfaaaGreatDoor
