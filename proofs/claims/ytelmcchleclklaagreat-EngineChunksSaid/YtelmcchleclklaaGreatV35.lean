import Derived.Test.YtelmcchleclklaaGreatV34
import Derived.BigRegion
namespace Go.Proofs.YtelmcchleclklaaGreat.Kc
open Go.RowKit Go.Sort
set_option maxRecDepth 100000
set_option maxHeartbeats 1000000

structure Cdr (w : World) (c f o cap : Nat) : Prop where
 ptr : w.cell? ⟨c, 0, none⟩ = some (.pointer (some ⟨f, 0, none⟩))
 fld : Fld w f
 rows : w.cell? ⟨c, 1, none⟩ = some (.slice (some ⟨o, 0, none⟩) 6 cap)
 raw : RawIn w (some ⟨o, 0, none⟩) (rowsOf 6 4 gr)
 cap6 : 6 ≤ cap
theorem Cdr.lt {w : World} {c f o cap : Nat} (h : Cdr w c f o cap) : c < w.heap.size := cell?_lt h.ptr
theorem Cdr.keep {w w' : World} {c f o cap : Nat} (h : Cdr w c f o cap) (b : Below w.heap.size w w') : Cdr w' c f o cap :=
 ⟨(b.cell (p := ⟨c, 0, none⟩) h.lt).trans h.ptr, h.fld.keep b, (b.cell (p := ⟨c, 1, none⟩) h.lt).trans h.rows, h.raw.keep b, h.cap6⟩
def CdrFrom (A : Nat) (w : World) (c f o : Nat) : Prop := A ≤ c ∧ A ≤ f ∧ A ≤ o ∧ ∀ i, i < 6 → ∃ g q k, w.cell? ⟨o, i, none⟩ = some (.slice (some ⟨g, q, none⟩) 4 k) ∧ A ≤ g
def CdrRetF (w : World) (e : Ending) (w' : World) : Prop := ∃ c f o cap, e = .returned (.pointer (some ⟨c, 0, none⟩)) ∧ Cdr w' c f o cap ∧ Below w.heap.size w w' ∧ CdrFrom w.heap.size w' c f o
def CdrIn (A B : Nat) (w : World) (c f o : Nat) : Prop := (A ≤ c ∧ c < B) ∧ (A ≤ f ∧ f < B) ∧ (A ≤ o ∧ o < B) ∧ ∀ i, i < 6 → ∃ g q k, w.cell? ⟨o, i, none⟩ = some (.slice (some ⟨g, q, none⟩) 4 k) ∧ A ≤ g ∧ g < B
theorem Cdr.upto {w : World} {A c f o cap : Nat} (h : Cdr w c f o cap) (hf : CdrFrom A w c f o) : CdrIn A w.heap.size w c f o := by
 obtain ⟨f1, f2, f3, f4⟩ := hf
 have ho : o < w.heap.size := by
  obtain ⟨g, q, k, hk, _⟩ := f4 0 (by omega)
  exact cell?_lt hk
 refine ⟨⟨f1, h.lt⟩, ⟨f2, h.fld.lt⟩, ⟨f3, ho⟩, fun i hi => ?_⟩
 obtain ⟨g4, q4, k4, c4, l4⟩ := f4 i hi
 obtain ⟨b, o2, e1, hb, g, k, hk, hx⟩ := h.raw i ((List.range 4).map (gr i)) (by simp [rowsOf, hi])
 cases e1
 obtain ⟨h1, q, e2, h2, _⟩ := hx 0 (gr i 0) rfl
 subst e2
 rw [Nat.zero_add, c4] at hk
 injection hk with hk
 injection hk with e1 e2 e3
 injection e1 with e1
 injection e1 with e1 e4
 subst e1
 exact ⟨_, _, _, c4, l4, h2⟩
theorem Cdr.keepA {w w' : World} {A B c f o cap : Nat} (h : Cdr w c f o cap) (hf : CdrIn A B w c f o) (hs : w.heap.size ≤ w'.heap.size) (e : ∀ k, A ≤ k → k < B → w'.heap[k]? = w.heap[k]?) : Cdr w' c f o cap ∧ CdrIn A B w' c f o := by
 obtain ⟨⟨f1, g1⟩, ⟨f2, g2⟩, ⟨f3, g3⟩, f4⟩ := hf
 have hc : ∀ b k, A ≤ b → b < B → w'.cell? ⟨b, k, none⟩ = w.cell? ⟨b, k, none⟩ := fun b k h1 h2 => World.cell?_of_block (w := w) (e b h1 h2)
 have ho : o < w.heap.size := by
  obtain ⟨g, q, k, hk, _⟩ := f4 0 (by omega)
  exact cell?_lt hk
 refine ⟨⟨(hc c 0 f1 g1).trans h.ptr, ⟨fun k hk => (hc f k f2 g2).trans (h.fld.exp k hk), fun k hk => (hc f _ f2 g2).trans (h.fld.log k hk)⟩, (hc c 1 f1 g1).trans h.rows, fun i xs hi => ?_, h.cap6⟩, ⟨f1, g1⟩, ⟨f2, g2⟩, ⟨f3, g3⟩, fun i hi => ?_⟩
 ·obtain ⟨b, o2, e1, hb, g, k, hk, hx⟩ := h.raw i xs hi
  cases e1
  refine ⟨o, 0, rfl, Nat.lt_of_lt_of_le ho hs, g, k, (hc o _ f3 g3).trans hk, fun j x hj => ?_⟩
  obtain ⟨h1, q, e2, h2, h3⟩ := hx j x hj
  subst e2
  have hi6 : i < 6 := by
   have := (List.getElem?_eq_some_iff.1 hi).1
   simpa [rowsOf] using this
  obtain ⟨g4, q4, k4, c4, l4, m4⟩ := f4 i hi6
  rw [Nat.zero_add, c4] at hk
  injection hk with hk
  injection hk with e1 e2 e3
  injection e1 with e1
  injection e1 with e1 e4
  subst e1
  exact ⟨_, _, rfl, Nat.lt_of_lt_of_le h2 hs, (hc _ _ l4 m4).trans h3⟩
 ·obtain ⟨g, q, k, hk, hl⟩ := f4 i hi
  exact ⟨g, q, k, (hc o i f3 g3).trans hk, hl⟩
theorem own_succ {W : World} {base : Nat} {e : TypeId} {size : Nat} {v : Value} {k : Nat} {xs : List Value} (h : W.ownsRow base e size v (k + 1) xs) : ∃ g cap, v = .slice (some ⟨g, 0, none⟩) (k + 1) cap := by
 rcases h.2 with ⟨_, h0⟩ | ⟨g, cap, _, rfl, _⟩
 ·omega
 ·exact ⟨g, cap, rfl⟩
theorem own_cap6 {w : World} {B g n cap : Nat} {e : TypeId} {xs : List Value} (h : w.ownsRow B e 1 (.slice (some ⟨g, 0, none⟩) n cap) n xs) : n ≤ cap := by
 rcases h.2 with ⟨h0, _⟩ | ⟨g', cap', cur, e1, _, _, h3, _⟩
 ·cases h0
 ·cases e1; exact h3
theorem cmade (c f o cap : Nat) (w : World) (h : Cdr w c f o cap) : Calls Tryz.prog 141 #[.pointer (some ⟨c, 0, none⟩)] w fun e w' => e = .returned (.bool true) ∧ w' = w := by
 have h1 := h.rows
 go_enter Tryz.func141, Tryz.ntmps141
 go_wp2_with fail
 go_ret
 exact ⟨rfl, rfl⟩

structure Two (w1 v : World) (a b k : Nat) : Prop where
 ne : a ≠ b
 la : w1.heap.size ≤ a
 lb : w1.heap.size ≤ b
 sum : Row8 v a 4 (fun j => if j < k then 1 else 0)
 pow : Row8 v b 4 (fun j => if j < k then pw j else 0)
 below : Below w1.heap.size w1 v
theorem Two.next {w1 v : World} {a b k : Nat} (h : Two w1 v a b k) (hk : k < 4) : Two w1 ((v.setCell ⟨a, k, none⟩ (.int .u8 1)).setCell ⟨b, k, none⟩ (.int .u8 (pw k : Nat))) a b (k + 1) := by
 have p1 := h.sum.put (q := k) (x := 1) hk
 have o1 : ∀ (v : World) (x y : Nat) (u : Value), x ≠ y → (v.setCell ⟨y, k, none⟩ u).heap[x]? = v.heap[x]? := fun v x y u hne => Below.heap_setCell v ⟨y, k, none⟩ u x (fun e => hne e)
 have p2 : Row8 (v.setCell ⟨a, k, none⟩ (.int .u8 1)) b 4 (fun j => if j < k then pw j else 0) := h.pow.keep (o1 v b a _ (fun e => h.ne e.symm))
 have p3 := p2.put (q := k) (x := pw k) hk
 have p4 : Row8 ((v.setCell ⟨a, k, none⟩ (.int .u8 1)).setCell ⟨b, k, none⟩ (.int .u8 (pw k : Nat))) a 4 _ := p1.keep (o1 _ a b _ h.ne)
 refine ⟨h.ne, h.la, h.lb, p4.congr (fun j _ => ?_), p3.congr (fun j _ => ?_), (h.below.setCell (p := ⟨a, k, none⟩) h.la _).setCell (p := ⟨b, k, none⟩) h.lb _⟩
 ·by_cases e : j = k
  ·subst e; simp
  ·simp only [if_neg e]
   by_cases h2 : j < k
   ·rw [if_pos h2, if_pos (by omega)]
   ·rw [if_neg h2, if_neg (by omega)]
 ·by_cases e : j = k
  ·subst e; simp
  ·simp only [if_neg e]
   by_cases h2 : j < k
   ·rw [if_pos h2, if_pos (by omega)]
   ·rw [if_neg h2, if_neg (by omega)]

theorem cnewF (w : World) : Calls Tryz.prog 103 #[] w (CdrRetF w) := by
 obtain ⟨i0, hi0, hz0, hz1, hz2⟩ := info_parts infoRow
 obtain ⟨zs, z1, z2⟩ := make8 4 (by omega)
 have mk2 : ∀ W : World, Sem.run Tryz.prog (Instr.makeSlice 33 (.int .i64 4) (.int .i64 4)) W = .ok (.slice (some ⟨W.heap.size, 0, none⟩) 4 4) (W.alloc (.cells zs 5)) := z2
 have HZ := Lib.hid z1
 clear z1 z2
 go_enter Tryz.func103, Tryz.ntmps103
 go_wp2_with fail
 refine (fnew w).mono ?_
 rintro e w1 ⟨rfl, hf, hb⟩
 generalize hfb : w.heap.size = f at *
 have HFB := Lib.hid hfb
 have HF := Lib.hid hf
 have HB := Lib.hid hb
 clear hfb hf hb
 have A1 := alloc_block w1 (.cells zs 5)
 have A2 := alloc_block (w1.alloc (.cells zs 5)) (.cells zs 5)
 rw [alloc_size] at A2
 have A3 := (alloc_old (w1.alloc (.cells zs 5)) (.cells zs 5) (k := w1.heap.size) (by rw [alloc_size]; omega)).trans A1
 have zero : ∀ (W : World) (b : Nat) (F : Nat → Nat), W.heap[b]? = some (.cells zs 5 (0, 0)) → (∀ j, F j = 0) → Row8 W b 4 F := fun W b F h hF => ⟨fun j hj => by rw [cell_of_block h, HZ.out j hj, hF]; rfl, fun j => free_of_block h⟩
 have H0 : ∀ W, W = ((w1.alloc (.cells zs 5)).alloc (.cells zs 5)).drew → Hid (Two w1 W w1.heap.size (w1.heap.size + 1) 0 ∧ Two w1 W (w1.heap.size + 1) w1.heap.size 0) := fun W hW => by
  subst hW
  have b0 : Below w1.heap.size w1 ((w1.alloc (.cells zs 5)).alloc (.cells zs 5)).drew := (((Below.refl _ w1).alloc (Nat.le_refl _) _).alloc (by simp) _).drew
  have x1 : ∀ F : Nat → Nat, (∀ j, F j = 0) → Row8 ((w1.alloc (.cells zs 5)).alloc (.cells zs 5)).drew w1.heap.size 4 F := fun F hF => zero _ _ F A3 hF
  have x2 : ∀ F : Nat → Nat, (∀ j, F j = 0) → Row8 ((w1.alloc (.cells zs 5)).alloc (.cells zs 5)).drew (w1.heap.size + 1) 4 F := fun F hF => zero _ _ F A2 hF
  exact Lib.hid ⟨⟨by omega, by omega, by omega, x1 _ (fun j => if_neg (Nat.not_lt_zero _)), x2 _ (fun j => if_neg (Nat.not_lt_zero _)), b0⟩, ⟨by omega, by omega, by omega, x2 _ (fun j => if_neg (Nat.not_lt_zero _)), x1 _ (fun j => if_neg (Nat.not_lt_zero _)), b0⟩⟩
 clear zero A1 A2 A3
 go_wp2_with fail
 go_region
 all_goals go_wp2_with fail
 ·have H1 := H0 _ rfl
  generalize ((w1.alloc (.cells zs 5)).alloc (.cells zs 5)).drew = w2 at *
  clear H0
  generalize w1.heap.size + 1 = b at *
  generalize w1.heap.size = a at *
  have H2 : Hid (Two w1 w2 a b 0) := Lib.hid H1.out.1
  clear H1
  go_loopg [8] 4 (fun q s8 v => ∃ (k : Nat), s8 = .int .i64 (k : Int) ∧ k ≤ 4 ∧ q = 4 - k ∧ Hid (Two w1 v a b k))
  case atStart => exact ⟨0, rfl, by omega, rfl, H2⟩
  case round =>
   obtain ⟨k, rfl, hk, rfl, HT⟩ := hrel
   clear H2
   by_cases hlt : k < 4
   ·have hl : (k : Int) < 4 := by omega
    have hfw : Fld wr f := HF.out.keep HT.out.below
    have e1 := HT.out.sum.cell k hlt
    have f1 := HT.out.sum.free k
    rw [if_neg (Nat.lt_irrefl k)] at e1
    have e2 : (wr.setCell ⟨a, k, none⟩ (.int .u8 1)).cell? ⟨b, k, none⟩ = some (.int .u8 0) := by
     rw [cell_far (Or.inl (fun e => HT.out.ne e.symm)), HT.out.pow.cell k hlt, if_neg (Nat.lt_irrefl k)]; rfl
    have f2 : (wr.setCell ⟨a, k, none⟩ (.int .u8 1)).frozen? ⟨b, k, none⟩ = false := by rw [World.frozen?_setCell]; exact HT.out.pow.free k
    have hx := fexp f k wr hfw (by omega)
    have hk255 : ((k : Int) % 255).toNat = k := by omega
    rw [hk255] at hx
    have HX := Lib.hid hx
    have HN := Lib.hid (HT.out.next hlt)
    clear hx hk255
    go_wp2_with fail
    refine HX.out.mono ?_
    rintro e w' ⟨rfl, hw⟩
    obtain rfl := hw.symm
    go_wp2_with fail
    go_roundg (4 - (k + 1))
    case measure => omega
    case rel => exact ⟨k + 1, by go_num, by omega, rfl, HN⟩
   ·obtain rfl : k = 4 := by omega
    have HI := Lib.hid (midentity 4 wr (by omega) (by omega))
    go_wp2_with fail
    refine HI.out.mono ?_
    rintro e w3 ⟨rfl, ho, hb3⟩
    have HBA : Hid (Below w.heap.size w w3) := Lib.hid (by
     have h1 := HT.out.below
     have h2 := HB.out
     rw [← HFB.out] at h2
     exact (h2.trans (h1.mono h2.size)).trans (hb3.mono (Nat.le_trans h2.size h1.size)))
    have HFW : Hid (Fld w3 f) := Lib.hid ((HF.out.keep HT.out.below).keep hb3)
    have HRA : Hid (Row8 w3 a 4 (fun _ => 1)) := Lib.hid ((HT.out.sum.keep (hb3.block _ (cell?_lt (HT.out.sum.cell 0 (by omega))))).congr (fun j hj => if_pos hj))
    have HRB : Hid (Row8 w3 b 4 pw) := Lib.hid ((HT.out.pow.keep (hb3.block _ (cell?_lt (HT.out.pow.cell 0 (by omega))))).congr (fun j hj => if_pos hj))
    have HO := Lib.hid ho
    have HLA : Hid (w.heap.size ≤ a ∧ w.heap.size ≤ b ∧ w.heap.size ≤ wr.heap.size) := Lib.hid (by
     have h1 := HT.out.la
     have h2 := HT.out.lb
     have h3 := HB.out.size
     have h4 := HT.out.below.size
     exact ⟨by omega, by omega, by omega⟩)
    clear ho hb3 HT HI
    generalize wr.heap.size = n3 at *
    go_wp2_with (at_builtin; refine wpList_append_grows _ rfl _ _ 105 rfl 33 i0 (.slice none 0 0) 1 24 Tryz.underlying105 hi0 hz0 hz1 hz2 rfl (by decide) (some ⟨n3, 0, none⟩) 4 4 ((List.range 4).map fun i => .slice (some ⟨n3 + 1 + i, 0, none⟩) 4 4) rfl (fun h => by cases h) rfl ?old ⟨w3.heap.size, 0, none⟩ 2 2 [.slice (some ⟨a, 0, none⟩) 4 4, .slice (some ⟨b, 0, none⟩) 4 4] rfl rfl ?new (by intro u hu; simp at hu; rcases hu with rfl | rfl <;> rfl) (by omega) (by unfold maxLen; omega) (by omega) ?next)
    case old =>
     intro b' hb' j u hj
     cases hb'
     have hj4 : j < 4 := by have := (List.getElem?_eq_some_iff.1 hj).1; simpa using this
     have hn3 : n3 < w3.heap.size := HO.out.lt (by omega)
     rw [addr_add, Nat.zero_add, World.cell?_of_block (alloc_old w3 _ hn3), HO.out.outer j hj4]
     simp [hj4] at hj
     rw [← hj]
    case new =>
     intro j u hj
     have hj2 : j < 2 := by have := (List.getElem?_eq_some_iff.1 hj).1; simpa using this
     rw [addr_add, Nat.zero_add, cell_of_block (alloc_block w3 _)]
     have hj01 : j = 0 ∨ j = 1 := by omega
     rcases hj01 with rfl | rfl <;> exact hj
    case next =>
     intro v' w4 own gr'
     obtain ⟨g, cap, rfl⟩ := own_succ own
     have HW := Lib.hid own
     have HG := Lib.hid gr'
     clear own gr'
     go_wp2_with fail
     go_ret
     have hs3 : w3.heap.size + 1 ≤ w4.heap.size := by have := HG.out.size; rw [alloc_size] at this; exact this
     have b4 : Below w3.heap.size w3 w4 := ((Below.refl _ w3).alloc (Nat.le_refl _) _).grown HG.out (by rw [alloc_size]; omega) (fun k hk => by cases hk)
     have b5 := b4.alloc (o := .cells #[.pointer (some ⟨f, 0, none⟩), .slice (some ⟨g, 0, none⟩) 6 cap] 219) (by omega)
     have hbl := alloc_block w4 (.cells #[.pointer (some ⟨f, 0, none⟩), .slice (some ⟨g, 0, none⟩) 6 cap] 219)
     have hw3 : w.heap.size ≤ w3.heap.size := HBA.out.size
     have hgl : g < w4.heap.size := cell?_lt (HW.out.cells (g := g) rfl 0 _ rfl)
     have row8 : ∀ {h : Nat} {F : Nat → Nat}, Row8 w3 h 4 F → Row8 (w4.alloc (.cells #[.pointer (some ⟨f, 0, none⟩), .slice (some ⟨g, 0, none⟩) 6 cap] 219)) h 4 F := fun h => h.keep (b5.block _ (cell?_lt (h.cell 0 (by omega))))
     have place : ∀ i u, ((List.range 4).map (fun i => Value.slice (some ⟨n3 + 1 + i, 0, none⟩) 4 4) ++ [.slice (some ⟨a, 0, none⟩) 4 4, .slice (some ⟨b, 0, none⟩) 4 4])[i]? = some u → (w4.alloc (.cells #[.pointer (some ⟨f, 0, none⟩), .slice (some ⟨g, 0, none⟩) 6 cap] 219)).cell? ⟨g, 0 + i, none⟩ = some u := fun i u hu => by
      rw [World.cell?_of_block (alloc_old w4 _ hgl), ← addr_add]
      exact HW.out.cells (g := g) rfl i u hu
     refine ⟨w4.heap.size, f, g, cap, rfl, ⟨by rw [cell_of_block hbl]; rfl, HFW.out.keep b5, by rw [cell_of_block hbl]; rfl, ?_, own_cap6 HW.out⟩, HBA.out.trans (b5.mono hw3), by omega, Nat.le_of_eq HFB.out, ?_, fun i hi => ?_⟩
     rotate_left
     ·rcases HW.out.2 with ⟨h0, _⟩ | ⟨g', cap', cur, e1, h2, _⟩
      ·cases h0
      ·cases e1
       omega
     ·have hla := HLA.out
      by_cases h4 : i < 4
      ·exact ⟨n3 + 1 + i, 0, 4, by have := place i (.slice (some ⟨n3 + 1 + i, 0, none⟩) 4 4) (by rw [List.getElem?_append_left (by simpa using h4)]; simp [h4]); rwa [Nat.zero_add] at this, by omega⟩
      ·by_cases h5 : i = 4
       ·subst h5
        exact ⟨a, 0, 4, place 4 _ rfl, hla.1⟩
       ·obtain rfl : i = 5 := by omega
        exact ⟨b, 0, 4, place 5 _ rfl, hla.2.1⟩
     refine rawIn_of fun i hi => ?_
     by_cases h4 : i < 4
     ·refine ⟨n3 + 1 + i, 0, 4, place i _ (by rw [List.getElem?_append_left (by simpa using h4)]; simp [h4]), fun j hj => ?_⟩
      rw [Nat.zero_add, (row8 (HO.out.row8 h4)).cell j hj]
      unfold gr
      rw [if_pos h4]
     ·by_cases h5 : i = 4
      ·subst h5
       refine ⟨a, 0, 4, place 4 _ rfl, fun j hj => ?_⟩
       rw [Nat.zero_add, (row8 HRA.out).cell j hj]
       rfl
      ·obtain rfl : i = 5 := by omega
       refine ⟨b, 0, 4, place 5 _ rfl, fun j hj => ?_⟩
       rw [Nat.zero_add, (row8 HRB.out).cell j hj]
       rfl
 ·have H1 := H0 _ rfl
  generalize ((w1.alloc (.cells zs 5)).alloc (.cells zs 5)).drew = w2 at *
  clear H0
  generalize w1.heap.size + 1 = a at *
  generalize w1.heap.size = b at *
  have H2 : Hid (Two w1 w2 a b 0) := Lib.hid H1.out.2
  clear H1
  go_loopg [8] 4 (fun q s8 v => ∃ (k : Nat), s8 = .int .i64 (k : Int) ∧ k ≤ 4 ∧ q = 4 - k ∧ Hid (Two w1 v a b k))
  case atStart => exact ⟨0, rfl, by omega, rfl, H2⟩
  case round =>
   obtain ⟨k, rfl, hk, rfl, HT⟩ := hrel
   clear H2
   by_cases hlt : k < 4
   ·have hl : (k : Int) < 4 := by omega
    have hfw : Fld wr f := HF.out.keep HT.out.below
    have e1 := HT.out.sum.cell k hlt
    have f1 := HT.out.sum.free k
    rw [if_neg (Nat.lt_irrefl k)] at e1
    have e2 : (wr.setCell ⟨a, k, none⟩ (.int .u8 1)).cell? ⟨b, k, none⟩ = some (.int .u8 0) := by
     rw [cell_far (Or.inl (fun e => HT.out.ne e.symm)), HT.out.pow.cell k hlt, if_neg (Nat.lt_irrefl k)]; rfl
    have f2 : (wr.setCell ⟨a, k, none⟩ (.int .u8 1)).frozen? ⟨b, k, none⟩ = false := by rw [World.frozen?_setCell]; exact HT.out.pow.free k
    have hx := fexp f k wr hfw (by omega)
    have hk255 : ((k : Int) % 255).toNat = k := by omega
    rw [hk255] at hx
    have HX := Lib.hid hx
    have HN := Lib.hid (HT.out.next hlt)
    clear hx hk255
    go_wp2_with fail
    refine HX.out.mono ?_
    rintro e w' ⟨rfl, hw⟩
    obtain rfl := hw.symm
    go_wp2_with fail
    go_roundg (4 - (k + 1))
    case measure => omega
    case rel => exact ⟨k + 1, by go_num, by omega, rfl, HN⟩
   ·obtain rfl : k = 4 := by omega
    have HI := Lib.hid (midentity 4 wr (by omega) (by omega))
    go_wp2_with fail
    refine HI.out.mono ?_
    rintro e w3 ⟨rfl, ho, hb3⟩
    have HBA : Hid (Below w.heap.size w w3) := Lib.hid (by
     have h1 := HT.out.below
     have h2 := HB.out
     rw [← HFB.out] at h2
     exact (h2.trans (h1.mono h2.size)).trans (hb3.mono (Nat.le_trans h2.size h1.size)))
    have HFW : Hid (Fld w3 f) := Lib.hid ((HF.out.keep HT.out.below).keep hb3)
    have HRA : Hid (Row8 w3 a 4 (fun _ => 1)) := Lib.hid ((HT.out.sum.keep (hb3.block _ (cell?_lt (HT.out.sum.cell 0 (by omega))))).congr (fun j hj => if_pos hj))
    have HRB : Hid (Row8 w3 b 4 pw) := Lib.hid ((HT.out.pow.keep (hb3.block _ (cell?_lt (HT.out.pow.cell 0 (by omega))))).congr (fun j hj => if_pos hj))
    have HO := Lib.hid ho
    have HLA : Hid (w.heap.size ≤ a ∧ w.heap.size ≤ b ∧ w.heap.size ≤ wr.heap.size) := Lib.hid (by
     have h1 := HT.out.la
     have h2 := HT.out.lb
     have h3 := HB.out.size
     have h4 := HT.out.below.size
     exact ⟨by omega, by omega, by omega⟩)
    clear ho hb3 HT HI
    generalize wr.heap.size = n3 at *
    go_wp2_with (at_builtin; refine wpList_append_grows _ rfl _ _ 105 rfl 33 i0 (.slice none 0 0) 1 24 Tryz.underlying105 hi0 hz0 hz1 hz2 rfl (by decide) (some ⟨n3, 0, none⟩) 4 4 ((List.range 4).map fun i => .slice (some ⟨n3 + 1 + i, 0, none⟩) 4 4) rfl (fun h => by cases h) rfl ?old ⟨w3.heap.size, 0, none⟩ 2 2 [.slice (some ⟨a, 0, none⟩) 4 4, .slice (some ⟨b, 0, none⟩) 4 4] rfl rfl ?new (by intro u hu; simp at hu; rcases hu with rfl | rfl <;> rfl) (by omega) (by unfold maxLen; omega) (by omega) ?next)
    case old =>
     intro b' hb' j u hj
     cases hb'
     have hj4 : j < 4 := by have := (List.getElem?_eq_some_iff.1 hj).1; simpa using this
     have hn3 : n3 < w3.heap.size := HO.out.lt (by omega)
     rw [addr_add, Nat.zero_add, World.cell?_of_block (alloc_old w3 _ hn3), HO.out.outer j hj4]
     simp [hj4] at hj
     rw [← hj]
    case new =>
     intro j u hj
     have hj2 : j < 2 := by have := (List.getElem?_eq_some_iff.1 hj).1; simpa using this
     rw [addr_add, Nat.zero_add, cell_of_block (alloc_block w3 _)]
     have hj01 : j = 0 ∨ j = 1 := by omega
     rcases hj01 with rfl | rfl <;> exact hj
    case next =>
     intro v' w4 own gr'
     obtain ⟨g, cap, rfl⟩ := own_succ own
     have HW := Lib.hid own
     have HG := Lib.hid gr'
     clear own gr'
     go_wp2_with fail
     go_ret
     have hs3 : w3.heap.size + 1 ≤ w4.heap.size := by have := HG.out.size; rw [alloc_size] at this; exact this
     have b4 : Below w3.heap.size w3 w4 := ((Below.refl _ w3).alloc (Nat.le_refl _) _).grown HG.out (by rw [alloc_size]; omega) (fun k hk => by cases hk)
     have b5 := b4.alloc (o := .cells #[.pointer (some ⟨f, 0, none⟩), .slice (some ⟨g, 0, none⟩) 6 cap] 219) (by omega)
     have hbl := alloc_block w4 (.cells #[.pointer (some ⟨f, 0, none⟩), .slice (some ⟨g, 0, none⟩) 6 cap] 219)
     have hw3 : w.heap.size ≤ w3.heap.size := HBA.out.size
     have hgl : g < w4.heap.size := cell?_lt (HW.out.cells (g := g) rfl 0 _ rfl)
     have row8 : ∀ {h : Nat} {F : Nat → Nat}, Row8 w3 h 4 F → Row8 (w4.alloc (.cells #[.pointer (some ⟨f, 0, none⟩), .slice (some ⟨g, 0, none⟩) 6 cap] 219)) h 4 F := fun h => h.keep (b5.block _ (cell?_lt (h.cell 0 (by omega))))
     have place : ∀ i u, ((List.range 4).map (fun i => Value.slice (some ⟨n3 + 1 + i, 0, none⟩) 4 4) ++ [.slice (some ⟨a, 0, none⟩) 4 4, .slice (some ⟨b, 0, none⟩) 4 4])[i]? = some u → (w4.alloc (.cells #[.pointer (some ⟨f, 0, none⟩), .slice (some ⟨g, 0, none⟩) 6 cap] 219)).cell? ⟨g, 0 + i, none⟩ = some u := fun i u hu => by
      rw [World.cell?_of_block (alloc_old w4 _ hgl), ← addr_add]
      exact HW.out.cells (g := g) rfl i u hu
     refine ⟨w4.heap.size, f, g, cap, rfl, ⟨by rw [cell_of_block hbl]; rfl, HFW.out.keep b5, by rw [cell_of_block hbl]; rfl, ?_, own_cap6 HW.out⟩, HBA.out.trans (b5.mono hw3), by omega, Nat.le_of_eq HFB.out, ?_, fun i hi => ?_⟩
     rotate_left
     ·rcases HW.out.2 with ⟨h0, _⟩ | ⟨g', cap', cur, e1, h2, _⟩
      ·cases h0
      ·cases e1
       omega
     ·have hla := HLA.out
      by_cases h4 : i < 4
      ·exact ⟨n3 + 1 + i, 0, 4, by have := place i (.slice (some ⟨n3 + 1 + i, 0, none⟩) 4 4) (by rw [List.getElem?_append_left (by simpa using h4)]; simp [h4]); rwa [Nat.zero_add] at this, by omega⟩
      ·by_cases h5 : i = 4
       ·subst h5
        exact ⟨a, 0, 4, place 4 _ rfl, hla.1⟩
       ·obtain rfl : i = 5 := by omega
        exact ⟨b, 0, 4, place 5 _ rfl, hla.2.1⟩
     refine rawIn_of fun i hi => ?_
     by_cases h4 : i < 4
     ·refine ⟨n3 + 1 + i, 0, 4, place i _ (by rw [List.getElem?_append_left (by simpa using h4)]; simp [h4]), fun j hj => ?_⟩
      rw [Nat.zero_add, (row8 (HO.out.row8 h4)).cell j hj]
      unfold gr
      rw [if_pos h4]
     ·by_cases h5 : i = 4
      ·subst h5
       refine ⟨a, 0, 4, place 4 _ rfl, fun j hj => ?_⟩
       rw [Nat.zero_add, (row8 HRA.out).cell j hj]
       rfl
      ·obtain rfl : i = 5 := by omega
       refine ⟨b, 0, 4, place 5 _ rfl, fun j hj => ?_⟩
       rw [Nat.zero_add, (row8 HRB.out).cell j hj]
       rfl
end Go.Proofs.YtelmcchleclklaaGreat.Kc
