import Derived.Test.YtobkmohoepgfmaaGreatDoorV28
import Derived.BigRegion
import Derived.Lib.AppendZeros
import Derived.Deep.CutBlock
namespace Go.Proofs.YtobkmohoepgfmaaGreatDoor.Kc
open Go.RowKit Go.Sort
set_option maxRecDepth 100000
set_option maxHeartbeats 1000000

structure Cdr (w : World) (c f o cap : Nat) : Prop where
 ptr : w.cell? ⟨c, 0, none⟩ = some (.pointer (some ⟨f, 0, none⟩))
 fld : Fld w f
 rows : w.cell? ⟨c, 1, none⟩ = some (.slice (some ⟨o, 0, none⟩) 6 cap)
 raw : RawIn w (some ⟨o, 0, none⟩) (rowsOf 6 4 gr)
 cap6 : 6 ≤ cap
theorem Cdr.lt {w : World} {c f o cap : Nat} (h : Cdr w c f o cap) : c < w.heap.size := cell?_lt h.ptr
theorem Cdr.keep {w w' : World} {c f o cap : Nat} (h : Cdr w c f o cap) (b : Below w.heap.size w w') : Cdr w' c f o cap :=
 ⟨(b.cell (p := ⟨c, 0, none⟩) h.lt).trans h.ptr, h.fld.keep b, (b.cell (p := ⟨c, 1, none⟩) h.lt).trans h.rows, h.raw.keep b, h.cap6⟩
def CdrFrom (A : Nat) (w : World) (c f o : Nat) : Prop := A ≤ c ∧ A ≤ f ∧ A ≤ o ∧ ∀ i, i < 6 → ∃ g q k, w.cell? ⟨o, i, none⟩ = some (.slice (some ⟨g, q, none⟩) 4 k) ∧ A ≤ g
def CdrRetF (w : World) (e : Ending) (w' : World) : Prop := ∃ c f o cap, e = .returned (.pointer (some ⟨c, 0, none⟩)) ∧ Cdr w' c f o cap ∧ Below w.heap.size w w' ∧ CdrFrom w.heap.size w' c f o
def CdrIn (A B : Nat) (w : World) (c f o : Nat) : Prop := (A ≤ c ∧ c < B) ∧ (A ≤ f ∧ f < B) ∧ (A ≤ o ∧ o < B) ∧ ∀ i, i < 6 → ∃ g q k, w.cell? ⟨o, i, none⟩ = some (.slice (some ⟨g, q, none⟩) 4 k) ∧ A ≤ g ∧ g < B
theorem Cdr.upto {w : World} {A c f o cap : Nat} (h : Cdr w c f o cap) (hf : CdrFrom A w c f o) : CdrIn A w.heap.size w c f o := by
 obtain ⟨f1, f2, f3, f4⟩ := hf
 have ho : o < w.heap.size := by
  obtain ⟨g, q, k, hk, _⟩ := f4 0 (by omega)
  exact cell?_lt hk
 refine ⟨⟨f1, h.lt⟩, ⟨f2, h.fld.lt⟩, ⟨f3, ho⟩, fun i hi => ?_⟩
 obtain ⟨g4, q4, k4, c4, l4⟩ := f4 i hi
 obtain ⟨b, o2, e1, hb, g, k, hk, hx⟩ := h.raw i ((List.range 4).map (gr i)) (by simp [rowsOf, hi])
 cases e1
 obtain ⟨h1, q, e2, h2, _⟩ := hx 0 (gr i 0) rfl
 subst e2
 rw [Nat.zero_add, c4] at hk
 injection hk with hk
 injection hk with e1 e2 e3
 injection e1 with e1
 injection e1 with e1 e4
 subst e1
 exact ⟨_, _, _, c4, l4, h2⟩
theorem Cdr.keepA {w w' : World} {A B c f o cap : Nat} (h : Cdr w c f o cap) (hf : CdrIn A B w c f o) (hs : w.heap.size ≤ w'.heap.size) (e : ∀ k, A ≤ k → k < B → w'.heap[k]? = w.heap[k]?) : Cdr w' c f o cap ∧ CdrIn A B w' c f o := by
 obtain ⟨⟨f1, g1⟩, ⟨f2, g2⟩, ⟨f3, g3⟩, f4⟩ := hf
 have hc : ∀ b k, A ≤ b → b < B → w'.cell? ⟨b, k, none⟩ = w.cell? ⟨b, k, none⟩ := fun b k h1 h2 => World.cell?_of_block (w := w) (e b h1 h2)
 have ho : o < w.heap.size := by
  obtain ⟨g, q, k, hk, _⟩ := f4 0 (by omega)
  exact cell?_lt hk
 refine ⟨⟨(hc c 0 f1 g1).trans h.ptr, ⟨fun k hk => (hc f k f2 g2).trans (h.fld.exp k hk), fun k hk => (hc f _ f2 g2).trans (h.fld.log k hk)⟩, (hc c 1 f1 g1).trans h.rows, fun i xs hi => ?_, h.cap6⟩, ⟨f1, g1⟩, ⟨f2, g2⟩, ⟨f3, g3⟩, fun i hi => ?_⟩
 ·obtain ⟨b, o2, e1, hb, g, k, hk, hx⟩ := h.raw i xs hi
  cases e1
  refine ⟨o, 0, rfl, Nat.lt_of_lt_of_le ho hs, g, k, (hc o _ f3 g3).trans hk, fun j x hj => ?_⟩
  obtain ⟨h1, q, e2, h2, h3⟩ := hx j x hj
  subst e2
  have hi6 : i < 6 := by
   have := (List.getElem?_eq_some_iff.1 hi).1
   simpa [rowsOf] using this
  obtain ⟨g4, q4, k4, c4, l4, m4⟩ := f4 i hi6
  rw [Nat.zero_add, c4] at hk
  injection hk with hk
  injection hk with e1 e2 e3
  injection e1 with e1
  injection e1 with e1 e4
  subst e1
  exact ⟨_, _, rfl, Nat.lt_of_lt_of_le h2 hs, (hc _ _ l4 m4).trans h3⟩
 ·obtain ⟨g, q, k, hk, hl⟩ := f4 i hi
  exact ⟨g, q, k, (hc o i f3 g3).trans hk, hl⟩
theorem own_succ {W : World} {base : Nat} {e : TypeId} {size : Nat} {v : Value} {k : Nat} {xs : List Value} (h : W.ownsRow base e size v (k + 1) xs) : ∃ g cap, v = .slice (some ⟨g, 0, none⟩) (k + 1) cap := by
 rcases h.2 with ⟨_, h0⟩ | ⟨g, cap, _, rfl, _⟩
 ·omega
 ·exact ⟨g, cap, rfl⟩
theorem own_cap6 {w : World} {B g n cap : Nat} {e : TypeId} {xs : List Value} (h : w.ownsRow B e 1 (.slice (some ⟨g, 0, none⟩) n cap) n xs) : n ≤ cap := by
 rcases h.2 with ⟨h0, _⟩ | ⟨g', cap', cur, e1, _, _, h3, _⟩
 ·cases h0
 ·cases e1; exact h3
theorem cmade (c f o cap : Nat) (w : World) (h : Cdr w c f o cap) : Calls Tryz.prog 81 #[.pointer (some ⟨c, 0, none⟩)] w fun e w' => e = .returned (.bool true) ∧ w' = w := by
 have h1 := h.rows
 go_enter Tryz.func81, Tryz.ntmps81
 go_wp2_with fail
 go_ret
 exact ⟨rfl, rfl⟩

structure Two (w1 v : World) (a b k : Nat) : Prop where
 ne : a ≠ b
 la : w1.heap.size ≤ a
 lb : w1.heap.size ≤ b
 sum : Row8 v a 4 (fun j => if j < k then 1 else 0)
 pow : Row8 v b 4 (fun j => if j < k then pw j else 0)
 below : Below w1.heap.size w1 v
theorem Two.next {w1 v : World} {a b k : Nat} (h : Two w1 v a b k) (hk : k < 4) : Two w1 ((v.setCell ⟨a, k, none⟩ (.int .u8 1)).setCell ⟨b, k, none⟩ (.int .u8 (pw k : Nat))) a b (k + 1) := by
 have p1 := h.sum.put (q := k) (x := 1) hk
 have o1 : ∀ (v : World) (x y : Nat) (u : Value), x ≠ y → (v.setCell ⟨y, k, none⟩ u).heap[x]? = v.heap[x]? := fun v x y u hne => Below.heap_setCell v ⟨y, k, none⟩ u x (fun e => hne e)
 have p2 : Row8 (v.setCell ⟨a, k, none⟩ (.int .u8 1)) b 4 (fun j => if j < k then pw j else 0) := h.pow.keep (o1 v b a _ (fun e => h.ne e.symm))
 have p3 := p2.put (q := k) (x := pw k) hk
 have p4 : Row8 ((v.setCell ⟨a, k, none⟩ (.int .u8 1)).setCell ⟨b, k, none⟩ (.int .u8 (pw k : Nat))) a 4 _ := p1.keep (o1 _ a b _ h.ne)
 refine ⟨h.ne, h.la, h.lb, p4.congr (fun j _ => ?_), p3.congr (fun j _ => ?_), (h.below.setCell (p := ⟨a, k, none⟩) h.la _).setCell (p := ⟨b, k, none⟩) h.lb _⟩
 ·by_cases e : j = k
  ·subst e; simp
  ·simp only [if_neg e]
   by_cases h2 : j < k
   ·rw [if_pos h2, if_pos (by omega)]
   ·rw [if_neg h2, if_neg (by omega)]
 ·by_cases e : j = k
  ·subst e; simp
  ·simp only [if_neg e]
   by_cases h2 : j < k
   ·rw [if_pos h2, if_pos (by omega)]
   ·rw [if_neg h2, if_neg (by omega)]

theorem cnewF (w : World) : Calls Tryz.prog 49 #[] w (CdrRetF w) := by
 obtain ⟨i0, hi0, hz0, hz1, hz2⟩ := info_parts infoRow
 obtain ⟨zs, z1, z2⟩ := make8 4 (by omega)
 have mk2 : ∀ W : World, Sem.run Tryz.prog (Instr.makeSlice 36 (.int .i64 4) (.int .i64 4)) W = .ok (.slice (some ⟨W.heap.size, 0, none⟩) 4 4) (W.alloc (.cells zs 5)) := z2
 have HZ := Lib.hid z1
 clear z1 z2
 go_enter Tryz.func49, Tryz.ntmps49
 go_wp2_with fail
 refine (fnew w).mono ?_
 rintro e w1 ⟨rfl, hf, hb⟩
 generalize hfb : w.heap.size = f at *
 have HFB := Lib.hid hfb
 have HF := Lib.hid hf
 have HB := Lib.hid hb
 clear hfb hf hb
 have A1 := alloc_block w1 (.cells zs 5)
 have A2 := alloc_block (w1.alloc (.cells zs 5)) (.cells zs 5)
 rw [alloc_size] at A2
 have A3 := (alloc_old (w1.alloc (.cells zs 5)) (.cells zs 5) (k := w1.heap.size) (by rw [alloc_size]; omega)).trans A1
 have zero : ∀ (W : World) (b : Nat) (F : Nat → Nat), W.heap[b]? = some (.cells zs 5 (0, 0)) → (∀ j, F j = 0) → Row8 W b 4 F := fun W b F h hF => ⟨fun j hj => by rw [cell_of_block h, HZ.out j hj, hF]; rfl, fun j => free_of_block h⟩
 have H0 : ∀ W, W = ((w1.alloc (.cells zs 5)).alloc (.cells zs 5)).drew → Hid (Two w1 W w1.heap.size (w1.heap.size + 1) 0 ∧ Two w1 W (w1.heap.size + 1) w1.heap.size 0) := fun W hW => by
  subst hW
  have b0 : Below w1.heap.size w1 ((w1.alloc (.cells zs 5)).alloc (.cells zs 5)).drew := (((Below.refl _ w1).alloc (Nat.le_refl _) _).alloc (by simp) _).drew
  have x1 : ∀ F : Nat → Nat, (∀ j, F j = 0) → Row8 ((w1.alloc (.cells zs 5)).alloc (.cells zs 5)).drew w1.heap.size 4 F := fun F hF => zero _ _ F A3 hF
  have x2 : ∀ F : Nat → Nat, (∀ j, F j = 0) → Row8 ((w1.alloc (.cells zs 5)).alloc (.cells zs 5)).drew (w1.heap.size + 1) 4 F := fun F hF => zero _ _ F A2 hF
  exact Lib.hid ⟨⟨by omega, by omega, by omega, x1 _ (fun j => if_neg (Nat.not_lt_zero _)), x2 _ (fun j => if_neg (Nat.not_lt_zero _)), b0⟩, ⟨by omega, by omega, by omega, x2 _ (fun j => if_neg (Nat.not_lt_zero _)), x1 _ (fun j => if_neg (Nat.not_lt_zero _)), b0⟩⟩
 clear zero A1 A2 A3
 go_wp2_with fail
 go_region
 all_goals go_wp2_with fail
 ·have H1 := H0 _ rfl
  generalize ((w1.alloc (.cells zs 5)).alloc (.cells zs 5)).drew = w2 at *
  clear H0
  generalize w1.heap.size + 1 = b at *
  generalize w1.heap.size = a at *
  have H2 : Hid (Two w1 w2 a b 0) := Lib.hid H1.out.1
  clear H1
  go_loopg [8] 4 (fun q s8 v => ∃ (k : Nat), s8 = .int .i64 (k : Int) ∧ k ≤ 4 ∧ q = 4 - k ∧ Hid (Two w1 v a b k))
  case atStart => exact ⟨0, rfl, by omega, rfl, H2⟩
  case round =>
   obtain ⟨k, rfl, hk, rfl, HT⟩ := hrel
   clear H2
   by_cases hlt : k < 4
   ·have hl : (k : Int) < 4 := by omega
    have hfw : Fld wr f := HF.out.keep HT.out.below
    have e1 := HT.out.sum.cell k hlt
    have f1 := HT.out.sum.free k
    rw [if_neg (Nat.lt_irrefl k)] at e1
    have e2 : (wr.setCell ⟨a, k, none⟩ (.int .u8 1)).cell? ⟨b, k, none⟩ = some (.int .u8 0) := by
     rw [cell_far (Or.inl (fun e => HT.out.ne e.symm)), HT.out.pow.cell k hlt, if_neg (Nat.lt_irrefl k)]; rfl
    have f2 : (wr.setCell ⟨a, k, none⟩ (.int .u8 1)).frozen? ⟨b, k, none⟩ = false := by rw [World.frozen?_setCell]; exact HT.out.pow.free k
    have hx := fexp f k wr hfw (by omega)
    have hk255 : ((k : Int) % 255).toNat = k := by omega
    rw [hk255] at hx
    have HX := Lib.hid hx
    have HN := Lib.hid (HT.out.next hlt)
    clear hx hk255
    go_wp2_with fail
    refine HX.out.mono ?_
    rintro e w' ⟨rfl, hw⟩
    obtain rfl := hw.symm
    go_wp2_with fail
    go_roundg (4 - (k + 1))
    case measure => omega
    case rel => exact ⟨k + 1, by go_num, by omega, rfl, HN⟩
   ·obtain rfl : k = 4 := by omega
    have HI := Lib.hid (midentity 4 wr (by omega) (by omega))
    go_wp2_with fail
    refine HI.out.mono ?_
    rintro e w3 ⟨rfl, ho, hb3⟩
    have HBA : Hid (Below w.heap.size w w3) := Lib.hid (by
     have h1 := HT.out.below
     have h2 := HB.out
     rw [← HFB.out] at h2
     exact (h2.trans (h1.mono h2.size)).trans (hb3.mono (Nat.le_trans h2.size h1.size)))
    have HFW : Hid (Fld w3 f) := Lib.hid ((HF.out.keep HT.out.below).keep hb3)
    have HRA : Hid (Row8 w3 a 4 (fun _ => 1)) := Lib.hid ((HT.out.sum.keep (hb3.block _ (cell?_lt (HT.out.sum.cell 0 (by omega))))).congr (fun j hj => if_pos hj))
    have HRB : Hid (Row8 w3 b 4 pw) := Lib.hid ((HT.out.pow.keep (hb3.block _ (cell?_lt (HT.out.pow.cell 0 (by omega))))).congr (fun j hj => if_pos hj))
    have HO := Lib.hid ho
    have HLA : Hid (w.heap.size ≤ a ∧ w.heap.size ≤ b ∧ w.heap.size ≤ wr.heap.size) := Lib.hid (by
     have h1 := HT.out.la
     have h2 := HT.out.lb
     have h3 := HB.out.size
     have h4 := HT.out.below.size
     exact ⟨by omega, by omega, by omega⟩)
    clear ho hb3 HT HI
    generalize wr.heap.size = n3 at *
    go_wp2_with (at_builtin; refine wpList_append_grows _ rfl _ _ 117 rfl 36 i0 (.slice none 0 0) 1 24 Tryz.underlying117 hi0 hz0 hz1 hz2 rfl (by decide) (some ⟨n3, 0, none⟩) 4 4 ((List.range 4).map fun i => .slice (some ⟨n3 + 1 + i, 0, none⟩) 4 4) rfl (fun h => by cases h) rfl ?old ⟨w3.heap.size, 0, none⟩ 2 2 [.slice (some ⟨a, 0, none⟩) 4 4, .slice (some ⟨b, 0, none⟩) 4 4] rfl rfl ?new (by intro u hu; simp at hu; rcases hu with rfl | rfl <;> rfl) (by omega) (by unfold maxLen; omega) (by omega) ?next)
    case old =>
     intro b' hb' j u hj
     cases hb'
     have hj4 : j < 4 := by have := (List.getElem?_eq_some_iff.1 hj).1; simpa using this
     have hn3 : n3 < w3.heap.size := HO.out.lt (by omega)
     rw [addr_add, Nat.zero_add, World.cell?_of_block (alloc_old w3 _ hn3), HO.out.outer j hj4]
     simp [hj4] at hj
     rw [← hj]
    case new =>
     intro j u hj
     have hj2 : j < 2 := by have := (List.getElem?_eq_some_iff.1 hj).1; simpa using this
     rw [addr_add, Nat.zero_add, cell_of_block (alloc_block w3 _)]
     have hj01 : j = 0 ∨ j = 1 := by omega
     rcases hj01 with rfl | rfl <;> exact hj
    case next =>
     intro v' w4 own gr'
     obtain ⟨g, cap, rfl⟩ := own_succ own
     have HW := Lib.hid own
     have HG := Lib.hid gr'
     clear own gr'
     go_wp2_with fail
     go_ret
     have hs3 : w3.heap.size + 1 ≤ w4.heap.size := by have := HG.out.size; rw [alloc_size] at this; exact this
     have b4 : Below w3.heap.size w3 w4 := ((Below.refl _ w3).alloc (Nat.le_refl _) _).grown HG.out (by rw [alloc_size]; omega) (fun k hk => by cases hk)
     have b5 := b4.alloc (o := .cells #[.pointer (some ⟨f, 0, none⟩), .slice (some ⟨g, 0, none⟩) 6 cap] 167) (by omega)
     have hbl := alloc_block w4 (.cells #[.pointer (some ⟨f, 0, none⟩), .slice (some ⟨g, 0, none⟩) 6 cap] 167)
     have hw3 : w.heap.size ≤ w3.heap.size := HBA.out.size
     have hgl : g < w4.heap.size := cell?_lt (HW.out.cells (g := g) rfl 0 _ rfl)
     have row8 : ∀ {h : Nat} {F : Nat → Nat}, Row8 w3 h 4 F → Row8 (w4.alloc (.cells #[.pointer (some ⟨f, 0, none⟩), .slice (some ⟨g, 0, none⟩) 6 cap] 167)) h 4 F := fun h => h.keep (b5.block _ (cell?_lt (h.cell 0 (by omega))))
     have place : ∀ i u, ((List.range 4).map (fun i => Value.slice (some ⟨n3 + 1 + i, 0, none⟩) 4 4) ++ [.slice (some ⟨a, 0, none⟩) 4 4, .slice (some ⟨b, 0, none⟩) 4 4])[i]? = some u → (w4.alloc (.cells #[.pointer (some ⟨f, 0, none⟩), .slice (some ⟨g, 0, none⟩) 6 cap] 167)).cell? ⟨g, 0 + i, none⟩ = some u := fun i u hu => by
      rw [World.cell?_of_block (alloc_old w4 _ hgl), ← addr_add]
      exact HW.out.cells (g := g) rfl i u hu
     refine ⟨w4.heap.size, f, g, cap, rfl, ⟨by rw [cell_of_block hbl]; rfl, HFW.out.keep b5, by rw [cell_of_block hbl]; rfl, ?_, own_cap6 HW.out⟩, HBA.out.trans (b5.mono hw3), by omega, Nat.le_of_eq HFB.out, ?_, fun i hi => ?_⟩
     rotate_left
     ·rcases HW.out.2 with ⟨h0, _⟩ | ⟨g', cap', cur, e1, h2, _⟩
      ·cases h0
      ·cases e1
       omega
     ·have hla := HLA.out
      by_cases h4 : i < 4
      ·exact ⟨n3 + 1 + i, 0, 4, by have := place i (.slice (some ⟨n3 + 1 + i, 0, none⟩) 4 4) (by rw [List.getElem?_append_left (by simpa using h4)]; simp [h4]); rwa [Nat.zero_add] at this, by omega⟩
      ·by_cases h5 : i = 4
       ·subst h5
        exact ⟨a, 0, 4, place 4 _ rfl, hla.1⟩
       ·obtain rfl : i = 5 := by omega
        exact ⟨b, 0, 4, place 5 _ rfl, hla.2.1⟩
     refine rawIn_of fun i hi => ?_
     by_cases h4 : i < 4
     ·refine ⟨n3 + 1 + i, 0, 4, place i _ (by rw [List.getElem?_append_left (by simpa using h4)]; simp [h4]), fun j hj => ?_⟩
      rw [Nat.zero_add, (row8 (HO.out.row8 h4)).cell j hj]
      unfold gr
      rw [if_pos h4]
     ·by_cases h5 : i = 4
      ·subst h5
       refine ⟨a, 0, 4, place 4 _ rfl, fun j hj => ?_⟩
       rw [Nat.zero_add, (row8 HRA.out).cell j hj]
       rfl
      ·obtain rfl : i = 5 := by omega
       refine ⟨b, 0, 4, place 5 _ rfl, fun j hj => ?_⟩
       rw [Nat.zero_add, (row8 HRB.out).cell j hj]
       rfl
 ·have H1 := H0 _ rfl
  generalize ((w1.alloc (.cells zs 5)).alloc (.cells zs 5)).drew = w2 at *
  clear H0
  generalize w1.heap.size + 1 = a at *
  generalize w1.heap.size = b at *
  have H2 : Hid (Two w1 w2 a b 0) := Lib.hid H1.out.2
  clear H1
  go_loopg [8] 4 (fun q s8 v => ∃ (k : Nat), s8 = .int .i64 (k : Int) ∧ k ≤ 4 ∧ q = 4 - k ∧ Hid (Two w1 v a b k))
  case atStart => exact ⟨0, rfl, by omega, rfl, H2⟩
  case round =>
   obtain ⟨k, rfl, hk, rfl, HT⟩ := hrel
   clear H2
   by_cases hlt : k < 4
   ·have hl : (k : Int) < 4 := by omega
    have hfw : Fld wr f := HF.out.keep HT.out.below
    have e1 := HT.out.sum.cell k hlt
    have f1 := HT.out.sum.free k
    rw [if_neg (Nat.lt_irrefl k)] at e1
    have e2 : (wr.setCell ⟨a, k, none⟩ (.int .u8 1)).cell? ⟨b, k, none⟩ = some (.int .u8 0) := by
     rw [cell_far (Or.inl (fun e => HT.out.ne e.symm)), HT.out.pow.cell k hlt, if_neg (Nat.lt_irrefl k)]; rfl
    have f2 : (wr.setCell ⟨a, k, none⟩ (.int .u8 1)).frozen? ⟨b, k, none⟩ = false := by rw [World.frozen?_setCell]; exact HT.out.pow.free k
    have hx := fexp f k wr hfw (by omega)
    have hk255 : ((k : Int) % 255).toNat = k := by omega
    rw [hk255] at hx
    have HX := Lib.hid hx
    have HN := Lib.hid (HT.out.next hlt)
    clear hx hk255
    go_wp2_with fail
    refine HX.out.mono ?_
    rintro e w' ⟨rfl, hw⟩
    obtain rfl := hw.symm
    go_wp2_with fail
    go_roundg (4 - (k + 1))
    case measure => omega
    case rel => exact ⟨k + 1, by go_num, by omega, rfl, HN⟩
   ·obtain rfl : k = 4 := by omega
    have HI := Lib.hid (midentity 4 wr (by omega) (by omega))
    go_wp2_with fail
    refine HI.out.mono ?_
    rintro e w3 ⟨rfl, ho, hb3⟩
    have HBA : Hid (Below w.heap.size w w3) := Lib.hid (by
     have h1 := HT.out.below
     have h2 := HB.out
     rw [← HFB.out] at h2
     exact (h2.trans (h1.mono h2.size)).trans (hb3.mono (Nat.le_trans h2.size h1.size)))
    have HFW : Hid (Fld w3 f) := Lib.hid ((HF.out.keep HT.out.below).keep hb3)
    have HRA : Hid (Row8 w3 a 4 (fun _ => 1)) := Lib.hid ((HT.out.sum.keep (hb3.block _ (cell?_lt (HT.out.sum.cell 0 (by omega))))).congr (fun j hj => if_pos hj))
    have HRB : Hid (Row8 w3 b 4 pw) := Lib.hid ((HT.out.pow.keep (hb3.block _ (cell?_lt (HT.out.pow.cell 0 (by omega))))).congr (fun j hj => if_pos hj))
    have HO := Lib.hid ho
    have HLA : Hid (w.heap.size ≤ a ∧ w.heap.size ≤ b ∧ w.heap.size ≤ wr.heap.size) := Lib.hid (by
     have h1 := HT.out.la
     have h2 := HT.out.lb
     have h3 := HB.out.size
     have h4 := HT.out.below.size
     exact ⟨by omega, by omega, by omega⟩)
    clear ho hb3 HT HI
    generalize wr.heap.size = n3 at *
    go_wp2_with (at_builtin; refine wpList_append_grows _ rfl _ _ 117 rfl 36 i0 (.slice none 0 0) 1 24 Tryz.underlying117 hi0 hz0 hz1 hz2 rfl (by decide) (some ⟨n3, 0, none⟩) 4 4 ((List.range 4).map fun i => .slice (some ⟨n3 + 1 + i, 0, none⟩) 4 4) rfl (fun h => by cases h) rfl ?old ⟨w3.heap.size, 0, none⟩ 2 2 [.slice (some ⟨a, 0, none⟩) 4 4, .slice (some ⟨b, 0, none⟩) 4 4] rfl rfl ?new (by intro u hu; simp at hu; rcases hu with rfl | rfl <;> rfl) (by omega) (by unfold maxLen; omega) (by omega) ?next)
    case old =>
     intro b' hb' j u hj
     cases hb'
     have hj4 : j < 4 := by have := (List.getElem?_eq_some_iff.1 hj).1; simpa using this
     have hn3 : n3 < w3.heap.size := HO.out.lt (by omega)
     rw [addr_add, Nat.zero_add, World.cell?_of_block (alloc_old w3 _ hn3), HO.out.outer j hj4]
     simp [hj4] at hj
     rw [← hj]
    case new =>
     intro j u hj
     have hj2 : j < 2 := by have := (List.getElem?_eq_some_iff.1 hj).1; simpa using this
     rw [addr_add, Nat.zero_add, cell_of_block (alloc_block w3 _)]
     have hj01 : j = 0 ∨ j = 1 := by omega
     rcases hj01 with rfl | rfl <;> exact hj
    case next =>
     intro v' w4 own gr'
     obtain ⟨g, cap, rfl⟩ := own_succ own
     have HW := Lib.hid own
     have HG := Lib.hid gr'
     clear own gr'
     go_wp2_with fail
     go_ret
     have hs3 : w3.heap.size + 1 ≤ w4.heap.size := by have := HG.out.size; rw [alloc_size] at this; exact this
     have b4 : Below w3.heap.size w3 w4 := ((Below.refl _ w3).alloc (Nat.le_refl _) _).grown HG.out (by rw [alloc_size]; omega) (fun k hk => by cases hk)
     have b5 := b4.alloc (o := .cells #[.pointer (some ⟨f, 0, none⟩), .slice (some ⟨g, 0, none⟩) 6 cap] 167) (by omega)
     have hbl := alloc_block w4 (.cells #[.pointer (some ⟨f, 0, none⟩), .slice (some ⟨g, 0, none⟩) 6 cap] 167)
     have hw3 : w.heap.size ≤ w3.heap.size := HBA.out.size
     have hgl : g < w4.heap.size := cell?_lt (HW.out.cells (g := g) rfl 0 _ rfl)
     have row8 : ∀ {h : Nat} {F : Nat → Nat}, Row8 w3 h 4 F → Row8 (w4.alloc (.cells #[.pointer (some ⟨f, 0, none⟩), .slice (some ⟨g, 0, none⟩) 6 cap] 167)) h 4 F := fun h => h.keep (b5.block _ (cell?_lt (h.cell 0 (by omega))))
     have place : ∀ i u, ((List.range 4).map (fun i => Value.slice (some ⟨n3 + 1 + i, 0, none⟩) 4 4) ++ [.slice (some ⟨a, 0, none⟩) 4 4, .slice (some ⟨b, 0, none⟩) 4 4])[i]? = some u → (w4.alloc (.cells #[.pointer (some ⟨f, 0, none⟩), .slice (some ⟨g, 0, none⟩) 6 cap] 167)).cell? ⟨g, 0 + i, none⟩ = some u := fun i u hu => by
      rw [World.cell?_of_block (alloc_old w4 _ hgl), ← addr_add]
      exact HW.out.cells (g := g) rfl i u hu
     refine ⟨w4.heap.size, f, g, cap, rfl, ⟨by rw [cell_of_block hbl]; rfl, HFW.out.keep b5, by rw [cell_of_block hbl]; rfl, ?_, own_cap6 HW.out⟩, HBA.out.trans (b5.mono hw3), by omega, Nat.le_of_eq HFB.out, ?_, fun i hi => ?_⟩
     rotate_left
     ·rcases HW.out.2 with ⟨h0, _⟩ | ⟨g', cap', cur, e1, h2, _⟩
      ·cases h0
      ·cases e1
       omega
     ·have hla := HLA.out
      by_cases h4 : i < 4
      ·exact ⟨n3 + 1 + i, 0, 4, by have := place i (.slice (some ⟨n3 + 1 + i, 0, none⟩) 4 4) (by rw [List.getElem?_append_left (by simpa using h4)]; simp [h4]); rwa [Nat.zero_add] at this, by omega⟩
      ·by_cases h5 : i = 4
       ·subst h5
        exact ⟨a, 0, 4, place 4 _ rfl, hla.1⟩
       ·obtain rfl : i = 5 := by omega
        exact ⟨b, 0, 4, place 5 _ rfl, hla.2.1⟩
     refine rawIn_of fun i hi => ?_
     by_cases h4 : i < 4
     ·refine ⟨n3 + 1 + i, 0, 4, place i _ (by rw [List.getElem?_append_left (by simpa using h4)]; simp [h4]), fun j hj => ?_⟩
      rw [Nat.zero_add, (row8 (HO.out.row8 h4)).cell j hj]
      unfold gr
      rw [if_pos h4]
     ·by_cases h5 : i = 4
      ·subst h5
       refine ⟨a, 0, 4, place 4 _ rfl, fun j hj => ?_⟩
       rw [Nat.zero_add, (row8 HRA.out).cell j hj]
       rfl
      ·obtain rfl : i = 5 := by omega
       refine ⟨b, 0, 4, place 5 _ rfl, fun j hj => ?_⟩
       rw [Nat.zero_add, (row8 HRB.out).cell j hj]
       rfl
end Go.Proofs.YtobkmohoepgfmaaGreatDoor.Kc
namespace Go.Proofs.YtobkmohoepgfmaaGreatDoor.Kc
open Go.RowKit Go.Sort
set_option maxRecDepth 100000
set_option maxHeartbeats 1000000

theorem mgrow (n : Nat) (w : World) (h1 : 1 ≤ n) (h2 : n ≤ 128) :
  Calls Tryz.prog 119 #[.slice none 0 0, .int .i64 (n : Int)] w fun e w' => ∃ cap, e = .returned (.slice (some ⟨w.heap.size, 0, none⟩) 0 cap) ∧ n ≤ cap ∧
   w'.ownsRow w.heap.size 5 1 (.slice (some ⟨w.heap.size, 0, none⟩) 0 cap) 0 [] ∧ Below w.heap.size w w' := by
 obtain ⟨i0, hi0, hz0, hz1, hz2⟩ := info_parts infoByte
 obtain ⟨cap, hcap⟩ : ∃ cap, cap = grownCap w n 0 5 := ⟨_, rfl⟩
 have hr := fun ty => Lib.run_append_nil_zeros (P := Tryz.prog) w 36 3 ty 5 i0 (.int .u8 0) .i64 .i64 Tryz.underlying36 Tryz.underlying3 hi0 hz0 n (by omega) (by omega) (by omega) (by rw [hz2]; omega)
 have hge : n ≤ cap := by rw [hcap]; exact grownCap_ge _ _ _ _
 have hmx : cap ≤ maxLen := by rw [hcap]; exact grownCap_le_maxLen _ _ _ _ (by unfold maxLen; omega)
 rw [← hcap] at hr
 have hsz : (Builtin.zeroCells (Value.int .u8 0).cells n ++ Builtin.zeroCells (Value.int .u8 0).cells (cap - n)).size = cap * 1 := by
  simp [Builtin.zeroCells, Value.cells]; omega
 clear hcap
 generalize Builtin.zeroCells (Value.int .u8 0).cells n ++ Builtin.zeroCells (Value.int .u8 0).cells (cap - n) = cur at hr hsz
 have HO : Hid ((w.drew.alloc (.cells cur 5)).ownsRow w.heap.size 5 1 (.slice (some ⟨w.heap.size, 0, none⟩) 0 cap) 0 [] ∧ Below w.heap.size w (w.drew.alloc (.cells cur 5))) :=
  Lib.hid ⟨World.ownsRow_made w.drew cur cap (Nat.le_refl _) hmx hsz, (Below.refl _ _).drew.alloc (Nat.le_refl _) _⟩
 have HR : Hid (∀ ty, (Builtin.append_ #[36, 3] ty #[.slice none 0 0, .int .i64 (n : Int)]).run Tryz.prog w = .ok (.slice (some ⟨w.heap.size, 0, none⟩) n cap) (w.drew.alloc (.cells cur 5))) := Lib.hid hr
 clear hr hsz
 unfold maxLen at hmx
 have hn0 : ¬ (n : Int) < 0 := by omega
 have hn1 : (0 : Int) < (n : Int) := by omega
 go_enter Tryz.func119, Tryz.ntmps119
 go_wp2_with (at_builtin; refine Lib.wpList_append_run _ rfl _ _ _ _ rfl _ _ rfl rfl _ _ (HR.out _) ?_)
 go_ret
 exact ⟨cap, rfl, hge, HO.out.1, HO.out.2⟩

theorem mconcat (sb h1 q1 c1 h2 q2 c2 n m : Nat) (X Y : Nat → Nat) (w : World) (n1 : 1 ≤ n) (n2 : n ≤ 64) (m1 : 1 ≤ m) (m2 : m ≤ 64)
  (s0 : w.cell? ⟨sb, 0, none⟩ = some (.slice (some ⟨h1, q1, none⟩) n c1)) (s1 : w.cell? ⟨sb, 1, none⟩ = some (.slice (some ⟨h2, q2, none⟩) m c2))
  (hx : ∀ j, j < n → w.cell? ⟨h1, q1 + j, none⟩ = some (.int .u8 (X j : Nat))) (hy : ∀ j, j < m → w.cell? ⟨h2, q2 + j, none⟩ = some (.int .u8 (Y j : Nat))) :
  Calls Tryz.prog 85 #[.slice (some ⟨sb, 0, none⟩) 2 2] w fun e w' => ∃ cap, e = .returned (.slice (some ⟨w.heap.size, 0, none⟩) (n + m) cap) ∧ n + m ≤ cap ∧
   Row8 w' w.heap.size (n + m) (fun j => if j < n then X j else Y (j - n)) ∧ Below w.heap.size w w' := by
 obtain ⟨i0, hi0, hz0, hz1, hz2⟩ := info_parts infoByte
 have l1 := cell?_lt (hx 0 (by omega))
 have l2 := cell?_lt (hy 0 (by omega))
 have ls := cell?_lt s0
 have HX := Lib.hid hx
 have HY := Lib.hid hy
 clear hx hy
 have en : ¬ (n : Int) < 0 := by omega
 have enm : ¬ (n : Int) + (m : Int) < 0 := by omega
 have HG := Lib.hid (mgrow (n + m) w (by omega) (by omega))
 obtain ⟨H, hH⟩ : ∃ H, w.heap.size = H := ⟨_, rfl⟩
 rw [hH] at HG l1 l2 ls ⊢
 have HH := Lib.hid hH
 clear hH
 go_enter Tryz.func85, Tryz.ntmps85
 go_wp2_with fail
 refine wp_loop_rounds 3 ?_
 rw [rounds_succ]
 go_wp2_with fail
 rw [rounds_succ]
 go_wp2_with fail
 rw [rounds_succ]
 go_wp2_with fail
 have e2 : (n : Int) + (m : Int) = ((n + m : Nat) : Int) := by omega
 have HG2 := HG.out
 rw [← e2] at HG2
 refine HG2.mono ?_
 clear HG2 e2
 rintro e w2 ⟨cap, rfl, hcap, ho, hb⟩
 have HO := Lib.hid ho
 have HB := Lib.hid hb
 have s0' := (hb.cell (p := ⟨sb, 0, none⟩) ls).trans s0
 have s1' := (hb.cell (p := ⟨sb, 1, none⟩) ls).trans s1
 have HX2 : Hid (∀ j, j < n → w2.cell? ⟨h1, q1 + j, none⟩ = some (.int .u8 (X j : Nat))) := Lib.hid (fun j hj => (hb.cell (p := ⟨h1, q1 + j, none⟩) l1).trans (HX.out j hj))
 clear s0 s1 ho hb HG
 go_wp2_with fail
 refine wp_loop_rounds 3 ?_
 rw [rounds_succ]
 go_wp2_with (at_builtin; refine wpList_append_fits _ rfl _ _ 36 rfl H 5 i0 1 Tryz.underlying36 hi0 hz1 H 0 cap [] rfl HO.out ⟨h1, q1, none⟩ n c1 (rowL n X) rfl (by rw [rowL_len]; omega) (rowL_cells HX2.out) rowL_one (by omega) ?_; intro w3 ho3 hg3)
 rw [Nat.zero_add, List.nil_append] at ho3
 have HO3 := Lib.hid ho3
 have HG3 := Lib.hid hg3
 have s1'' := (World.cell?_of_block (hg3.block sb (Nat.lt_of_lt_of_le ls (by have := HB.out.size; have := HH.out; omega)) (fun e => by injection e; omega))).trans s1'
 have HY3 : Hid (∀ j, j < m → w3.cell? ⟨h2, q2 + j, none⟩ = some (.int .u8 (Y j : Nat))) := Lib.hid (fun j hj => (World.cell?_of_block (hg3.block h2 (Nat.lt_of_lt_of_le l2 (by have := HB.out.size; have := HH.out; omega)) (fun e => by injection e; omega))).trans ((HB.out.cell (p := ⟨h2, q2 + j, none⟩) l2).trans (HY.out j hj)))
 clear ho3 hg3 s1'
 go_wp2_with fail
 rw [rounds_succ]
 go_wp2_with (at_builtin; refine wpList_append_fits _ rfl _ _ 36 rfl H 5 i0 1 Tryz.underlying36 hi0 hz1 H n cap (rowL n X) rfl HO3.out ⟨h2, q2, none⟩ m c2 (rowL m Y) rfl (by rw [rowL_len]; omega) (rowL_cells HY3.out) rowL_one (by omega) ?_; intro w4 ho4 hg4)
 have HO4 := Lib.hid ho4
 have HB4 : Hid (Below H w w4) := Lib.hid (Below.of_only (Below.of_only HB.out HG3.out (Nat.le_refl _) (by rw [← HH.out]; exact HB.out.size)) hg4 (Nat.le_refl _) (by have := HB.out.size; have := HG3.out.size; have := HH.out; omega))
 clear ho4 hg4
 go_wp2_with fail
 rw [rounds_succ]
 go_wp2_with fail
 go_ret
 have ho := HO4.out
 refine ⟨cap, ?_, by omega, own_row8 ho (fun j hj => ?_), HB4.out⟩
 ·rfl
 ·by_cases h : j < n
  ·rw [List.getElem?_append_left (by rw [rowL_len]; exact h), rowL_get h, if_pos h]
  ·rw [List.getElem?_append_right (by rw [rowL_len]; omega), rowL_len, rowL_get (by omega), if_neg h]
end Go.Proofs.YtobkmohoepgfmaaGreatDoor.Kc
namespace Go.Proofs.YtobkmohoepgfmaaGreatDoor.Kc
open Go.RowKit Go.Sort
set_option maxRecDepth 100000
set_option maxHeartbeats 1000000

theorem mtest (g p kb c cap x : Nat) (w : World) (hp : p < c) (k0 : w.cell? ⟨kb, 0, none⟩ = some (.int .i64 (p : Int))) (h : w.cell? ⟨g, p, none⟩ = some (.int .u8 (x : Int))) (t : Bool) (ht : t = decide (x ≠ 0)) :
  Calls Tryz.prog 154 #[.slice (some ⟨g, 0, none⟩) c cap, .pointer (some ⟨kb, 0, none⟩)] w fun e w' => e = .returned (.bool t) ∧ w' = w := by
 have hp' : (p : Int) < (c : Int) := by omega
 have e1 : ((x : Int) != 0) = t := by
  rw [ht]
  by_cases h : x = 0
  ·subst h; rfl
  ·rw [decide_eq_true h, bne_iff_ne]; omega
 clear ht
 go_enter Tryz.func154, Tryz.ntmps154
 go_wp2_with fail
 go_ret
 exact ⟨rfl, rfl⟩

def FoundAt (n p : Nat) (A : Mx) (fd : Int) : Prop := (fd = -1 ∧ ∀ i, p ≤ i → i < n → A i p = 0) ∨ (∃ d : Nat, fd = (d : Int) ∧ p + d < n ∧ A (p + d) p ≠ 0)
def FoundRet (n p : Nat) (A : Mx) (w : World) (e : Ending) (w' : World) : Prop := ∃ fd : Int, e = .returned (.int .i64 fd) ∧ FoundAt n p A fd ∧ w' = w

theorem mindex (b n c p kb : Nat) (G K : Nat → Nat) (A : Mx) (w : World) (ho : Own w b n c G K A) (hp : p < n) (hpc : p < c) (hn : n ≤ 1000000) (k0 : w.cell? ⟨kb, 0, none⟩ = some (.int .i64 (p : Int))) (cap : Nat) :
  Calls Tryz.prog 153 #[.slice (some ⟨b, p, none⟩) (n - p : Nat) cap, .func (.func 154) #[] #[.pointer (some ⟨kb, 0, none⟩)]] w (FoundRet n p A w) := by
 have HO := Lib.hid ho
 have HK := Lib.hid k0
 clear ho k0
 obtain ⟨m, hm⟩ : ∃ m, n - p = m := ⟨_, rfl⟩
 have HM := Lib.hid hm
 rw [hm]
 have hm2 : m ≤ 1000000 := by omega
 clear hm
 go_enter Tryz.func153, Tryz.ntmps153
 go_wp2_with fail
 go_loop [5, 8] (fun _ s => ∃ k : Nat, s = .int .i64 (k : Int) ∧ k ≤ m ∧ Hid (∀ i, p ≤ i → i < p + k → A i p = 0)) (fun _ s => m - (intOf s).toNat)
 case atStart => exact ⟨0, rfl, Nat.zero_le _, Lib.hid (fun i h1 h2 => by omega)⟩
 case round =>
  obtain ⟨k, rfl, hk, HZ⟩ := hrel
  by_cases hlt : k < m
  ·have hk' : (k : Int) < (m : Int) := by omega
   have hpk : p + k < n := by have := HM.out; omega
   have c1 := HO.out.outer (p + k) hpk
   have HT := Lib.hid (fun t ht => mtest (G (p + k)) p kb c (K (p + k)) (A (p + k) p) w hpc HK.out (HO.out.cell (p + k) hpk p hpc) t ht)
   by_cases h0 : A (p + k) p = 0
   ·have HT2 := Lib.hid (HT.out false (by rw [h0]; rfl))
    have H0 := Lib.hid h0
    clear h0 HT
    go_wp2_with fail
    refine HT2.out.mono ?_
    rintro e w' ⟨rfl, hw⟩
    obtain rfl := hw.symm
    go_wp2_with fail
    go_round
    case measure => simp [intOf]; omega
    case rel => exact ⟨k + 1, by go_num, by omega, Lib.hid (fun i h1 h2 => by
     by_cases e : i = p + k
     ·rw [e]; exact H0.out
     ·exact HZ.out i h1 (by omega))⟩
   ·have HT2 := Lib.hid (HT.out true (decide_eq_true h0).symm)
    have H0 := Lib.hid h0
    clear h0 HT
    go_wp2_with fail
    refine HT2.out.mono ?_
    rintro e w' ⟨rfl, hw⟩
    obtain rfl := hw.symm
    go_wp2_with fail
    go_ret
    exact ⟨_, rfl, Or.inr ⟨k, rfl, hpk, H0.out⟩, rfl⟩
  ·have hge : ¬ (k : Int) < (m : Int) := by omega
   have HE : Hid (∀ i, p ≤ i → i < n → A i p = 0) := Lib.hid (fun i h1 h2 => HZ.out i h1 (by have := HM.out; omega))
   go_wp2_with fail
   go_ret
   exact ⟨_, rfl, Or.inl ⟨rfl, HE.out⟩, rfl⟩

def swapM (p q : Nat) (A : Mx) : Mx := fun i j => A (sw p q i) j
def scaleM (p s : Nat) (A : Mx) : Mx := fun i j => if i = p then mul s (A i j) else A i j
def clearM (p : Nat) (A : Mx) : Mx := fun i j => if i = p then A i j else A i j ^^^ mul (A i p) (A p j)
def stepM (p q : Nat) (A : Mx) : Mx := clearM p (scaleM p (inv (A q p)) (swapM p q A))

def Settled (B b n c p : Nat) (G K : Nat → Nat) (A : Mx) (w : World) (e : Ending) (w' : World) : Prop :=
 (e = .returned (.bool false) ∧ (∀ i, p ≤ i → i < n → A i p = 0) ∧ Below B w w') ∨
 (e = .returned (.bool true) ∧ ∃ q, p ≤ q ∧ q < n ∧ A q p ≠ 0 ∧ Own w' b n c (fun i => G (sw p q i)) (fun i => K (sw p q i)) (stepM p q A) ∧ Below B w w')

theorem swapM_bd {n c p q : Nat} {A : Mx} (h : Bd n c A) (hp : p < n) (hq : q < n) : Bd n c (swapM p q A) := fun _ hi j hj => h _ (sw_lt hp hq hi) j hj
theorem scaleM_bd {n c p s : Nat} {A : Mx} (h : Bd n c A) : Bd n c (scaleM p s A) := fun i hi j hj => by
 unfold scaleM
 split
 ·exact mul_lt _ _
 ·exact h i hi j hj
theorem finv1 (f a : Nat) (w : World) (h : Fld w f) (ha : a < 256) (h0 : a ≠ 0) : Calls Tryz.prog 155 #[.pointer (some ⟨f, 0, none⟩), .int .u8 (a : Int)] w
  fun e w' => e = .returned (.tuple #[.int .u8 (inv a : Nat), .bool true]) ∧ w' = w := by
 have := finv f a w h ha
 rw [if_neg h0, decide_eq_true h0] at this
 exact this
theorem sw_left (p q : Nat) : sw p q p = q := by unfold sw; rw [if_pos rfl]
theorem Fld.of_heap {w w' : World} {f : Nat} (h : Fld w f) (e : w'.heap[f]? = w.heap[f]?) : Fld w' f :=
 ⟨fun k hk => (World.cell?_of_block e).trans (h.exp k hk), fun k hk => (World.cell?_of_block e).trans (h.log k hk)⟩

theorem msettle (B f b n c p : Nat) (G K : Nat → Nat) (A : Mx) (w : World) (hf : Fld w f) (ho : Own w b n c G K A) (ha : Bd n c A) (hp : p < n) (hpc : p < c) (hc : c ≤ 1000000) (hn : n ≤ 1000000)
  (hfB : f < B) (hbB : B ≤ b) (hGB : ∀ i, i < n → B ≤ G i) (hBs : B ≤ w.heap.size) :
  Calls Tryz.prog 118 #[.pointer (some ⟨f, 0, none⟩), .slice (some ⟨b, 0, none⟩) n n, .int .i64 (p : Int)] w (Settled B b n c p G K A w) := by
 have HF := Lib.hid hf
 have HO := Lib.hid ho
 have HA := Lib.hid ha
 have HG := Lib.hid hGB
 clear hf ho ha hGB
 have HW : Hid (Own (w.alloc (.cells #[.int .i64 (p : Int)] 3)) b n c G K A ∧ Below B w (w.alloc (.cells #[.int .i64 (p : Int)] 3)) ∧ (w.alloc (.cells #[.int .i64 (p : Int)] 3)).cell? ⟨w.heap.size, 0, none⟩ = some (.int .i64 (p : Int)) ∧ (w.alloc (.cells #[.int .i64 (p : Int)] 3)).heap.size = w.heap.size + 1) := by
  refine Lib.hid ⟨HO.out.keep (fun k hk => alloc_old w _ ?_), (Below.refl _ _).alloc hBs _, (cell_of_block (alloc_block w _)).trans rfl, alloc_size _ _⟩
  rcases hk with rfl | ⟨i, hi, rfl⟩
  ·exact HO.out.lt (by omega)
  ·exact HO.out.ltG hi (by omega)
 have HKB : Hid (b < w.heap.size ∧ ∀ i, i < n → G i < w.heap.size) := Lib.hid ⟨HO.out.lt (by omega), fun i hi => HO.out.ltG hi (by omega)⟩
 have HFW : Hid (∀ v : World, Below B w v → Fld v f) := Lib.hid (fun v hv => HF.out.of_heap (hv.block f hfB))
 have kc := HW.out.2.2.1
 have HM0 : Hid (∀ W, W.cell? ⟨w.heap.size, 0, none⟩ = some (.int .i64 (p : Int)) → Own W b n c G K A → Calls Tryz.prog 153 #[.slice (some ⟨b, p, none⟩) (n - p : Nat) (n - p : Nat), .func (.func 154) #[] #[.pointer (some ⟨w.heap.size, 0, none⟩)]] W (FoundRet n p A W)) :=
  Lib.hid (fun W h1 h2 => mindex b n c p w.heap.size G K A W h2 hp hpc hn h1 _)
 clear HF HO
 go_enter Tryz.func118, Tryz.ntmps118
 go_wp2_with fail
 generalize w.alloc (.cells #[.int .i64 (p : Int)] 3) = w1 at *
 generalize hkb : w.heap.size = kb at *
 have HKE := Lib.hid hkb
 clear hkb
 refine (HM0.out _ kc HW.out.1).mono ?_
 rintro e w' ⟨fd, rfl, hfd, hw⟩
 obtain rfl := hw.symm
 clear HM0
 rcases hfd with ⟨rfl, h0⟩ | ⟨d, rfl, hq, h0⟩
 ·have H0 := Lib.hid h0
  clear h0
  go_wp2_with fail
  go_ret
  exact Or.inl ⟨rfl, H0.out, HW.out.2.1⟩
 ·obtain ⟨q, hqd⟩ : ∃ q, p + d = q := ⟨_, rfl⟩
  rw [hqd] at hq h0
  have HQ := Lib.hid hqd
  have H0 := Lib.hid h0
  clear h0
  have cp := HW.out.1.outer p hp
  have cq := HW.out.1.outer (p + d) (by omega)
  have f1 := HW.out.1.free p
  have f2 := HW.out.1.free (p + d)
  have i1 : (p : Int) < (n : Int) := by omega
  have i2 : (p : Int) + (d : Int) < (n : Int) := by omega
  have i3 : p + d < n := by omega
  obtain ⟨u1, k1⟩ := cell?_setCell_some (w := w1) (p := ⟨b, p, none⟩) (x := .slice (some ⟨G (p + d), 0, none⟩) c (K (p + d))) (q := ⟨b, p + d, none⟩) (v := .slice (some ⟨G (p + d), 0, none⟩) c (K (p + d))) cq
  have k2 : (w1.setCell ⟨b, p, none⟩ (.slice (some ⟨G (p + d), 0, none⟩) c (K (p + d)))).cell? ⟨kb, 0, none⟩ = some (.int .i64 (p : Int)) := by
   have := HKB.out.1
   rw [cell_far (Or.inl (by omega))]
   exact kc
  clear hqd
  go_wp2_with fail
  go_region
  clear k1 k2 f1 f2 cp cq
  have hsq : p ≤ q ∧ q < n := ⟨by have := HQ.out; omega, hq⟩
  have HO2 := HW.out.1.swap (p := p) (q := p + d) hp i3
  have HB2 : Below B w ((w1.setCell ⟨b, p, none⟩ (.slice (some ⟨G (p + d), 0, none⟩) c (K (p + d)))).setCell ⟨b, p + d, none⟩ (.slice (some ⟨G p, 0, none⟩) c (K p))).drew := ((HW.out.2.1.setCell hbB _).setCell hbB _).drew
  have HK2 : ((w1.setCell ⟨b, p, none⟩ (.slice (some ⟨G (p + d), 0, none⟩) c (K (p + d)))).setCell ⟨b, p + d, none⟩ (.slice (some ⟨G p, 0, none⟩) c (K p))).drew.cell? ⟨kb, 0, none⟩ = some (.int .i64 (p : Int)) := by
   show ((w1.setCell ⟨b, p, none⟩ (.slice (some ⟨G (p + d), 0, none⟩) c (K (p + d)))).setCell ⟨b, p + d, none⟩ (.slice (some ⟨G p, 0, none⟩) c (K p))).cell? ⟨kb, 0, none⟩ = _
   have := HKB.out.1
   rw [cell_far (Or.inl (by omega)), cell_far (Or.inl (by omega))]
   exact kc
  have HO3 : Own ((w1.setCell ⟨b, p, none⟩ (.slice (some ⟨G (p + d), 0, none⟩) c (K (p + d)))).setCell ⟨b, p + d, none⟩ (.slice (some ⟨G p, 0, none⟩) c (K p))).drew b n c (fun i => G (sw p (p + d) i)) (fun i => K (sw p (p + d) i)) (swapM p (p + d) A) := HO2.drew
  clear HO2 kc HW
  revert HB2 HK2 HO3
  generalize ((w1.setCell ⟨b, p, none⟩ (.slice (some ⟨G (p + d), 0, none⟩) c (K (p + d)))).setCell ⟨b, p + d, none⟩ (.slice (some ⟨G p, 0, none⟩) c (K p))).drew = w2
  intro HB2 HK2 HO3
  obtain ⟨G2, hG2⟩ : ∃ G2 : Nat → Nat, G2 = (fun i => G (sw p (p + d) i)) := ⟨_, rfl⟩
  obtain ⟨K2, hK2⟩ : ∃ K2 : Nat → Nat, K2 = (fun i => K (sw p (p + d) i)) := ⟨_, rfl⟩
  obtain ⟨A2, hA2⟩ : ∃ A2 : Mx, A2 = swapM p (p + d) A := ⟨_, rfl⟩
  have HA2 : Hid (Bd n c A2 ∧ A2 p p ≠ 0 ∧ A2 p p = A q p) := by
   have e : A2 p p = A q p := by rw [hA2, ← HQ.out]; unfold swapM; rw [sw_left]
   exact Lib.hid ⟨by rw [hA2]; exact swapM_bd HA.out hp i3, by rw [e]; exact H0.out, e⟩
  have HG2 : Hid (∀ i, i < n → B ≤ G2 i ∧ G2 i < kb) := Lib.hid (fun i hi => by rw [hG2]; exact ⟨HG.out _ (sw_lt hp i3 hi), HKB.out.2 _ (sw_lt hp i3 hi)⟩)
  rw [← hG2, ← hK2, ← hA2] at HO3
  have HE2 : Hid (G2 = (fun i => G (sw p q i)) ∧ K2 = (fun i => K (sw p q i)) ∧ A2 = swapM p q A) := Lib.hid ⟨by rw [hG2, HQ.out], by rw [hK2, HQ.out], by rw [hA2, HQ.out]⟩
  have HW2 := Lib.hid (And.intro HO3 HB2)
  have rp := HO3.outer p hp
  have xpp := HO3.cell p hp p hpc
  have F5 := Lib.hid (finv1 f (A2 p p) w2.drew ((HFW.out w2 HB2).of_heap rfl) (HA2.out.1 p hp p hpc) HA2.out.2.1)
  clear HO3 HB2 hG2 hK2 hA2 HG
  have i4 : (p : Int) < (c : Int) := by omega
  generalize hx : A2 p p = x at xpp F5
  have HXV := Lib.hid hx
  clear hx
  go_wp2_with fail
  refine wp_region_still_lit (by kernel_rfl) (by kernel_rfl) ?_
  repeat still_step
  still_call F5.out
  repeat still_step
  refine wpStill_nil ?_
  change Exit.then _ _ _ _ w2.drew
  have rp' : w2.drew.cell? ⟨b, p, none⟩ = some (.slice (some ⟨G2 p, 0, none⟩) c (K2 p)) := rp
  have HK3 : w2.drew.cell? ⟨kb, 0, none⟩ = some (.int .i64 (p : Int)) := HK2
  have HW3 : Hid (Own w2.drew b n c G2 K2 A2 ∧ Below B w w2.drew ∧ w2.drew.cell? ⟨kb, 0, none⟩ = some (.int .i64 (p : Int))) := Lib.hid ⟨HW2.out.1.drew, HW2.out.2.drew, HK3⟩
  clear rp xpp HK2 HW2 F5
  revert rp' HK3 HW3
  generalize w2.drew = w3
  intro rp' HK3 HW3
  go_wp2_with fail
  clear rp' HK3
  have H0' : Hid (Own w3 b n c G2 K2 (fun i j => if i = p ∧ j < 0 then mul (inv x) (A2 i j) else A2 i j) ∧ Below B w w3 ∧ w3.cell? ⟨kb, 0, none⟩ = some (.int .i64 (p : Int))) :=
   Lib.hid ⟨HW3.out.1.congr (fun i _ j _ => by rw [if_neg (by omega)]), HW3.out.2⟩
  clear HW3
  go_loopg [10, 11, 58] c (fun q' s10 s11 s58 v => ∃ j : Nat, s58 = .int .i64 (j : Int) ∧ j ≤ c ∧ q' = c - j ∧ Hid (Own v b n c G2 K2 (fun i j' => if i = p ∧ j' < j then mul (inv x) (A2 i j') else A2 i j') ∧ Below B w v ∧ v.cell? ⟨kb, 0, none⟩ = some (.int .i64 (p : Int))))
  case atStart => exact ⟨0, rfl, by omega, rfl, H0'⟩
  case round =>
   obtain ⟨j, rfl, hj, rfl, HJ⟩ := hrel
   clear H0'
   by_cases hlj : j < c
   ·have hlj' : (j : Int) < (c : Int) := by omega
    have c1 := HJ.out.1.cell p hp j hlj
    rw [if_neg (by omega)] at c1
    have c2 := HJ.out.1.outer p hp
    have c3 := HJ.out.2.2
    have f1 := HJ.out.1.freeG p hp j
    have hv : A2 p j < 256 := HA2.out.1 p hp j hlj
    have F6 := Lib.hid (fmul f (inv x) (A2 p j) wr.drew ((HFW.out wr HJ.out.2.1).of_heap rfl) (inv_lt x) hv)
    generalize hy : A2 p j = y at c1 F6 hv
    have HY := Lib.hid hy
    clear hy
    go_wp2_with fail
    refine wp_region_still_tail 10 (by kernel_rfl) (by kernel_rfl) ?_
    simp only [List.take_succ_cons, List.take_zero, List.drop_succ_cons, List.drop_zero]
    repeat still_step
    still_call F6.out
    repeat still_step
    refine wpStill_nil ?_
    change wpList _ _ _ _ _ wr.drew
    have e1d : wr.drew.cell? ⟨G2 p, j, none⟩ = some (.int .u8 (y : Int)) := c1
    have f1d : wr.drew.frozen? ⟨G2 p, j, none⟩ = false := f1
    go_wp2_with fail
    go_roundg (c - (j + 1))
    case measure => omega
    case rel => exact ⟨j + 1, by go_num, by omega, rfl, Lib.hid ⟨(Own.put (x := mul (inv x) y) HJ.out.1.drew hp hlj).congr (fun i _ j' _ => by
     try dsimp only
     by_cases e : i = p ∧ j' = j
     ·rw [if_pos e, if_pos ⟨e.1, by omega⟩, e.1, e.2, HY.out]
     ·rw [if_neg e]
      by_cases h : i = p ∧ j' < j
      ·rw [if_pos h, if_pos ⟨h.1, by omega⟩]
      ·rw [if_neg h, if_neg (by omega)]), (HJ.out.2.1.drew).setCell (HG2.out p hp).1 _, by
       have := (HG2.out p hp).2
       show (wr.setCell ⟨G2 p, j, none⟩ (.int .u8 (mul (inv x) y : Nat))).cell? ⟨kb, 0, none⟩ = _
       rw [cell_far (Or.inl (by omega))]
       exact HJ.out.2.2⟩⟩
   ·have hge : ¬ (j : Int) < (c : Int) := by omega
    have HU : Hid (Own wr b n c G2 K2 (scaleM p (inv x) A2) ∧ Below B w wr ∧ wr.cell? ⟨kb, 0, none⟩ = some (.int .i64 (p : Int))) := Lib.hid ⟨HJ.out.1.congr (fun i _ j' hj' => by
     unfold scaleM
     try dsimp only
     by_cases h : i = p
     ·rw [if_pos ⟨h, by omega⟩, if_pos h]
     ·rw [if_neg (fun e => h e.1), if_neg h]), HJ.out.2⟩
    clear HJ
    obtain ⟨U, hU⟩ : ∃ U : Mx, U = scaleM p (inv x) A2 := ⟨_, rfl⟩
    rw [← hU] at HU
    have HUB : Hid (Bd n c U) := Lib.hid (by rw [hU]; exact scaleM_bd HA2.out.1)
    have HUE := Lib.hid hU
    clear hU
    obtain ⟨wu, rfl⟩ : ∃ wu : World, wu = wr := ⟨wr, rfl⟩
    go_wp2_with fail
    go_loopg [12, 13, 76] n (fun q' s12 s13 s76 v => ∃ i : Nat, s76 = .int .i64 (i : Int) ∧ i ≤ n ∧ q' = n - i ∧ Hid (Own v b n c G2 K2 (fun i' j' => if i' < i then clearM p U i' j' else U i' j') ∧ Below B w v ∧ v.cell? ⟨kb, 0, none⟩ = some (.int .i64 (p : Int))))
    case atStart => exact ⟨0, rfl, by omega, rfl, Lib.hid ⟨HU.out.1.congr (fun i _ j _ => by rw [if_neg (by omega)]), HU.out.2⟩⟩
    case round =>
     obtain ⟨i, rfl, hi, rfl, HI⟩ := hrel
     by_cases hli : i < n
     ·have hli' : (i : Int) < (n : Int) := by omega
      have c0 := HI.out.1.outer i hli
      have c3 := HI.out.2.2
      by_cases hip : i = p
      ·have t1 : ((i : Int) != (p : Int)) = false := by rw [bne_eq_false_iff_eq]; omega
       have HN : Hid (Own wr b n c G2 K2 (fun i' j' => if i' < i + 1 then clearM p U i' j' else U i' j') ∧ Below B w wr ∧ wr.cell? ⟨kb, 0, none⟩ = some (.int .i64 (p : Int))) := Lib.hid ⟨HI.out.1.congr (fun i' _ j _ => by
        try dsimp only
        by_cases h : i' < i
        ·rw [if_pos h, if_pos (by omega)]
        ·rw [if_neg h]
         by_cases e : i' = i
         ·rw [if_pos (by omega)]; unfold clearM; rw [if_pos (by omega)]
         ·rw [if_neg (by omega)]), HI.out.2⟩
       clear HI hip
       go_wp2_with fail
       go_roundg (n - (i + 1))
       case measure => omega
       case rel => exact ⟨i + 1, by go_num, by omega, rfl, HN⟩
      ·have t1 : ((i : Int) != (p : Int)) = true := by rw [bne_iff_ne]; omega
       have c1 := HI.out.1.cell i hli p hpc
       rw [if_neg (Nat.lt_irrefl i)] at c1
       have c2 := HI.out.1.outer p hp
       have HP1 : Hid (∀ j, (if p < i then clearM p U p j else U p j) = U p j) := Lib.hid (fun j => by
        split
        ·unfold clearM; rw [if_pos rfl]
        ·rfl)
       have HAT := Lib.hid (maddTimes f (G2 i) c (U i p) (K2 i) (K2 p) (G2 p) 0 (U i) (U p) wr.drew ((HFW.out wr HI.out.2.1).of_heap rfl) (by have := (HG2.out i hli).1; omega) (HUB.out i hli p hpc) (fun j hj => HUB.out i hli j hj) (fun j hj => HUB.out p hp j hj)
        (((HI.out.1.row8 hli).congr (fun j _ => by rw [if_neg (Nat.lt_irrefl i)])).keep rfl) (fun j hj => by rw [Nat.zero_add]; exact (HI.out.1.cell p hp j hj).trans (by rw [HP1.out])) (fun e => hip (HI.out.1.inj i hli p hp e.symm)) hc (by omega))
       have HIP := Lib.hid hip
       clear hip
       generalize hz : U i p = z at HAT c1
       have HZ := Lib.hid hz
       clear hz
       go_wp2_with fail
       go_still_tail 10, (by kernel_rfl)
       change wpList _ _ _ _ _ wr.drew
       go_wp2_with fail
       refine HAT.out.mono ?_
       rintro e w5 ⟨rfl, r5, g5⟩
       have HN : Hid (Own w5 b n c G2 K2 (fun i' j' => if i' < i + 1 then clearM p U i' j' else U i' j')) := Lib.hid ((HI.out.1.drew.row_put hli (by omega) r5 g5).congr (fun i' _ j _ => by
        try dsimp only
        by_cases e : i' = i
        ·rw [if_pos e, if_pos (by omega)]
         unfold clearM
         rw [if_neg (by rw [e]; exact HIP.out), e, HZ.out]
        ·rw [if_neg e]
         by_cases h : i' < i
         ·rw [if_pos h, if_pos (by omega)]
         ·rw [if_neg h, if_neg (by omega)]))
       have HB5 : Hid (Below B w w5 ∧ w5.cell? ⟨kb, 0, none⟩ = some (.int .i64 (p : Int))) := Lib.hid ⟨Below.of_only HI.out.2.1.drew g5 (HG2.out i hli).1 (by have := HI.out.2.1.drew.size; have := HKE.out; omega),
        (World.cell?_of_block (w := wr.drew) (g5.block kb (World.block_lt_of_cell? wr ⟨kb, 0, none⟩ HI.out.2.2) (fun e => by injection e with e; have := (HG2.out i hli).2; omega))).trans HI.out.2.2⟩
       clear r5 g5
       go_wp2_with fail
       go_roundg (n - (i + 1))
       case measure => omega
       case rel => exact ⟨i + 1, by go_num, by omega, rfl, Lib.hid ⟨HN.out, HB5.out⟩⟩
     ·have hge : ¬ (i : Int) < (n : Int) := by omega
      go_wp2_with fail
      go_ret
      refine Or.inr ⟨rfl, q, hsq.1, hsq.2, H0.out, ?_, HI.out.2.1⟩
      have h1 := HI.out.1.congr (B := stepM p q A) (fun i' hi' j _ => by
       try dsimp only
       rw [if_pos (by omega)]
       unfold stepM
       rw [HUE.out, ← HXV.out, HA2.out.2.2, HE2.out.2.2])
      rw [HE2.out.1, HE2.out.2.1] at h1
      exact h1
end Go.Proofs.YtobkmohoepgfmaaGreatDoor.Kc
