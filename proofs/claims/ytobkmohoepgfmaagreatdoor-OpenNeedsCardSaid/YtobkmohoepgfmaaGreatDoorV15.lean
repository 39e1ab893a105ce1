import Derived.Test.YtobkmohoepgfmaaGreatDoorV14
import Derived.Lib.SliceRun
namespace Go.Proofs.YtobkmohoepgfmaaGreatDoor
open Go.RowKit Go.Sort
set_option maxRecDepth 100000
set_option maxHeartbeats 2000000

theorem infoSlot : (Tryz.prog.info? 194).map (fun i => (i.zero, i.size, i.bytes)) = some (some (.agg #[.int .i64 0, .int .i64 0, .int .i64 0, .slice none 0 0]), 4, 48) := by kernel_rfl
theorem makeS : ∃ zs : Array Value, (∀ W : World, Sem.run Tryz.prog (Instr.makeSlice 189 (.int .i64 16) (.int .i64 16)) W = .ok (.slice (some ⟨W.heap.size, 0, none⟩) 16 16) (W.alloc (.cells zs 194))) ∧
  ∀ W : World, SR (W.alloc (.cells zs 194)) W.heap.size 16 (fun _ => Sx.z) := by
 obtain ⟨i0, hi0, hz0, hz1, hz2⟩ := info_parts infoSlot
 refine ⟨madeCells (Value.agg #[.int .i64 0, .int .i64 0, .int .i64 0, .slice none 0 0]).cells (16 * i0.size), fun W => ?_, fun W => ⟨_, alloc_block W _, ?_, fun i hi => ?_⟩⟩
 ·have h := run_make W 189 194 i0 _ Tryz.underlying189 hi0 hz0 .i64 .i64 16 16 (by omega) (by omega) (by rw [hz2]; omega) (by omega)
  simpa using h
 ·rw [size_madeCells, hz1]; omega
 ·have key : ∀ k j, k = i * 4 + j → j < 4 → (madeCells (Value.agg #[.int .i64 0, .int .i64 0, .int .i64 0, .slice none 0 0]).cells (16 * i0.size))[k]? = some ((#[.int .i64 0, .int .i64 0, .int .i64 0, .slice none 0 0] : Array Value)[j]!) := by
   intro k j hk hj
   have e : k % 4 = j := by omega
   rw [hz1]
   have hk2 : k < 16 * 4 := by omega
   simp [madeCells, Value.cells, hk2, e]
  exact ⟨key _ 0 rfl (by omega), key _ 1 rfl (by omega), key _ 2 rfl (by omega), key _ 3 rfl (by omega)⟩
theorem cell_put4 {w : World} {b g k : Nat} {x : Value} (h : w.cell? ⟨g, k, none⟩ = some x) (hne : g ≠ b) (k1 k2 k3 k4 : Nat) (v1 v2 v3 v4 : Value) :
  ((((w.setCell ⟨b, k1, none⟩ v1).setCell ⟨b, k2, none⟩ v2).setCell ⟨b, k3, none⟩ v3).setCell ⟨b, k4, none⟩ v4).cell? ⟨g, k, none⟩ = some x :=
 (World.cell?_of_block (w := w) ((set_other hne _ _).trans ((set_other hne _ _).trans ((set_other hne _ _).trans (set_other hne _ _))))).trans h
def RingOn (d : Disk) (R : Nat → Option (Nat × It)) : Prop := ∀ k, k < 16 → (R k = none ∧ ∀ j, j < 160 → d.now (80 + k) j = 0) ∨ ∃ no x, R k = some (no, x) ∧ x.Ok ∧ 1 ≤ no ∧ no < 281474976710656 ∧ ∀ j, j < 160 → d.now (80 + k) j = itS no x j
def numOf : Option (Nat × It) → Nat
 | none => 0
 | some (n, _) => n
def lastOf (R : Nat → Option (Nat × It)) : Nat → Nat
 | 0 => 0
 | k + 1 => max (lastOf R k) (numOf (R k))
def SaysR (x : Sx) (o : Option (Nat × It)) : Prop := x.no = numOf o ∧ ∀ n y, o = some (n, y) → x.it = y
def IOpenRet (p : Nat) (S : List Nat) (d : Disk) (nw : Nat) (R : Nat → Option (Nat × It)) (w : World) (e : Ending) (w' : World) : Prop :=
 ∃ r sb X, e = .returned (.tuple #[.pointer (some ⟨r, 0, none⟩), .int .i64 0]) ∧ Rg w' r p sb (lastOf R 16) S d nw X ∧ (∀ k, k < 16 → SaysR (X k) (R k)) ∧ Below w.heap.size w w' ∧ w.heap.size ≤ r ∧ w.heap.size ≤ sb
theorem lastOf_lt {d : Disk} {R : Nat → Option (Nat × It)} (h : RingOn d R) : ∀ k, k ≤ 16 → lastOf R k < 281474976710656
 | 0, _ => by show 0 < _; omega
 | k + 1, hk => by
  have := lastOf_lt h k (by omega)
  have h2 : numOf (R k) < 281474976710656 := by
   rcases h k (by omega) with ⟨e, _⟩ | ⟨no, x, e, _, _, h3, _⟩
   ·rw [e]; show 0 < _; omega
   ·rw [e]; exact h3
  show max _ _ < _
  omega
def OSt (w : World) (r p sb : Nat) (S : List Nat) (d : Disk) (nw : Nat) (R : Nat → Option (Nat × It)) (k : Nat) (v : World) : Prop :=
 ∃ X, Rg v r p sb (lastOf R k) S d nw X ∧ (∀ i, i < k → SaysR (X i) (R i)) ∧ Below w.heap.size w v
theorem OSt.below {w : World} {r p sb : Nat} {S : List Nat} {d : Disk} {nw : Nat} {R : Nat → Option (Nat × It)} {k : Nat} {v v' : World} (h : OSt w r p sb S d nw R k v) (b : Below v.heap.size v v') : OSt w r p sb S d nw R k v' := by
 obtain ⟨X, h1, h2, h3⟩ := h
 exact ⟨X, h1.below b, h2, h3.trans (b.mono h3.size)⟩
theorem iopen {w : World} {p : Nat} {S : List Nat} {d : Disk} {nw : Nat} {R : Nat → Option (Nat × It)} (h : Plt w p S 96 d nw) (hR : RingOn d R) :
  Calls Tryz.prog 68 #[.pointer (some ⟨p, 0, none⟩)] w (IOpenRet p S d nw R w) := by
 obtain ⟨zs, hz, hsr⟩ := makeS
 have HBK := Lib.hid (dblocks h)
 have HRR := Lib.hid hR
 have HLL := Lib.hid (lastOf_lt hR)
 obtain ⟨H, hH⟩ : ∃ H, w.heap.size = H := ⟨_, rfl⟩
 have HHE := Lib.hid hH
 obtain ⟨w1, hw1⟩ : ∃ w1, (w.alloc (.cells zs 194)).alloc (.cells #[.pointer (some ⟨p, 0, none⟩), .slice (some ⟨H, 0, none⟩) 16 16, .int .i64 0] 191) = w1 := ⟨_, rfl⟩
 have HW1 := Lib.hid hw1
 have hb1 : Below w.heap.size w w1 := by rw [← hw1]; exact ((Below.refl _ _).alloc (Nat.le_refl _) _).alloc (by simp) _
 have hrb : RB w1 (H + 1) p H 0 := by
  rw [← hw1]
  have e : (w.alloc (.cells zs 194)).heap.size = H + 1 := by simp [hH]
  rw [← e]
  exact alloc_block _ _
 have hs1 : SR w1 H 16 (fun _ => Sx.z) := by
  rw [← hw1, ← hH]
  exact (hsr w).below ((Below.refl _ _).alloc (Nat.le_refl _) _)
 have HO1 : Hid (OSt w (H + 1) p H S d nw R 0 w1) := Lib.hid ⟨_, ⟨hrb, hs1, fun _ _ => SxOk.z, h.below hb1⟩, fun i hi => by omega, hb1⟩
 have c1 := hrb.c1
 clear h hR hw1 hb1 hrb hs1 hsr hH
 go_enter Tryz.func68, Tryz.ntmps68
 go_wp2_with fail
 refine HBK.out.mono ?_
 rintro e w' ⟨rfl, hw⟩
 obtain rfl := hw.symm
 go_upto_region 4 with fail
 rw [HHE.out, HW1.out]
 go_wp2_with fail
 clear c1 hz
 go_loopg [5, 6, 7, 24] 16 (fun q s5 s6 s7 s24 v => ∃ i : Nat, s24 = .int .i64 (i : Int) ∧ i ≤ 16 ∧ q = 16 - i ∧ Hid (OSt w (H + 1) p H S d nw R i v))
 case atStart => exact ⟨0, rfl, by omega, rfl, HO1⟩
 case round =>
  obtain ⟨i, rfl, hi, rfl, HO⟩ := hrel
  clear HO1
  by_cases hlt : i < 16
  ·have hl : (i : Int) < 16 := by omega
   have hl0 : (0 : Int) ≤ (i : Int) := by omega
   obtain ⟨X, hrg, hsay, hbl⟩ := HO.out
   obtain ⟨K80, hK80⟩ : ∃ K80, 80 + i = K80 := ⟨_, rfl⟩
   have HK80 := Lib.hid hK80
   have e80 : (80 : Int) + (i : Int) = (K80 : Int) := by omega
   have HRG := Lib.hid hrg
   have HSY := Lib.hid hsay
   have HB := Lib.hid hbl
   have HRD := Lib.hid (dread K80 hrg.plt (by omega))
   clear hrg hsay hbl hK80 HO
   go_wp2_with fail
   refine HRD.out.mono ?_
   rintro e w2 ⟨gb, cb, rfl, kb, hb2, _, hcb⟩
   try dsimp only
   have HRG2 := Lib.hid (HRG.out.below hb2)
   have HKB := Lib.hid kb
   have HB2 : Hid (Below w.heap.size w w2) := Lib.hid (HB.out.trans (hb2.mono HB.out.size))
   have HREAD : Hid (∃ x : Sx, SaysR x (R i) ∧ ∀ W, Below w2.heap.size w2 W → Calls Tryz.prog 100 #[.slice (some ⟨gb, 0, none⟩) 160 cb] W fun e w' => ∃ A c, e = .returned (sv (x.no : Int) (x.s : Int) (x.g : Int) A (if x.no = 0 then 0 else 128) c) ∧ (x.no ≠ 0 → DatI w' A x.D ∧ x.it.Ok) ∧ Below W.heap.size W w') := Lib.hid (by
    rcases HRR.out i hlt with ⟨e, h0⟩ | ⟨no, y, e, hok, h1, h2, hF⟩
    ·refine ⟨Sx.z, by rw [e]; exact ⟨rfl, fun n y h => by cases h⟩, fun W hW => (iread_no gb 0 cb (d.now K80) W (kb.below hW).rd hcb (fun j hj => by rw [← HK80.out, h0 j hj]; omega) (by rw [← HK80.out, h0 0 (by omega)])).mono ?_⟩
     rintro e w' ⟨rfl, hb⟩
     exact ⟨none, 0, rfl, fun h => absurd rfl h, hb⟩
    ·refine ⟨⟨no, y.s, y.g, none, 0, 0, y.D⟩, by rw [e]; exact ⟨rfl, fun n y' h => by cases h; rfl⟩, fun W hW => (iread_yes no y gb 0 cb (d.now K80) W (kb.below hW).rd hcb hok h1 h2 (fun j hj => by rw [← HK80.out]; exact hF j hj)).mono ?_⟩
     rintro e w' ⟨A, c, rfl, hd, hb, _⟩
     refine ⟨A, c, ?_, fun _ => ⟨hd, hok⟩, hb⟩
     rw [if_neg (by show ¬ no = 0; omega)])
   obtain ⟨x0, hx0, hread⟩ := HREAD.out
   have HX0 := Lib.hid hx0
   have HRE := Lib.hid hread
   have hb0 : Below w2.heap.size w2 w2.drew := below_drewN 1 w2
   have HS : Hid (∀ W, Below w2.heap.size w2 W → W.cell? ⟨H + 1, 1, none⟩ = some (.slice (some ⟨H, 0, none⟩) 16 16)) := Lib.hid (fun W hW => (HRG2.out.rb.below hW).c1)
   obtain ⟨nn, hnn⟩ : ∃ nn, (if x0.no = 0 then 0 else 128) = nn := ⟨_, rfl⟩
   rw [hnn] at HRE
   have HNN := Lib.hid hnn
   unfold sv at HRE
   clear kb hb2 hcb HRD HRG HKB HB HREAD hread hx0 hnn
   go_upto_region 8 with fail
   go_cut [] from 34 to 41 (fun wx => ∃ x : Sx, Hid (SaysR x (R i) ∧ Rg wx (H + 1) p H (lastOf R i) S d nw (updS X i x) ∧ Below w.heap.size w wx))
   case first =>
    go_wp2_with fail
    go_region_held (fun W => W.cell? ⟨H + 1, 1, none⟩ = some (.slice (some ⟨H, 0, none⟩) 16 16))
     (first | (with_reducible assumption) | (with_reducible exact HS.out _ hb0) | (with_reducible exact HS.out _ hbW) | (with_reducible exact cell_put4 (HS.out _ hbW) (by omega) _ _ _ _ _ _ _ _))
     (first
      | (go_at_call 100; (with_reducible refine (HRE.out _ hb0).mono ?_); rintro e w3 ⟨A3, c3, rfl, hd3, hb3⟩; (try dsimp only); have hbW := hb0.trans (hb3.mono hb0.size); have HD3 := Lib.hid hd3; obtain ⟨y0, y1, y2, y3⟩ := (HRG2.out.sr.below hbW).cell hlt; have yf := (HRG2.out.sr.below hbW).f; clear hd3 hb3)
      | fail)
    all_goals
     obtain ⟨w4, hw4⟩ : ∃ w4, (((w3.setCell ⟨H, i * 4, none⟩ (.int .i64 (x0.no : Int))).setCell ⟨H, i * 4 + 1, none⟩ (.int .i64 (x0.s : Int))).setCell ⟨H, i * 4 + 2, none⟩ (.int .i64 (x0.g : Int))).setCell ⟨H, i * 4 + 3, none⟩ (.slice A3 nn c3) = w4 := ⟨_, rfl⟩
     have HRG3 := Lib.hid (HRG2.out.below hbW)
     have HT4 : Hid (Turn [H] w3 w4) := Lib.hid (by rw [← hw4]; exact (Turn.refl _ _).put4 (by simp) _ _ _ _ _ _ _ _)
     have HU4 : Hid (∀ (g : Nat) (cs : Array Value), w3.heap[g]? = some (Obj.cells cs 5 (0, 0)) → w4.heap[g]? = w3.heap[g]?) := Lib.hid (fun g cs hg => HT4.out.block g (heap_lt hg) (by
      rw [List.mem_singleton]
      rintro rfl
      obtain ⟨cs', hc'⟩ := HRG3.out.sr.type
      rw [hg] at hc'
      cases hc'))
     have HSR4 : Hid (SR w4 H 16 (updS X i ⟨x0.no, x0.s, x0.g, A3, nn, c3, x0.D⟩)) := Lib.hid (by rw [← hw4]; exact HRG3.out.sr.put hlt ⟨x0.no, x0.s, x0.g, A3, nn, c3, x0.D⟩)
     have HR4 : Hid (Rg w4 (H + 1) p H (lastOf R i) S d nw (updS X i ⟨x0.no, x0.s, x0.g, A3, nn, c3, x0.D⟩)) := Lib.hid ⟨HRG3.out.rb.keep (HT4.out.block _ HRG3.out.rb.lt (by simp)), HSR4.out, fun j hj => by
      unfold updS
      split
      ·intro hno
       obtain ⟨a, b⟩ := HD3.out hno
       exact ⟨by rw [← HNN.out, if_neg hno], a.keep HU4.out, b⟩
      ·exact (HRG3.out.ok j hj).keep HU4.out, HRG3.out.plt.same ⟨HU4.out, fun k hk => HT4.out.block k (HRG3.out.plt.lt k hk) (by
       rw [List.mem_singleton]
       rintro rfl
       exact HRG3.out.sS hk)⟩⟩
     have HB4 : Hid (Below w.heap.size w w4) := Lib.hid (by
      rw [← hw4]
      have h3 := HB2.out.trans (hbW.mono HB2.out.size)
      have hh : w.heap.size ≤ H := Nat.le_of_eq HHE.out
      exact (((h3.setCell (p := ⟨H, i * 4, none⟩) hh _).setCell (p := ⟨H, i * 4 + 1, none⟩) hh _).setCell (p := ⟨H, i * 4 + 2, none⟩) hh _).setCell (p := ⟨H, i * 4 + 3, none⟩) hh _)
     go_wp2_with fail
     rw [hw4]
     go_meet
     exact ⟨⟨x0.no, x0.s, x0.g, A3, nn, c3, x0.D⟩, Lib.hid ⟨HX0.out, HR4.out, HB4.out⟩⟩
   case rest =>
    obtain ⟨x, HC⟩ := hcut
    have HRG4 := Lib.hid HC.out.2.1
    have HB4 := Lib.hid HC.out.2.2
    have HSX := Lib.hid HC.out.1
    have HLE : Hid (lastOf R (i + 1) = max (lastOf R i) x.no) := Lib.hid (by rw [HC.out.1.1]; rfl)
    have hb1 := HLL.out i (by omega)
    have hb2 := HLL.out (i + 1) (by omega)
    clear HC HRG2 HB2 HX0 HRE HS HNN
    obtain ⟨L, hL⟩ : ∃ L, lastOf R i = L := ⟨_, rfl⟩
    rw [hL] at HRG4 HLE hb1
    have c1 := HRG4.out.rb.c1
    have c2 := HRG4.out.rb.c2
    have cf := HRG4.out.rb.f
    obtain ⟨y0, _, _, _⟩ := HRG4.out.sr.cell hlt
    rw [show updS X i x i = x by unfold updS; rw [if_pos rfl]] at y0
    obtain ⟨L2, hL2⟩ : ∃ L2, max L x.no = L2 := ⟨_, rfl⟩
    rw [hL2] at HLE
    have HL2 := Lib.hid hL2
    have HEND : Hid (∀ W, Below wc.heap.size wc W → OSt w (H + 1) p H S d nw R (i + 1) (W.setCell ⟨H + 1, 2, none⟩ (.int .i64 (L2 : Int)))) := Lib.hid (fun W hW => by
     have g := HRG4.out.below hW
     have ht : Turn [H + 1] W (W.setCell ⟨H + 1, 2, none⟩ (.int .i64 (L2 : Int))) := Turn.set _ _ _ _ (by simp)
     have hu : ∀ (g' : Nat) (cs : Array Value), W.heap[g']? = some (Obj.cells cs 5 (0, 0)) → (W.setCell ⟨H + 1, 2, none⟩ (.int .i64 (L2 : Int))).heap[g']? = W.heap[g']? := fun g' cs hg => ht.block g' (heap_lt hg) (by
      rw [List.mem_singleton]
      rintro rfl
      have := g.rb
      unfold RB at this
      rw [hg] at this
      cases this)
     refine ⟨updS X i x, ⟨by rw [HLE.out]; exact g.rb.put L2, g.sr.keep (set_other (by omega) 2 _), fun j hj => (g.ok j hj).keep hu, g.plt.same ⟨hu, fun k hk => ht.block k (g.plt.lt k hk) (by
      rw [List.mem_singleton]
      rintro rfl
      exact g.rS hk)⟩⟩, fun j hj => ?_, (HB4.out.trans (hW.mono HB4.out.size)).setCell (p := ⟨H + 1, 2, none⟩) (by have := HHE.out; show w.heap.size ≤ H + 1; omega) _⟩
     by_cases e : j = i
     ·subst e
      rw [show updS X j x j = x by unfold updS; rw [if_pos rfl]]
      exact HSX.out
     ·rw [show updS X i x j = X j by unfold updS; rw [if_neg e]]
      exact HSY.out j (by omega))
    clear hL hL2 HLE
    by_cases hmx : L < x.no
    ·obtain rfl : x.no = L2 := by have := HL2.out; omega
     have hmi : (L : Int) < (x.no : Int) := by omega
     have hmi2 : ¬ (x.no : Int) < (L : Int) := by omega
     clear hmx
     go_upto_region 9 with fail
     go_wp2_with fail
     go_region
     all_goals
      have HE2 := Lib.hid ((HEND.out wc (Below.refl _ _)).below (below_drewN 1 _))
      clear c1 c2 cf y0
      go_wp2_with fail
      go_roundg (16 - (i + 1))
      case measure => omega
      case rel => exact ⟨i + 1, by go_num, by omega, rfl, HE2⟩
    ·obtain rfl : L = L2 := by have := HL2.out; omega
     have hmi : ¬ (L : Int) < (x.no : Int) := by omega
     have hmi2 : (x.no : Int) ≤ (L : Int) := by omega
     clear hmx
     go_upto_region 9 with fail
     go_wp2_with fail
     go_region
     all_goals
      have HE2 := Lib.hid ((HEND.out wc (Below.refl _ _)).below (below_drewN 1 _))
      clear c1 c2 cf y0
      go_wp2_with fail
      go_roundg (16 - (i + 1))
      case measure => omega
      case rel => exact ⟨i + 1, by go_num, by omega, rfl, HE2⟩
  ·obtain rfl : i = 16 := by omega
   obtain ⟨X, hrg, hsay, hbl⟩ := HO.out
   have HR := Lib.hid hrg
   have HSY := Lib.hid hsay
   have HB := Lib.hid hbl
   clear hrg hsay hbl
   go_wp2_with fail
   go_ret2
   exact ⟨H + 1, H, X, rfl, HR.out, HSY.out, HB.out, by rw [HHE.out]; omega, by rw [HHE.out]; omega⟩
end Go.Proofs.YtobkmohoepgfmaaGreatDoor
namespace Go.Proofs.YtobkmohoepgfmaaGreatDoor
open Go.RowKit Go.Sort
set_option maxRecDepth 100000
set_option maxHeartbeats 2000000

def flatS (X : Nat → Sx) : Nat → List Value
 | 0 => []
 | k + 1 => flatS X k ++ [.int .i64 ((X k).no : Int), .int .i64 ((X k).s : Int), .int .i64 ((X k).g : Int), .slice (X k).A (X k).n (X k).c]
theorem flatS_len (X : Nat → Sx) : ∀ n, (flatS X n).length = n * 4
 | 0 => rfl
 | n + 1 => by
  unfold flatS
  rw [List.length_append, flatS_len X n]
  simp
  omega
theorem flatS_get (X : Nat → Sx) : ∀ n i, i < n → (flatS X n)[i * 4]? = some (.int .i64 ((X i).no : Int)) ∧ (flatS X n)[i * 4 + 1]? = some (.int .i64 ((X i).s : Int)) ∧ (flatS X n)[i * 4 + 2]? = some (.int .i64 ((X i).g : Int)) ∧ (flatS X n)[i * 4 + 3]? = some (.slice (X i).A (X i).n (X i).c)
 | 0, i, h => by omega
 | n + 1, i, h => by
  have hl := flatS_len X n
  unfold flatS
  by_cases e : i = n
  ·subst e
   refine ⟨?_, ?_, ?_, ?_⟩
   ·rw [List.getElem?_append_right (by omega), hl, show i * 4 - i * 4 = 0 by omega]; rfl
   ·rw [List.getElem?_append_right (by omega), hl, show i * 4 + 1 - i * 4 = 1 by omega]; rfl
   ·rw [List.getElem?_append_right (by omega), hl, show i * 4 + 2 - i * 4 = 2 by omega]; rfl
   ·rw [List.getElem?_append_right (by omega), hl, show i * 4 + 3 - i * 4 = 3 by omega]; rfl
  ·obtain ⟨a0, a1, a2, a3⟩ := flatS_get X n i (by omega)
   refine ⟨?_, ?_, ?_, ?_⟩
   ·rw [List.getElem?_append_left (by omega)]; exact a0
   ·rw [List.getElem?_append_left (by omega)]; exact a1
   ·rw [List.getElem?_append_left (by omega)]; exact a2
   ·rw [List.getElem?_append_left (by omega)]; exact a3
theorem flatS_one (X : Nat → Sx) : ∀ n, ∀ u ∈ flatS X n, u.oneCell' = true
 | 0 => fun u hu => by cases hu
 | n + 1 => fun u hu => by
  unfold flatS at hu
  rw [List.mem_append] at hu
  rcases hu with hu | hu
  ·exact flatS_one X n u hu
  ·simp at hu
   rcases hu with rfl | rfl | rfl | rfl <;> rfl
theorem own_emptyS {w : World} {base e : Nat} (hb : w.heap[e]? = some (.cells #[] 194 (0, 0))) (hB : base ≤ e) : w.ownsRow base 194 4 (.slice (some ⟨e, 0, none⟩) 0 0) 0 [] :=
 ⟨rfl, Or.inr ⟨e, 0, #[], rfl, hB, hb, Nat.le_refl _, by unfold maxLen; omega, rfl, rfl⟩⟩
theorem sr_of_own {w : World} {B g n cap : Nat} {X : Nat → Sx} (h : w.ownsRow B 194 4 (.slice (some ⟨g, 0, none⟩) n cap) n (flatS X n)) : SR w g n X ∧ B ≤ g ∧ n ≤ cap := by
 rcases h.2 with ⟨h0, _⟩ | ⟨g', cap', cur, e, hg, hb, h3, _, h5, h6⟩
 ·cases h0
 ·cases e
  refine ⟨⟨cur, hb, by omega, fun i hi => ?_⟩, hg, h3⟩
  have key : ∀ k, k < n * 4 → cur[k]? = (flatS X n)[k]? := fun k hk => by
   rw [← h6, List.getElem?_take_of_lt hk, Array.getElem?_toList]
  obtain ⟨a0, a1, a2, a3⟩ := flatS_get X n i hi
  exact ⟨(key _ (by omega)).trans a0, (key _ (by omega)).trans a1, (key _ (by omega)).trans a2, (key _ (by omega)).trans a3⟩
theorem flatS_cell {w : World} {b n : Nat} {X : Nat → Sx} (h : SR w b n X) : ∀ (j : Nat) (u : Value), (flatS X n)[j]? = some u → w.cell? ((⟨b, 0, none⟩ : Addr).add j) = some u := by
 intro j u hu
 have hj : j < n * 4 := by
  have := (List.getElem?_eq_some_iff.1 hu).1
  rwa [flatS_len] at this
 obtain ⟨q, hq⟩ : ∃ q, j / 4 = q := ⟨_, rfl⟩
 obtain ⟨a0, a1, a2, a3⟩ := flatS_get X n q (by omega)
 obtain ⟨c0, c1, c2, c3⟩ := h.cell (i := q) (by omega)
 rw [addr_add, Nat.zero_add]
 have hc : j = q * 4 ∨ j = q * 4 + 1 ∨ j = q * 4 + 2 ∨ j = q * 4 + 3 := by omega
 rcases hc with rfl | rfl | rfl | rfl
 ·rw [c0]; exact a0.symm.trans hu
 ·rw [c1]; exact a1.symm.trans hu
 ·rw [c2]; exact a2.symm.trans hu
 ·rw [c3]; exact a3.symm.trans hu
def ISClone (X : Nat → Sx) (w : World) (e : Ending) (w' : World) : Prop := ∃ g cap, e = .returned (.slice (some ⟨g, 0, none⟩) 16 cap) ∧ SR w' g 16 X ∧ Below w.heap.size w w' ∧ w.heap.size ≤ g ∧ 16 ≤ cap
theorem isclone {w : World} {sb c : Nat} {X : Nat → Sx} (h : SR w sb 16 X) :
  Calls Tryz.prog 182 #[.slice (some ⟨sb, 0, none⟩) 16 c] w (ISClone X w) := by
 obtain ⟨i0, hi0, hz0, hz1, hz2⟩ := info_parts infoSlot
 have HE := Lib.hid (own_emptyS (base := w.heap.size) (alloc_block w (.cells #[] 194)) (Nat.le_refl _))
 have HB : Hid (Below w.heap.size w (w.alloc (.cells #[] 194))) := Lib.hid ((Below.refl _ _).alloc (Nat.le_refl _) _)
 have HR := Lib.hid h
 have heq : Sem.run Tryz.prog (binOp .eql 189 (.slice (some ⟨sb, 0, none⟩) 16 c) (.slice none 0 0)) w = .ok (.bool false) w := Lib.run_eql_slice_nil w 189 194 (some ⟨sb, 0, none⟩) 16 c 0 0 Tryz.underlying189
 clear h
 go_enter Tryz.func182, Tryz.ntmps182
 go_wp2_with (at_builtin; refine wpList_append_lies _ rfl (.tmp 5) (.tmp 6) 189 rfl w.heap.size 194 i0 _ 4 48 Tryz.underlying189 hi0 hz0 hz1 hz2 rfl (by decide) (.slice (some ⟨w.heap.size, 0, none⟩) 0 0) 0 [] rfl HE.out ⟨sb, 0, none⟩ 16 c (flatS X 16) rfl (flatS_len X 16) (flatS_cell (HR.out.below HB.out)) (flatS_one X 16) (by omega) (by unfold maxLen; omega) (by omega) HB.out.size _ rfl ?_; intro g' cap' w' own gr _ _; have HO := Lib.hid own; have HG := Lib.hid gr; clear own gr)
 go_ret
 have ho := HO.out
 rw [Nat.zero_add, List.nil_append] at ho
 obtain ⟨h1, h2, h3⟩ := sr_of_own ho
 exact ⟨g', cap', rfl, h1, Below.grown HB.out HG.out HB.out.size (fun k hk => by cases hk; exact Nat.le_refl _), h2, h3⟩
def lv (X : Nat → Sx) : Nat → List Sx
 | 0 => []
 | k + 1 => lv X k ++ (if (X k).no = 0 then [] else [X k])
theorem lv_len (X : Nat → Sx) : ∀ k, (lv X k).length ≤ k
 | 0 => Nat.le_refl _
 | k + 1 => by
  have := lv_len X k
  unfold lv
  split <;> simp <;> omega
theorem lv_all {X : Nat → Sx} : ∀ {k : Nat}, (∀ i, i < k → (X i).no ≠ 0) → (lv X k).length = k ∧ ∀ i, i < k → (lv X k)[i]? = some (X i)
 | 0, _ => ⟨rfl, fun i hi => by omega⟩
 | k + 1, h => by
  obtain ⟨h1, h2⟩ := lv_all (X := X) (k := k) (fun i hi => h i (by omega))
  unfold lv
  rw [if_neg (h k (by omega))]
  refine ⟨by simp [h1], fun i hi => ?_⟩
  by_cases e : i = k
  ·subst e
   rw [List.getElem?_append_right (by omega), h1, Nat.sub_self]
   rfl
  ·rw [List.getElem?_append_left (by omega)]
   exact h2 i (by omega)
theorem lv_mem {X : Nat → Sx} : ∀ {k : Nat} {x : Sx}, x ∈ lv X k ↔ ∃ i, i < k ∧ (X i).no ≠ 0 ∧ X i = x
 | 0, x => by
  unfold lv
  constructor
  ·intro h; cases h
  ·rintro ⟨i, hi, _⟩; omega
 | k + 1, x => by
  unfold lv
  rw [List.mem_append, lv_mem (X := X) (k := k)]
  constructor
  ·rintro (⟨i, hi, h⟩ | h)
   ·exact ⟨i, by omega, h⟩
   ·split at h
    ·cases h
    ·rename_i hk
     simp at h
     exact ⟨k, by omega, hk, h.symm⟩
  ·rintro ⟨i, hi, hn, e⟩
   by_cases hk : i = k
   ·subst hk
    right
    rw [if_neg hn]
    simp [e]
   ·exact Or.inl ⟨i, by omega, hn, e⟩
def SL (w : World) (b : Nat) (l : List Sx) : Prop := SR w b l.length (fun i => l.getD i Sx.z)
theorem getD_some {l : List Sx} {i : Nat} {x : Sx} (h : l[i]? = some x) : l.getD i Sx.z = x := by
 rw [List.getD_eq_getElem?_getD, h]; rfl
theorem setCells_turn (b : Nat) : ∀ (vs : List Value) (o : Nat) (w : World), Turn [b] w (w.setCells b o vs)
 | [], _, w => Turn.refl _ _
 | v :: r, o, w => (Turn.set [b] w ⟨b, o, none⟩ v (by simp)).trans (setCells_turn b r (o + 1) _)
theorem setCells_block (b : Nat) : ∀ (vs : List Value) (o : Nat) (w : World) (cs : Array Value) (t : TypeId), w.heap[b]? = some (.cells cs t (0, 0)) → ∃ cs', (w.setCells b o vs).heap[b]? = some (.cells cs' t (0, 0)) ∧ cs'.size = cs.size ∧ ∀ k, k < o → cs'[k]? = cs[k]?
 | [], o, w, cs, t, h => ⟨cs, h, rfl, fun _ _ => rfl⟩
 | v :: r, o, w, cs, t, h => by
  obtain ⟨cs', h1, h2, h3⟩ := setCells_block b r (o + 1) _ _ t (set_block h o v)
  refine ⟨cs', h1, by rw [h2]; simp, fun k hk => ?_⟩
  rw [h3 k (by omega)]
  simp [Array.getElem?_setIfInBounds]
  omega
theorem SR.cut {w : World} {b n m o : Nat} {X : Nat → Sx} (h : SR w b n X) (hm : m ≤ n) (ho : m * 4 ≤ o) (vs : List Value) : SR (w.setCells b o vs) b m X := by
 obtain ⟨cs, hb, hs, hc⟩ := h
 obtain ⟨cs', h1, h2, h3⟩ := setCells_block b vs o w cs _ hb
 refine ⟨cs', h1, by omega, fun i hi => ?_⟩
 obtain ⟨a0, a1, a2, a3⟩ := hc i (by omega)
 exact ⟨(h3 _ (by omega)).trans a0, (h3 _ (by omega)).trans a1, (h3 _ (by omega)).trans a2, (h3 _ (by omega)).trans a3⟩
theorem clearS {w : World} {b i c : Nat} {X : Nat → Sx} (h : SR w b 16 X) (hi : i < 16) (ty : TypeId) : ∃ L, (Builtin.clear_ #[189] ty #[.slice (some ⟨b, i * 4, none⟩) (16 - i) c]).run Tryz.prog w = .ok (.tuple #[]) (w.setCells b (i * 4) L) := by
 refine ⟨(Builtin.zeroCells (Value.agg #[.int .i64 0, .int .i64 0, .int .i64 0, .slice none 0 0]).cells (16 - i)).toList, ?_⟩
 have hlen : (Builtin.zeroCells (Value.agg #[.int .i64 0, .int .i64 0, .int .i64 0, .slice none 0 0]).cells (16 - i)).toList.length = (16 - i) * 4 := by
  simp [Builtin.zeroCells, Value.cells]
 have hst := run_storeCells_cells (P := Tryz.prog) b (i * 4) (Builtin.zeroCells (Value.agg #[.int .i64 0, .int .i64 0, .int .i64 0, .slice none 0 0]).cells (16 - i)).toList 0 w
  (fun j hj => by
   rw [hlen] at hj
   obtain ⟨a0, a1, a2, a3⟩ := h.cell (i := i + j / 4) (by omega)
   have hc : j % 4 = 0 ∨ j % 4 = 1 ∨ j % 4 = 2 ∨ j % 4 = 3 := by omega
   rcases hc with e | e | e | e
   ·rw [show i * 4 + 0 + j = (i + j / 4) * 4 by omega, a0]; rfl
   ·rw [show i * 4 + 0 + j = (i + j / 4) * 4 + 1 by omega, a1]; rfl
   ·rw [show i * 4 + 0 + j = (i + j / 4) * 4 + 2 by omega, a2]; rfl
   ·rw [show i * 4 + 0 + j = (i + j / 4) * 4 + 3 by omega, a3]; rfl)
  (fun j _ => h.f _)
  (fun v hv => by
   have hv' : v ∈ (Builtin.zeroCells (Value.agg #[.int .i64 0, .int .i64 0, .int .i64 0, .slice none 0 0]).cells (16 - i)) := Array.mem_toList_iff.1 hv
   simp only [Builtin.zeroCells, Array.mem_map] at hv'
   obtain ⟨k, _, rfl⟩ := hv'
   have hk : k % 4 = 0 ∨ k % 4 = 1 ∨ k % 4 = 2 ∨ k % 4 = 3 := by omega
   show ((#[.int .i64 0, .int .i64 0, .int .i64 0, .slice none 0 0] : Array Value)[k % 4]!).oneCell' = true
   rcases hk with e | e | e | e <;> rw [e] <;> rfl)
 simp only [Nat.add_zero] at hst
 obtain ⟨m, hm⟩ : ∃ m, 16 - i = m + 1 := ⟨15 - i, by omega⟩
 rw [hm] at hst ⊢
 simp [Builtin.clear_, run_underlying Tryz.underlying189, hst]
end Go.Proofs.YtobkmohoepgfmaaGreatDoor
namespace Go.Proofs.YtobkmohoepgfmaaGreatDoor
open Go.RowKit Go.Sort
set_option maxRecDepth 100000
set_option maxHeartbeats 2000000

def DeSt (g : Nat) (X : Nat → Sx) (w : World) (i j : Nat) (v : World) : Prop :=
 ∃ Z, SR v g 16 Z ∧ Turn [g] w v ∧ i = (lv X j).length ∧ i < j ∧ (∀ a x, (lv X j)[a]? = some x → Z a = x) ∧ ∀ a, j ≤ a → Z a = X a
theorem SL.of {w : World} {b n : Nat} {Z : Nat → Sx} {l : List Sx} (h : SR w b n Z) (hn : l.length = n) (hz : ∀ a x, l[a]? = some x → Z a = x) : SL w b l := by
 unfold SL
 rw [hn]
 refine h.congr (fun i hi => ?_)
 have e : l[i]? = some (l[i]'(by omega)) := List.getElem?_eq_getElem (by omega)
 rw [hz i _ e]
 exact (getD_some e).symm
def DelRet (g : Nat) (X : Nat → Sx) (w : World) (e : Ending) (w' : World) : Prop := ∃ c, e = .returned (.slice (some ⟨g, 0, none⟩) (lv X 16).length c) ∧ SL w' g (lv X 16) ∧ Turn [g] w w'
theorem isdelete {w : World} {g cap : Nat} {X : Nat → Sx} (h : SR w g 16 X) (hcap : 16 ≤ cap) :
  Calls Tryz.prog 181 #[.slice (some ⟨g, 0, none⟩) 16 cap, .func (.func 183) #[] #[]] w (DelRet g X w) := by
 have HIX := Lib.hid (iindexV g 16 cap X (fun k => decide ((X k).no = 0)) w h (by omega) (fun i hi W hW => by
  unfold Sx.v
  exact idead2 (X i).no ((X i).s : Int) ((X i).g : Int) (X i).A (X i).n (X i).c W (decide ((X i).no = 0)) (by simp)))
 have HS := Lib.hid h
 clear h
 go_enter Tryz.func181, Tryz.ntmps181
 go_wp2_with fail
 refine HIX.out.mono ?_
 rintro e w1 ⟨k', rfl, hk', hb1⟩
 try dsimp only
 have HS1 := Lib.hid (HS.out.below hb1)
 have HT1 : Hid (Turn [g] w w1) := Lib.hid (Turn.of hb1)
 have HK := Lib.hid hk'
 clear hb1 hk' HIX HS
 rcases HK.out with ⟨rfl, hall⟩ | ⟨k, rfl, hk, hkd, hkf⟩
 ·have HA := Lib.hid (lv_all (X := X) (k := 16) (fun i hi h0 => hall i hi (decide_eq_true h0)))
  clear hall
  go_wp2_with fail
  go_ret
  refine ⟨cap, by rw [HA.out.1]; rfl, SL.of HS1.out HA.out.1 (fun a x hx => ?_), HT1.out⟩
  have := HA.out.2 a (by have := (List.getElem?_eq_some_iff.1 hx).1; rw [HA.out.1] at this; exact this)
  rw [this] at hx
  cases hx
  rfl
 ·have hk0 : ((k : Int) == -1) = false := beq_eq_false_iff_ne.2 (by omega)
  have HD : Hid (DeSt g X w k (k + 1) w1) := Lib.hid (by
   obtain ⟨h1, h2⟩ := lv_all (X := X) (k := k) (fun i hi h0 => hkf i hi (decide_eq_true h0))
   have e : lv X (k + 1) = lv X k := by
    show lv X k ++ _ = _
    rw [if_pos (of_decide_eq_true hkd), List.append_nil]
   refine ⟨X, HS1.out, HT1.out, by rw [e, h1], Nat.lt_succ_self _, fun a x hx => ?_, fun _ _ => rfl⟩
   rw [e] at hx
   have hlt := (List.getElem?_eq_some_iff.1 hx).1
   rw [h2 a (by omega)] at hx
   cases hx
   rfl)
  clear hkd hkf HK HS1 HT1
  have hcap2 : (16 : Int) ≤ (cap : Int) := by omega
  go_wp2_with fail
  go_loopg [5, 6, 7] (16 - (k + 1)) (fun q s5 s6 s7 v => ∃ i j : Nat, s5 = .int .i64 (i : Int) ∧ s6 = .int .i64 (j : Int) ∧ i < j ∧ j ≤ 16 ∧ q = 16 - j ∧ Hid (DeSt g X w i j v))
  case atStart => exact ⟨k, k + 1, rfl, by go_num, by omega, by omega, rfl, HD⟩
  case round =>
   obtain ⟨i, j, rfl, rfl, hij, hj, rfl, HV⟩ := hrel
   clear HD
   by_cases hlt : j < 16
   ·have hl : (j : Int) < 16 := by omega
    have hi16 : (i : Int) < 16 := by omega
    have hi0 : (0 : Int) ≤ (i : Int) := by omega
    have hj0 : (0 : Int) ≤ (j : Int) := by omega
    obtain ⟨Z, hz, ht, hil, _, hza, hzb⟩ := HV.out
    have HZ := Lib.hid hz
    have HT := Lib.hid ht
    have HIL := Lib.hid hil
    have HZA := Lib.hid hza
    have HZB := Lib.hid hzb
    obtain ⟨a0, a1, a2, a3⟩ := hz.cell hlt
    have hZj := hzb j (Nat.le_refl _)
    rw [hZj] at a0 a1 a2 a3
    clear hz ht hil hza hzb hZj HV
    obtain ⟨v1, hv1⟩ : ∃ v1, wr.alloc (.cells #[.int .i64 ((X j).no : Int), .int .i64 ((X j).s : Int), .int .i64 ((X j).g : Int), .slice (X j).A (X j).n (X j).c] 194) = v1 := ⟨_, rfl⟩
    obtain ⟨H, hH⟩ : ∃ H, wr.heap.size = H := ⟨_, rfl⟩
    have HHE := Lib.hid hH
    have HV1 := Lib.hid hv1
    have hb1 : Below wr.heap.size wr v1 := by rw [← hv1]; exact (Below.refl _ _).alloc (Nat.le_refl _) _
    have HK1 : Hid (SV v1 H ((X j).no : Int) ((X j).s : Int) ((X j).g : Int) (X j).A (X j).n (X j).c) := Lib.hid (by rw [← hv1]; exact SV.of_new hH)
    have HZ1 := Lib.hid (HZ.out.below hb1)
    have HT1 : Hid (Turn [g] w v1) := Lib.hid (HT.out.trans (Turn.of hb1))
    have HGH : Hid (g < H) := Lib.hid (by have := HZ.out.lt; omega)
    have HLV : Hid (lv X (j + 1) = lv X j ++ (if (X j).no = 0 then [] else [X j])) := Lib.hid rfl
    have HXJ : Hid (∃ x, X j = x) := Lib.hid ⟨_, rfl⟩
    obtain ⟨x, hx⟩ := HXJ.out
    rw [hx] at HV1 HK1 HLV a0 a1 a2 a3
    clear hv1 hH hb1 hx HZ HT HXJ
    by_cases h0 : x.no = 0
    ·have HL := Lib.hid (idead2 x.no (x.s : Int) (x.g : Int) x.A x.n x.c v1 true ⟨fun _ => h0, fun _ => rfl⟩)
     rw [if_pos h0, List.append_nil] at HLV
     clear h0
     unfold sv at HL
     go_wp2_with fail
     rw [HV1.out, HHE.out]
     refine HL.out.mono ?_
     rintro e w2 ⟨rfl, hb2⟩
     try dsimp only
     have HD2 : Hid (DeSt g X w i (j + 1) w2) := Lib.hid ⟨Z, HZ1.out.below hb2, HT1.out.trans (Turn.of hb2), by rw [HLV.out]; exact HIL.out, by omega, fun a y hy => HZA.out a y (by rw [← HLV.out]; exact hy), fun a ha => HZB.out a (by omega)⟩
     clear hb2 HL
     go_wp2_with fail
     go_roundg (16 - (j + 1))
     case measure => omega
     case rel => exact ⟨i, j + 1, rfl, by go_num, by omega, by omega, rfl, HD2⟩
    ·have HL := Lib.hid (idead2 x.no (x.s : Int) (x.g : Int) x.A x.n x.c v1 false ⟨fun e => (by cases e), fun e => absurd e h0⟩)
     rw [if_neg h0] at HLV
     clear h0
     unfold sv at HL
     go_wp2_with fail
     rw [HV1.out, HHE.out]
     refine HL.out.mono ?_
     rintro e w2 ⟨rfl, hb2⟩
     try dsimp only
     have HK2 := Lib.hid (HK1.out.below hb2)
     have HZ2 := Lib.hid (HZ1.out.below hb2)
     have HT2 : Hid (Turn [g] w w2) := Lib.hid (HT1.out.trans (Turn.of hb2))
     have k0 := HK2.out.c0
     have k1 := HK2.out.c1
     have k2 := HK2.out.c2
     have k3 := HK2.out.c3
     clear hb2 HL a0 a1 a2 a3
     obtain ⟨a0, a1, a2, a3⟩ := HZ2.out.cell (i := i) (by omega)
     have af := HZ2.out.f
     have hne : ¬ H = g := by have := HGH.out; omega
     have HD2 : Hid (DeSt g X w (i + 1) (j + 1) ((((w2.setCell ⟨g, i * 4, none⟩ (.int .i64 (x.no : Int))).setCell ⟨g, i * 4 + 1, none⟩ (.int .i64 (x.s : Int))).setCell ⟨g, i * 4 + 2, none⟩ (.int .i64 (x.g : Int))).setCell ⟨g, i * 4 + 3, none⟩ (.slice x.A x.n x.c))) := Lib.hid (by
      refine ⟨updS Z i x, HZ2.out.put (by omega) x, HT2.out.put4 (by simp) _ _ _ _ _ _ _ _, by rw [HLV.out, List.length_append, ← HIL.out]; rfl, by omega, fun a y hy => ?_, fun a ha => ?_⟩
      ·rw [HLV.out] at hy
       unfold updS
       by_cases e : a = i
       ·rw [if_pos e]
        subst e
        rw [List.getElem?_append_right (by rw [← HIL.out]; exact Nat.le_refl _), ← HIL.out, Nat.sub_self] at hy
        cases hy
        rfl
       ·rw [if_neg e]
        have hlt2 := (List.getElem?_eq_some_iff.1 hy).1
        rw [List.length_append, ← HIL.out] at hlt2
        simp at hlt2
        rw [List.getElem?_append_left (by rw [← HIL.out]; omega)] at hy
        exact HZA.out a y hy
      ·unfold updS
       rw [if_neg (by omega)]
       exact HZB.out a (by omega))
     go_wp2_with fail
     go_roundg (16 - (j + 1))
     case measure => omega
     case rel => exact ⟨i + 1, j + 1, by go_num, by go_num, by omega, by omega, rfl, HD2⟩
   ·obtain rfl : j = 16 := by omega
    obtain ⟨Z, hz, ht, hil, _, hza, _⟩ := HV.out
    obtain ⟨L, hcl⟩ := clearS (c := cap - i) hz hij 0
    have HEND : Hid (DelRet g X w (.returned (.slice (some ⟨g, 0, none⟩) i cap)) (wr.setCells g (i * 4) L)) := Lib.hid ⟨cap, by rw [hil], SL.of (hz.cut (m := i) (by omega) (Nat.le_refl _) L) hil.symm hza, ht.trans (setCells_turn g L _ _)⟩
    have hi16 : (i : Int) < 16 := by omega
    have hi0 : (0 : Int) ≤ (i : Int) := by omega
    have hic : (i : Int) ≤ (cap : Int) := by omega
    have hi17 : (i : Int) ≤ 16 := by omega
    have hsn : ((16 : Int) - (i : Int)).toNat = 16 - i := by omega
    have hsc : ((cap : Int) - (i : Int)).toNat = cap - i := by omega
    have hne : ¬ cap = i := by omega
    clear hz ht hil hza HV
    go_wp2_with fail
    go_ret
    exact HEND.out
end Go.Proofs.YtobkmohoepgfmaaGreatDoor
