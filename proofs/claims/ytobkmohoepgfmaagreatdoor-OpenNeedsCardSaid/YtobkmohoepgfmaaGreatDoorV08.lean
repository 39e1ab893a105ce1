import Derived.Test.YtobkmohoepgfmaaGreatDoorV07
import Derived.Test.YtobkmohoepgfmaaGreatDoorV06
namespace Go.Proofs.YtobkmohoepgfmaaGreatDoor
open Go.RowKit Go.Sort
set_option maxRecDepth 100000
set_option maxHeartbeats 1000000

theorem num4_eq (F : Nat → Nat) : num4 F 156 = numF (fun j => F (156 + j)) 4 := by rw [numF_4]; unfold num4; rfl
theorem mopen_len (A : Option Addr) (n cap : Nat) (w : World) (hn : n ≠ 160) :
  Calls Tryz.prog 138 #[.slice A n cap] w fun e w' => e = .returned (.tuple #[.int .i64 0, .slice none 0 0, .int .i64 2]) ∧ w' = w := by
 have e1 : ((n : Int) != 160) = true := by rw [bne_iff_ne]; omega
 clear hn
 go_enter Tryz.func138, Tryz.ntmps138
 go_wp2_with fail
 go_ret3
 exact ⟨rfl, rfl⟩
theorem mopen_mark (g q cap : Nat) (F : Nat → Nat) (w : World) (h : Rd w (some ⟨g, q, none⟩) 160 F) (hc : 160 ≤ cap) (hF : ∀ j, j < 160 → F j < 256) (hne : num4 F 156 ≠ sumF F 156) :
  Calls Tryz.prog 138 #[.slice (some ⟨g, q, none⟩) 160 cap] w fun e w' => e = .returned (.tuple #[.int .i64 0, .slice none 0 0, .int .i64 3]) ∧ Below w.heap.size w w' := by
 have HN := Lib.hid (nof (some ⟨g, q + 156, none⟩) 4 (cap - 156) (fun j => F (156 + j)) w.drew (h.cut (k := 156) (by omega)).drew (fun j hj => hF _ (by omega)) (by omega))
 have HS := Lib.hid (msum (some ⟨g, q, none⟩) 156 cap F w.drew (h.less (by omega)).drew (fun j hj => hF _ (by omega)) (by omega))
 rw [← num4_eq] at HN
 have e1 : (((num4 F 156 : Nat) : Int) != ((sumF F 156 : Nat) : Int)) = true := by rw [bne_iff_ne]; omega
 have c1 : (156 : Int) ≤ (cap : Int) := by omega
 have c2 : ¬ cap = 156 := by omega
 clear hne hF h
 generalize num4 F 156 = x at *
 generalize sumF F 156 = y at *
 go_enter Tryz.func138, Tryz.ntmps138
 go_wp2_with fail
 refine wp_region_still_tail 6 (by kernel_rfl) (by kernel_rfl) ?_
 simp only [List.take_succ_cons, List.take_zero, List.drop_succ_cons, List.drop_zero]
 repeat still_step
 still_call HN.out
 repeat still_step
 still_call HS.out
 repeat still_step
 refine wpStill_nil ?_
 change wpList _ _ _ _ _ w.drew
 go_wp2_with fail
 go_ret3
 exact ⟨rfl, below_drewN 1 w⟩

def OpenRet (F : Nat → Nat) (w : World) (e : Ending) (w' : World) : Prop := ∃ g cap, e = .returned (.tuple #[.int .i64 (F 0 : Nat), .slice (some ⟨g, 0, none⟩) (F 1 * 256 + F 2) cap, .int .i64 0]) ∧ Blk8 w' g (F 1 * 256 + F 2) (fun k => F (3 + k)) ∧ Below w.heap.size w w' ∧ F 1 * 256 + F 2 ≤ cap
theorem mopen_rest (g q cap : Nat) (F : Nat → Nat) (w : World) (Q : Ending → World → Prop) (h : Rd w (some ⟨g, q, none⟩) 160 F) (hc : 160 ≤ cap) (hF : ∀ j, j < 160 → F j < 256) (heq : num4 F 156 = sumF F 156)
  (hbad : ¬ OpenOk F → ∀ w', Below w.heap.size w w' → Q (.returned (.tuple #[.int .i64 0, .slice none 0 0, .int .i64 2])) w') (hgood : OpenOk F → ∀ e w', OpenRet F w e w' → Q e w') :
  Calls Tryz.prog 138 #[.slice (some ⟨g, q, none⟩) 160 cap] w Q := by
 have HN := Lib.hid (nof (some ⟨g, q + 156, none⟩) 4 (cap - 156) (fun j => F (156 + j)) w.drew (h.cut (k := 156) (by omega)).drew (fun j hj => hF _ (by omega)) (by omega))
 have HS := Lib.hid (msum (some ⟨g, q, none⟩) 156 cap F w.drew (h.less (by omega)).drew (fun j hj => hF _ (by omega)) (by omega))
 have HL := Lib.hid (nof (some ⟨g, q + 1, none⟩) 2 (cap - 1) (fun j => F (1 + j)) w.drew (h.cut (k := 1) (by omega)).drew (fun j hj => hF _ (by omega)) (by omega))
 rw [← num4_eq, heq] at HN
 rw [numF_2] at HL
 have c1 : (156 : Int) ≤ (cap : Int) := by omega
 have c2 : ¬ cap = 156 := by omega
 have c3 : ¬ cap = 1 := by omega
 have HH := Lib.hid h
 have HF := Lib.hid hF
 have HB := Lib.hid hbad
 have HG := Lib.hid hgood
 have hls := sumF_lt F 156
 have l1 := hF 1 (by omega)
 have l2 := hF 2 (by omega)
 have l0 := hF 0 (by omega)
 obtain ⟨L, hL⟩ : ∃ L, F 1 * 256 + F 2 = L := ⟨_, rfl⟩
 have HLL := Lib.hid hL
 have hLb : L ≤ 65535 := by omega
 simp only [show (1 + 0 : Nat) = 1 from rfl, show (1 + 1 : Nat) = 2 from rfl, hL] at HL
 generalize sumF F 156 = y at *
 clear hL h hF heq hbad hgood l1 l2
 by_cases hbig : 153 < L
 ·have hbi : (153 : Int) < (L : Int) := by omega
  have HNO : Hid (¬ OpenOk F) := Lib.hid (fun h => by have := h.2.1; rw [HLL.out] at this; omega)
  go_enter Tryz.func138, Tryz.ntmps138
  go_wp2_with fail
  refine wp_region_still_tail 6 (by kernel_rfl) (by kernel_rfl) ?_
  simp only [List.take_succ_cons, List.take_zero, List.drop_succ_cons, List.drop_zero]
  repeat still_step
  still_call HN.out
  repeat still_step
  still_call HS.out
  repeat still_step
  refine wpStill_nil ?_
  change wpList _ _ _ _ _ w.drew
  go_wp2_with fail
  refine HL.out.mono ?_
  rintro e w' ⟨rfl, hw⟩
  obtain rfl := hw.symm
  go_wp2_with fail
  go_ret3
  exact HB.out HNO.out _ (below_drewN 1 w)
 ·have hbi : (L : Int) ≤ 153 := by omega
  have hL0 : (0 : Int) ≤ (L : Int) := by omega
  have HK := Lib.hid (nof (some ⟨g, q, none⟩) 1 cap F w.drew.drew (HH.out.less (by omega)).drew.drew (fun j hj => HF.out _ (by omega)) (by omega))
  rw [numF_1] at HK
  have HC := Lib.hid (bclone ⟨g, q + 3, none⟩ L (cap - 3) (fun j => F (3 + j)) w.drew.drew ((HH.out.cut (k := 3) (m := L) (by omega)).drew.drew) (by omega))
  obtain ⟨kd, hkd⟩ : ∃ kd, F 0 = kd := ⟨_, rfl⟩
  have HKD := Lib.hid hkd
  have c4 : ¬ cap = 3 := by omega
  have c5 : (1 : Int) ≤ (cap : Int) := by omega
  have c6 : (3 : Int) ≤ (cap : Int) := by omega
  have m1 : IntKind.i64.wrap (3 + (L : Int)) = 3 + (L : Int) := IntWalk.i64_in _ (by omega)
  have m2 : (3 + (L : Int)).toNat = 3 + L := by omega
  have m3 : (0 : Int) ≤ 3 + (L : Int) := by omega
  have m4 : (3 : Int) ≤ 3 + (L : Int) := by omega
  have m5 : 3 + (L : Int) ≤ (cap : Int) := by omega
  rw [hkd] at l0 HK
  clear hkd
  go_enter Tryz.func138, Tryz.ntmps138
  go_wp2_with fail
  refine wp_region_still_tail 6 (by kernel_rfl) (by kernel_rfl) ?_
  simp only [List.take_succ_cons, List.take_zero, List.drop_succ_cons, List.drop_zero]
  repeat still_step
  still_call HN.out
  repeat still_step
  still_call HS.out
  repeat still_step
  refine wpStill_nil ?_
  change wpList _ _ _ _ _ w.drew
  go_wp2_with fail
  refine HL.out.mono ?_
  rintro e w' ⟨rfl, hw⟩
  obtain rfl := hw.symm
  go_wp2_with fail
  refine wp_region_still_tail 7 (by kernel_rfl) (by kernel_rfl) ?_
  simp only [List.take_succ_cons, List.take_zero, List.drop_succ_cons, List.drop_zero]
  repeat still_step
  still_call HK.out
  repeat still_step
  refine wpStill_nil ?_
  change wpList _ _ _ _ _ w.drew.drew
  clear m1 m2 m3 m4 m5
  go_wp2_with fail
  refine HC.out.mono ?_
  rintro e w2 ⟨b, cb, rfl, ho, hb, hbg, hbl, hcb⟩
  try dsimp only
  have HO := Lib.hid (own_rd ho)
  have HOB := Lib.hid (own_blk ho)
  have HB2 : Hid (Below w.heap.size w w2) := Lib.hid ((below_drewN 2 w).trans hb)
  have HR2 : Hid (Rd w2 (some ⟨g, q, none⟩) 160 F) := Lib.hid (HH.out.keep HB2.out)
  clear ho hb
  by_cases hk0 : kd = 0
  ·have HNO : Hid (¬ OpenOk F) := Lib.hid (fun h => by have := h.1; rw [HKD.out] at this; omega)
   have HSE := Lib.hid (mseal_no (kd : Int) L cb (some ⟨b, 0, none⟩) w2 (by omega) (by omega))
   have HEQ := Lib.hid (bequal none (some ⟨g, q, none⟩) 0 160 0 cap (fun _ => 0) F w2 Rd.none_ HR2.out (fun j hj => absurd hj (by omega)) HF.out false ⟨fun h => (by cases h), fun h => by omega⟩)
   clear hk0
   go_wp2_with fail
   refine HSE.out.mono ?_
   rintro e w3 ⟨rfl, hw⟩
   obtain rfl := hw.symm
   go_wp2_with fail
   refine HEQ.out.mono ?_
   rintro e w3 ⟨rfl, hw⟩
   obtain rfl := hw.symm
   go_wp2_with fail
   go_ret3
   exact HB.out HNO.out _ HB2.out
  ·have HSE := Lib.hid (mseal kd L cb (some ⟨b, 0, none⟩) (fun k => F (3 + k)) w2 (by omega) l0 (by omega) HO.out (fun j hj => HF.out _ (by omega)))
   have hS := sealF_lt (kind := kd) (n := L) (B := fun k => F (3 + k)) l0 (fun j hj => HF.out _ (by omega))
   go_wp2_with fail
   refine HSE.out.mono ?_
   rintro e w3 ⟨gs, rfl, k3, hb3, _⟩
   try dsimp only
   have HK3 := Lib.hid k3.rd
   have HS3 := Lib.hid hS
   have HB3 : Hid (Below w.heap.size w w3) := Lib.hid (HB2.out.trans (hb3.mono HB2.out.size))
   have HO3 := Lib.hid (HOB.out.below hb3)
   have HR3 := Lib.hid (HR2.out.keep hb3)
   clear k3 hb3 hS HB2 HR2 HO
   by_cases hall : ∀ j, j < 160 → sealF kd L (fun k => F (3 + k)) j = F j
   ·have HOK : Hid (OpenOk F) := Lib.hid ⟨by rw [HKD.out]; omega, by rw [HLL.out]; omega, by rw [HKD.out, HLL.out]; exact hall⟩
    have HEQ := Lib.hid (bequal (some ⟨gs, 0, none⟩) (some ⟨g, q, none⟩) 160 160 160 cap _ F w3 HK3.out HR3.out (fun j hj => HS3.out j) HF.out true ⟨fun _ => ⟨rfl, hall⟩, fun _ => rfl⟩)
    clear hall
    go_wp2_with fail
    refine HEQ.out.mono ?_
    rintro e w4 ⟨rfl, hw⟩
    obtain rfl := hw.symm
    go_wp2_with fail
    go_ret3
    exact HG.out HOK.out _ _ ⟨b, cb, by rw [HKD.out, HLL.out]; rfl, by rw [HLL.out]; exact HO3.out, HB3.out, by rw [HLL.out]; exact hcb⟩
   ·have HNO : Hid (¬ OpenOk F) := Lib.hid (fun h => hall (by have := h.2.2; rwa [HKD.out, HLL.out] at this))
    have HEQ := Lib.hid (bequal (some ⟨gs, 0, none⟩) (some ⟨g, q, none⟩) 160 160 160 cap _ F w3 HK3.out HR3.out (fun j hj => HS3.out j) HF.out false ⟨fun h => (by cases h), fun h => absurd h.2 hall⟩)
    clear hall
    go_wp2_with fail
    refine HEQ.out.mono ?_
    rintro e w4 ⟨rfl, hw⟩
    obtain rfl := hw.symm
    go_wp2_with fail
    go_ret3
    exact HB.out HNO.out _ HB3.out
end Go.Proofs.YtobkmohoepgfmaaGreatDoor
namespace Go.Proofs.YtobkmohoepgfmaaGreatDoor
open Go.RowKit Go.Sort
set_option maxRecDepth 100000
set_option maxHeartbeats 1000000

structure Turn (S : List Nat) (w w' : World) : Prop where
 os : w'.os = w.os
 tape : w'.tape = w.tape
 output : w'.output = w.output
 size : w.heap.size ≤ w'.heap.size
 block : ∀ k, k < w.heap.size → k ∉ S → w'.heap[k]? = w.heap[k]?

theorem Turn.refl (S : List Nat) (w : World) : Turn S w w := ⟨rfl, rfl, rfl, Nat.le_refl _, fun _ _ _ => rfl⟩
theorem Turn.trans {S : List Nat} {a b c : World} (h : Turn S a b) (k : Turn S b c) : Turn S a c :=
 ⟨k.os.trans h.os, k.tape.trans h.tape, k.output.trans h.output, Nat.le_trans h.size k.size, fun i hi hc => (k.block i (Nat.lt_of_lt_of_le hi h.size) hc).trans (h.block i hi hc)⟩
theorem Turn.mono {S S' : List Nat} {a b : World} (h : Turn S a b) (hs : ∀ k ∈ S, k ∈ S') : Turn S' a b := ⟨h.os, h.tape, h.output, h.size, fun k hk hn => h.block k hk (fun hm => hn (hs k hm))⟩
theorem Turn.then {S S' : List Nat} {a b c : World} (h : Turn S a b) (k : Turn S' b c) (hs : ∀ i ∈ S', i ∈ S ∨ a.heap.size ≤ i) : Turn S a c :=
 ⟨k.os.trans h.os, k.tape.trans h.tape, k.output.trans h.output, Nat.le_trans h.size k.size, fun i hi hc => (k.block i (Nat.lt_of_lt_of_le hi h.size) (fun hm => by rcases hs i hm with h1 | h1; exact hc h1; omega)).trans (h.block i hi hc)⟩
theorem Turn.set (S : List Nat) (w : World) (p : Addr) (v : Value) (hp : p.block ∈ S) : Turn S w (w.setCell p v) :=
 ⟨rfl, rfl, rfl, by simp, fun k _ hk => Below.heap_setCell _ _ _ _ (fun e => hk (e ▸ hp))⟩
theorem Turn.drew (S : List Nat) (w : World) : Turn S w w.drew := ⟨rfl, rfl, rfl, Nat.le_refl _, fun _ _ _ => rfl⟩
theorem Turn.of {S : List Nat} {w w' : World} (h : Below w.heap.size w w') : Turn S w w' := ⟨h.os, h.tape, h.output, h.size, fun k hk _ => h.block k hk⟩
theorem Turn.alloc (S : List Nat) (w : World) (o : Obj) : Turn S w (w.alloc o) := Turn.of ((Below.refl _ _).alloc (Nat.le_refl _) _)
theorem Turn.only {S : List Nat} {w w' : World} {g : Nat} (h : w.grownBy w' (some g)) (hg : g ∈ S) : Turn S w w' :=
 ⟨h.os, h.tape, h.output, h.size, fun k hk hn => h.block k hk (fun e => hn (by cases e; exact hg))⟩
theorem Below.of_turn {B : Nat} {S : List Nat} {w0 w w' : World} (h : Below B w0 w) (t : Turn S w w') (hS : ∀ k ∈ S, B ≤ k) (hs : B ≤ w.heap.size) : Below B w0 w' :=
 ⟨t.os.trans h.os, t.tape.trans h.tape, t.output.trans h.output, Nat.le_trans h.size t.size, fun k hk => (t.block k (by omega) (fun hm => by have := hS k hm; omega)).trans (h.block k hk)⟩
theorem set_block {w : World} {g : Nat} {cur : Array Value} {t : TypeId} {fr : Nat × Nat} (h : w.heap[g]? = some (.cells cur t fr)) (o : Nat) (v : Value) : (w.setCell ⟨g, o, none⟩ v).heap[g]? = some (.cells (cur.setIfInBounds o v) t fr) := by
 simp only [World.setCell, Array.getElem?_modify, h]
 simp
theorem set_other {w : World} {g k : Nat} (h : k ≠ g) (o : Nat) (v : Value) : (w.setCell ⟨g, o, none⟩ v).heap[k]? = w.heap[k]? := Below.heap_setCell _ _ _ _ (by rintro rfl; exact h rfl)

abbrev Blk := Nat → Nat
structure Disk where
 done : Nat → Blk
 pend : List (Nat × Blk)
def upd (D : Nat → Blk) (x : Nat × Blk) : Nat → Blk := fun k => if k = x.1 then x.2 else D k
def Disk.now (d : Disk) : Nat → Blk := d.pend.foldl upd d.done
def Disk.write (d : Disk) (k : Nat) (F : Blk) : Disk := ⟨d.done, d.pend ++ [(k, F)]⟩
def Disk.flush (d : Disk) : Disk := ⟨d.now, []⟩
def keptAt (f : Nat → Bool) : Nat → List (Nat × Blk) → List (Nat × Blk)
 | _, [] => []
 | i, x :: l => if f i then x :: keptAt f (i + 1) l else keptAt f (i + 1) l
def Disk.crash (d : Disk) (f : Nat → Bool) : Disk := ⟨(keptAt f 0 d.pend).foldl upd d.done, []⟩
def Disk.blank : Disk := ⟨fun _ _ => 0, []⟩
theorem now_write (d : Disk) (k : Nat) (F : Blk) : (d.write k F).now = upd d.now (k, F) := by
 simp [Disk.now, Disk.write, List.foldl_append]
theorem now_flush (d : Disk) : d.flush.now = d.now := rfl
theorem keptAt_append (f : Nat → Bool) : ∀ (l m : List (Nat × Blk)) (i : Nat), keptAt f i (l ++ m) = keptAt f i l ++ keptAt f (i + l.length) m
 | [], m, i => rfl
 | x :: l, m, i => by
  simp only [List.cons_append, keptAt, keptAt_append f l m (i + 1), List.length_cons, show i + 1 + l.length = i + (l.length + 1) by omega]
  split <;> rfl
theorem keptAt_none (l : List (Nat × Blk)) : ∀ i, keptAt (fun _ => false) i l = [] := by
 induction l with
 | nil => intro i; rfl
 | cons x l ih => intro i; simp [keptAt, ih]

def Ref (w : World) (v : Value) (F : Blk) : Prop := ∃ g cap, v = .slice (some ⟨g, 0, none⟩) 160 cap ∧ 160 ≤ cap ∧ Blk8 w g 160 F
def Arr (w : World) (b N : Nat) : Prop := ∃ cs, w.heap[b]? = some (.cells cs 36 (0, 0)) ∧ cs.size = N
def Slab (w : World) (b N : Nat) (D : Nat → Blk) : Prop := ∃ cs, w.heap[b]? = some (.cells cs 36 (0, 0)) ∧ cs.size = N ∧ ∀ k, k < N → ∃ v, cs[k]? = some v ∧ Ref w v (D k)
def Head (w : World) (p db nb N : Nat) (pv : Value) (wr : Nat) : Prop :=
 w.heap[p]? = some (.cells #[.slice (some ⟨db, 0, none⟩) N N, .slice (some ⟨nb, 0, none⟩) N N, pv, .int .i64 (wr : Int)] 146 (0, 0))
def Pend (w : World) (pv : Value) (N : Nat) (l : List (Nat × Blk)) : Prop :=
 ∃ xs, w.ownsRow 0 188 2 pv l.length xs ∧ ∀ i k F, l[i]? = some (k, F) → k < N ∧ xs[2 * i]? = some (.int .i64 (k : Int)) ∧ ∃ v, xs[2 * i + 1]? = some v ∧ Ref w v F
def pb (v : Value) : List Nat := match v with | .slice (some a) _ _ => [a.block] | _ => []

theorem Ref.keep {w w' : World} {v : Value} {F : Blk} (h : Ref w v F) (e : ∀ (g : Nat) (cs : Array Value), w.heap[g]? = some (Obj.cells cs 5 (0, 0)) → w'.heap[g]? = w.heap[g]?) : Ref w' v F := by
 obtain ⟨g, cap, rfl, hc, hb⟩ := h
 obtain ⟨cs, h1, h2⟩ := hb
 exact ⟨g, cap, rfl, hc, cs, (e g cs h1).trans h1, h2⟩
structure Same (S : List Nat) (w w' : World) : Prop where
 bytes : ∀ (g : Nat) (cs : Array Value), w.heap[g]? = some (Obj.cells cs 5 (0, 0)) → w'.heap[g]? = w.heap[g]?
 own : ∀ k ∈ S, w'.heap[k]? = w.heap[k]?

structure PltR (w : World) (p db nb N : Nat) (pv : Value) (D : Nat → Blk) (l : List (Nat × Blk)) (wr : Nat) : Prop where
 head : Head w p db nb N pv wr
 rows : Slab w db N D
 arr : Arr w nb N
 ne : db ≠ nb
 pend : Pend w pv N l
 n1 : 1 ≤ N
 n2 : N ≤ 1000
 len : l.length ≤ wr
def Plt (w : World) (p : Nat) (S : List Nat) (N : Nat) (d : Disk) (wr : Nat) : Prop :=
 ∃ db nb pv, PltR w p db nb N pv d.done d.pend wr ∧ Slab w nb N d.now ∧ S = [p, db, nb] ++ pb pv

theorem Slab.arr {w : World} {b N : Nat} {D : Nat → Blk} (h : Slab w b N D) : Arr w b N := by
 obtain ⟨cs, h1, h2, _⟩ := h
 exact ⟨cs, h1, h2⟩
theorem Slab.keep {w w' : World} {b N : Nat} {D : Nat → Blk} (h : Slab w b N D) (e : ∀ (g : Nat) (cs : Array Value), w.heap[g]? = some (Obj.cells cs 5 (0, 0)) → w'.heap[g]? = w.heap[g]?) (eb : w'.heap[b]? = w.heap[b]?) : Slab w' b N D := by
 obtain ⟨cs, h1, h2, h3⟩ := h
 exact ⟨cs, eb.trans h1, h2, fun k hk => by obtain ⟨v, hv, hr⟩ := h3 k hk; exact ⟨v, hv, hr.keep e⟩⟩
theorem Arr.keep {w w' : World} {b N : Nat} (h : Arr w b N) (eb : w'.heap[b]? = w.heap[b]?) : Arr w' b N := by
 obtain ⟨cs, h1, h2⟩ := h
 exact ⟨cs, eb.trans h1, h2⟩
theorem Slab.cell {w : World} {b N k : Nat} {D : Nat → Blk} (h : Slab w b N D) (hk : k < N) : ∃ g cap, w.cell? ⟨b, k, none⟩ = some (.slice (some ⟨g, 0, none⟩) 160 cap) ∧ 160 ≤ cap ∧ Blk8 w g 160 (D k) := by
 obtain ⟨cs, h1, h2, h3⟩ := h
 obtain ⟨v, hv, g, cap, rfl, hc, hb⟩ := h3 k hk
 exact ⟨g, cap, (cell_of_block h1).trans hv, hc, hb⟩
theorem Arr.free {w : World} {b N : Nat} (h : Arr w b N) (k : Nat) : w.frozen? ⟨b, k, none⟩ = false := by
 obtain ⟨cs, h1, _⟩ := h
 exact free_of_block h1
theorem Arr.cell {w : World} {b N k : Nat} (h : Arr w b N) (hk : k < N) : ∃ v, w.cell? ⟨b, k, none⟩ = some v := by
 obtain ⟨cs, h1, h2⟩ := h
 exact ⟨_, (cell_of_block h1).trans (Array.getElem?_eq_getElem (by omega))⟩
theorem Arr.lt {w : World} {b N : Nat} (h : Arr w b N) : b < w.heap.size := by
 obtain ⟨cs, h1, _⟩ := h
 exact heap_lt h1
theorem Pend.keep {w w' : World} {pv : Value} {N : Nat} {l : List (Nat × Blk)} (h : Pend w pv N l) (e : ∀ (g : Nat) (cs : Array Value), w.heap[g]? = some (Obj.cells cs 5 (0, 0)) → w'.heap[g]? = w.heap[g]?) (eb : ∀ k ∈ pb pv, w'.heap[k]? = w.heap[k]?) : Pend w' pv N l := by
 obtain ⟨xs, ⟨h0, h1⟩, h2⟩ := h
 refine ⟨xs, ⟨h0, ?_⟩, fun i k F hi => ?_⟩
 ·rcases h1 with h1 | ⟨g, cap, cur, rfl, hg, hh, r⟩
  ·exact Or.inl h1
  ·exact Or.inr ⟨g, cap, cur, rfl, hg, (eb g (by simp [pb])).trans hh, r⟩
 ·obtain ⟨a, b, v, hv, hr⟩ := h2 i k F hi
  exact ⟨a, b, v, hv, hr.keep e⟩
theorem Pend.nil {w : World} {N : Nat} : Pend w (.slice none 0 0) N [] := ⟨[], ⟨rfl, Or.inl ⟨rfl, rfl⟩⟩, fun i k F hi => by simp at hi⟩
theorem PltR.keep {w w' : World} {p db nb N : Nat} {pv : Value} {D : Nat → Blk} {l : List (Nat × Blk)} {wr : Nat} (h : PltR w p db nb N pv D l wr) (s : Same ([p, db, nb] ++ pb pv) w w') : PltR w' p db nb N pv D l wr :=
 ⟨(s.own p (by simp)).trans h.head, h.rows.keep s.bytes (s.own db (by simp)), h.arr.keep (s.own nb (by simp)), h.ne, h.pend.keep s.bytes (fun k hk => s.own k (by simp [hk])), h.n1, h.n2, h.len⟩
theorem PltR.drew {w : World} {p db nb N : Nat} {pv : Value} {D : Nat → Blk} {l : List (Nat × Blk)} {wr : Nat} (h : PltR w p db nb N pv D l wr) : PltR w.drew p db nb N pv D l wr := h.keep ⟨fun _ _ _ => rfl, fun _ _ => rfl⟩
theorem Plt.same {w w' : World} {p : Nat} {S : List Nat} {N : Nat} {d : Disk} {wr : Nat} (h : Plt w p S N d wr) (s : Same S w w') : Plt w' p S N d wr := by
 obtain ⟨db, nb, pv, h1, h2, rfl⟩ := h
 exact ⟨db, nb, pv, h1.keep s, h2.keep s.bytes (s.own nb (by simp)), rfl⟩
theorem Same.below {S : List Nat} {w w' : World} (b : Below w.heap.size w w') (hS : ∀ k ∈ S, k < w.heap.size) : Same S w w' := ⟨fun g _ h => b.block g (heap_lt h), fun k hk => b.block k (hS k hk)⟩
theorem PltR.lt {w : World} {p db nb N : Nat} {pv : Value} {D : Nat → Blk} {l : List (Nat × Blk)} {wr : Nat} (h : PltR w p db nb N pv D l wr) : ∀ k ∈ [p, db, nb] ++ pb pv, k < w.heap.size := by
 intro k hk
 simp only [List.mem_append, List.mem_cons, List.not_mem_nil, or_false] at hk
 rcases hk with (rfl | rfl | rfl) | hk
 ·exact heap_lt h.head
 ·exact h.rows.arr.lt
 ·exact h.arr.lt
 ·obtain ⟨xs, ⟨_, h1⟩, _⟩ := h.pend
  rcases h1 with ⟨rfl, _⟩ | ⟨g, cap, cur, rfl, _, hh, _⟩
  ·simp [pb] at hk
  ·simp [pb] at hk; subst hk; exact heap_lt hh
theorem Plt.lt {w : World} {p : Nat} {S : List Nat} {N : Nat} {d : Disk} {wr : Nat} (h : Plt w p S N d wr) : ∀ k ∈ S, k < w.heap.size := by
 obtain ⟨db, nb, pv, h1, h2, rfl⟩ := h
 exact h1.lt
theorem Plt.below {w w' : World} {p : Nat} {S : List Nat} {N : Nat} {d : Disk} {wr : Nat} (h : Plt w p S N d wr) (b : Below w.heap.size w w') : Plt w' p S N d wr := h.same (Same.below b h.lt)
theorem PltR.type {w : World} {p db nb N : Nat} {pv : Value} {D : Nat → Blk} {l : List (Nat × Blk)} {wr : Nat} (h : PltR w p db nb N pv D l wr) {k : Nat} (hk : k ∈ [p, db, nb] ++ pb pv) : ∃ cs t, w.heap[k]? = some (.cells cs t (0, 0)) ∧ (t = 146 ∨ t = 36 ∨ t = 188) := by
 simp only [List.mem_append, List.mem_cons, List.not_mem_nil, or_false] at hk
 rcases hk with (rfl | rfl | rfl) | hk
 ·exact ⟨_, _, h.head, Or.inl rfl⟩
 ·obtain ⟨cs, h1, _⟩ := h.rows
  exact ⟨_, _, h1, Or.inr (Or.inl rfl)⟩
 ·obtain ⟨cs, h1, _⟩ := h.arr
  exact ⟨_, _, h1, Or.inr (Or.inl rfl)⟩
 ·obtain ⟨xs, ⟨_, h1⟩, _⟩ := h.pend
  rcases h1 with ⟨rfl, _⟩ | ⟨g, cap, cur, rfl, _, hh, _⟩
  ·simp [pb] at hk
  ·simp [pb] at hk; subst hk; exact ⟨_, _, hh, Or.inr (Or.inr rfl)⟩
theorem Plt.type {w : World} {p : Nat} {S : List Nat} {N : Nat} {d : Disk} {wr : Nat} (h : Plt w p S N d wr) {k : Nat} (hk : k ∈ S) : ∃ cs t, w.heap[k]? = some (.cells cs t (0, 0)) ∧ (t = 146 ∨ t = 36 ∨ t = 188) := by
 obtain ⟨db, nb, pv, h1, h2, rfl⟩ := h
 exact h1.type hk
theorem Plt.notMem {w : World} {p : Nat} {S : List Nat} {N : Nat} {d : Disk} {wr : Nat} (h : Plt w p S N d wr) {k : Nat} {cs : Array Value} {t : TypeId} {fr : Nat × Nat} (hk : w.heap[k]? = some (.cells cs t fr)) (h1 : t ≠ 146) (h2 : t ≠ 36) (h3 : t ≠ 188) : k ∉ S := by
 intro hm
 obtain ⟨cs', t', e, ht⟩ := h.type hm
 rw [hk] at e
 cases e
 rcases ht with rfl | rfl | rfl
 ·exact h1 rfl
 ·exact h2 rfl
 ·exact h3 rfl
structure Step (S S' : List Nat) (w w' : World) : Prop where
 turn : Turn S w w'
 blocks : ∀ k ∈ S', k ∈ S ∨ w.heap.size ≤ k
theorem Step.trans {S S' S2 : List Nat} {a b c : World} (h : Step S S' a b) (k : Step S' S2 b c) : Step S S2 a c :=
 ⟨h.turn.then k.turn h.blocks, fun i hi => by
  rcases k.blocks i hi with h1 | h1
  ·exact h.blocks i h1
  ·exact Or.inr (Nat.le_trans h.turn.size h1)⟩
theorem PltR.c0 {w : World} {p db nb N : Nat} {pv : Value} {D : Nat → Blk} {l : List (Nat × Blk)} {wr : Nat} (h : PltR w p db nb N pv D l wr) : w.cell? ⟨p, 0, none⟩ = some (.slice (some ⟨db, 0, none⟩) N N) := cell_of_block h.head
theorem PltR.c1 {w : World} {p db nb N : Nat} {pv : Value} {D : Nat → Blk} {l : List (Nat × Blk)} {wr : Nat} (h : PltR w p db nb N pv D l wr) : w.cell? ⟨p, 1, none⟩ = some (.slice (some ⟨nb, 0, none⟩) N N) := cell_of_block h.head
theorem PltR.c2 {w : World} {p db nb N : Nat} {pv : Value} {D : Nat → Blk} {l : List (Nat × Blk)} {wr : Nat} (h : PltR w p db nb N pv D l wr) : w.cell? ⟨p, 2, none⟩ = some pv := cell_of_block h.head
theorem PltR.c3 {w : World} {p db nb N : Nat} {pv : Value} {D : Nat → Blk} {l : List (Nat × Blk)} {wr : Nat} (h : PltR w p db nb N pv D l wr) : w.cell? ⟨p, 3, none⟩ = some (.int .i64 (wr : Int)) := cell_of_block h.head
theorem PltR.f {w : World} {p db nb N : Nat} {pv : Value} {D : Nat → Blk} {l : List (Nat × Blk)} {wr : Nat} (h : PltR w p db nb N pv D l wr) (k : Nat) : w.frozen? ⟨p, k, none⟩ = false := free_of_block h.head

theorem dblocks {w : World} {p : Nat} {S : List Nat} {N : Nat} {d : Disk} {wr : Nat} (h : Plt w p S N d wr) :
  Calls Tryz.prog 98 #[.pointer (some ⟨p, 0, none⟩)] w fun e w' => e = .returned (.int .i64 (N : Int)) ∧ w' = w := by
 obtain ⟨db, nb, pv, h1, _, _⟩ := h
 have c1 := h1.c1
 clear h1
 go_enter Tryz.func98, Tryz.ntmps98
 go_wp2_with fail
 go_ret
 exact ⟨rfl, rfl⟩
theorem dhas {w : World} {p : Nat} {S : List Nat} {N : Nat} {d : Disk} {wr : Nat} (k : Int) (h : Plt w p S N d wr) (t : Bool) (ht : t = true ↔ 0 ≤ k ∧ k < (N : Int)) :
  Calls Tryz.prog 136 #[.pointer (some ⟨p, 0, none⟩), .int .i64 k] w fun e w' => e = .returned (.bool t) ∧ w' = w := by
 have HB := Lib.hid (dblocks h)
 clear h
 cases t with
 | true =>
  obtain ⟨a, b⟩ := ht.1 rfl
  clear ht
  go_enter Tryz.func136, Tryz.ntmps136
  go_wp2_with fail
  refine HB.out.mono ?_
  rintro e w' ⟨rfl, hw⟩
  obtain rfl := hw.symm
  go_wp2_with fail
  go_ret
  exact ⟨rfl, rfl⟩
 | false =>
  by_cases h0 : 0 ≤ k
  ·have h1 : decide (k < (N : Int)) = false := decide_eq_false (fun h => by have := ht.2 ⟨h0, h⟩; cases this)
   clear ht
   go_enter Tryz.func136, Tryz.ntmps136
   go_wp2_with fail
   refine HB.out.mono ?_
   rintro e w' ⟨rfl, hw⟩
   obtain rfl := hw.symm
   go_wp2_with fail
   go_ret
   exact ⟨rfl, rfl⟩
  ·clear ht
   go_enter Tryz.func136, Tryz.ntmps136
   go_wp2_with fail
   go_ret
   exact ⟨rfl, rfl⟩
end Go.Proofs.YtobkmohoepgfmaaGreatDoor
