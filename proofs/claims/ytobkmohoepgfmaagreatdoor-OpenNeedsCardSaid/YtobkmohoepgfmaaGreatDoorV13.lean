import Derived.Test.YtobkmohoepgfmaaGreatDoorV10
import Derived.Test.YtobkmohoepgfmaaGreatDoorV11
import Derived.Test.YtobkmohoepgfmaaGreatDoorV12
namespace Go.Proofs.YtobkmohoepgfmaaGreatDoor
open Go.RowKit Go.Sort
set_option maxRecDepth 100000
set_option maxHeartbeats 1000000

structure Sx where
 no : Nat
 s : Nat
 g : Nat
 A : Option Addr
 n : Nat
 c : Nat
 D : Nat → Nat
def Sx.it (x : Sx) : It := ⟨x.s, x.g, x.D⟩
abbrev Sx.v (x : Sx) : Value := sv (x.no : Int) (x.s : Int) (x.g : Int) x.A x.n x.c
def Sx.z : Sx := ⟨0, 0, 0, none, 0, 0, fun _ => 0⟩
def SxOk (w : World) (x : Sx) : Prop := x.no ≠ 0 → x.n = 128 ∧ DatI w x.A x.D ∧ x.it.Ok
theorem SxOk.z {w : World} : SxOk w Sx.z := fun h => absurd rfl h
theorem SxOk.keep {w w' : World} {x : Sx} (h : SxOk w x) (k : ∀ (g : Nat) (cs : Array Value), w.heap[g]? = some (Obj.cells cs 5 (0, 0)) → w'.heap[g]? = w.heap[g]?) : SxOk w' x := fun hn => by
 obtain ⟨a, b, c⟩ := h hn
 exact ⟨a, b.keep k, c⟩
theorem SxOk.below {w w' : World} {x : Sx} (h : SxOk w x) (b : Below w.heap.size w w') : SxOk w' x := h.keep (fun g _ hb => b.block g (heap_lt hb))
def SR (w : World) (b n : Nat) (X : Nat → Sx) : Prop := ∃ cs : Array Value, w.heap[b]? = some (.cells cs 194 (0, 0)) ∧ n * 4 ≤ cs.size ∧ ∀ i, i < n → cs[i * 4]? = some (.int .i64 ((X i).no : Int)) ∧ cs[i * 4 + 1]? = some (.int .i64 ((X i).s : Int)) ∧ cs[i * 4 + 2]? = some (.int .i64 ((X i).g : Int)) ∧ cs[i * 4 + 3]? = some (.slice (X i).A (X i).n (X i).c)
section
variable {w w' : World} {b n : Nat} {X : Nat → Sx}
theorem SR.cell (h : SR w b n X) {i : Nat} (hi : i < n) : w.cell? ⟨b, i * 4, none⟩ = some (.int .i64 ((X i).no : Int)) ∧ w.cell? ⟨b, i * 4 + 1, none⟩ = some (.int .i64 ((X i).s : Int)) ∧ w.cell? ⟨b, i * 4 + 2, none⟩ = some (.int .i64 ((X i).g : Int)) ∧ w.cell? ⟨b, i * 4 + 3, none⟩ = some (.slice (X i).A (X i).n (X i).c) := by
 obtain ⟨cs, hb, _, hc⟩ := h
 obtain ⟨a0, a1, a2, a3⟩ := hc i hi
 exact ⟨(cell_of_block hb).trans a0, (cell_of_block hb).trans a1, (cell_of_block hb).trans a2, (cell_of_block hb).trans a3⟩
theorem SR.f (h : SR w b n X) (k : Nat) : w.frozen? ⟨b, k, none⟩ = false := by
 obtain ⟨cs, hb, _⟩ := h
 exact free_of_block hb
theorem SR.lt (h : SR w b n X) : b < w.heap.size := by
 obtain ⟨cs, hb, _⟩ := h
 exact heap_lt hb
theorem SR.type (h : SR w b n X) : ∃ cs, w.heap[b]? = some (.cells cs 194 (0, 0)) := by
 obtain ⟨cs, hb, _⟩ := h
 exact ⟨cs, hb⟩
theorem SR.keep (h : SR w b n X) (e : w'.heap[b]? = w.heap[b]?) : SR w' b n X := by
 obtain ⟨cs, hb, r⟩ := h
 exact ⟨cs, e.trans hb, r⟩
theorem SR.below (h : SR w b n X) (e : Below w.heap.size w w') : SR w' b n X := h.keep (e.block b h.lt)
theorem SR.congr (h : SR w b n X) {Y : Nat → Sx} (e : ∀ i, i < n → X i = Y i) : SR w b n Y := by
 obtain ⟨cs, hb, hs, hc⟩ := h
 exact ⟨cs, hb, hs, fun i hi => by rw [← e i hi]; exact hc i hi⟩
end
def updS (X : Nat → Sx) (k : Nat) (y : Sx) : Nat → Sx := fun i => if i = k then y else X i
theorem SR.put {w : World} {b n k : Nat} {X : Nat → Sx} (h : SR w b n X) (hk : k < n) (y : Sx) :
  SR ((((w.setCell ⟨b, k * 4, none⟩ (.int .i64 (y.no : Int))).setCell ⟨b, k * 4 + 1, none⟩ (.int .i64 (y.s : Int))).setCell ⟨b, k * 4 + 2, none⟩ (.int .i64 (y.g : Int))).setCell ⟨b, k * 4 + 3, none⟩ (.slice y.A y.n y.c)) b n (updS X k y) := by
 obtain ⟨cs, hb, hs, hc⟩ := h
 refine ⟨_, set_block (set_block (set_block (set_block hb _ _) _ _) _ _) _ _, by simpa using hs, fun i hi => ?_⟩
 obtain ⟨a0, a1, a2, a3⟩ := hc i hi
 unfold updS
 have q0 : k * 4 < cs.size := by omega
 have q1 : k * 4 + 1 < cs.size := by omega
 have q2 : k * 4 + 2 < cs.size := by omega
 have q3 : k * 4 + 3 < cs.size := by omega
 by_cases e : i = k
 ·subst e
  rw [if_pos rfl]
  refine ⟨?_, ?_, ?_, ?_⟩ <;> simp [q0, q1, q2, q3]
 ·rw [if_neg e]
  have r : ∀ a c, a < 4 → c < 4 → ¬ k * 4 + a = i * 4 + c := by intro a c ha hc' h; omega
  have r00 := r 0 0 (by omega) (by omega)
  have r01 := r 0 1 (by omega) (by omega)
  have r02 := r 0 2 (by omega) (by omega)
  have r03 := r 0 3 (by omega) (by omega)
  have r10 := r 1 0 (by omega) (by omega)
  have r11 := r 1 1 (by omega) (by omega)
  have r12 := r 1 2 (by omega) (by omega)
  have r13 := r 1 3 (by omega) (by omega)
  have r20 := r 2 0 (by omega) (by omega)
  have r21 := r 2 1 (by omega) (by omega)
  have r22 := r 2 2 (by omega) (by omega)
  have r23 := r 2 3 (by omega) (by omega)
  have r30 := r 3 0 (by omega) (by omega)
  have r31 := r 3 1 (by omega) (by omega)
  have r32 := r 3 2 (by omega) (by omega)
  have r33 := r 3 3 (by omega) (by omega)
  rw [Nat.add_zero] at r00 r10 r20 r30
  rw [Nat.add_zero] at r00 r01 r02 r03
  refine ⟨?_, ?_, ?_, ?_⟩ <;> simp only [Array.getElem?_setIfInBounds] <;> (repeat rw [if_neg (by first | exact r00 | exact r01 | exact r02 | exact r03 | exact r10 | exact r11 | exact r12 | exact r13 | exact r20 | exact r21 | exact r22 | exact r23 | exact r30 | exact r31 | exact r32 | exact r33)]) <;> assumption
theorem Turn.put4 {S : List Nat} {b : Nat} {w w2 : World} (h : Turn S w w2) (hb : b ∈ S) (k1 k2 k3 k4 : Nat) (v1 v2 v3 v4 : Value) :
  Turn S w ((((w2.setCell ⟨b, k1, none⟩ v1).setCell ⟨b, k2, none⟩ v2).setCell ⟨b, k3, none⟩ v3).setCell ⟨b, k4, none⟩ v4) := by
 have s : ∀ (W : World) (k : Nat) (v : Value), Turn S w W → Turn S w (W.setCell ⟨b, k, none⟩ v) := fun W k v hW => hW.trans (Turn.set _ _ _ _ hb)
 exact s _ _ _ (s _ _ _ (s _ _ _ (s _ _ _ h)))
theorem ilive (no : Nat) (s g : Int) (A : Option Addr) (n c : Nat) (w : World) (t : Bool) (ht : t = true ↔ no ≠ 0) :
  Calls Tryz.prog 178 #[sv (no : Int) s g A n c] w fun e w' => e = .returned (.bool t) ∧ Below w.heap.size w w' := by
 have HB : Hid (Below w.heap.size w (w.alloc (.cells #[.int .i64 (no : Int), .int .i64 s, .int .i64 g, .slice A n c] 194))) := Lib.hid ((Below.refl _ _).alloc (Nat.le_refl _) _)
 have e1 : ((no : Int) != 0) = t := by
  cases t
  ·have : no = 0 := by
    by_cases h : no = 0
    ·exact h
    ·have := ht.2 h; cases this
   subst this; rfl
  ·have := ht.1 rfl
   rw [bne_iff_ne]; omega
 clear ht
 unfold sv
 go_enter Tryz.func178, Tryz.ntmps178
 go_wp2_with fail
 go_ret
 exact ⟨rfl, HB.out⟩
theorem idead (no : Nat) (s g : Int) (A : Option Addr) (n c : Nat) (w : World) (t : Bool) (ht : t = true ↔ no = 0) :
  Calls Tryz.prog 177 #[sv (no : Int) s g A n c] w fun e w' => e = .returned (.bool t) ∧ Below w.heap.size w w' := by
 obtain ⟨w1, hw1⟩ : ∃ w1, w.alloc (.cells #[.int .i64 (no : Int), .int .i64 s, .int .i64 g, .slice A n c] 194) = w1 := ⟨_, rfl⟩
 have HW1 := Lib.hid hw1
 have HB1 : Hid (Below w.heap.size w w1) := Lib.hid (by rw [← hw1]; exact (Below.refl _ _).alloc (Nat.le_refl _) _)
 have HL := Lib.hid (ilive no s g A n c w1 (!t) (by
  cases t
  ·exact ⟨fun _ h => (by have := ht.2 h; cases this), fun _ => rfl⟩
  ·exact ⟨fun e => (by cases e), fun h => absurd (ht.1 rfl) h⟩))
 clear hw1 ht
 unfold sv at HL ⊢
 go_enter Tryz.func177, Tryz.ntmps177
 go_wp2_with fail
 rw [HW1.out]
 refine HL.out.mono ?_
 rintro e w2 ⟨rfl, hb2⟩
 try dsimp only
 have HB2 : Hid (Below w.heap.size w w2) := Lib.hid (HB1.out.trans (hb2.mono HB1.out.size))
 clear hb2
 cases t <;>
 ·go_wp2_with fail
  go_ret
  exact ⟨rfl, HB2.out⟩
theorem idead2 (no : Nat) (s g : Int) (A : Option Addr) (n c : Nat) (w : World) (t : Bool) (ht : t = true ↔ no = 0) :
  Calls Tryz.prog 183 #[sv (no : Int) s g A n c] w fun e w' => e = .returned (.bool t) ∧ Below w.heap.size w w' := by
 obtain ⟨w1, hw1⟩ : ∃ w1, w.alloc (.cells #[.int .i64 (no : Int), .int .i64 s, .int .i64 g, .slice A n c] 194) = w1 := ⟨_, rfl⟩
 have HW1 := Lib.hid hw1
 have HB1 : Hid (Below w.heap.size w w1) := Lib.hid (by rw [← hw1]; exact (Below.refl _ _).alloc (Nat.le_refl _) _)
 have HL := Lib.hid (ilive no s g A n c w1 (!t) (by
  cases t
  ·exact ⟨fun _ h => (by have := ht.2 h; cases this), fun _ => rfl⟩
  ·exact ⟨fun e => (by cases e), fun h => absurd (ht.1 rfl) h⟩))
 clear hw1 ht
 unfold sv at HL ⊢
 go_enter Tryz.func183, Tryz.ntmps183
 go_wp2_with fail
 rw [HW1.out]
 refine HL.out.mono ?_
 rintro e w2 ⟨rfl, hb2⟩
 try dsimp only
 have HB2 : Hid (Below w.heap.size w w2) := Lib.hid (HB1.out.trans (hb2.mono HB1.out.size))
 clear hb2
 cases t <;>
 ·go_wp2_with fail
  go_ret
  exact ⟨rfl, HB2.out⟩
def FirstI (n : Nat) (P : Nat → Prop) (k : Int) : Prop := (k = -1 ∧ ∀ i, i < n → ¬ P i) ∨ ∃ i : Nat, k = (i : Int) ∧ i < n ∧ P i ∧ ∀ j, j < i → ¬ P j
def IdxRet (n : Nat) (P : Nat → Prop) (w : World) (e : Ending) (w' : World) : Prop := ∃ k : Int, e = .returned (.int .i64 k) ∧ FirstI n P k ∧ Below w.heap.size w w'
theorem iindexL (b n c : Nat) (X : Nat → Sx) (p : Nat → Bool) (w : World) (h : SR w b n X) (hn : n ≤ 1000)
  (hc : ∀ i, i < n → ∀ W, Below w.heap.size w W → Calls Tryz.prog 177 #[(X i).v] W fun e w' => e = .returned (.bool (p i)) ∧ Below W.heap.size W w') :
  Calls Tryz.prog 176 #[.slice (some ⟨b, 0, none⟩) n c, .func (.func 177) #[] #[]] w (IdxRet n (fun i => p i = true) w) := by
 have HS := Lib.hid h
 have HC := Lib.hid hc
 clear h hc
 go_enter Tryz.func176, Tryz.ntmps176
 go_wp2_with fail
 go_loopg [5, 8] n (fun q s5 s8 v => ∃ i : Nat, s8 = .int .i64 (i : Int) ∧ i ≤ n ∧ q = n - i ∧ Hid (Below w.heap.size w v ∧ ∀ j, j < i → ¬ p j = true))
 case atStart => exact ⟨0, rfl, by omega, rfl, Lib.hid ⟨Below.refl _ _, fun j hj => by omega⟩⟩
 case round =>
  obtain ⟨i, rfl, hi, rfl, HB⟩ := hrel
  by_cases hlt : i < n
  ·have hl : (i : Int) < (n : Int) := by omega
   have hl0 : (0 : Int) ≤ (i : Int) := by omega
   obtain ⟨a0, a1, a2, a3⟩ := (HS.out.below HB.out.1).cell hlt
   have HCI := Lib.hid (HC.out i hlt wr HB.out.1)
   unfold Sx.v sv at HCI
   obtain ⟨x, hx⟩ : ∃ x, X i = x := ⟨_, rfl⟩
   rw [hx] at HCI a0 a1 a2 a3
   clear hx
   obtain ⟨pi, hp⟩ : ∃ pi, p i = pi := ⟨_, rfl⟩
   rw [hp] at HCI
   have HP := Lib.hid hp
   clear hp
   cases pi
   ·go_wp2_with fail
    refine HCI.out.mono ?_
    rintro e w2 ⟨rfl, hb2⟩
    try dsimp only
    have HB2 : Hid (Below w.heap.size w w2 ∧ ∀ j, j < i + 1 → ¬ p j = true) := Lib.hid ⟨HB.out.1.trans (hb2.mono HB.out.1.size), fun j hj => by
     by_cases e : j = i
     ·subst e; rw [HP.out]; exact fun h => (by cases h)
     ·exact HB.out.2 j (by omega)⟩
    clear hb2
    go_wp2_with fail
    go_roundg (n - (i + 1))
    case measure => omega
    case rel => exact ⟨i + 1, by go_num, by omega, rfl, HB2⟩
   ·go_wp2_with fail
    refine HCI.out.mono ?_
    rintro e w2 ⟨rfl, hb2⟩
    try dsimp only
    have HB2 : Hid (Below w.heap.size w w2) := Lib.hid (HB.out.1.trans (hb2.mono HB.out.1.size))
    clear hb2
    go_wp2_with fail
    go_ret
    exact ⟨(i : Int), rfl, Or.inr ⟨i, rfl, hlt, HP.out, HB.out.2⟩, HB2.out⟩
  ·obtain rfl : i = n := by omega
   go_wp2_with fail
   go_ret
   exact ⟨-1, rfl, Or.inl ⟨rfl, HB.out.2⟩, HB.out.1⟩
theorem iindexV (b n c : Nat) (X : Nat → Sx) (p : Nat → Bool) (w : World) (h : SR w b n X) (hn : n ≤ 1000)
  (hc : ∀ i, i < n → ∀ W, Below w.heap.size w W → Calls Tryz.prog 183 #[(X i).v] W fun e w' => e = .returned (.bool (p i)) ∧ Below W.heap.size W w') :
  Calls Tryz.prog 176 #[.slice (some ⟨b, 0, none⟩) n c, .func (.func 183) #[] #[]] w (IdxRet n (fun i => p i = true) w) := by
 have HS := Lib.hid h
 have HC := Lib.hid hc
 clear h hc
 go_enter Tryz.func176, Tryz.ntmps176
 go_wp2_with fail
 go_loopg [5, 8] n (fun q s5 s8 v => ∃ i : Nat, s8 = .int .i64 (i : Int) ∧ i ≤ n ∧ q = n - i ∧ Hid (Below w.heap.size w v ∧ ∀ j, j < i → ¬ p j = true))
 case atStart => exact ⟨0, rfl, by omega, rfl, Lib.hid ⟨Below.refl _ _, fun j hj => by omega⟩⟩
 case round =>
  obtain ⟨i, rfl, hi, rfl, HB⟩ := hrel
  by_cases hlt : i < n
  ·have hl : (i : Int) < (n : Int) := by omega
   have hl0 : (0 : Int) ≤ (i : Int) := by omega
   obtain ⟨a0, a1, a2, a3⟩ := (HS.out.below HB.out.1).cell hlt
   have HCI := Lib.hid (HC.out i hlt wr HB.out.1)
   unfold Sx.v sv at HCI
   obtain ⟨x, hx⟩ : ∃ x, X i = x := ⟨_, rfl⟩
   rw [hx] at HCI a0 a1 a2 a3
   clear hx
   obtain ⟨pi, hp⟩ : ∃ pi, p i = pi := ⟨_, rfl⟩
   rw [hp] at HCI
   have HP := Lib.hid hp
   clear hp
   cases pi
   ·go_wp2_with fail
    refine HCI.out.mono ?_
    rintro e w2 ⟨rfl, hb2⟩
    try dsimp only
    have HB2 : Hid (Below w.heap.size w w2 ∧ ∀ j, j < i + 1 → ¬ p j = true) := Lib.hid ⟨HB.out.1.trans (hb2.mono HB.out.1.size), fun j hj => by
     by_cases e : j = i
     ·subst e; rw [HP.out]; exact fun h => (by cases h)
     ·exact HB.out.2 j (by omega)⟩
    clear hb2
    go_wp2_with fail
    go_roundg (n - (i + 1))
    case measure => omega
    case rel => exact ⟨i + 1, by go_num, by omega, rfl, HB2⟩
   ·go_wp2_with fail
    refine HCI.out.mono ?_
    rintro e w2 ⟨rfl, hb2⟩
    try dsimp only
    have HB2 : Hid (Below w.heap.size w w2) := Lib.hid (HB.out.1.trans (hb2.mono HB.out.1.size))
    clear hb2
    go_wp2_with fail
    go_ret
    exact ⟨(i : Int), rfl, Or.inr ⟨i, rfl, hlt, HP.out, HB.out.2⟩, HB2.out⟩
  ·obtain rfl : i = n := by omega
   go_wp2_with fail
   go_ret
   exact ⟨-1, rfl, Or.inl ⟨rfl, HB.out.2⟩, HB.out.1⟩
theorem iindexH (cp : Value) (b n c : Nat) (X : Nat → Sx) (p : Nat → Bool) (w : World) (h : SR w b n X) (hn : n ≤ 1000)
  (hc : ∀ i, i < n → ∀ W, Below w.heap.size w W → Calls Tryz.prog 195 #[(X i).v, cp] W fun e w' => e = .returned (.bool (p i)) ∧ Below W.heap.size W w') :
  Calls Tryz.prog 176 #[.slice (some ⟨b, 0, none⟩) n c, .func (.func 195) #[] #[cp]] w (IdxRet n (fun i => p i = true) w) := by
 have HS := Lib.hid h
 have HC := Lib.hid hc
 clear h hc
 go_enter Tryz.func176, Tryz.ntmps176
 go_wp2_with fail
 go_loopg [5, 8] n (fun q s5 s8 v => ∃ i : Nat, s8 = .int .i64 (i : Int) ∧ i ≤ n ∧ q = n - i ∧ Hid (Below w.heap.size w v ∧ ∀ j, j < i → ¬ p j = true))
 case atStart => exact ⟨0, rfl, by omega, rfl, Lib.hid ⟨Below.refl _ _, fun j hj => by omega⟩⟩
 case round =>
  obtain ⟨i, rfl, hi, rfl, HB⟩ := hrel
  by_cases hlt : i < n
  ·have hl : (i : Int) < (n : Int) := by omega
   have hl0 : (0 : Int) ≤ (i : Int) := by omega
   obtain ⟨a0, a1, a2, a3⟩ := (HS.out.below HB.out.1).cell hlt
   have HCI := Lib.hid (HC.out i hlt wr HB.out.1)
   unfold Sx.v sv at HCI
   obtain ⟨x, hx⟩ : ∃ x, X i = x := ⟨_, rfl⟩
   rw [hx] at HCI a0 a1 a2 a3
   clear hx
   obtain ⟨pi, hp⟩ : ∃ pi, p i = pi := ⟨_, rfl⟩
   rw [hp] at HCI
   have HP := Lib.hid hp
   clear hp
   cases pi
   ·go_wp2_with fail
    refine HCI.out.mono ?_
    rintro e w2 ⟨rfl, hb2⟩
    try dsimp only
    have HB2 : Hid (Below w.heap.size w w2 ∧ ∀ j, j < i + 1 → ¬ p j = true) := Lib.hid ⟨HB.out.1.trans (hb2.mono HB.out.1.size), fun j hj => by
     by_cases e : j = i
     ·subst e; rw [HP.out]; exact fun h => (by cases h)
     ·exact HB.out.2 j (by omega)⟩
    clear hb2
    go_wp2_with fail
    go_roundg (n - (i + 1))
    case measure => omega
    case rel => exact ⟨i + 1, by go_num, by omega, rfl, HB2⟩
   ·go_wp2_with fail
    refine HCI.out.mono ?_
    rintro e w2 ⟨rfl, hb2⟩
    try dsimp only
    have HB2 : Hid (Below w.heap.size w w2) := Lib.hid (HB.out.1.trans (hb2.mono HB.out.1.size))
    clear hb2
    go_wp2_with fail
    go_ret
    exact ⟨(i : Int), rfl, Or.inr ⟨i, rfl, hlt, HP.out, HB.out.2⟩, HB2.out⟩
  ·obtain rfl : i = n := by omega
   go_wp2_with fail
   go_ret
   exact ⟨-1, rfl, Or.inl ⟨rfl, HB.out.2⟩, HB.out.1⟩
def RB (w : World) (r p sb last : Nat) : Prop := w.heap[r]? = some (.cells #[.pointer (some ⟨p, 0, none⟩), .slice (some ⟨sb, 0, none⟩) 16 16, .int .i64 (last : Int)] 191 (0, 0))
section
variable {w w' : World} {r p sb last : Nat}
theorem RB.c0 (h : RB w r p sb last) : w.cell? ⟨r, 0, none⟩ = some (.pointer (some ⟨p, 0, none⟩)) := cell_of_block h
theorem RB.c1 (h : RB w r p sb last) : w.cell? ⟨r, 1, none⟩ = some (.slice (some ⟨sb, 0, none⟩) 16 16) := cell_of_block h
theorem RB.c2 (h : RB w r p sb last) : w.cell? ⟨r, 2, none⟩ = some (.int .i64 (last : Int)) := cell_of_block h
theorem RB.f (h : RB w r p sb last) (k : Nat) : w.frozen? ⟨r, k, none⟩ = false := free_of_block h
theorem RB.lt (h : RB w r p sb last) : r < w.heap.size := heap_lt h
theorem RB.keep (h : RB w r p sb last) (e : w'.heap[r]? = w.heap[r]?) : RB w' r p sb last := e.trans h
theorem RB.below (h : RB w r p sb last) (e : Below w.heap.size w w') : RB w' r p sb last := (e.block r h.lt).trans h
theorem RB.put (h : RB w r p sb last) (l : Nat) : RB (w.setCell ⟨r, 2, none⟩ (.int .i64 (l : Int))) r p sb l := by
 unfold RB at h ⊢
 rw [set_block h 2 _]
 rfl
end
theorem iall {w : World} {r p sb last : Nat} (h : RB w r p sb last) :
  Calls Tryz.prog 174 #[.pointer (some ⟨r, 0, none⟩)] w fun e w' => e = .returned (.slice (some ⟨sb, 0, none⟩) 16 16) ∧ w' = w := by
 have c1 := h.c1
 clear h
 go_enter Tryz.func174, Tryz.ntmps174
 go_wp2_with fail
 go_ret
 exact ⟨rfl, rfl⟩
def zer (X : Nat → Sx) : Nat → Nat
 | 0 => 0
 | k + 1 => zer X k + (if (X k).no = 0 then 1 else 0)
theorem zer_le (X : Nat → Sx) : ∀ k, zer X k ≤ k
 | 0 => Nat.le_refl _
 | k + 1 => by
  have := zer_le X k
  unfold zer
  split <;> omega
def relS (s g : Int) (x : Sx) : Sx := if x.no ≠ 0 ∧ (x.s : Int) = s ∧ (x.g : Int) = g then Sx.z else x
def relX (s g : Int) (k : Nat) (X : Nat → Sx) : Nat → Sx := fun i => if i < k then relS s g (X i) else X i
def relC (s g : Int) (X : Nat → Sx) : Nat → Nat
 | 0 => 0
 | k + 1 => relC s g X k + (if (X k).no ≠ 0 ∧ ((X k).s : Int) = s ∧ ((X k).g : Int) = g then 1 else 0)
theorem relC_le (s g : Int) (X : Nat → Sx) : ∀ k, relC s g X k ≤ k
 | 0 => Nat.le_refl _
 | k + 1 => by
  have := relC_le s g X k
  unfold relC
  split <;> omega
theorem relX_succ_hit {s g : Int} {k : Nat} {X : Nat → Sx} (h : (X k).no ≠ 0 ∧ ((X k).s : Int) = s ∧ ((X k).g : Int) = g) : updS (relX s g k X) k Sx.z = relX s g (k + 1) X := by
 funext i
 unfold updS relX
 by_cases e : i = k
 ·subst e
  rw [if_pos rfl, if_pos (by omega)]
  unfold relS
  rw [if_pos h]
 ·rw [if_neg e]
  by_cases e2 : i < k
  ·rw [if_pos e2, if_pos (by omega)]
  ·rw [if_neg e2, if_neg (by omega)]
theorem relX_succ_miss {s g : Int} {k : Nat} {X : Nat → Sx} (h : ¬ ((X k).no ≠ 0 ∧ ((X k).s : Int) = s ∧ ((X k).g : Int) = g)) : relX s g k X = relX s g (k + 1) X := by
 funext i
 unfold relX
 by_cases e : i = k
 ·subst e
  rw [if_neg (by omega), if_pos (by omega)]
  unfold relS
  rw [if_neg h]
 ·by_cases e2 : i < k
  ·rw [if_pos e2, if_pos (by omega)]
  ·rw [if_neg e2, if_neg (by omega)]
theorem relX_at (s g : Int) (k : Nat) (X : Nat → Sx) : relX s g k X k = X k := by
 unfold relX
 rw [if_neg (by omega)]
end Go.Proofs.YtobkmohoepgfmaaGreatDoor
namespace Go.Proofs.YtobkmohoepgfmaaGreatDoor
open Go.RowKit Go.Sort
set_option maxRecDepth 100000
set_option maxHeartbeats 1000000

theorem irelease {w : World} {r p sb last : Nat} {X : Nat → Sx} (s g : Int) (h : RB w r p sb last) (hs : SR w sb 16 X) :
  Calls Tryz.prog 152 #[.pointer (some ⟨r, 0, none⟩), .int .i64 s, .int .i64 g] w fun e w' => e = .returned (.int .i64 (relC s g X 16 : Nat)) ∧ SR w' sb 16 (relX s g 16 X) ∧ Turn [sb] w w' := by
 have HA := Lib.hid (iall h)
 have HS := Lib.hid hs
 have HR := Lib.hid h
 have hne : r ≠ sb := by
  rintro rfl
  obtain ⟨cs, hc⟩ := hs.type
  unfold RB at h
  rw [hc] at h
  cases h
 have HNE := Lib.hid hne
 clear h hs hne
 go_enter Tryz.func152, Tryz.ntmps152
 go_wp2_with fail
 refine HA.out.mono ?_
 rintro e w' ⟨rfl, hw⟩
 obtain rfl := hw.symm
 go_wp2_with fail
 go_loopg [7, 8, 9, 13] 16 (fun q s7 s8 s9 s13 v => ∃ i : Nat, s13 = .int .i64 (i : Int) ∧ i ≤ 16 ∧ q = 16 - i ∧ s7 = .int .i64 (relC s g X i : Nat) ∧ Hid (SR v sb 16 (relX s g i X) ∧ Turn [sb] w v))
 case atStart => exact ⟨0, rfl, by omega, rfl, rfl, Lib.hid ⟨HS.out, Turn.refl _ _⟩⟩
 case round =>
  obtain ⟨i, rfl, hi, rfl, rfl, HB⟩ := hrel
  by_cases hlt : i < 16
  ·have hl : (i : Int) < 16 := by omega
   have hz := relC_le s g X i
   obtain ⟨a0, a1, a2, a3⟩ := HB.out.1.cell hlt
   rw [relX_at] at a0 a1 a2 a3
   obtain ⟨v1, hv1⟩ : ∃ v1, wr.alloc (.cells #[.int .i64 ((X i).no : Int), .int .i64 ((X i).s : Int), .int .i64 ((X i).g : Int), .slice (X i).A (X i).n (X i).c] 194) = v1 := ⟨_, rfl⟩
   obtain ⟨H, hH⟩ : ∃ H, wr.heap.size = H := ⟨_, rfl⟩
   have HHE := Lib.hid hH
   have HV1 := Lib.hid hv1
   have hb1 : Below wr.heap.size wr v1 := by rw [← hv1]; exact (Below.refl _ _).alloc (Nat.le_refl _) _
   have HK1 : Hid (SV v1 H ((X i).no : Int) ((X i).s : Int) ((X i).g : Int) (X i).A (X i).n (X i).c) := Lib.hid (by rw [← hv1]; exact SV.of_new hH)
   have HB1 : Hid (SR v1 sb 16 (relX s g i X) ∧ Turn [sb] w v1) := Lib.hid ⟨HB.out.1.below hb1, HB.out.2.trans (Turn.of hb1)⟩
   have HZE : Hid (relC s g X (i + 1) = relC s g X i + (if (X i).no ≠ 0 ∧ ((X i).s : Int) = s ∧ ((X i).g : Int) = g then 1 else 0)) := Lib.hid rfl
   have HXH := Lib.hid (fun h => relX_succ_hit (s := s) (g := g) (k := i) (X := X) h)
   have HXM := Lib.hid (fun h => relX_succ_miss (s := s) (g := g) (k := i) (X := X) h)
   obtain ⟨z, hz'⟩ : ∃ z, relC s g X i = z := ⟨_, rfl⟩
   rw [hz'] at HZE hz ⊢
   obtain ⟨x, hx⟩ : ∃ x, X i = x := ⟨_, rfl⟩
   rw [hx] at HV1 HZE HK1 HXH HXM a0 a1 a2 a3
   clear hv1 hz' hx hb1 hH
   by_cases h0 : x.no = 0
   ·have HL := Lib.hid (ilive x.no (x.s : Int) (x.g : Int) x.A x.n x.c v1 false ⟨fun e => (by cases e), fun e => absurd h0 e⟩)
    have hno : ¬ (x.no ≠ 0 ∧ (x.s : Int) = s ∧ (x.g : Int) = g) := fun h => h.1 h0
    rw [if_neg hno] at HZE
    have HXN := Lib.hid (HXM.out hno)
    clear h0 hno
    unfold sv at HL
    go_wp2_with fail
    rw [HV1.out, HHE.out]
    refine HL.out.mono ?_
    rintro e w2 ⟨rfl, hb2⟩
    try dsimp only
    have HB2 : Hid (SR w2 sb 16 (relX s g (i + 1) X) ∧ Turn [sb] w w2) := Lib.hid (by rw [← HXN.out]; exact ⟨HB1.out.1.below hb2, HB1.out.2.trans (Turn.of hb2)⟩)
    clear hb2 HL
    go_wp2_with fail
    go_roundg (16 - (i + 1))
    case measure => omega
    case rel => exact ⟨i + 1, by go_num, by omega, rfl, by rw [HZE.out, Nat.add_zero], HB2⟩
   ·have HL := Lib.hid (ilive x.no (x.s : Int) (x.g : Int) x.A x.n x.c v1 true ⟨fun _ => h0, fun _ => rfl⟩)
    unfold sv at HL
    by_cases h1 : (x.s : Int) = s
    ·by_cases h2 : (x.g : Int) = g
     ·have e1 : ((x.s : Int) == s) = true := beq_iff_eq.2 h1
      have e2 : ((x.g : Int) == g) = true := beq_iff_eq.2 h2
      have hyes : x.no ≠ 0 ∧ (x.s : Int) = s ∧ (x.g : Int) = g := ⟨h0, h1, h2⟩
      rw [if_pos hyes] at HZE
      have HXN := Lib.hid (HXH.out hyes)
      clear h0 h1 h2 hyes
      go_wp2_with fail
      rw [HV1.out, HHE.out]
      refine HL.out.mono ?_
      rintro e w2 ⟨rfl, hb2⟩
      try dsimp only
      have HK2 := Lib.hid (HK1.out.below hb2)
      have k1 := HK2.out.c1
      have k2 := HK2.out.c2
      have HB2 : Hid (SR w2 sb 16 (relX s g i X) ∧ Turn [sb] w w2) := Lib.hid ⟨HB1.out.1.below hb2, HB1.out.2.trans (Turn.of hb2)⟩
      have HR2 : Hid (RB w2 r p sb last) := Lib.hid (HR.out.keep (HB2.out.2.block r HR.out.lt (by rw [List.mem_singleton]; exact HNE.out)))
      have r1 := HR2.out.c1
      clear hb2 HL a0 a1 a2 a3
      obtain ⟨a0, a1, a2, a3⟩ := HB2.out.1.cell hlt
      have f0 := HB2.out.1.f
      have HB3 : Hid (SR ((((w2.setCell ⟨sb, i * 4, none⟩ (.int .i64 0)).setCell ⟨sb, i * 4 + 1, none⟩ (.int .i64 0)).setCell ⟨sb, i * 4 + 2, none⟩ (.int .i64 0)).setCell ⟨sb, i * 4 + 3, none⟩ (.slice none 0 0)) sb 16 (relX s g (i + 1) X) ∧ Turn [sb] w ((((w2.setCell ⟨sb, i * 4, none⟩ (.int .i64 0)).setCell ⟨sb, i * 4 + 1, none⟩ (.int .i64 0)).setCell ⟨sb, i * 4 + 2, none⟩ (.int .i64 0)).setCell ⟨sb, i * 4 + 3, none⟩ (.slice none 0 0))) := Lib.hid (by
       rw [← HXN.out]
       exact ⟨HB2.out.1.put hlt Sx.z, HB2.out.2.put4 (by simp) _ _ _ _ _ _ _ _⟩)
      go_wp2_with fail
      go_roundg (16 - (i + 1))
      case measure => omega
      case rel => exact ⟨i + 1, by go_num, by omega, rfl, by rw [HZE.out]; go_num, HB3⟩
     ·have e1 : ((x.s : Int) == s) = true := beq_iff_eq.2 h1
      have e2 : ((x.g : Int) == g) = false := beq_eq_false_iff_ne.2 h2
      have hno : ¬ (x.no ≠ 0 ∧ (x.s : Int) = s ∧ (x.g : Int) = g) := fun h => h2 h.2.2
      rw [if_neg hno] at HZE
      have HXN := Lib.hid (HXM.out hno)
      clear h0 h1 h2 hno
      go_wp2_with fail
      rw [HV1.out, HHE.out]
      refine HL.out.mono ?_
      rintro e w2 ⟨rfl, hb2⟩
      try dsimp only
      have HK2 := Lib.hid (HK1.out.below hb2)
      have k1 := HK2.out.c1
      have k2 := HK2.out.c2
      have HB2 : Hid (SR w2 sb 16 (relX s g (i + 1) X) ∧ Turn [sb] w w2) := Lib.hid (by rw [← HXN.out]; exact ⟨HB1.out.1.below hb2, HB1.out.2.trans (Turn.of hb2)⟩)
      clear hb2 HL
      go_wp2_with fail
      go_roundg (16 - (i + 1))
      case measure => omega
      case rel => exact ⟨i + 1, by go_num, by omega, rfl, by rw [HZE.out, Nat.add_zero], HB2⟩
    ·have e1 : ((x.s : Int) == s) = false := beq_eq_false_iff_ne.2 h1
     have hno : ¬ (x.no ≠ 0 ∧ (x.s : Int) = s ∧ (x.g : Int) = g) := fun h => h1 h.2.1
     rw [if_neg hno] at HZE
     have HXN := Lib.hid (HXM.out hno)
     clear h0 h1 hno
     go_wp2_with fail
     rw [HV1.out, HHE.out]
     refine HL.out.mono ?_
     rintro e w2 ⟨rfl, hb2⟩
     try dsimp only
     have HK2 := Lib.hid (HK1.out.below hb2)
     have k1 := HK2.out.c1
     have HB2 : Hid (SR w2 sb 16 (relX s g (i + 1) X) ∧ Turn [sb] w w2) := Lib.hid (by rw [← HXN.out]; exact ⟨HB1.out.1.below hb2, HB1.out.2.trans (Turn.of hb2)⟩)
     clear hb2 HL
     go_wp2_with fail
     go_roundg (16 - (i + 1))
     case measure => omega
     case rel => exact ⟨i + 1, by go_num, by omega, rfl, by rw [HZE.out, Nat.add_zero], HB2⟩
  ·obtain rfl : i = 16 := by omega
   go_wp2_with fail
   go_ret
   exact ⟨rfl, HB.out.1, HB.out.2⟩
theorem ihas1 (x : Sx) (bi : Nat) (y : It) (A : Option Addr) (c : Nat) (W : World) (h : IV W bi (y.s : Int) (y.g : Int) A 128 c) (hd : DatI W A y.D) (hy : ∀ j, j < 128 → y.D j < 256) (hx : SxOk W x) (t : Bool) (ht : t = true ↔ x.no ≠ 0 ∧ x.it.Alike y) :
  Calls Tryz.prog 195 #[x.v, .pointer (some ⟨bi, 0, none⟩)] W fun e w' => e = .returned (.bool t) ∧ Below W.heap.size W w' := by
 obtain ⟨w1, hw1⟩ : ∃ w1, W.alloc (.cells #[.int .i64 (x.no : Int), .int .i64 (x.s : Int), .int .i64 (x.g : Int), .slice x.A x.n x.c] 194) = w1 := ⟨_, rfl⟩
 obtain ⟨H, hH⟩ : ∃ H, W.heap.size = H := ⟨_, rfl⟩
 have HHE := Lib.hid hH
 have HW1 := Lib.hid hw1
 have hb1 : Below W.heap.size W w1 := by rw [← hw1]; exact (Below.refl _ _).alloc (Nat.le_refl _) _
 have HB1 : Hid (Below H W w1) := Lib.hid (by rw [← hH]; exact hb1)
 have HK1 : Hid (SV w1 H (x.no : Int) (x.s : Int) (x.g : Int) x.A x.n x.c) := Lib.hid (by rw [← hw1]; exact SV.of_new hH)
 have HI1 := Lib.hid (h.below hb1)
 have HD1 := Lib.hid (hd.below hb1)
 have HX1 := Lib.hid (hx.below hb1)
 have HT := Lib.hid ht
 have HY := Lib.hid hy
 have HZ1 : Hid (H ≤ w1.heap.size) := Lib.hid (Nat.le_of_lt HK1.out.lt)
 clear hw1 hH hb1 h hd hx ht hy
 unfold Sx.v sv
 by_cases h0 : x.no = 0
 ·have HL := Lib.hid (ilive x.no (x.s : Int) (x.g : Int) x.A x.n x.c w1 false ⟨fun e => (by cases e), fun e => absurd h0 e⟩)
  obtain rfl : t = false := not_true HT.out (fun h => h.1 h0)
  clear h0
  unfold sv at HL
  go_enter Tryz.func195, Tryz.ntmps195
  go_wp2_with fail
  rw [HW1.out, HHE.out]
  refine HL.out.mono ?_
  rintro e w2 ⟨rfl, hb2⟩
  try dsimp only
  have HB2 : Hid (Below H W w2) := Lib.hid (HB1.out.trans (hb2.mono HZ1.out))
  clear hb2
  go_wp2_with fail
  go_ret
  exact ⟨rfl, by rw [HHE.out]; exact HB2.out⟩
 ·have HL := Lib.hid (ilive x.no (x.s : Int) (x.g : Int) x.A x.n x.c w1 true ⟨fun _ => h0, fun _ => rfl⟩)
  obtain ⟨hn, hdx, hok⟩ := HX1.out h0
  have HDX := Lib.hid hdx
  have HOK := Lib.hid hok
  have HT2 : Hid (t = true ↔ x.it.Alike y) := Lib.hid ⟨fun e => (HT.out.1 e).2, fun e => HT.out.2 ⟨h0, e⟩⟩
  rw [hn] at HL HW1 HK1 ⊢
  clear h0 hn hdx hok HT HX1
  unfold sv at HL
  go_enter Tryz.func195, Tryz.ntmps195
  go_wp2_with fail
  rw [HW1.out, HHE.out]
  refine HL.out.mono ?_
  rintro e w2 ⟨rfl, hb2⟩
  try dsimp only
  have HB2 : Hid (Below H W w2) := Lib.hid (HB1.out.trans (hb2.mono HZ1.out))
  have HZ2 : Hid (H ≤ w2.heap.size) := Lib.hid (Nat.le_trans HZ1.out hb2.size)
  have HK2 := Lib.hid (HK1.out.below hb2)
  have HI2 := Lib.hid (HI1.out.below hb2)
  have k1 := HK2.out.c1
  have k2 := HK2.out.c2
  have k3 := HK2.out.c3
  have i0 := HI2.out.c0
  have i1 := HI2.out.c1
  have i2 := HI2.out.c2
  have HSA := Lib.hid (isameV (w := w2) (v := iv (x.s : Int) (x.g : Int) x.A 128 x.c) (v' := iv (y.s : Int) (y.g : Int) A 128 c) (x := x.it) (y := y) ⟨x.A, x.c, rfl, HDX.out.below hb2⟩ ⟨A, c, rfl, HD1.out.below hb2⟩ HOK.out.2.2.2 HY.out t HT2.out)
  unfold iv at HSA
  clear hb2
  go_wp2_with fail
  refine HSA.out.mono ?_
  rintro e w3 ⟨rfl, hb3⟩
  try dsimp only
  have HB3 : Hid (Below H W w3) := Lib.hid (HB2.out.trans (hb3.mono HZ2.out))
  clear hb3 k1 k2 k3 i0 i1 i2 HSA
  go_wp2_with fail
  go_ret
  exact ⟨rfl, by rw [HHE.out]; exact HB3.out⟩
theorem ihas {w : World} {r p sb last : Nat} {X : Nat → Sx} (y : It) (A : Option Addr) (c : Nat) (h : RB w r p sb last) (hs : SR w sb 16 X) (hx : ∀ k, k < 16 → SxOk w (X k)) (hd : DatI w A y.D) (hy : ∀ j, j < 128 → y.D j < 256) (t : Bool) (ht : t = true ↔ ∃ k, k < 16 ∧ (X k).no ≠ 0 ∧ (X k).it.Alike y) :
  Calls Tryz.prog 175 #[.pointer (some ⟨r, 0, none⟩), iv (y.s : Int) (y.g : Int) A 128 c] w fun e w' => e = .returned (.bool t) ∧ Below w.heap.size w w' := by
 obtain ⟨w1, hw1⟩ : ∃ w1, w.alloc (.cells #[.int .i64 (y.s : Int), .int .i64 (y.g : Int), .slice A 128 c] 109) = w1 := ⟨_, rfl⟩
 obtain ⟨H, hH⟩ : ∃ H, w.heap.size = H := ⟨_, rfl⟩
 have HHE := Lib.hid hH
 have HW1 := Lib.hid hw1
 have hb1 : Below w.heap.size w w1 := by rw [← hw1]; exact (Below.refl _ _).alloc (Nat.le_refl _) _
 have HB1 : Hid (Below H w w1) := Lib.hid (by rw [← hH]; exact hb1)
 have HI1 : Hid (IV w1 H (y.s : Int) (y.g : Int) A 128 c) := Lib.hid (by rw [← hw1]; exact IV.of_new hH)
 have HZ1 : Hid (H ≤ w1.heap.size) := Lib.hid (Nat.le_of_lt HI1.out.lt)
 have c1 := h.c1
 have hrl : r < w.heap.size := h.lt
 have hrn : ¬ r = w.heap.size := by omega
 have hex : ∀ k, ∃ t : Bool, t = true ↔ (X k).no ≠ 0 ∧ (X k).it.Alike y := fun k => by
  by_cases hh : (X k).no ≠ 0 ∧ (X k).it.Alike y
  ·exact ⟨true, fun _ => hh, fun _ => rfl⟩
  ·exact ⟨false, fun e => (by cases e), fun e => absurd e hh⟩
 obtain ⟨pp, hpp⟩ := Classical.axiomOfChoice hex
 have HC : Hid (Calls Tryz.prog 176 #[.slice (some ⟨sb, 0, none⟩) 16 16, .func (.func 195) #[] #[.pointer (some ⟨H, 0, none⟩)]] w1 (IdxRet 16 (fun i => pp i = true) w1)) :=
  Lib.hid (iindexH (.pointer (some ⟨H, 0, none⟩)) sb 16 16 X pp w1 (hs.below hb1) (by omega) (fun i hi W hW => ihas1 (X i) H y A c W (HI1.out.below hW) ((hd.below hb1).below hW) hy (((hx i hi).below hb1).below hW) (pp i) (hpp i)))
 have HT : Hid (∀ k : Int, FirstI 16 (fun i => pp i = true) k → (0 ≤ k ↔ t = true)) := Lib.hid (fun k hk => by
  rcases hk with ⟨rfl, hno⟩ | ⟨i, rfl, hi, hyes, _⟩
  ·constructor
   ·intro h; omega
   ·intro e
    obtain ⟨k, hk, hk2⟩ := ht.1 e
    exact absurd ((hpp k).2 hk2) (hno k hk)
  ·exact ⟨fun _ => ht.2 ⟨i, hi, (hpp i).1 hyes⟩, fun _ => by omega⟩)
 have HCT : Hid (Calls Tryz.prog 194 #[.slice (some ⟨sb, 0, none⟩) 16 16, .func (.func 195) #[] #[.pointer (some ⟨H, 0, none⟩)]] w1 (fun e w' => e = .returned (.bool t) ∧ Below w1.heap.size w1 w')) := by
  refine Lib.hid ?_
  clear hw1 hH hb1 h hs hx hd hy ht c1 hex hpp hrl hrn
  go_enter Tryz.func194, Tryz.ntmps194
  go_wp2_with fail
  refine HC.out.mono ?_
  rintro e w2 ⟨k, rfl, hk, hb2⟩
  try dsimp only
  have HB2 := Lib.hid hb2
  have hkt := HT.out k hk
  clear hk hb2
  cases t
  ·have hk0 : ¬ 0 ≤ k := fun h => (by have := hkt.1 h; cases this)
   clear hkt
   go_wp2_with fail
   go_ret
   exact ⟨rfl, HB2.out⟩
  ·have hk0 : 0 ≤ k := hkt.2 rfl
   clear hkt
   go_wp2_with fail
   go_ret
   exact ⟨rfl, HB2.out⟩
 clear hw1 hH hb1 h hs hx hd hy ht hex hpp HC HT
 unfold iv
 go_enter Tryz.func175, Tryz.ntmps175
 go_wp2_with fail
 rw [HW1.out, HHE.out]
 refine HCT.out.mono ?_
 rintro e w2 ⟨rfl, hb2⟩
 try dsimp only
 have HB2 : Hid (Below H w w2) := Lib.hid (HB1.out.trans (hb2.mono HZ1.out))
 clear hb2
 go_wp2_with fail
 go_ret
 exact ⟨rfl, by rw [HHE.out]; exact HB2.out⟩
end Go.Proofs.YtobkmohoepgfmaaGreatDoor
