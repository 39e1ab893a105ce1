import Derived.Test.YtobkmohoepgfmaaGreatDoorChecked
import Derived.Test.YtobkmohoepgfmaaGreatDoorRows
import Derived.WalkKit
import Derived.WalkSpells
import Derived.Lib.Hide
import Derived.Outline
import Derived.IntWalk
import Derived.OwnWalk
import Derived.ArgAppend
import Derived.Maps.AppendAt
import Derived.Maps.OwnSet
import Derived.Sort.Grow
import Derived.BigRegion
import Derived.BigQuiet
import Derived.StillTailTactics
import Derived.Deep.QuietTactic
import Derived.Deep.RegionHeld3
import Derived.Deep.RegionWith
import Derived.Deep.RegionLaw
import Derived.Deep.AppendLies
import Derived.Deep.LoopGhost
import Derived.Deep.CutBlock
import Derived.Deep.Slices
import Derived.Laws.BitsLemmas
import Derived.Laws.ResultCell
import Derived.Laws.BytesArg
import Derived.Laws.Strings
import Derived.Laws.CopyOwn
namespace Go.Proofs.YtobkmohoepgfmaaGreatDoor
open Go.RowKit Go.Sort
set_option maxRecDepth 100000
set_option maxHeartbeats 1000000

theorem xor_lt {x y : Nat} (hx : x < 256) (hy : y < 256) : x ^^^ y < 256 := Nat.xor_lt_two_pow (n := 8) hx hy
theorem bits_xor_u8 (a b : Nat) (ha : a < 256) (hb : b < 256) : bits .xor .u8 (a : Int) (b : Int) = ((a ^^^ b : Nat) : Int) := by
 have ha' : a % 2 ^ IntKind.u8.bits = a := Nat.mod_eq_of_lt ha
 have hb' : b % 2 ^ IntKind.u8.bits = b := Nat.mod_eq_of_lt hb
 simp only [bits, BitVec.ofInt_natCast, BitVec.toNat_xor, BitVec.toNat_ofNat, ha', hb']
 rw [IntKind.wrap_u8]
 have := xor_lt ha hb
 omega
theorem bits_xor_i64 (a b : Nat) (ha : a < 2 ^ 62) (hb : b < 2 ^ 62) : bits .xor .i64 (a : Int) (b : Int) = ((a ^^^ b : Nat) : Int) := by
 have h2 : (2 : Nat) ^ 62 ≤ 2 ^ IntKind.i64.bits := by decide
 have ha' : a % 2 ^ IntKind.i64.bits = a := Nat.mod_eq_of_lt (Nat.lt_of_lt_of_le ha h2)
 have hb' : b % 2 ^ IntKind.i64.bits = b := Nat.mod_eq_of_lt (Nat.lt_of_lt_of_le hb h2)
 simp only [bits, BitVec.ofInt_natCast, BitVec.toNat_xor, BitVec.toNat_ofNat, ha', hb']
 rw [IntKind.wrap_i64]
 have := Nat.xor_lt_two_pow ha hb
 omega
theorem cell?_lt {w : World} {b o : Nat} {v : Value} (h : w.cell? ⟨b, o, none⟩ = some v) : b < w.heap.size := by
 unfold World.cell? at h
 by_cases hb : b < w.heap.size
 ·exact hb
 ·simp [Array.getElem?_eq_none (by omega : w.heap.size ≤ b)] at h
theorem cell_of_block {w : World} {b k : Nat} {cs : Array Value} {t : TypeId} {fr : Nat × Nat} (h : w.heap[b]? = some (.cells cs t fr)) : w.cell? ⟨b, k, none⟩ = cs[k]? := by
 simp [World.cell?, h]
theorem bits_or_i64 (a b : Nat) (ha : a < 2 ^ 54) (hb : b < 256) : bits .or .i64 ((a : Int) * 256) (b : Int) = (a : Int) * 256 + (b : Int) := by
 have h2 : (2 : Nat) ^ 62 ≤ 2 ^ IntKind.i64.bits := by decide
 have ha' : (a * 256) % 2 ^ IntKind.i64.bits = a * 256 := Nat.mod_eq_of_lt (by omega)
 have hb' : b % 2 ^ IntKind.i64.bits = b := Nat.mod_eq_of_lt (by omega)
 have e : ((a : Int) * 256) = ((a * 256 : Nat) : Int) := by omega
 rw [e]
 simp only [bits, BitVec.ofInt_natCast, BitVec.toNat_or, BitVec.toNat_ofNat, ha', hb']
 rw [show a * 256 = 2 ^ 8 * a by omega, ← Nat.two_pow_add_eq_or_of_lt (i := 8) (by omega), IntKind.wrap_i64]
 omega
theorem addr_ne {b b' o o' : Nat} (h : b ≠ b' ∨ o ≠ o') : (⟨b, o, none⟩ : Addr) ≠ ⟨b', o', none⟩ := by
 intro e
 injection e with e1 e2
 rcases h with h | h
 ·exact h e1
 ·exact h e2
theorem cell_far {w : World} {b b' o o' : Nat} {v : Value} (h : b ≠ b' ∨ o ≠ o') : (w.setCell ⟨b', o', none⟩ v).cell? ⟨b, o, none⟩ = w.cell? ⟨b, o, none⟩ :=
 World.cell?_setCell_other _ _ _ _ (addr_ne h).symm
theorem heap_lt {w : World} {b : Nat} {o : Obj} (h : w.heap[b]? = some o) : b < w.heap.size := by
 by_cases hb : b < w.heap.size
 ·exact hb
 ·rw [Array.getElem?_eq_none (by omega)] at h; cases h
theorem grownBy_weaker {w w' : World} (h : w.grownBy w' none) (r : Option Nat) : w.grownBy w' r := ⟨h.os, h.tape, h.output, h.size, fun k hk _ => h.block k hk (by simp)⟩
theorem tmod_pos (a m : Int) (hm : 1 ≤ m) (h : 0 ≤ a.tmod m) : a.tmod m = a % m := by
 rw [Int.tmod_eq_emod] at h ⊢
 split
 ·omega
 ·rename_i hc
  rw [if_neg hc] at h
  have h1 := Int.emod_lt_of_pos a (show 0 < m by omega)
  omega
theorem tmod_neg (a m : Int) (hm : 1 ≤ m) (h : a.tmod m < 0) : a.tmod m + m = a % m ∧ -m < a.tmod m := by
 rw [Int.tmod_eq_emod] at h ⊢
 have h0 := Int.emod_nonneg a (show m ≠ 0 by omega)
 split
 ·rename_i hc
  rw [if_pos hc] at h
  omega
 ·rename_i hc
  rw [if_neg hc] at h
  have : ¬ (a % m = 0) := fun e => hc (Or.inr (Int.dvd_of_emod_eq_zero e))
  omega
theorem rpick (a m : Int) (hm : 1 ≤ m) (hm2 : m ≤ 9223372036854775807) (w : World) :
  Calls Tryz.prog 22 #[.int .i64 a, .int .i64 m] w fun e w' => e = .returned (.int .i64 (a % m)) ∧ w' = w := by
 have hne : ¬ m = 0 := by omega
 by_cases h : 0 ≤ a.tmod m
 ·have HP := Lib.hid (tmod_pos a m hm h)
  have h' : ¬ a.tmod m < 0 := by omega
  go_enter Tryz.func22, Tryz.ntmps22
  go_wp2
  go_ret
  rw [← HP.out]; exact ⟨rfl, rfl⟩
 ·have hlt : a.tmod m < 0 := by omega
  have HP := Lib.hid (tmod_neg a m hm hlt).1
  have hb := (tmod_neg a m hm hlt).2
  go_enter Tryz.func22, Tryz.ntmps22
  go_wp2
  go_ret
  rw [← HP.out]; exact ⟨rfl, rfl⟩
def Nums (w : World) (a : Option Addr) (xs : List Int) : Prop := ∀ (i : Nat) (x : Int), xs[i]? = some x → ∃ g o, a = some ⟨g, o, none⟩ ∧ g < w.heap.size ∧ w.cell? ⟨g, o + i, none⟩ = some (.int .i64 x)
structure Row8 (w : World) (g c : Nat) (f : Nat → Nat) : Prop where
 cell : ∀ j, j < c → w.cell? ⟨g, j, none⟩ = some (.int .u8 (f j : Nat))
 free : ∀ k, w.frozen? ⟨g, k, none⟩ = false
theorem Row8.keep {w w' : World} {g c : Nat} {f : Nat → Nat} (h : Row8 w g c f) (e : w'.heap[g]? = w.heap[g]?) : Row8 w' g c f :=
 ⟨fun j hj => (World.cell?_of_block (w := w) e).trans (h.cell j hj), fun k => (World.frozen?_of_block (w := w) e).trans (h.free k)⟩
theorem Row8.put {w : World} {g c q x : Nat} {f : Nat → Nat} (h : Row8 w g c f) (hq : q < c) : Row8 (w.setCell ⟨g, q, none⟩ (.int .u8 (x : Nat))) g c (fun j => if j = q then x else f j) := by
 refine ⟨fun j hj => ?_, fun k => by rw [World.frozen?_setCell]; exact h.free k⟩
 by_cases e : j = q
 ·subst e; rw [World.cell?_setCell_same _ _ _ (h.cell j hj), if_pos rfl]
 ·rw [cell_far (Or.inr e), if_neg e]; exact h.cell j hj
theorem Row8.congr {w : World} {g c : Nat} {f f' : Nat → Nat} (h : Row8 w g c f) (e : ∀ j, j < c → f j = f' j) : Row8 w g c f' := ⟨fun j hj => by rw [← e j hj]; exact h.cell j hj, h.free⟩
theorem infoByte : (Tryz.prog.info? 5).map (fun i => (i.zero, i.size, i.bytes)) = some (some (.int .u8 0), 1, 1) := by kernel_rfl
theorem make8 (n : Nat) (hn : n ≤ 1000000) : ∃ zs : Array Value, (∀ j, j < n → zs[j]? = some (.int .u8 0)) ∧
  ∀ W : World, Sem.run Tryz.prog (Instr.makeSlice 36 (.int .i64 (n : Int)) (.int .i64 (n : Int))) W = .ok (.slice (some ⟨W.heap.size, 0, none⟩) n n) (W.alloc (.cells zs 5)) := by
 obtain ⟨i0, hi0, hz0, hz1, hz2⟩ := info_parts infoByte
 refine ⟨madeCells (Value.int .u8 0).cells (n * i0.size), fun j hj => ?_, fun W => ?_⟩
 ·rw [hz1]
  simp [madeCells, Value.cells, hj]
  rw [Nat.mod_one]; rfl
 ·have h := run_make W 36 5 i0 (.int .u8 0) Tryz.underlying36 hi0 hz0 .i64 .i64 (n : Int) (n : Int) (by omega) (by omega) (by rw [hz2]; omega) (by omega)
  simpa using h
theorem alloc_block (w : World) (o : Obj) : (w.alloc o).heap[w.heap.size]? = some o := by
 show (w.heap.push _)[w.heap.size]? = _
 rw [Array.getElem?_push, if_pos rfl]
theorem alloc_old (w : World) (o : Obj) {k : Nat} (h : k < w.heap.size) : (w.alloc o).heap[k]? = w.heap[k]? := by
 show (w.heap.push _)[k]? = _
 rw [Array.getElem?_push, if_neg (by omega)]
theorem alloc_size (w : World) (o : Obj) : (w.alloc o).heap.size = w.heap.size + 1 := by simp
theorem free_of_block {w : World} {b k : Nat} {cs : Array Value} {t : TypeId} (h : w.heap[b]? = some (.cells cs t (0, 0))) : w.frozen? ⟨b, k, none⟩ = false := by
 simp [World.frozen?, h]
theorem only_drew {a w : World} {row : Option Nat} (h : a.grownBy w row) : a.grownBy w.drew row := ⟨h.os, h.tape, h.output, h.size, h.block⟩
theorem only_refl (a : World) (row : Option Nat) : a.grownBy a row := ⟨rfl, rfl, rfl, Nat.le_refl _, fun _ _ _ => rfl⟩
theorem only_setCell {a w : World} {g : Nat} (h : a.grownBy w (some g)) (k : Nat) (u : Value) : a.grownBy (w.setCell ⟨g, k, none⟩ u) (some g) :=
 ⟨h.os, h.tape, h.output, by simpa [World.setCell] using h.size, fun i hi hne => (Below.heap_setCell w ⟨g, k, none⟩ u i (by rintro rfl; exact hne rfl)).trans (h.block i hi hne)⟩
theorem Below.of_only {B : Nat} {w0 w w' : World} {g : Nat} (h : Below B w0 w) (hg : w.grownBy w' (some g)) (hB : B ≤ g) (hs : B ≤ w.heap.size) : Below B w0 w' :=
 ⟨hg.os.trans h.os, hg.tape.trans h.tape, hg.output.trans h.output, Nat.le_trans h.size hg.size, fun k hk => (hg.block k (by omega) (fun e => by injection e; omega)).trans (h.block k hk)⟩
theorem addr_add (h q j : Nat) : (⟨h, q, none⟩ : Addr).add j = ⟨h, q + j, none⟩ := by
 unfold Addr.add
 split
 ·rename_i e; subst e; rfl
 ·rfl
def rowL (n : Nat) (X : Nat → Nat) : List Value := (List.range n).map (fun j => Value.int .u8 (X j : Nat))
theorem rowL_len (n : Nat) (X : Nat → Nat) : (rowL n X).length = n := by simp [rowL]
theorem rowL_get {n j : Nat} {X : Nat → Nat} (h : j < n) : (rowL n X)[j]? = some (.int .u8 (X j : Nat)) := by simp [rowL, h]
theorem rowL_cells {w : World} {h q n : Nat} {X : Nat → Nat} (hx : ∀ j, j < n → w.cell? ⟨h, q + j, none⟩ = some (.int .u8 (X j : Nat))) : ∀ j u, (rowL n X)[j]? = some u → w.cell? ((⟨h, q, none⟩ : Addr).add j) = some u := by
 intro j u hu
 have hj : j < n := by have := (List.getElem?_eq_some_iff.1 hu).1; rwa [rowL_len] at this
 rw [rowL_get hj] at hu
 cases hu
 rw [addr_add]
 exact hx j hj
theorem rowL_one {n : Nat} {X : Nat → Nat} : ∀ u ∈ rowL n X, u.oneCell' = true := by
 intro u hu
 simp [rowL] at hu
 obtain ⟨j, _, rfl⟩ := hu
 rfl
theorem own_row8 {w : World} {B g n cap : Nat} {xs : List Value} {X : Nat → Nat} (h : w.ownsRow B 5 1 (.slice (some ⟨g, 0, none⟩) n cap) n xs) (hx : ∀ j, j < n → xs[j]? = some (.int .u8 (X j : Nat))) : Row8 w g n X := by
 refine ⟨fun j hj => ?_, fun k => ?_⟩
 ·have := h.cells (g := g) rfl j _ (hx j hj)
  rw [addr_add, Nat.zero_add] at this
  exact this
 ·rcases h.2 with ⟨h0, _⟩ | ⟨g', cap', cur, e, _, hb, _⟩
  ·cases h0
  ·cases e
   exact free_of_block hb
theorem own_empty {w : World} {base e : Nat} {t : TypeId} (hb : w.heap[e]? = some (.cells #[] t (0, 0))) (hB : base ≤ e) : w.ownsRow base t 1 (.slice (some ⟨e, 0, none⟩) 0 0) 0 [] :=
 ⟨rfl, Or.inr ⟨e, 0, #[], rfl, hB, hb, Nat.le_refl _, by unfold maxLen; omega, rfl, rfl⟩⟩
theorem own_keep {w w' : World} {B : Nat} {e : TypeId} {v : Value} {n : Nat} {xs : List Value} (h : w.ownsRow B e 1 v n xs) (b : Below w.heap.size w w') : w'.ownsRow B e 1 v n xs := by
 obtain ⟨h1, h2⟩ := h
 refine ⟨h1, ?_⟩
 rcases h2 with h2 | ⟨g, cap, cur, hv, hg', hh, r⟩
 ·exact Or.inl h2
 ·exact Or.inr ⟨g, cap, cur, hv, hg', (b.block _ (heap_lt hh)).trans hh, r⟩
theorem own_cap {w : World} {B g n cap : Nat} {e : TypeId} {xs : List Value} (h : w.ownsRow B e 1 (.slice (some ⟨g, 0, none⟩) n cap) n xs) : n ≤ cap := by
 rcases h.2 with ⟨h0, _⟩ | ⟨g', cap', cur, e1, _, _, h3, _⟩
 ·cases h0
 ·cases e1; exact h3
theorem own_succ {W : World} {base : Nat} {e : TypeId} {size : Nat} {v : Value} {k : Nat} {xs : List Value} (h : W.ownsRow base e size v (k + 1) xs) : ∃ g cap, v = .slice (some ⟨g, 0, none⟩) (k + 1) cap := by
 rcases h.2 with ⟨_, h0⟩ | ⟨g, cap, _, rfl, _⟩
 ·omega
 ·exact ⟨g, cap, rfl⟩
theorem rowL_add (m n : Nat) (Z D : Nat → Nat) (h : ∀ j, j < n → D j = Z (m + j)) : rowL m Z ++ rowL n D = rowL (m + n) Z := by
 apply List.ext_getElem?
 intro i
 by_cases h1 : i < m
 ·rw [List.getElem?_append_left (by rw [rowL_len]; exact h1), rowL_get h1, rowL_get (by omega)]
 ·by_cases h2 : i < m + n
  ·rw [List.getElem?_append_right (by rw [rowL_len]; omega), rowL_len, rowL_get (by omega), rowL_get h2, h (i - m) (by omega), show m + (i - m) = i by omega]
  ·rw [List.getElem?_eq_none (by rw [List.length_append, rowL_len, rowL_len]; omega), List.getElem?_eq_none (by rw [rowL_len]; omega)]
def strOf (xs : List Nat) : ByteArray := strOfNums (xs.map Int.ofNat)
theorem strOf_list (xs : List Nat) : (strOf xs).toList = xs.map UInt8.ofNat := by
 unfold strOf
 rw [ByteArray.toList_eq, strOfNums_data, List.map_map]
 rfl
theorem strOf_inj : ∀ {xs ys : List Nat}, (∀ x ∈ xs, x < 256) → (∀ y ∈ ys, y < 256) → (strOf xs).toList = (strOf ys).toList → xs = ys := by
 intro xs ys hx hy h
 rw [strOf_list, strOf_list] at h
 induction xs generalizing ys with
 | nil => cases ys with
  | nil => rfl
  | cons y ys => cases h
 | cons x xs ih => cases ys with
  | nil => cases h
  | cons y ys =>
   rw [List.map_cons, List.map_cons, List.cons.injEq] at h
   have h1 := congrArg UInt8.toNat h.1
   rw [UInt8.toNat_ofNat', UInt8.toNat_ofNat'] at h1
   have a := hx x (List.mem_cons_self)
   have b := hy y (List.mem_cons_self)
   have e : x = y := by omega
   rw [e, ih (fun z hz => hx z (List.mem_cons_of_mem _ hz)) (fun z hz => hy z (List.mem_cons_of_mem _ hz)) h.2]
theorem conv_empty (g : Option Addr) (cap : Nat) (w : World) : Sem.run Tryz.prog (convert 36 9 (.slice g 0 cap)) w = .ok (.string (strOf [])) w := by
 cases g with
 | none => exact run_convert_bytes_nil w 36 5 Tryz.underlying36 Tryz.underlying5 0 cap 9 Tryz.underlying9
 | some a =>
  have hl : (loadCells a 0).run Tryz.prog w = .ok (([] : List Int).map (Value.int .u8)).toArray w := run_loadCells_list (P := Tryz.prog) w a [] (fun j v hj => by simp at hj)
  rw [run_convert_bytes_string w 36 9 5 (some a) 0 cap Tryz.underlying36 Tryz.underlying5 Tryz.underlying9, run_bytesToString w a 0 cap [] hl]
  rfl
theorem below_drewN (n : Nat) (w : World) : Below w.heap.size w (w.drewN n) := ⟨rfl, rfl, rfl, Nat.le_refl _, fun _ _ => rfl⟩
theorem not_true {t : Bool} {p : Prop} (h : t = true ↔ p) (n : ¬ p) : t = false := by
 cases t
 ·rfl
 ·exact absurd (h.1 rfl) n

def Rd (w : World) (A : Option Addr) (n : Nat) (F : Nat → Nat) : Prop := 0 < n → ∃ g q, A = some ⟨g, q, none⟩ ∧ ∀ j, j < n → w.cell? ⟨g, q + j, none⟩ = some (.int .u8 (F j : Nat))
theorem Rd.none_ {w : World} {A : Option Addr} {F : Nat → Nat} : Rd w A 0 F := fun h => absurd h (by omega)
theorem Rd.at {w : World} {A : Option Addr} {n k : Nat} {F : Nat → Nat} (h : Rd w A n F) (hk : k < n) : ∃ g q, A = some ⟨g, q, none⟩ ∧ g < w.heap.size ∧ w.cell? ⟨g, q + k, none⟩ = some (.int .u8 (F k : Nat)) := by
 obtain ⟨g, q, e, hc⟩ := h (by omega)
 exact ⟨g, q, e, cell?_lt (hc k hk), hc k hk⟩
theorem Rd.some_ {w : World} {g q n k : Nat} {F : Nat → Nat} (h : Rd w (some ⟨g, q, none⟩) n F) (hk : k < n) : w.cell? ⟨g, q + k, none⟩ = some (.int .u8 (F k : Nat)) := by
 obtain ⟨g', q', e, hc⟩ := h (by omega)
 cases e
 exact hc k hk
theorem Rd.mk_ {w : World} {g q n : Nat} {F : Nat → Nat} (h : ∀ j, j < n → w.cell? ⟨g, q + j, none⟩ = some (.int .u8 (F j : Nat))) : Rd w (some ⟨g, q, none⟩) n F := fun _ => ⟨g, q, rfl, h⟩
theorem Rd.keep {w w' : World} {A : Option Addr} {n : Nat} {F : Nat → Nat} (h : Rd w A n F) (b : Below w.heap.size w w') : Rd w' A n F := fun hn => by
 obtain ⟨g, q, e, hc⟩ := h hn
 exact ⟨g, q, e, fun j hj => (b.cell (p := ⟨g, q + j, none⟩) (cell?_lt (hc j hj))).trans (hc j hj)⟩
theorem Rd.congr {w : World} {A : Option Addr} {n : Nat} {F F' : Nat → Nat} (h : Rd w A n F) (e : ∀ j, j < n → F j = F' j) : Rd w A n F' := fun hn => by
 obtain ⟨g, q, ea, hc⟩ := h hn
 exact ⟨g, q, ea, fun j hj => by rw [← e j hj]; exact hc j hj⟩
theorem Rd.less {w : World} {A : Option Addr} {n m : Nat} {F : Nat → Nat} (h : Rd w A n F) (hm : m ≤ n) : Rd w A m F := fun hn => by
 obtain ⟨g, q, ea, hc⟩ := h (by omega)
 exact ⟨g, q, ea, fun j hj => hc j (by omega)⟩
theorem Rd.drew {w : World} {A : Option Addr} {n : Nat} {F : Nat → Nat} (h : Rd w A n F) : Rd w.drew A n F := h
theorem Rd.cut {w : World} {g q n k m : Nat} {F : Nat → Nat} (h : Rd w (some ⟨g, q, none⟩) n F) (hk : k + m ≤ n) : Rd w (some ⟨g, q + k, none⟩) m (fun j => F (k + j)) :=
 Rd.mk_ fun j hj => by rw [Nat.add_assoc]; exact h.some_ (by omega)
theorem Row8.rd {w : World} {g n : Nat} {F : Nat → Nat} (h : Row8 w g n F) : Rd w (some ⟨g, 0, none⟩) n F := Rd.mk_ fun j hj => by rw [Nat.zero_add]; exact h.cell j hj
theorem own_rd {w : World} {B n cap : Nat} {A : Option Addr} {F : Nat → Nat} (h : w.ownsRow B 5 1 (.slice A n cap) n (rowL n F)) : Rd w A n F := fun hn => by
 obtain ⟨g, c, hv, _, hlt⟩ := h.form hn
 have hA : A = some ⟨g, 0, none⟩ := by injection hv
 subst hA
 exact ⟨g, 0, rfl, fun j hj => by
  have := h.cells (g := g) rfl j _ (rowL_get hj)
  rwa [addr_add] at this⟩
theorem bd_map {n : Nat} {F : Nat → Nat} (h : ∀ j, j < n → F j < 256) : ∀ x ∈ (List.range n).map F, x < 256 := by
 intro x hx
 simp at hx
 obtain ⟨j, hj, rfl⟩ := hx
 exact h j hj
theorem conv_rd {w : World} {A : Option Addr} {n cap : Nat} {F : Nat → Nat} (h : Rd w A n F) : Sem.run Tryz.prog (convert 36 9 (.slice A n cap)) w = .ok (.string (strOf ((List.range n).map F))) w := by
 by_cases hn : 0 < n
 ·obtain ⟨g, q, rfl, hc⟩ := h hn
  exact run_convert_bytes_arg w 36 5 Tryz.underlying36 Tryz.underlying5 g q n cap (((List.range n).map F).map Int.ofNat) (by simp) (fun j hj => by
   rw [hc j hj, List.getD_eq_getElem?_getD, List.getElem?_map, List.getElem?_map, List.getElem?_range hj]; rfl) 9 Tryz.underlying9
 ·obtain rfl : n = 0 := by omega
  exact conv_empty A cap w
theorem str_eq {n m : Nat} {F G : Nat → Nat} (hF : ∀ j, j < n → F j < 256) (hG : ∀ j, j < m → G j < 256) : (strOf ((List.range n).map F)).toList = (strOf ((List.range m).map G)).toList ↔ n = m ∧ ∀ j, j < n → F j = G j := by
 constructor
 ·intro h
  have h1 := strOf_inj (bd_map hF) (bd_map hG) h
  have hl := congrArg List.length h1
  simp at hl
  subst hl
  refine ⟨rfl, fun j hj => ?_⟩
  have := congrArg (fun l => l[j]?) h1
  simpa [hj] using this
 ·rintro ⟨rfl, h⟩
  congr 2
  exact List.map_congr_left (fun j hj => h j (by simpa using hj))

theorem run_append_of_nil (w : World) (base : Nat) (t ty e : TypeId) (i : TypeInfo) (size : Nat) (ht : Tryz.prog.underlying t = some (.slice e)) (hi : Tryz.prog.info? e = some i)
  (v : Value) (n : Nat) (xs : List Value) (hown : w.ownsRow base e size v n xs) (c : Nat) : (Builtin.append_ #[t, t] ty #[v, .slice none 0 c]).run Tryz.prog w = .ok v w := by
 rcases hown.2 with ⟨rfl, rfl⟩ | ⟨g, cap, cur, rfl, _, _, hnc, _⟩
 ·simp [Builtin.append_, run_underlying ht, sizeOf, typeInfo, hi, Builtin.lenOf, Builtin.firstCells]
 ·simp [Builtin.append_, run_underlying ht, sizeOf, typeInfo, hi, Builtin.lenOf, Builtin.firstCells, hnc, storeCells]

theorem run_append_rd (w : World) (base : Nat) (t ty : TypeId) (ht : Tryz.prog.underlying t = some (.slice 5))
  (v : Value) (n : Nat) (F : Nat → Nat) (hown : w.ownsRow base 5 1 v n (rowL n F)) (A : Option Addr) (m c : Nat) (G : Nat → Nat) (hr : Rd w A m G)
  (hbytes : n + m ≤ 140737488355328) (hbase : base ≤ w.heap.size) :
  ∃ v' w', (Builtin.append_ #[t, t] ty #[v, .slice A m c]).run Tryz.prog w = .ok v' w' ∧ w'.ownsRow base 5 1 v' (n + m) (rowL (n + m) (fun j => if j < n then F j else G (j - n))) ∧ w.grownBy w' v.ownBlock ∧
   (v'.ownBlock = v.ownBlock ∨ v'.ownBlock = some w.heap.size) ∧ (v ≠ .slice none 0 0 → v' ≠ .slice none 0 0) := by
 obtain ⟨i0, hi0, hz0, hz1, hz2⟩ := info_parts infoByte
 have hR : rowL n F ++ rowL m G = rowL (n + m) (fun j => if j < n then F j else G (j - n)) := by
  have h1 : rowL n F = rowL n (fun j => if j < n then F j else G (j - n)) := by
   unfold rowL
   exact List.map_congr_left (fun j hj => by simp [List.mem_range.1 hj])
  rw [h1]
  exact rowL_add n m (fun j => if j < n then F j else G (j - n)) G (fun j _ => by rw [if_neg (by omega), Nat.add_sub_cancel_left])
 rcases A with _ | ad
 ·have hm : m = 0 := by
   rcases Nat.eq_zero_or_pos m with h0 | h0
   ·exact h0
   ·obtain ⟨g, q, e, _⟩ := hr h0
    cases e
  subst hm
  refine ⟨v, w, run_append_of_nil w base t ty _ i0 1 ht hi0 v n _ hown c, ?_, World.grownBy.refl w _, .inl rfl, fun h => h⟩
  rw [← hR]
  simpa [rowL] using hown
 ·have hcells : ∀ j u, (rowL m G)[j]? = some u → w.cell? (ad.add j) = some u := by
   intro j u hu
   rcases Nat.eq_zero_or_pos m with h0 | h0
   ·subst h0; simp [rowL] at hu
   ·obtain ⟨g, q, e, hc⟩ := hr h0
    cases e
    exact rowL_cells hc j u hu
  obtain ⟨v', w', hrun, h2, h3, h4, h5⟩ := run_append_own_at (P := Tryz.prog) w base t ty _ i0 (.int .u8 0) 1 1 ht hi0 hz0 hz1 hz2 rfl (by decide) v n _ hown ad m c (rowL m G) (by rw [rowL_len]; omega) hcells rowL_one (by unfold maxLen; omega) (by omega) hbase
  rw [hR] at h2
  exact ⟨v', w', hrun, h2, h3, h5, fun h e => h (h4.1 e).1⟩

theorem append_rd (w : World) {ops : Array Oper} {rest : List Oper} {o : Oper} {a : Act} {Q : Exit → Act → World → Prop} (hgd : o.guard = none) (s x : Operand) (t : TypeId)
  (ho : o.op = .call { callee := .builtin .append, args := #[s, x], argTypes := #[t, t] }) (ht : Tryz.prog.underlying t = some (.slice 5))
  (base : Nat) (v : Value) (n : Nat) (F : Nat → Nat) (hs : a.eval s = v) (hown : w.ownsRow base 5 1 v n (rowL n F)) (A : Option Addr) (m c : Nat) (G : Nat → Nat) (hx : a.eval x = .slice A m c) (hr : Rd w A m G)
  (hbytes : n + m ≤ 140737488355328) (hbase : base ≤ w.heap.size)
  (h : ∀ v' w', w'.ownsRow base 5 1 v' (n + m) (rowL (n + m) (fun j => if j < n then F j else G (j - n))) → w.grownBy w' v.ownBlock → (v'.ownBlock = v.ownBlock ∨ v'.ownBlock = some w.heap.size) → (v ≠ .slice none 0 0 → v' ≠ .slice none 0 0) →
   wpList Tryz.prog ops Q rest (a.put o.dst v') w') : wpList Tryz.prog ops Q (o :: rest) a w := by
 obtain ⟨v', w', hrun, h2, h3, h4, h5⟩ := run_append_rd w base t o.type ht v n F hown A m c G hr hbytes hbase
 refine wpList_plain hgd fun _ hK => ?_
 unfold Oper.wp execOp
 simp only [ho, resolve, invoke, builtin, Sem.run_bind, Sem.run_pure, Result.andThen_ok, List.map_toArray, List.map_cons, List.map_nil, hs, hx, hrun]
 exact hK _ _ (h v' w' h2 h3 h4 h5)
theorem own_some {w : World} {B n : Nat} {v : Value} {xs : List Value} (h : w.ownsRow B 5 1 v n xs) (hv : v ≠ .slice none 0 0) : ∃ g cap, v = .slice (some ⟨g, 0, none⟩) n cap ∧ B ≤ g ∧ g < w.heap.size ∧ n ≤ cap := by
 rcases h.2 with ⟨rfl, rfl⟩ | ⟨g, cap, cur, rfl, hg, hh, hc, _⟩
 ·exact absurd rfl hv
 ·exact ⟨g, cap, rfl, hg, heap_lt hh, hc⟩

def Blk8 (w : World) (g N : Nat) (F : Nat → Nat) : Prop := ∃ cs : Array Value, w.heap[g]? = some (.cells cs 5 (0, 0)) ∧ N ≤ cs.size ∧ ∀ j, j < N → cs[j]? = some (.int .u8 (F j : Nat))
theorem Blk8.row8 {w : World} {g N : Nat} {F : Nat → Nat} (h : Blk8 w g N F) : Row8 w g N F := by
 obtain ⟨cs, hb, _, hc⟩ := h
 exact ⟨fun j hj => (cell_of_block hb).trans (hc j hj), fun k => free_of_block hb⟩
theorem Blk8.rd {w : World} {g N : Nat} {F : Nat → Nat} (h : Blk8 w g N F) : Rd w (some ⟨g, 0, none⟩) N F := h.row8.rd
theorem Blk8.lt {w : World} {g N : Nat} {F : Nat → Nat} (h : Blk8 w g N F) : g < w.heap.size := by
 obtain ⟨cs, hb, _⟩ := h
 exact heap_lt hb
theorem Blk8.keep {w w' : World} {g N : Nat} {F : Nat → Nat} (h : Blk8 w g N F) (e : w'.heap[g]? = w.heap[g]?) : Blk8 w' g N F := by
 obtain ⟨cs, hb, hc⟩ := h
 exact ⟨cs, e.trans hb, hc⟩
theorem Blk8.below {w w' : World} {g N : Nat} {F : Nat → Nat} (h : Blk8 w g N F) (b : Below w.heap.size w w') : Blk8 w' g N F := h.keep (b.block g h.lt)
theorem Blk8.drew {w : World} {g N : Nat} {F : Nat → Nat} (h : Blk8 w g N F) : Blk8 w.drew g N F := h
theorem Blk8.congr {w : World} {g N : Nat} {F F' : Nat → Nat} (h : Blk8 w g N F) (e : ∀ j, j < N → F j = F' j) : Blk8 w g N F' := by
 obtain ⟨cs, hb, hs, hc⟩ := h
 exact ⟨cs, hb, hs, fun j hj => by rw [← e j hj]; exact hc j hj⟩
theorem Blk8.put {w : World} {g N q x : Nat} {F : Nat → Nat} (h : Blk8 w g N F) (hq : q < N) : Blk8 (w.setCell ⟨g, q, none⟩ (.int .u8 (x : Nat))) g N (fun j => if j = q then x else F j) := by
 obtain ⟨cs, hb, hs, hc⟩ := h
 refine ⟨cs.setIfInBounds q (.int .u8 (x : Nat)), by simp [World.setCell, Array.getElem?_modify, hb], by simpa using hs, fun j hj => ?_⟩
 dsimp only
 rw [Array.getElem?_setIfInBounds]
 by_cases e : q = j
 ·subst e
  rw [if_pos rfl, if_pos (by omega), if_pos rfl]
 ·rw [if_neg e, if_neg (fun h => e h.symm), hc j hj]
theorem Blk8.new {w : World} {zs : Array Value} {N : Nat} {F : Nat → Nat} (hs : N ≤ zs.size) (hc : ∀ j, j < N → zs[j]? = some (.int .u8 (F j : Nat))) : Blk8 (w.alloc (.cells zs 5)) w.heap.size N F := ⟨zs, alloc_block w _, hs, hc⟩
theorem own_blk {w : World} {B g n cap : Nat} {F : Nat → Nat} (h : w.ownsRow B 5 1 (.slice (some ⟨g, 0, none⟩) n cap) n (rowL n F)) : Blk8 w g n F := by
 rcases h.2 with ⟨h0, _⟩ | ⟨g', cap', cur, e, _, hb, h3, _, h5, h6⟩
 ·cases h0
 ·cases e
  rw [Nat.mul_one] at h5 h6
  refine ⟨cur, hb, by omega, fun j hj => ?_⟩
  have := congrArg (fun l => l[j]?) h6
  rw [List.getElem?_take_of_lt hj, rowL_get hj] at this
  simpa using this
theorem make8s (n : Nat) (hn : n ≤ 1000000) : ∃ zs : Array Value, n ≤ zs.size ∧ (∀ j, j < n → zs[j]? = some (.int .u8 ((0 : Nat) : Int))) ∧
  ∀ W : World, Sem.run Tryz.prog (Instr.makeSlice 36 (.int .i64 (n : Int)) (.int .i64 (n : Int))) W = .ok (.slice (some ⟨W.heap.size, 0, none⟩) n n) (W.alloc (.cells zs 5)) := by
 obtain ⟨zs, h1, h2⟩ := make8 n hn
 refine ⟨zs, ?_, h1, h2⟩
 rcases Nat.eq_zero_or_pos n with h0 | h0
 ·omega
 ·have := (Array.getElem?_eq_some_iff.1 (h1 (n - 1) (by omega))).1
  omega
theorem splice_get {α : Type} (L cs : List α) (off j : Nat) (h : off + cs.length ≤ L.length) : (L.take off ++ (cs ++ L.drop (off + cs.length)))[j]? = if j < off then L[j]? else if j < off + cs.length then cs[j - off]? else L[j]? := by
 by_cases h1 : j < off
 ·rw [if_pos h1, List.getElem?_append_left (by rw [List.length_take]; omega), List.getElem?_take_of_lt h1]
 ·rw [if_neg h1, List.getElem?_append_right (by rw [List.length_take]; omega), List.length_take, Nat.min_eq_left (by omega)]
  by_cases h2 : j < off + cs.length
  ·rw [if_pos h2, List.getElem?_append_left (by omega)]
  ·rw [if_neg h2, List.getElem?_append_right (by omega), List.getElem?_drop]
   congr 1
   omega
theorem copy_blk (w : World) {ops : Array Oper} {rest : List Oper} {o : Oper} {a : Act} {Q : Exit → Act → World → Prop} (hgd : o.guard = none) (d s : Operand)
  (ho : o.op = .call { callee := .builtin .copy, args := #[d, s], argTypes := #[36, 36] })
  (dp sp : Option Addr) (dLen dCap sLen sCap : Nat) (hd : a.eval d = .slice dp dLen dCap) (hs : a.eval s = .slice sp sLen sCap)
  (g off N k : Nat) (F X G : Nat → Nat) (hb : Blk8 w g N F) (hk : k = Nat.min sLen dLen) (hdp : 0 < k → dp = some ⟨g, off, none⟩) (hr : Rd w sp sLen X) (hfit : off + k ≤ N)
  (hG : ∀ j, j < N → (if off ≤ j ∧ j < off + k then X (j - off) else F j) = G j)
  (h : ∀ w', Blk8 w' g N G → w.grownBy w' (some g) → w'.heap.size = w.heap.size → wpList Tryz.prog ops Q rest (a.put o.dst (.int .i64 (k : Int))) w') :
  wpList Tryz.prog ops Q (o :: rest) a w := by
 obtain ⟨i0, hi0, hz0, hz1, hz2⟩ := info_parts infoByte
 have isz : (Tryz.prog.info? 5).map (·.size) = some 1 := by rw [hi0]; simp [hz1]
 have hmin : Nat.min sLen dLen ≤ sLen := Nat.min_le_left _ _
 by_cases h0 : k = 0
 ·subst h0
  refine wpList_copy_nothing hgd d s _ _ ho _ Tryz.underlying36 isz dp sp dLen dCap sLen sCap hd hs hk.symm ?_
  exact h w (hb.congr fun j hj => by rw [← hG j hj, if_neg (by omega)]) (only_refl _ _) rfl
 ·obtain rfl := hdp (by omega)
  obtain ⟨gs, qs, rfl, hc⟩ := hr (by omega)
  obtain ⟨cur, hg, hsz, hcur⟩ := hb
  have hfit' : off + (rowL k X).length ≤ cur.size := by rw [rowL_len]; omega
  refine wpList_copy_own hgd d s _ _ ho _ Tryz.underlying36 isz g off dLen dCap ⟨gs, qs, none⟩ sLen sCap hd hs cur _ hg (rowL k X) (by rw [rowL_len]; exact hk) (rowL_cells (fun j hj => hc j (by omega))) hfit' rowL_one ?_
  have hlen : (cur.toList.take off ++ (rowL k X ++ cur.toList.drop (off + (rowL k X).length))).length = cur.size := by
   rw [List.length_append, List.length_append, List.length_take, List.length_drop, Array.length_toList]; omega
  have hW := h (w.setRow g (cur.toList.take off ++ (rowL k X ++ cur.toList.drop (off + (rowL k X).length))).toArray) ⟨_, setRow_heap w g _ _ 5 _ hg, by rw [List.size_toArray, hlen]; exact hsz, fun j hj => by
   rw [← hG j hj, List.getElem?_toArray, splice_get _ _ _ _ (by rw [Array.length_toList]; exact hfit'), rowL_len]
   by_cases h1 : j < off
   ·rw [if_pos h1, if_neg (by omega), Array.getElem?_toList]; exact hcur j hj
   ·rw [if_neg h1]
    by_cases h2 : j < off + k
    ·rw [if_pos h2, if_pos ⟨by omega, h2⟩, rowL_get (by omega)]
    ·rw [if_neg h2, if_neg (by omega), Array.getElem?_toList]; exact hcur j hj⟩
   ⟨rfl, rfl, rfl, by simp [World.setRow], fun i _ hne => setRow_other w g i _ (fun e => hne (by rw [e]))⟩ (by simp [World.setRow])
  rw [rowL_len] at hW ⊢
  exact hW

theorem own_congr {w : World} {B n : Nat} {v : Value} {F G : Nat → Nat} (h : w.ownsRow B 5 1 v n (rowL n F)) (e : ∀ j, j < n → F j = G j) : w.ownsRow B 5 1 v n (rowL n G) := by
 have : rowL n F = rowL n G := by
  unfold rowL
  exact List.map_congr_left (fun j hj => by rw [e j (by simpa using hj)])
 rwa [this] at h
def FewRet (k : Nat) (F : Nat → Nat) (w : World) (e : Ending) (w' : World) : Prop := ∃ g cap, e = .returned (.slice (some ⟨g, 0, none⟩) k cap) ∧ w'.ownsRow w.heap.size 5 1 (.slice (some ⟨g, 0, none⟩) k cap) k (rowL k F) ∧ Below w.heap.size w w' ∧ w.heap.size ≤ g ∧ g < w'.heap.size ∧ k ≤ cap
theorem rpickN (a : Int) (m : Nat) (hm : 1 ≤ m) (hm2 : m ≤ 9223372036854775807) : ∃ p : Nat, p < m ∧ ∀ w : World, Calls Tryz.prog 22 #[.int .i64 a, .int .i64 (m : Int)] w fun e w' => e = .returned (.int .i64 (p : Int)) ∧ w' = w := by
 have h0 := Int.emod_nonneg a (show (m : Int) ≠ 0 by omega)
 have h1 := Int.emod_lt_of_pos a (show (0 : Int) < (m : Int) by omega)
 refine ⟨(a % (m : Int)).toNat, by omega, fun w => ?_⟩
 have h2 : (((a % (m : Int)).toNat : Nat) : Int) = a % (m : Int) := by omega
 rw [h2]
 exact rpick a m (by omega) (by omega) w
end Go.Proofs.YtobkmohoepgfmaaGreatDoor
