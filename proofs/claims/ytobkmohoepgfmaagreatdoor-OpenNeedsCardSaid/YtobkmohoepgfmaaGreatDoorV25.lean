import Derived.Test.YtobkmohoepgfmaaGreatDoorV24
import Derived.Maps.OwnOps
import Derived.Test.YtobkmohoepgfmaaGreatDoorV12
import Derived.Test.YtobkmohoepgfmaaGreatDoorRows
namespace Go.Proofs.YtobkmohoepgfmaaGreatDoor
open Go.RowKit Go.Sort
set_option maxRecDepth 100000
set_option maxHeartbeats 2000000

section
variable {w0 v v' : World} {g : Nat} {nd : ND} {s s' : Wp} {l : List (Nat × Int × Int)}
end
end Go.Proofs.YtobkmohoepgfmaaGreatDoor
namespace Go.Proofs.YtobkmohoepgfmaaGreatDoor
open Go.RowKit Go.Sort
set_option maxRecDepth 100000
set_option maxHeartbeats 1000000

end Go.Proofs.YtobkmohoepgfmaaGreatDoor
namespace Go.Proofs.YtobkmohoepgfmaaGreatDoor
open Go.RowKit Go.Sort
set_option maxRecDepth 100000
set_option maxHeartbeats 2000000

def KeepE (lim : Nat) (w w' : World) : Prop := w.heap.size ≤ w'.heap.size ∧ ∀ (k : Nat) (o : Obj), w.heap[k]? = some o → (∀ cs t fr, o = .cells cs t fr → ¬ WiB cs t ∧ t ≠ 72) → (∀ es c, o = .map es c → lim ≤ k) → w'.heap[k]? = some o
theorem KeepE.refl (lim : Nat) (w : World) : KeepE lim w w := ⟨Nat.le_refl _, fun _ _ h _ _ => h⟩
theorem KeepE.trans {lim : Nat} {a b c : World} (h : KeepE lim a b) (k : KeepE lim b c) : KeepE lim a c := ⟨Nat.le_trans h.1 k.1, fun i o hi ho hm => k.2 i o (h.2 i o hi ho hm) ho hm⟩
theorem KeepE.of (lim : Nat) {w w' : World} (h : KeepW w w') : KeepE lim w w' := ⟨h.1, fun k o hk ho _ => h.2 k o hk (fun cs t fr e => (ho cs t fr e).1)⟩
theorem KeepE.cells {lim : Nat} {w w' : World} (h : KeepE lim w w') {k : Nat} {cs : Array Value} {t : TypeId} {fr : Nat × Nat} (hk : w.heap[k]? = some (.cells cs t fr)) (ht : ¬ WiT t) (h7 : t ≠ 72) : w'.heap[k]? = w.heap[k]? := (h.2 k _ hk (fun cs' t' fr' e => by cases e; exact ⟨fun h => ht (h.elim (fun x => Or.inl x.1) Or.inr), h7⟩) (fun es c e => by cases e)).trans hk.symm
theorem EV.keepE {lim : Nat} {w w' : World} {v : Value} {cs ks ss : List Int} (h : EV w v cs ks ss) (k : KeepE lim w w') : EV w' v cs ks ss :=
 h.mono k.1 (fun _ _ t ht e => (k.cells e (tree_notW ht).1 (by rcases ht with rfl | rfl | rfl | rfl <;> decide)).trans e)
def ErrOf (w : World) (u : Value) (st : Nat) : Option (List (Nat × Nat)) → Prop
 | none => u = .nilIface
 | some l => EV w u (l.map (fun z => (z.2 : Int))) (l.map (fun z => (z.1 : Int))) [(st : Int)]
end Go.Proofs.YtobkmohoepgfmaaGreatDoor
namespace Go.Proofs.YtobkmohoepgfmaaGreatDoor
open Go.RowKit Go.Sort
set_option maxRecDepth 100000
set_option maxHeartbeats 1000000

def BlkT (w : World) (t : TypeId) (g n : Nat) (f : Nat → Value) : Prop := ∃ cs : Array Value, w.heap[g]? = some (.cells cs t (0, 0)) ∧ n ≤ cs.size ∧ ∀ j, j < n → cs[j]? = some (f j)
theorem BlkT.keep {w w' : World} {t : TypeId} {g n : Nat} {f : Nat → Value} (h : BlkT w t g n f) (e : w'.heap[g]? = w.heap[g]?) : BlkT w' t g n f := by
 obtain ⟨cs, hb, hc⟩ := h
 exact ⟨cs, e.trans hb, hc⟩
theorem BlkT.lt {w : World} {t : TypeId} {g n : Nat} {f : Nat → Value} (h : BlkT w t g n f) : g < w.heap.size := by
 obtain ⟨cs, hb, _⟩ := h
 exact heap_lt hb
theorem BlkT.cell {w : World} {t : TypeId} {g n j : Nat} {f : Nat → Value} (h : BlkT w t g n f) (hj : j < n) : w.cell? ⟨g, j, none⟩ = some (f j) := by
 obtain ⟨cs, hb, hs, hc⟩ := h
 exact (cell_of_block hb).trans (hc j hj)
theorem BlkT.free {w : World} {t : TypeId} {g n : Nat} {f : Nat → Value} (h : BlkT w t g n f) (k : Nat) : w.frozen? ⟨g, k, none⟩ = false := by
 obtain ⟨cs, hb, _⟩ := h
 exact free_of_block hb
theorem BlkT.congr {w : World} {t : TypeId} {g n : Nat} {f f' : Nat → Value} (h : BlkT w t g n f) (e : ∀ j, j < n → f j = f' j) : BlkT w t g n f' := by
 obtain ⟨cs, hb, hs, hc⟩ := h
 exact ⟨cs, hb, hs, fun j hj => by rw [← e j hj]; exact hc j hj⟩
theorem BlkT.put {w : World} {t : TypeId} {g n q : Nat} {x : Value} {f : Nat → Value} (h : BlkT w t g n f) (hq : q < n) : BlkT (w.setCell ⟨g, q, none⟩ x) t g n (fun j => if j = q then x else f j) := by
 obtain ⟨cs, hb, hs, hc⟩ := h
 refine ⟨cs.setIfInBounds q x, set_block hb q _, by simpa using hs, fun j hj => ?_⟩
 dsimp only
 rw [Array.getElem?_setIfInBounds]
 by_cases e : q = j
 ·subst e
  rw [if_pos rfl, if_pos (by omega), if_pos rfl]
 ·rw [if_neg e, if_neg (fun h => e h.symm), hc j hj]
end Go.Proofs.YtobkmohoepgfmaaGreatDoor
namespace Go.Proofs.YtobkmohoepgfmaaGreatDoor
open Go.RowKit Go.Sort
set_option maxRecDepth 100000
set_option maxHeartbeats 1000000

def nodeF (s i : Int) : Int := if 0 ≤ s ∧ s < 40 ∧ 0 ≤ i ∧ i < 6 then (s + i) % 8 else -1
def logsF (s : Int) : List Int := if 0 ≤ s ∧ s < 40 then (List.range 8).map (fun j : Nat => (s + 5 + (j : Int)) % 8) else []
theorem nodeF_nat {s i : Nat} (h : s < 40) (hi : i < 6) : nodeF s i = (((s + i) % 8 : Nat) : Int) := by
 unfold nodeF
 rw [if_pos (by omega)]
 omega
theorem nodeF_no {s i : Int} (h : ¬ (0 ≤ s ∧ s < 40 ∧ 0 ≤ i ∧ i < 6)) : nodeF s i = -1 := if_neg h
theorem logsF_len {s : Nat} (h : s < 40) : (logsF s).length = 8 := by
 unfold logsF
 rw [if_pos (by omega)]
 simp
theorem logsF_at {s j : Nat} (h : s < 40) (hj : j < 8) : (logsF s)[j]? = some (((s + 5 + j) % 8 : Nat) : Int) := by
 unfold logsF
 rw [if_pos (by omega)]
 simp [hj]
theorem lright (s : Int) (w : World) : Calls Tryz.prog 64 #[.int .i64 s] w fun e w' => e = .returned (.bool (decide (0 ≤ s ∧ s < 40))) ∧ w' = w := by
 by_cases h0 : 0 ≤ s
 ·by_cases h1 : s < 40
  ·rw [decide_eq_true (show 0 ≤ s ∧ s < 40 from ⟨h0, h1⟩)]
   go_enter Tryz.func64, Tryz.ntmps64
   go_wp2_with fail
   go_ret
   exact ⟨rfl, rfl⟩
  ·rw [decide_eq_false (show ¬ (0 ≤ s ∧ s < 40) by omega)]
   go_enter Tryz.func64, Tryz.ntmps64
   go_wp2_with fail
   go_ret
   exact ⟨rfl, rfl⟩
 ·rw [decide_eq_false (show ¬ (0 ≤ s ∧ s < 40) by omega)]
  go_enter Tryz.func64, Tryz.ntmps64
  go_wp2_with fail
  go_ret
  exact ⟨rfl, rfl⟩
theorem lright_yes {s : Int} (h0 : 0 ≤ s) (h1 : s < 40) (w : World) : Calls Tryz.prog 64 #[.int .i64 s] w fun e w' => e = .returned (.bool true) ∧ w' = w := by
 have := lright s w
 rwa [decide_eq_true (show 0 ≤ s ∧ s < 40 from ⟨h0, h1⟩)] at this
theorem lright_no {s : Int} (h : ¬ (0 ≤ s ∧ s < 40)) (w : World) : Calls Tryz.prog 64 #[.int .i64 s] w fun e w' => e = .returned (.bool false) ∧ w' = w := by
 have := lright s w
 rwa [decide_eq_false h] at this

theorem lnode (s i : Int) (w : World) : Calls Tryz.prog 77 #[.int .i64 s, .int .i64 i] w fun e w' => e = .returned (.int .i64 (nodeF s i)) ∧ w' = w := by
 by_cases hs : 0 ≤ s ∧ s < 40
 ·obtain ⟨h0, h1⟩ := hs
  have HR := Lib.hid (lright_yes h0 h1 w)
  by_cases i0 : 0 ≤ i
  ·by_cases i1 : i < 6
   ·obtain ⟨y, hy⟩ : ∃ y, nodeF s i = y := ⟨_, rfl⟩
    have hy2 : (s + i) % 8 = y := by
     rw [← hy]
     unfold nodeF
     rw [if_pos ⟨h0, h1, i0, i1⟩]
    rw [hy]
    have HY := Lib.hid hy2
    clear hy hy2
    go_enter Tryz.func77, Tryz.ntmps77
    go_wp2_with fail
    refine HR.out.mono ?_
    rintro e w' ⟨rfl, hw⟩
    obtain rfl := hw.symm
    go_wp2_with fail
    go_ret
    exact ⟨congrArg (fun z => Ending.returned (Value.int .i64 z)) HY.out, rfl⟩
   ·rw [nodeF_no (by omega)]
    go_enter Tryz.func77, Tryz.ntmps77
    go_wp2_with fail
    refine HR.out.mono ?_
    rintro e w' ⟨rfl, hw⟩
    obtain rfl := hw.symm
    go_wp2_with fail
    go_ret
    exact ⟨rfl, rfl⟩
  ·rw [nodeF_no (by omega)]
   go_enter Tryz.func77, Tryz.ntmps77
   go_wp2_with fail
   refine HR.out.mono ?_
   rintro e w' ⟨rfl, hw⟩
   obtain rfl := hw.symm
   go_wp2_with fail
   go_ret
   exact ⟨rfl, rfl⟩
 ·have HR := Lib.hid (lright_no hs w)
  rw [nodeF_no (by omega)]
  clear hs
  go_enter Tryz.func77, Tryz.ntmps77
  go_wp2_with fail
  refine HR.out.mono ?_
  rintro e w' ⟨rfl, hw⟩
  obtain rfl := hw.symm
  go_wp2_with fail
  go_ret
  exact ⟨rfl, rfl⟩

theorem makeI (n : Nat) (hn : n ≤ 1000000) : ∃ zs : Array Value, n ≤ zs.size ∧ (∀ j, j < n → zs[j]? = some (.int .i64 0)) ∧
  ∀ W : World, Sem.run Tryz.prog (Instr.makeSlice 51 (.int .i64 (n : Int)) (.int .i64 (n : Int))) W = .ok (.slice (some ⟨W.heap.size, 0, none⟩) n n) (W.alloc (.cells zs 3)) := by
 obtain ⟨i0, hi0, hz0, hz1, hz2⟩ := info_parts infoInt
 have hz : ∀ j, j < n → (madeCells (Value.int .i64 0).cells (n * i0.size))[j]? = some (.int .i64 0) := fun j hj => by
  rw [hz1]
  simp [madeCells, Value.cells, hj]
  rw [Nat.mod_one]; rfl
 refine ⟨madeCells (Value.int .i64 0).cells (n * i0.size), ?_, hz, fun W => ?_⟩
 ·rcases Nat.eq_zero_or_pos n with h0 | h0
  ·omega
  ·have := (Array.getElem?_eq_some_iff.1 (hz (n - 1) (by omega))).1
   omega
 ·have h := run_make W 51 3 i0 (.int .i64 0) Tryz.underlying51 hi0 hz0 .i64 .i64 (n : Int) (n : Int) (by omega) (by omega) (by rw [hz2]; omega) (by omega)
  simpa using h
def LogsRet (s : Int) (w : World) (e : Ending) (w' : World) : Prop := ∃ A c, e = .returned (.slice A (logsF s).length c) ∧ Nums w' A (logsF s) ∧ Below w.heap.size w w' ∧ (logsF s).length ≤ c ∧ ∀ g o, A = some ⟨g, o, none⟩ → w.heap.size ≤ g
theorem nums_blk {w : World} {g s : Nat} {f : Nat → Int} (hs : s < 40) (h : BlkT w 3 g 8 (fun j => .int .i64 (f j))) (hf : ∀ j, j < 8 → f j = (((s + 5 + j) % 8 : Nat) : Int)) : Nums w (some ⟨g, 0, none⟩) (logsF s) := fun i x hx => by
 have hi : i < 8 := by have := (List.getElem?_eq_some_iff.1 hx).1; rw [logsF_len hs] at this; exact this
 rw [logsF_at hs hi] at hx
 cases hx
 refine ⟨g, 0, rfl, h.lt, ?_⟩
 rw [Nat.zero_add, h.cell hi, hf i hi]
theorem llogs (s : Int) (w : World) : Calls Tryz.prog 96 #[.int .i64 s] w (LogsRet s w) := by
 by_cases hs : 0 ≤ s ∧ s < 40
 ·obtain ⟨p, rfl⟩ : ∃ p : Nat, s = (p : Int) := ⟨s.toNat, by omega⟩
  have hp : p < 40 := by omega
  have HR := Lib.hid (lright_yes hs.1 hs.2 w)
  obtain ⟨zs, z0, z1, z2⟩ := makeI 8 (by omega)
  have z3 : ∀ W : World, Sem.run Tryz.prog (Instr.makeSlice 51 (.int .i64 8) (.int .i64 8)) W = .ok (.slice (some ⟨W.heap.size, 0, none⟩) 8 8) (W.alloc (.cells zs 3)) := z2
  have HK : Hid (BlkT (w.alloc (.cells zs 3)) 3 w.heap.size 8 (fun _ => .int .i64 0)) := Lib.hid ⟨zs, alloc_block _ _, z0, z1⟩
  have HB0 : Hid (Below w.heap.size w (w.alloc (.cells zs 3))) := Lib.hid ((Below.refl _ _).alloc (Nat.le_refl _) _)
  clear z0 z1 z2 hs
  go_enter Tryz.func96, Tryz.ntmps96
  go_wp2_with fail
  refine HR.out.mono ?_
  rintro e w' ⟨rfl, hw⟩
  obtain rfl := hw.symm
  go_upto_region 5 with fail
  generalize w.alloc (.cells zs 3) = w1 at *
  obtain ⟨g, hg⟩ : ∃ g, w.heap.size = g := ⟨_, rfl⟩
  have HG := Lib.hid hg
  rw [hg] at HK ⊢
  clear hg z3
  go_loopg [11, 4] 8 (fun q s11 s4 v => ∃ i : Nat, s11 = .int .i64 (i : Int) ∧ i ≤ 8 ∧ q = 8 - i ∧ Hid (Below w.heap.size w v ∧ ∃ f : Nat → Int, BlkT v 3 g 8 (fun j => .int .i64 (f j)) ∧ ∀ j, j < i → f j = (((p + 5 + j) % 8 : Nat) : Int)))
  case atStart => exact ⟨0, rfl, by omega, rfl, Lib.hid ⟨HB0.out, fun _ => 0, HK.out, fun j hj => by omega⟩⟩
  case round =>
   obtain ⟨i, rfl, hi, rfl, HS⟩ := hrel
   clear HK HB0
   generalize wr = v at *
   by_cases hlt : i < 8
   ·have t1 : (i : Int) < 8 := by omega
    obtain ⟨hb, f, hf, he⟩ := HS.out
    have HF := Lib.hid hf
    have HE := Lib.hid he
    have HB := Lib.hid hb
    have c1 := hf.cell hlt
    have c2 := hf.free i
    clear HS hf he hb
    go_wp2_with fail
    go_roundg (8 - (i + 1))
    case measure => omega
    case rel => exact ⟨i + 1, by go_num, by omega, rfl, Lib.hid ⟨HB.out.setCell (p := ⟨g, i, none⟩) (by rw [HG.out]; exact Nat.le_refl _) _, fun j => if j = i then (((p + 5 + i) % 8 : Nat) : Int) else f j, ((HF.out.put (x := .int .i64 (((p + 5 + i) % 8 : Nat) : Int)) hlt).congr (fun j hj => by dsimp only; split <;> rfl)), fun j hj => by
     dsimp only
     split
     ·rename_i h; rw [h]
     ·exact HE.out j (by omega)⟩⟩
   ·obtain rfl : i = 8 := by omega
    have t1 : ¬ ((8 : Nat) : Int) < 8 := by omega
    have HL := Lib.hid (logsF_len hp)
    clear hlt
    go_wp2_with fail
    go_ret
    obtain ⟨hb, f, hf, he⟩ := HS.out
    exact ⟨some ⟨g, 0, none⟩, 8, by rw [HL.out]; rfl, nums_blk hp hf he, hb, by rw [HL.out]; exact Nat.le_refl _, fun g' o' e => by cases e; rw [HG.out]; exact Nat.le_refl _⟩
 ·have HR := Lib.hid (lright_no hs w)
  have HL : Hid (logsF s = []) := Lib.hid (by unfold logsF; rw [if_neg hs])
  clear hs
  go_enter Tryz.func96, Tryz.ntmps96
  go_wp2_with fail
  refine HR.out.mono ?_
  rintro e w' ⟨rfl, hw⟩
  obtain rfl := hw.symm
  go_wp2_with fail
  go_ret
  refine ⟨none, 0, by rw [HL.out]; rfl, by rw [HL.out]; exact fun i x hx => by simp at hx, Below.refl _ _, by rw [HL.out]; exact Nat.le_refl _, fun g' o' e => by cases e⟩
theorem litNums {w : World} {cs : Array Value} {xs : List Int} (h : cs.toList = intsV xs) : Nums (w.alloc (.cells cs 3)) (some ⟨w.heap.size, 0, none⟩) xs := fun i x hx => by
 refine ⟨w.heap.size, 0, rfl, by rw [alloc_size]; omega, ?_⟩
 rw [cell_of_block (alloc_block w _), Nat.zero_add, ← Array.getElem?_toList, h]
 simp [intsV, hx]
end Go.Proofs.YtobkmohoepgfmaaGreatDoor
namespace Go.Proofs.YtobkmohoepgfmaaGreatDoor.Kc

def dbl (x : Nat) : Nat := bif Nat.ble 256 (2 * x) then (2 * x) ^^^ 285 else 2 * x
def pw : Nat → Nat
 | 0 => 1
 | n + 1 => dbl (pw n)
def dbls : Nat → Nat → Nat
 | 0, x => x
 | n + 1, x => dbl (dbls n x)
def lgFrom (a : Nat) : Nat → Nat → Nat → Nat
 | 0, _, n => n
 | fuel + 1, x, n => bif Nat.beq x a then n else lgFrom a fuel (dbl x) (n + 1)
def lg (a : Nat) : Nat := lgFrom a 255 1 0

def all (n : Nat) (p : Nat → Bool) : Bool := Nat.rec true (fun k ih => p k && ih) n

theorem all_of {n : Nat} {p : Nat → Bool} (h : all n p = true) : ∀ k, k < n → p k = true := by
 induction n with
 | zero => intro k hk; omega
 | succ n ih =>
  have h' : (p n && all n p) = true := h
  rw [Bool.and_eq_true] at h'
  intro k hk
  rcases Nat.lt_or_eq_of_le (Nat.le_of_lt_succ hk) with hl | rfl
  ·exact ih h'.2 k hl
  ·exact h'.1

theorem check_dbl : all 256 (fun x => Nat.ble (dbl x) 255) = true := by kernel_rfl
theorem check_lg : all 256 (fun a => Nat.beq a 0 || (Nat.beq (pw (lg a)) a && Nat.ble (lg a) 254)) = true := by kernel_rfl
theorem check_pw : all 255 (fun n => Nat.beq (lg (pw n)) n) = true := by kernel_rfl
theorem pw_255 : pw 255 = 1 := by kernel_rfl

theorem dbl_lt {x : Nat} (h : x < 256) : dbl x < 256 := by
 have := all_of check_dbl x h
 have := Nat.le_of_ble_eq_true this
 omega
theorem pw_lt (n : Nat) : pw n < 256 := by
 induction n with
 | zero => decide
 | succ n ih => exact dbl_lt ih
theorem dbls_lt (n : Nat) {x : Nat} (h : x < 256) : dbls n x < 256 := by
 induction n with
 | zero => exact h
 | succ n ih => exact dbl_lt ih
theorem lg_ok {a : Nat} (h : a < 256) (h0 : a ≠ 0) : pw (lg a) = a ∧ lg a < 255 := by
 have := all_of check_lg a h
 rw [Bool.or_eq_true, Bool.and_eq_true] at this
 rcases this with h1 | ⟨h1, h2⟩
 ·exact absurd (Nat.eq_of_beq_eq_true h1) h0
 ·exact ⟨Nat.eq_of_beq_eq_true h1, by have := Nat.le_of_ble_eq_true h2; omega⟩
theorem lg_pw {n : Nat} (h : n < 255) : lg (pw n) = n := Nat.eq_of_beq_eq_true (all_of check_pw n h)
theorem pw_inj {n m : Nat} (hn : n < 255) (hm : m < 255) (e : pw n = pw m) : n = m := by rw [← lg_pw hn, ← lg_pw hm, e]
theorem pw_add (n m : Nat) : pw (n + m) = dbls n (pw m) := by
 induction n with
 | zero => rw [Nat.zero_add]; rfl
 | succ n ih => rw [Nat.succ_add]; show dbl (pw (n + m)) = dbl (dbls n (pw m)); rw [ih]
theorem pw_period (n : Nat) : pw (n + 255) = pw n := by rw [pw_add, pw_255]; exact (pw_add n 0).symm
theorem pw_mod (n : Nat) : pw (n % 255) = pw n := by
 have h : ∀ k, pw (n % 255 + 255 * k) = pw (n % 255) := by
  intro k
  induction k with
  | zero => rfl
  | succ k ih => rw [Nat.mul_succ, ← Nat.add_assoc, pw_period, ih]
 have := h (n / 255)
 rw [Nat.mod_add_div] at this
 exact this.symm
theorem dbls_zero (n : Nat) : dbls n 0 = 0 := by
 induction n with
 | zero => rfl
 | succ n ih => show dbl (dbls n 0) = 0; rw [ih]; rfl
theorem dbl_eq (x : Nat) : dbl x = if 256 ≤ 2 * x then (2 * x) ^^^ 285 else 2 * x := by
 unfold dbl
 by_cases h : 256 ≤ 2 * x
 ·rw [if_pos h, Nat.ble_eq_true_of_le h]; rfl
 ·rw [if_neg h]
  cases e : Nat.ble 256 (2 * x)
  ·rfl
  ·exact absurd (Nat.le_of_ble_eq_true e) h
theorem pw_pos (n : Nat) : pw n ≠ 0 := by
 rw [← pw_mod]
 have h : all 255 (fun n => !(Nat.beq (pw n) 0)) = true := by kernel_rfl
 have := all_of h (n % 255) (Nat.mod_lt _ (by decide))
 intro e
 rw [e] at this
 exact absurd this (by decide)

theorem two_xor (x y : Nat) : 2 * (x ^^^ y) = (2 * x) ^^^ (2 * y) := by
 have := Nat.shiftLeft_xor_distrib (a := x) (b := y) (i := 1)
 rw [Nat.shiftLeft_eq, Nat.shiftLeft_eq, Nat.shiftLeft_eq, Nat.mul_comm, Nat.mul_comm x, Nat.mul_comm y] at this
 exact this
theorem big_testBit {x : Nat} (h : x < 512) : (256 ≤ x) ↔ x.testBit 8 = true := by
 rw [Nat.testBit_eq_decide_div_mod_eq]
 simp
 omega
theorem dbl_xor {x y : Nat} (hx : x < 256) (hy : y < 256) : dbl (x ^^^ y) = dbl x ^^^ dbl y := by
 have hxy : x ^^^ y < 256 := Nat.xor_lt_two_pow (n := 8) hx hy
 rw [dbl_eq, dbl_eq, dbl_eq, two_xor]
 have e : (256 ≤ (2 * x) ^^^ (2 * y)) ↔ ((2 * x).testBit 8 ^^ (2 * y).testBit 8) = true := by
  rw [big_testBit (by rw [← two_xor]; omega), Nat.testBit_xor]
 have e1 := big_testBit (x := 2 * x) (by omega)
 have e2 := big_testBit (x := 2 * y) (by omega)
 by_cases h1 : 256 ≤ 2 * x <;> by_cases h2 : 256 ≤ 2 * y
 ·rw [if_neg (by rw [e, e1.1 h1, e2.1 h2]; decide), if_pos h1, if_pos h2]
  apply Nat.eq_of_testBit_eq
  intro i
  simp only [Nat.testBit_xor]
  cases (2 * x).testBit i <;> cases (2 * y).testBit i <;> cases Nat.testBit 285 i <;> rfl
 ·have n2 : (2 * y).testBit 8 = false := by cases h : (2 * y).testBit 8; rfl; exact absurd (e2.2 h) h2
  rw [if_pos (by rw [e, e1.1 h1, n2]; decide), if_pos h1, if_neg h2]
  apply Nat.eq_of_testBit_eq
  intro i
  simp only [Nat.testBit_xor]
  cases (2 * x).testBit i <;> cases (2 * y).testBit i <;> cases Nat.testBit 285 i <;> rfl
 ·have n1 : (2 * x).testBit 8 = false := by cases h : (2 * x).testBit 8; rfl; exact absurd (e1.2 h) h1
  rw [if_pos (by rw [e, n1, e2.1 h2]; decide), if_neg h1, if_pos h2]
  apply Nat.eq_of_testBit_eq
  intro i
  simp only [Nat.testBit_xor]
  cases (2 * x).testBit i <;> cases (2 * y).testBit i <;> cases Nat.testBit 285 i <;> rfl
 ·have n1 : (2 * x).testBit 8 = false := by cases h : (2 * x).testBit 8; rfl; exact absurd (e1.2 h) h1
  have n2 : (2 * y).testBit 8 = false := by cases h : (2 * y).testBit 8; rfl; exact absurd (e2.2 h) h2
  rw [if_neg (by rw [e, n1, n2]; decide), if_neg h1, if_neg h2]
theorem xor_lt {x y : Nat} (hx : x < 256) (hy : y < 256) : x ^^^ y < 256 := Nat.xor_lt_two_pow (n := 8) hx hy
theorem dbls_xor (n : Nat) {x y : Nat} (hx : x < 256) (hy : y < 256) : dbls n (x ^^^ y) = dbls n x ^^^ dbls n y := by
 induction n with
 | zero => rfl
 | succ n ih => show dbl _ = dbl _ ^^^ dbl _; rw [ih, dbl_xor (dbls_lt n hx) (dbls_lt n hy)]

def mul (a b : Nat) : Nat := if a = 0 ∨ b = 0 then 0 else pw ((lg a + lg b) % 255)
def inv (a : Nat) : Nat := pw ((255 - lg a) % 255)

theorem mul_lt (a b : Nat) : mul a b < 256 := by
 unfold mul
 split
 ·decide
 ·exact pw_lt _
theorem mul_comm (a b : Nat) : mul a b = mul b a := by unfold mul; simp only [Or.comm (a := a = 0), Nat.add_comm (lg a)]
theorem zero_mul (a : Nat) : mul 0 a = 0 := by unfold mul; rw [if_pos (Or.inl rfl)]
theorem mul_zero (a : Nat) : mul a 0 = 0 := by unfold mul; rw [if_pos (Or.inr rfl)]
theorem mul_dbls {a b : Nat} (_ha : a < 256) (hb : b < 256) (h0 : a ≠ 0) : mul a b = dbls (lg a) b := by
 by_cases hb0 : b = 0
 ·subst hb0; rw [mul_zero, dbls_zero]
 ·unfold mul
  rw [if_neg (by simp [h0, hb0]), pw_mod, pw_add, (lg_ok hb hb0).1]
theorem mul_pw (n m : Nat) : mul (pw n) (pw m) = pw (n + m) := by
 rw [← pw_mod n, ← pw_mod m]
 unfold mul
 rw [if_neg (by simp [pw_pos]), lg_pw (Nat.mod_lt _ (by decide)), lg_pw (Nat.mod_lt _ (by decide)), ← Nat.add_mod, pw_mod]
theorem as_pw {a : Nat} (h : a < 256) (h0 : a ≠ 0) : ∃ n, n < 255 ∧ a = pw n := ⟨lg a, (lg_ok h h0).2, (lg_ok h h0).1.symm⟩
theorem mul_assoc {a b c : Nat} (ha : a < 256) (hb : b < 256) (hc : c < 256) : mul a (mul b c) = mul (mul a b) c := by
 by_cases a0 : a = 0
 ·subst a0; rw [zero_mul, zero_mul, zero_mul]
 by_cases b0 : b = 0
 ·subst b0; rw [zero_mul, mul_zero, zero_mul]
 by_cases c0 : c = 0
 ·subst c0; rw [mul_zero, mul_zero, mul_zero]
 obtain ⟨i, -, rfl⟩ := as_pw ha a0
 obtain ⟨j, -, rfl⟩ := as_pw hb b0
 obtain ⟨k, -, rfl⟩ := as_pw hc c0
 rw [mul_pw, mul_pw, mul_pw, mul_pw, Nat.add_assoc]
theorem mul_xor {a b c : Nat} (ha : a < 256) (hb : b < 256) (hc : c < 256) : mul a (b ^^^ c) = mul a b ^^^ mul a c := by
 by_cases a0 : a = 0
 ·subst a0; rw [zero_mul, zero_mul, zero_mul]; rfl
 rw [mul_dbls ha (xor_lt hb hc) a0, mul_dbls ha hb a0, mul_dbls ha hc a0, dbls_xor _ hb hc]
theorem mul_one {a : Nat} (ha : a < 256) : mul a 1 = a := by
 by_cases a0 : a = 0
 ·subst a0; rw [zero_mul]
 obtain ⟨i, -, rfl⟩ := as_pw ha a0
 exact mul_pw i 0
theorem mul_eq_zero {a b : Nat} : mul a b = 0 ↔ a = 0 ∨ b = 0 := by
 unfold mul
 split
 ·simp [*]
 ·simp only [pw_pos, false_iff]; assumption
theorem inv_lt (a : Nat) : inv a < 256 := pw_lt _
theorem inv_pos (a : Nat) : inv a ≠ 0 := pw_pos _
theorem inv_pw {n : Nat} (h : n < 255) : inv (pw n) = pw (255 - n) := by unfold inv; rw [lg_pw h, pw_mod]
theorem mul_inv {a : Nat} (ha : a < 256) (h0 : a ≠ 0) : mul a (inv a) = 1 := by
 obtain ⟨i, hi, rfl⟩ := as_pw ha h0
 rw [inv_pw hi, mul_pw, show i + (255 - i) = 0 + 255 by omega, pw_period]; rfl
theorem pw_zero : pw 0 = 1 := rfl
theorem pw_succ (n : Nat) : pw (n + 1) = dbl (pw n) := rfl
theorem mul_def (a b : Nat) : mul a b = if a = 0 ∨ b = 0 then 0 else pw ((lg a + lg b) % 255) := rfl
theorem inv_def (a : Nat) : inv a = pw ((255 - lg a) % 255) := rfl
attribute [irreducible] pw lg lgFrom inv mul dbls dbl
end Go.Proofs.YtobkmohoepgfmaaGreatDoor.Kc
namespace Go.Proofs.YtobkmohoepgfmaaGreatDoor.Kc

def sx (n : Nat) (f : Nat → Nat) : Nat := Nat.rec 0 (fun k s => s ^^^ f k) n
theorem sx_nil (f : Nat → Nat) : sx 0 f = 0 := rfl
theorem sx_succ (n : Nat) (f : Nat → Nat) : sx (n + 1) f = sx n f ^^^ f n := rfl
theorem sx_congr {n : Nat} {f g : Nat → Nat} (h : ∀ k, k < n → f k = g k) : sx n f = sx n g := by
 induction n with
 | zero => rfl
 | succ n ih => rw [sx_succ, sx_succ, ih (fun k hk => h k (by omega)), h n (by omega)]
theorem sx_none {n : Nat} {f : Nat → Nat} (h : ∀ k, k < n → f k = 0) : sx n f = 0 := by
 induction n with
 | zero => rfl
 | succ n ih => rw [sx_succ, ih (fun k hk => h k (by omega)), h n (by omega)]; rfl
theorem sx_lt {n : Nat} {f : Nat → Nat} (h : ∀ k, k < n → f k < 256) : sx n f < 256 := by
 induction n with
 | zero => rw [sx_nil]; decide
 | succ n ih => rw [sx_succ]; exact xor_lt (ih (fun k hk => h k (by omega))) (h n (by omega))
theorem xor4 (a b c d : Nat) : (a ^^^ b) ^^^ (c ^^^ d) = (a ^^^ c) ^^^ (b ^^^ d) := by
 rw [Nat.xor_assoc, Nat.xor_assoc, ← Nat.xor_assoc b, Nat.xor_comm b c, Nat.xor_assoc]
theorem sx_xor (n : Nat) (f g : Nat → Nat) : sx n (fun k => f k ^^^ g k) = sx n f ^^^ sx n g := by
 induction n with
 | zero => rw [sx_nil, sx_nil, sx_nil]; rfl
 | succ n ih => rw [sx_succ, sx_succ, sx_succ, ih, xor4]
theorem sx_mul {n a : Nat} {f : Nat → Nat} (ha : a < 256) (h : ∀ k, k < n → f k < 256) : mul a (sx n f) = sx n (fun k => mul a (f k)) := by
 induction n with
 | zero => rw [sx_nil, sx_nil, mul_zero]
 | succ n ih => rw [sx_succ, sx_succ, mul_xor ha (sx_lt (fun k hk => h k (by omega))) (h n (by omega)), ih (fun k hk => h k (by omega))]
theorem sx_mul' {n a : Nat} {f : Nat → Nat} (ha : a < 256) (h : ∀ k, k < n → f k < 256) : mul (sx n f) a = sx n (fun k => mul (f k) a) := by
 rw [mul_comm, sx_mul ha h]
 exact sx_congr (fun k _ => mul_comm _ _)
theorem sx_swap (n m : Nat) (f : Nat → Nat → Nat) : sx n (fun i => sx m (fun j => f i j)) = sx m (fun j => sx n (fun i => f i j)) := by
 induction n with
 | zero => rw [sx_nil]; exact (sx_none (fun k _ => rfl)).symm
 | succ n ih => rw [sx_succ, ih, ← sx_xor]; rfl
theorem sx_one {n c : Nat} {f : Nat → Nat} (hc : c < n) (h : ∀ k, k < n → k ≠ c → f k = 0) : sx n f = f c := by
 induction n with
 | zero => omega
 | succ n ih =>
  rw [sx_succ]
  by_cases e : c = n
  ·subst e
   rw [sx_none (fun k hk => h k (by omega) (by omega)), Nat.zero_xor]
  ·rw [ih (by omega) (fun k hk hkc => h k (by omega) hkc), h n (by omega) (fun e' => e e'.symm), Nat.xor_zero]
theorem sx_two {n c d : Nat} {f : Nat → Nat} (hc : c < n) (hd : d < n) (hcd : c ≠ d) (h : ∀ k, k < n → k ≠ c → k ≠ d → f k = 0) : sx n f = f c ^^^ f d := by
 have e : sx n f = sx n (fun k => (if k = c then f k else 0) ^^^ (if k = c then 0 else f k)) := sx_congr (fun k _ => by split <;> simp)
 rw [e, sx_xor, sx_one (c := c) hc (fun k _ hk => if_neg hk), sx_one (c := d) hd (fun k hk hkd => by
  by_cases e : k = c
  ·rw [if_pos e]
  ·rw [if_neg e]; exact h k hk e hkd), if_pos rfl, if_neg (fun e => hcd e.symm)]

abbrev Mx := Nat → Nat → Nat
def Bd (r c : Nat) (A : Mx) : Prop := ∀ i, i < r → ∀ j, j < c → A i j < 256
def EqM (r c : Nat) (A B : Mx) : Prop := ∀ i, i < r → ∀ j, j < c → A i j = B i j
def mm (n : Nat) (A B : Mx) : Mx := fun i k => sx n (fun j => mul (A i j) (B j k))
def one : Mx := fun i j => if i = j then 1 else 0
theorem one_bd (r c : Nat) : Bd r c one := fun i _ j _ => by unfold one; split <;> decide
theorem mm_bd (r n c : Nat) (A B : Mx) : Bd r c (mm n A B) := fun _ _ _ _ => sx_lt (fun _ _ => mul_lt _ _)
theorem EqM.symm {r c : Nat} {A B : Mx} (h : EqM r c A B) : EqM r c B A := fun i hi j hj => (h i hi j hj).symm
theorem EqM.trans {r c : Nat} {A B C : Mx} (h : EqM r c A B) (k : EqM r c B C) : EqM r c A C := fun i hi j hj => (h i hi j hj).trans (k i hi j hj)
theorem EqM.refl (r c : Nat) (A : Mx) : EqM r c A A := fun _ _ _ _ => rfl
theorem Bd.of {r c : Nat} {A B : Mx} (h : Bd r c A) (e : EqM r c A B) : Bd r c B := fun i hi j hj => e i hi j hj ▸ h i hi j hj
theorem mm_congr {r n c : Nat} {A A' B B' : Mx} (ha : EqM r n A A') (hb : EqM n c B B') : EqM r c (mm n A B) (mm n A' B') :=
 fun i hi k hk => sx_congr (fun j hj => by rw [ha i hi j hj, hb j hj k hk])
theorem mm_assoc {r n m c : Nat} {A B C : Mx} (ha : Bd r n A) (hb : Bd n m B) (hc : Bd m c C) : EqM r c (mm m (mm n A B) C) (mm n A (mm m B C)) := by
 intro i hi k hk
 show sx m (fun l => mul (sx n (fun j => mul (A i j) (B j l))) (C l k)) = sx n (fun j => mul (A i j) (sx m (fun l => mul (B j l) (C l k))))
 have e1 : sx m (fun l => mul (sx n (fun j => mul (A i j) (B j l))) (C l k)) = sx m (fun l => sx n (fun j => mul (mul (A i j) (B j l)) (C l k))) :=
  sx_congr (fun l hl => sx_mul' (hc l hl k hk) (fun j _ => mul_lt _ _))
 have e2 : sx n (fun j => mul (A i j) (sx m (fun l => mul (B j l) (C l k)))) = sx n (fun j => sx m (fun l => mul (A i j) (mul (B j l) (C l k)))) :=
  sx_congr (fun j hj => sx_mul (ha i hi j hj) (fun l _ => mul_lt _ _))
 rw [e1, e2, sx_swap]
 exact sx_congr (fun j hj => sx_congr (fun l hl => (mul_assoc (ha i hi j hj) (hb j hj l hl) (hc l hl k hk)).symm))
theorem one_mul {a : Nat} (ha : a < 256) : mul 1 a = a := by rw [mul_comm, mul_one ha]
theorem mm_one {r n : Nat} {A : Mx} (ha : Bd r n A) : EqM r n (mm n A one) A := by
 intro i hi k hk
 show sx n (fun j => mul (A i j) (one j k)) = A i k
 rw [sx_one (c := k) hk (fun j _ hj => by unfold one; rw [if_neg hj, mul_zero])]
 unfold one
 rw [if_pos rfl, mul_one (ha i hi k hk)]
theorem one_mm {n c : Nat} {A : Mx} (ha : Bd n c A) : EqM n c (mm n one A) A := by
 intro i hi k hk
 show sx n (fun j => mul (one i j) (A j k)) = A i k
 rw [sx_one (c := i) hi (fun j _ hj => by unfold one; rw [if_neg (fun e => hj e.symm), zero_mul])]
 unfold one
 rw [if_pos rfl, one_mul (ha i hi k hk)]

structure Inv (n : Nat) (A X : Mx) : Prop where
 bx : Bd n n X
 right : EqM n n (mm n A X) one
 left : EqM n n (mm n X A) one
def Sing (n : Nat) (A : Mx) : Prop := ∃ v : Nat → Nat, (∀ k, k < n → v k < 256) ∧ (∃ c, c < n ∧ v c ≠ 0) ∧ ∀ i, i < n → sx n (fun j => mul (A i j) (v j)) = 0

def col (v : Nat → Nat) : Mx := fun i _ => v i
theorem col_bd {n : Nat} {v : Nat → Nat} (h : ∀ k, k < n → v k < 256) : Bd n 1 (col v) := fun i hi _ _ => h i hi

theorem inv_one {n : Nat} {A X Y : Mx} (ha : Bd n n A) (h : Inv n A X) (hy : Bd n n Y) (hr : EqM n n (mm n A Y) one) : EqM n n X Y := by
 have e1 := mm_assoc h.bx ha hy
 have e2 : EqM n n (mm n (mm n X A) Y) (mm n one Y) := mm_congr h.left (EqM.refl _ _ _)
 have e3 : EqM n n (mm n X (mm n A Y)) (mm n X one) := mm_congr (EqM.refl _ _ _) hr
 exact ((mm_one h.bx).symm.trans (e3.symm.trans (e1.symm.trans (e2.trans (one_mm hy)))))

theorem inv_prod {n : Nat} {A B X Y : Mx} (ha : Bd n n A) (hb : Bd n n B) (hx : Inv n A X) (hy : Inv n B Y) : Inv n (mm n A B) (mm n Y X) := by
 have half : ∀ {A B X Y : Mx}, Bd n n A → Bd n n B → Bd n n X → Bd n n Y → EqM n n (mm n B Y) one → EqM n n (mm n A X) one → EqM n n (mm n (mm n A B) (mm n Y X)) one := by
  intro A B X Y ha hb hx hy h1 h2
  refine (mm_assoc ha hb (mm_bd _ _ _ _ _)).trans ?_
  refine (mm_congr (EqM.refl _ _ _) ((mm_assoc hb hy hx).symm.trans ((mm_congr h1 (EqM.refl _ _ _)).trans (one_mm hx)))).trans h2
 exact ⟨mm_bd _ _ _ _ _, half ha hb hx.bx hy.bx hy.right hx.right, half hy.bx hx.bx hb ha hx.left hy.left⟩

theorem sing_right {n : Nat} {A B : Mx} (ha : Bd n n A) (hb : Bd n n B) (h : Sing n B) : Sing n (mm n A B) := by
 obtain ⟨v, hv, hc, h0⟩ := h
 refine ⟨v, hv, hc, fun i hi => ?_⟩
 have e := mm_assoc ha hb (col_bd hv) i hi 0 (by omega)
 refine Eq.trans (show _ = mm n (mm n A B) (col v) i 0 from rfl) (e.trans (sx_none (fun j hj => ?_)))
 have : mm n B (col v) j 0 = 0 := h0 j hj
 rw [this, mul_zero]

structure Gauss (n : Nat) (A L R : Mx) : Prop where
 bl : Bd n n L
 br : Bd n n R
 prod : EqM n n (mm n R A) L
 back : ∃ E, Inv n R E

theorem Gauss.start {n : Nat} {A : Mx} (ha : Bd n n A) : Gauss n A A one :=
 ⟨ha, one_bd _ _, one_mm ha, one, ⟨one_bd _ _, mm_one (one_bd _ _), mm_one (one_bd _ _)⟩⟩

theorem Gauss.step {n : Nat} {A L R T T' L' R' : Mx} (ha : Bd n n A) (h : Gauss n A L R) (bt : Bd n n T) (ht : Inv n T T') (hl : EqM n n (mm n T L) L') (hr : EqM n n (mm n T R) R') : Gauss n A L' R' := by
 obtain ⟨E, hE⟩ := h.back
 have p := inv_prod bt h.br ht hE
 refine ⟨(mm_bd n n n T L).of hl, (mm_bd n n n T R).of hr, ?_, mm n E T', ?_⟩
 ·refine (mm_congr hr.symm (EqM.refl _ _ _)).trans ((mm_assoc bt h.br ha).trans ((mm_congr (EqM.refl _ _ _) h.prod).trans hl))
 ·exact ⟨p.bx, (mm_congr hr.symm (EqM.refl _ _ _)).trans p.right, (mm_congr (EqM.refl _ _ _) hr.symm).trans p.left⟩

theorem Gauss.done {n : Nat} {A L R : Mx} (ha : Bd n n A) (h : Gauss n A L R) (e : EqM n n L one) : Inv n A R := by
 obtain ⟨E, hE⟩ := h.back
 have hl : EqM n n (mm n R A) one := h.prod.trans e
 have hA : EqM n n E A := inv_one h.br hE ha hl
 exact ⟨h.br, (mm_congr hA.symm (EqM.refl _ _ _)).trans hE.left, hl⟩

theorem Gauss.fails {n : Nat} {A L R : Mx} (ha : Bd n n A) (h : Gauss n A L R) (s : Sing n L) : Sing n A := by
 obtain ⟨E, hE⟩ := h.back
 obtain ⟨v, hv, hc, h0⟩ := s
 refine ⟨v, hv, hc, fun i hi => ?_⟩
 have e0 : ∀ j, j < n → mm n R (mm n A (col v)) j 0 = 0 := fun j hj => by
  have a := mm_assoc h.br ha (col_bd hv) j hj 0 (by omega)
  have b := (mm_congr h.prod (EqM.refl n 1 (col v))) j hj 0 (by omega)
  exact a.symm.trans (b.trans (h0 j hj))
 have a1 := mm_assoc hE.bx h.br (mm_bd n n 1 A (col v)) i hi 0 (by omega)
 have a2 := (mm_congr hE.left (EqM.refl n 1 (mm n A (col v)))) i hi 0 (by omega)
 have a3 := one_mm (mm_bd n n 1 A (col v)) i hi 0 (by omega)
 have a4 : mm n E (mm n R (mm n A (col v))) i 0 = 0 := sx_none (fun j hj => by rw [e0 j hj, mul_zero])
 exact (show sx n (fun j => mul (A i j) (v j)) = mm n A (col v) i 0 from rfl).trans (a3.symm.trans (a2.symm.trans (a1.trans a4)))

theorem sing_of {n c : Nat} {L : Mx} (hl : Bd n n L) (hc : c < n) (hid : ∀ i, i < n → ∀ j, j < c → L i j = one i j) (h0 : ∀ i, c ≤ i → i < n → L i c = 0) : Sing n L := by
 refine ⟨fun j => if j < c then L j c else if j = c then 1 else 0, fun k hk => ?_, ⟨c, hc, by dsimp only; rw [if_neg (Nat.lt_irrefl c), if_pos rfl]; decide⟩, fun i hi => ?_⟩
 ·dsimp only
  split
  ·exact hl k hk c hc
  ·split <;> decide
 ·by_cases hic : i < c
  ·rw [sx_two (c := i) (d := c) hi hc (by omega) (fun k hk k1 k2 => ?_)]
   ·dsimp only
    rw [if_pos hic, if_neg (Nat.lt_irrefl c), if_pos rfl, hid i hi i hic, mul_one (hl i hi c hc)]
    unfold one
    rw [if_pos rfl, one_mul (hl i hi c hc), Nat.xor_self]
   ·by_cases hkc : k < c
    ·rw [hid i hi k hkc]
     unfold one
     rw [if_neg (fun e => k1 e.symm), zero_mul]
    ·dsimp only
     rw [if_neg hkc, if_neg k2, mul_zero]
  ·rw [sx_none (fun k hk => ?_)]
   by_cases hkc : k < c
   ·rw [hid i hi k hkc]
    unfold one
    rw [if_neg (by omega), zero_mul]
   ·by_cases e : k = c
    ·subst e
     rw [h0 i (by omega) hi, zero_mul]
    ·dsimp only
     rw [if_neg hkc, if_neg e, mul_zero]

def scale (p s : Nat) : Mx := fun i j => if i = j then (if i = p then s else 1) else 0
theorem scale_bd {n p s : Nat} (hs : s < 256) : Bd n n (scale p s) := fun i _ j _ => by
 unfold scale
 repeat' split
 all_goals first | exact hs | decide
theorem scale_mm {n c p s : Nat} {A : Mx} (ha : Bd n c A) : EqM n c (mm n (scale p s) A) (fun i k => if i = p then mul s (A i k) else A i k) := by
 intro i hi k hk
 show sx n (fun j => mul (scale p s i j) (A j k)) = _
 rw [sx_one (c := i) hi (fun j _ hj => by unfold scale; rw [if_neg (fun e => hj e.symm), zero_mul])]
 unfold scale
 dsimp only
 rw [if_pos rfl]
 by_cases e : i = p
 ·rw [if_pos e, if_pos e]
 ·rw [if_neg e, if_neg e, one_mul (ha i hi k hk)]
theorem scale_inv {n p s t : Nat} (hs : s < 256) (ht : t < 256) (e : mul s t = 1) : Inv n (scale p s) (scale p t) := by
 have half : ∀ {s t : Nat}, t < 256 → mul s t = 1 → EqM n n (mm n (scale p s) (scale p t)) one := by
  intro s t ht e i hi k hk
  rw [scale_mm (scale_bd ht) i hi k hk]
  unfold scale one
  dsimp only
  by_cases h1 : i = k
  ·rw [if_pos h1, if_pos h1]
   by_cases h2 : i = p
   ·rw [if_pos h2, if_pos h2, e]
   ·rw [if_neg h2, if_neg h2]
  ·rw [if_neg h1, if_neg h1, mul_zero]
   split <;> rfl
 exact ⟨scale_bd ht, half ht e, half hs (by rw [mul_comm]; exact e)⟩

def clear (p : Nat) (c : Nat → Nat) : Mx := fun i j => if i = j then 1 else if j = p then c i else 0
theorem clear_bd {n p : Nat} {c : Nat → Nat} (hc : ∀ i, i < n → c i < 256) : Bd n n (clear p c) := fun i hi j _ => by
 unfold clear
 repeat' split
 all_goals first | exact hc i hi | decide
theorem clear_mm {n m p : Nat} {c : Nat → Nat} {A : Mx} (ha : Bd n m A) (hp : p < n) : EqM n m (mm n (clear p c) A) (fun i k => if i = p then A i k else A i k ^^^ mul (c i) (A p k)) := by
 intro i hi k hk
 show sx n (fun j => mul (clear p c i j) (A j k)) = _
 by_cases e : i = p
 ·subst e
  rw [sx_one (c := i) hi (fun j _ hj => by unfold clear; rw [if_neg (fun e => hj e.symm), if_neg hj, zero_mul])]
  unfold clear
  dsimp only
  rw [if_pos rfl, if_pos rfl, one_mul (ha i hi k hk)]
 ·rw [sx_two (c := i) (d := p) hi hp e (fun j _ h1 h2 => by unfold clear; rw [if_neg (fun e => h1 e.symm), if_neg h2, zero_mul])]
  unfold clear
  dsimp only
  rw [if_pos rfl, if_neg e, if_pos rfl, if_neg e, one_mul (ha i hi k hk)]
theorem clear_inv {n p : Nat} {c : Nat → Nat} (hc : ∀ i, i < n → c i < 256) (hp : p < n) : Inv n (clear p c) (clear p c) := by
 have h : EqM n n (mm n (clear p c) (clear p c)) one := by
  intro i hi k hk
  rw [clear_mm (clear_bd hc) hp i hi k hk]
  dsimp only
  by_cases e : i = p
  ·rw [if_pos e]
   unfold clear one
   by_cases h1 : i = k
   ·rw [if_pos h1, if_pos h1]
   ·rw [if_neg h1, if_neg h1, if_neg (by omega)]
  ·rw [if_neg e]
   unfold clear one
   by_cases h1 : i = k
   ·rw [if_pos h1, if_pos h1, if_neg (by omega), if_neg (by omega), mul_zero, Nat.xor_zero]
   ·rw [if_neg h1, if_neg h1]
    by_cases h2 : k = p
    ·rw [if_pos h2, if_pos h2.symm, mul_one (hc i hi), Nat.xor_self]
    ·rw [if_neg h2, if_neg (fun e => h2 e.symm), if_neg h2, mul_zero, Nat.xor_zero]
 exact ⟨clear_bd hc, h, h⟩

def sw (p q i : Nat) : Nat := if i = p then q else if i = q then p else i
theorem sw_sw (p q i : Nat) : sw p q (sw p q i) = i := by
 unfold sw
 repeat' split
 all_goals omega
theorem sw_lt {n p q i : Nat} (hp : p < n) (hq : q < n) (hi : i < n) : sw p q i < n := by
 unfold sw
 repeat' split
 all_goals assumption
def swap (p q : Nat) : Mx := fun i j => if j = sw p q i then 1 else 0
theorem swap_bd (n p q : Nat) : Bd n n (swap p q) := fun i _ j _ => by unfold swap; split <;> decide
theorem swap_mm {n m p q : Nat} {A : Mx} (ha : Bd n m A) (hp : p < n) (hq : q < n) : EqM n m (mm n (swap p q) A) (fun i k => A (sw p q i) k) := by
 intro i hi k hk
 show sx n (fun j => mul (swap p q i j) (A j k)) = _
 rw [sx_one (c := sw p q i) (sw_lt hp hq hi) (fun j _ hj => by unfold swap; rw [if_neg hj, zero_mul])]
 unfold swap
 dsimp only
 rw [if_pos rfl, one_mul (ha _ (sw_lt hp hq hi) k hk)]
theorem swap_inv {n p q : Nat} (hp : p < n) (hq : q < n) : Inv n (swap p q) (swap p q) := by
 have h : EqM n n (mm n (swap p q) (swap p q)) one := by
  intro i hi k hk
  rw [swap_mm (swap_bd n p q) hp hq i hi k hk]
  unfold swap one
  dsimp only
  rw [sw_sw]
  by_cases e : k = i
  ·rw [if_pos e, if_pos e.symm]
  ·rw [if_neg e, if_neg (fun h => e h.symm)]
 exact ⟨swap_bd n p q, h, h⟩

end Go.Proofs.YtobkmohoepgfmaaGreatDoor.Kc
