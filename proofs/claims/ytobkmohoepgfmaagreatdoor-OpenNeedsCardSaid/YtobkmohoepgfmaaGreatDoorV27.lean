import Derived.Test.YtobkmohoepgfmaaGreatDoorV26
import Derived.OwnWalk
import Derived.ArgAppend
import Derived.RangeFuncNested
import Derived.RangeFuncBound
import Derived.RangeFuncCalls
import Derived.RangeFuncLeaves
import Derived.RangeFuncBox
import Derived.Shelf.Abstract
import Derived.OwnWalkIn
import Derived.TacticsInMore
import Derived.LoopNIn
import Derived.LoopIn
import Derived.Maps.AppendAt
namespace Go.Proofs.YtobkmohoepgfmaaGreatDoor.Kc
open Go.RowKit Go.Sort

structure Own (w : World) (b r c : Nat) (G K : Nat → Nat) (A : Mx) : Prop where
 outer : ∀ i, i < r → w.cell? ⟨b, i, none⟩ = some (.slice (some ⟨G i, 0, none⟩) c (K i))
 cell : ∀ i, i < r → ∀ j, j < c → w.cell? ⟨G i, j, none⟩ = some (.int .u8 (A i j : Nat))
 free : ∀ k, w.frozen? ⟨b, k, none⟩ = false
 freeG : ∀ i, i < r → ∀ k, w.frozen? ⟨G i, k, none⟩ = false
 apart : ∀ i, i < r → G i ≠ b
 inj : ∀ i, i < r → ∀ k, k < r → G i = G k → i = k

theorem addr_ne {b b' o o' : Nat} (h : b ≠ b' ∨ o ≠ o') : (⟨b, o, none⟩ : Addr) ≠ ⟨b', o', none⟩ := by
 intro e
 injection e with e1 e2
 rcases h with h | h
 ·exact h e1
 ·exact h e2

theorem cell_far {w : World} {b b' o o' : Nat} {v : Value} (h : b ≠ b' ∨ o ≠ o') : (w.setCell ⟨b', o', none⟩ v).cell? ⟨b, o, none⟩ = w.cell? ⟨b, o, none⟩ :=
 World.cell?_setCell_other _ _ _ _ (addr_ne h).symm

theorem Own.put {w : World} {b r c p q x : Nat} {G K : Nat → Nat} {A : Mx} (h : Own w b r c G K A) (hp : p < r) (hq : q < c) :
  Own (w.setCell ⟨G p, q, none⟩ (.int .u8 (x : Nat))) b r c G K (fun i j => if i = p ∧ j = q then x else A i j) := by
 refine ⟨fun i hi => ?_, fun i hi j hj => ?_, fun k => ?_, fun i hi k => ?_, h.apart, h.inj⟩
 ·rw [cell_far (Or.inl (fun e => h.apart p hp e.symm))]
  exact h.outer i hi
 ·by_cases e : i = p ∧ j = q
  ·obtain ⟨rfl, rfl⟩ := e
   rw [World.cell?_setCell_same _ _ _ (h.cell i hi j hj), if_pos ⟨rfl, rfl⟩]
  ·rw [if_neg e, cell_far (by
    by_cases hij : i = p
    ·right
     intro e2
     exact e ⟨hij, e2⟩
    ·left
     intro e2
     exact hij (h.inj i hi p hp e2))]
   exact h.cell i hi j hj
 ·rw [World.frozen?_setCell]; exact h.free k
 ·rw [World.frozen?_setCell]; exact h.freeG i hi k

theorem Own.swap {w : World} {b r c p q : Nat} {G K : Nat → Nat} {A : Mx} (h : Own w b r c G K A) (hp : p < r) (hq : q < r) :
  Own ((w.setCell ⟨b, p, none⟩ (.slice (some ⟨G q, 0, none⟩) c (K q))).setCell ⟨b, q, none⟩ (.slice (some ⟨G p, 0, none⟩) c (K p))) b r c (fun i => G (sw p q i)) (fun i => K (sw p q i)) (fun i j => A (sw p q i) j) := by
 have c1 : (w.setCell ⟨b, p, none⟩ (.slice (some ⟨G q, 0, none⟩) c (K q))).cell? ⟨b, q, none⟩ = some (.slice (some ⟨G q, 0, none⟩) c (K q)) := by
  by_cases e : q = p
  ·subst e; rw [World.cell?_setCell_same _ _ _ (h.outer q hq)]
  ·rw [cell_far (Or.inr e)]; exact h.outer q hq
 refine ⟨fun i hi => ?_, fun i hi j hj => ?_, fun k => ?_, fun i hi k => ?_, fun i hi => h.apart _ (sw_lt hp hq hi), fun i hi k hk e => sw_inj (h.inj _ (sw_lt hp hq hi) _ (sw_lt hp hq hk) e)⟩
 ·by_cases e1 : i = q
  ·subst e1
   rw [World.cell?_setCell_same _ _ _ c1]
   have : sw p i i = p := by unfold sw; split <;> simp_all
   rw [this]
  ·rw [cell_far (Or.inr e1)]
   by_cases e2 : i = p
   ·subst e2
    rw [World.cell?_setCell_same _ _ _ (h.outer i hi)]
    have : sw i q i = q := by unfold sw; rw [if_pos rfl]
    rw [this]
   ·rw [cell_far (Or.inr e2)]
    have : sw p q i = i := by unfold sw; rw [if_neg e2, if_neg e1]
    rw [this]
    exact h.outer i hi
 ·have hs := sw_lt hp hq hi
  rw [cell_far (Or.inl (h.apart _ hs)), cell_far (Or.inl (h.apart _ hs))]
  exact h.cell _ hs j hj
 ·rw [World.frozen?_setCell, World.frozen?_setCell]; exact h.free k
 ·rw [World.frozen?_setCell, World.frozen?_setCell]; exact h.freeG _ (sw_lt hp hq hi) k

theorem Own.congr {w : World} {b r c : Nat} {G K : Nat → Nat} {A B : Mx} (h : Own w b r c G K A) (e : EqM r c A B) : Own w b r c G K B :=
 ⟨h.outer, fun i hi j hj => by rw [← e i hi j hj]; exact h.cell i hi j hj, h.free, h.freeG, h.apart, h.inj⟩
theorem Own.lt {w : World} {b r c : Nat} {G K : Nat → Nat} {A : Mx} (h : Own w b r c G K A) (hr : 0 < r) : b < w.heap.size := cell?_lt (h.outer 0 hr)
theorem Own.ltG {w : World} {b r c i : Nat} {G K : Nat → Nat} {A : Mx} (h : Own w b r c G K A) (hi : i < r) (hc : 0 < c) : G i < w.heap.size := cell?_lt (h.cell i hi 0 hc)

theorem Own.keep {w w' : World} {b r c : Nat} {G K : Nat → Nat} {A : Mx} (h : Own w b r c G K A) (e : ∀ k, k = b ∨ (∃ i, i < r ∧ k = G i) → w'.heap[k]? = w.heap[k]?) : Own w' b r c G K A :=
 ⟨fun i hi => (World.cell?_of_block (w := w) (e b (Or.inl rfl))).trans (h.outer i hi),
  fun i hi j hj => (World.cell?_of_block (w := w) (e _ (Or.inr ⟨i, hi, rfl⟩))).trans (h.cell i hi j hj),
  fun k => (World.frozen?_of_block (w := w) (e b (Or.inl rfl))).trans (h.free k),
  fun i hi k => (World.frozen?_of_block (w := w) (e _ (Or.inr ⟨i, hi, rfl⟩))).trans (h.freeG i hi k), h.apart, h.inj⟩

end Go.Proofs.YtobkmohoepgfmaaGreatDoor.Kc
namespace Go.Proofs.YtobkmohoepgfmaaGreatDoor.Kc
open Go.RowKit Go.Sort
set_option maxRecDepth 100000
set_option maxHeartbeats 1000000

end Go.Proofs.YtobkmohoepgfmaaGreatDoor.Kc
namespace Go.Proofs.YtobkmohoepgfmaaGreatDoor.Kc
open Go.RowKit Go.Sort
set_option maxRecDepth 100000
set_option maxHeartbeats 1000000

theorem heap_lt {w : World} {b : Nat} {o : Obj} (h : w.heap[b]? = some o) : b < w.heap.size := by
 by_cases hb : b < w.heap.size
 ·exact hb
 ·rw [Array.getElem?_eq_none (by omega)] at h; cases h

theorem grownBy_weaker {w w' : World} (h : w.grownBy w' none) (r : Option Nat) : w.grownBy w' r := ⟨h.os, h.tape, h.output, h.size, fun k hk _ => h.block k hk (by simp)⟩

theorem append_mine {P : Program} (w : World) {ops : Array Oper} {rest : List Oper} {o : Oper} {a : Act} {Q : Exit → Act → World → Prop}
  (hg : o.guard = none) (s x : Operand) (t : TypeId) (hop : o.op = Op.call { callee := Callee.builtin Builtin.append, args := #[s, x], argTypes := #[t, t] })
  (base : Nat) (e : TypeId) (i : TypeInfo) (z : Value) (size bytes : Nat) (h1 : P.underlying t = some (.slice e)) (h2 : P.info? e = some i) (h3 : i.zero = some z) (h4 : i.size = size) (h5 : i.bytes = bytes) (h6 : z.cells.size = size) (h7 : 0 < size)
  (v : Value) (n : Nat) (xs : List Value) (hs : a.eval s = v) (hown : w.ownsRow base e size v n xs)
  (ad : Addr) (m c : Nat) (news : List Value) (hx : a.eval x = .slice (some ad) m c) (hn : news.length = m * size) (hc : ∀ j u, news[j]? = some u → w.cell? (ad.add j) = some u) (h1c : ∀ u ∈ news, u.oneCell' = true)
  (b1 : n + m ≤ maxLen) (b2 : (n + m) * bytes ≤ 140737488355328) (hbase : base ≤ w.heap.size) (hm : 0 < m)
  (hK : ∀ v' w', w'.ownsRow base e size v' (n + m) (xs ++ news) → w.grownBy w' v.ownBlock → (v'.ownBlock = v.ownBlock ∨ w'.ownsRow w.heap.size e size v' (n + m) (xs ++ news)) → wpList P ops Q rest (a.put o.dst v') w') :
  wpList P ops Q (o :: rest) a w := by
 have hown' := hown
 obtain ⟨hlen, ⟨rfl, rfl⟩ | ⟨g, cap, cur, rfl, hb, hh, hle, hmax, hsz, htake⟩⟩ := hown
 ·refine wpList_append_grows w hg s x t hop e i z size bytes h1 h2 h3 h4 h5 h6 h7 none 0 0 xs hs (fun _ => ⟨rfl, rfl⟩) hlen (fun b hb => by cases hb) ad m c news hx hn hc h1c (by omega) b1 b2 ?_
  intro v' w' r1 r2
  refine hK v' w' ?_ r2 (.inr r1)
  obtain ⟨q1, q2⟩ := r1
  refine ⟨q1, ?_⟩
  rcases q2 with q2 | ⟨g, cap, cur, e1, e2, e3⟩
  ·exact .inl q2
  ·exact .inr ⟨g, cap, cur, e1, by omega, e3⟩
 ·by_cases hfit : n + m ≤ cap
  ·refine wpList_append_fits w hg s x t hop base e i size h1 h2 h4 g n cap xs hs hown' ad m c news hx hn hc h1c hfit ?_
   intro w' r1 r2
   exact hK _ w' r1 r2 (.inl rfl)
  ·refine wpList_append_grows w hg s x t hop e i z size bytes h1 h2 h3 h4 h5 h6 h7 (some ⟨g, 0, none⟩) n cap xs hs (fun h => by cases h) hlen (fun b hb j u hj => by cases hb; exact hown'.cells rfl j u hj) ad m c news hx hn hc h1c (by omega) b1 b2 ?_
   intro v' w' r1 r2
   refine hK v' w' ?_ (grownBy_weaker r2 _) (.inr r1)
   obtain ⟨q1, q2⟩ := r1
   refine ⟨q1, ?_⟩
   rcases q2 with q2 | ⟨g', cap', cur', e1, e2, e3⟩
   ·exact .inl q2
   ·exact .inr ⟨g', cap', cur', e1, by have := heap_lt hh; omega, e3⟩

theorem tmod_pos (a m : Int) (hm : 1 ≤ m) (h : 0 ≤ a.tmod m) : a.tmod m = a % m := by
 rw [Int.tmod_eq_emod] at h ⊢
 split
 ·omega
 ·rename_i hc
  rw [if_neg hc] at h
  have h1 := Int.emod_lt_of_pos a (show 0 < m by omega)
  omega
theorem tmod_neg (a m : Int) (hm : 1 ≤ m) (h : a.tmod m < 0) : a.tmod m + m = a % m ∧ -m < a.tmod m := by
 rw [Int.tmod_eq_emod] at h ⊢
 have h0 := Int.emod_nonneg a (show m ≠ 0 by omega)
 split
 ·rename_i hc
  rw [if_pos hc] at h
  omega
 ·rename_i hc
  rw [if_neg hc] at h
  have : ¬ (a % m = 0) := fun e => hc (Or.inr (Int.dvd_of_emod_eq_zero e))
  omega

theorem rpick (a m : Int) (hm : 1 ≤ m) (hm2 : m ≤ 1000) (w : World) :
  Calls Tryz.prog 22 #[.int .i64 a, .int .i64 m] w fun e w' => e = .returned (.int .i64 (a % m)) ∧ w' = w := by
 have hne : ¬ m = 0 := by omega
 by_cases h : 0 ≤ a.tmod m
 ·have HP := Lib.hid (tmod_pos a m hm h)
  have h' : ¬ a.tmod m < 0 := by omega
  go_enter Tryz.func22, Tryz.ntmps22
  go_wp2
  go_ret
  rw [← HP.out]; exact ⟨rfl, rfl⟩
 ·have hlt : a.tmod m < 0 := by omega
  have HP := Lib.hid (tmod_neg a m hm hlt).1
  have hb := (tmod_neg a m hm hlt).2
  go_enter Tryz.func22, Tryz.ntmps22
  go_wp2
  go_ret
  rw [← HP.out]; exact ⟨rfl, rfl⟩

def Nums (w : World) (a : Option Addr) (xs : List Int) : Prop := ∀ (i : Nat) (x : Int), xs[i]? = some x → ∃ g o, a = some ⟨g, o, none⟩ ∧ g < w.heap.size ∧ w.cell? ⟨g, o + i, none⟩ = some (.int .i64 x)

structure Row8 (w : World) (g c : Nat) (f : Nat → Nat) : Prop where
 cell : ∀ j, j < c → w.cell? ⟨g, j, none⟩ = some (.int .u8 (f j : Nat))
 free : ∀ k, w.frozen? ⟨g, k, none⟩ = false

theorem Row8.keep {w w' : World} {g c : Nat} {f : Nat → Nat} (h : Row8 w g c f) (e : w'.heap[g]? = w.heap[g]?) : Row8 w' g c f :=
 ⟨fun j hj => (World.cell?_of_block (w := w) e).trans (h.cell j hj), fun k => (World.frozen?_of_block (w := w) e).trans (h.free k)⟩
theorem Row8.put {w : World} {g c q x : Nat} {f : Nat → Nat} (h : Row8 w g c f) (hq : q < c) : Row8 (w.setCell ⟨g, q, none⟩ (.int .u8 (x : Nat))) g c (fun j => if j = q then x else f j) := by
 refine ⟨fun j hj => ?_, fun k => by rw [World.frozen?_setCell]; exact h.free k⟩
 by_cases e : j = q
 ·subst e; rw [World.cell?_setCell_same _ _ _ (h.cell j hj), if_pos rfl]
 ·rw [cell_far (Or.inr e), if_neg e]; exact h.cell j hj

theorem Row8.congr {w : World} {g c : Nat} {f f' : Nat → Nat} (h : Row8 w g c f) (e : ∀ j, j < c → f j = f' j) : Row8 w g c f' := ⟨fun j hj => by rw [← e j hj]; exact h.cell j hj, h.free⟩

theorem infoRow : (Tryz.prog.info? 36).map (fun i => (i.zero, i.size, i.bytes)) = some (some (.slice none 0 0), 1, 24) := by kernel_rfl

theorem infoByte : (Tryz.prog.info? 5).map (fun i => (i.zero, i.size, i.bytes)) = some (some (.int .u8 0), 1, 1) := by kernel_rfl

theorem make8 (n : Nat) (hn : n ≤ 1000000) : ∃ zs : Array Value, (∀ j, j < n → zs[j]? = some (.int .u8 0)) ∧
  ∀ W : World, Sem.run Tryz.prog (Instr.makeSlice 36 (.int .i64 (n : Int)) (.int .i64 (n : Int))) W = .ok (.slice (some ⟨W.heap.size, 0, none⟩) n n) (W.alloc (.cells zs 5)) := by
 obtain ⟨i0, hi0, hz0, hz1, hz2⟩ := info_parts infoByte
 refine ⟨madeCells (Value.int .u8 0).cells (n * i0.size), fun j hj => ?_, fun W => ?_⟩
 ·rw [hz1]
  simp [madeCells, Value.cells, hj]
  rw [Nat.mod_one]; rfl
 ·have h := run_make W 36 5 i0 (.int .u8 0) Tryz.underlying36 hi0 hz0 .i64 .i64 (n : Int) (n : Int) (by omega) (by omega) (by rw [hz2]; omega) (by omega)
  simpa using h

end Go.Proofs.YtobkmohoepgfmaaGreatDoor.Kc
namespace Go.Proofs.YtobkmohoepgfmaaGreatDoor.Kc
open Go.RowKit Go.Sort
set_option maxRecDepth 100000
set_option maxHeartbeats 1000000

def RawIn (w : World) (a : Option Addr) (xss : List (List Nat)) : Prop :=
 ∀ (i : Nat) (xs : List Nat), xss[i]? = some xs → ∃ b o, a = some ⟨b, o, none⟩ ∧ b < w.heap.size ∧ ∃ (g : Option Addr) (cap : Nat), w.cell? ⟨b, o + i, none⟩ = some (.slice g xs.length cap) ∧
  ∀ (j x : Nat), xs[j]? = some x → ∃ h q, g = some ⟨h, q, none⟩ ∧ h < w.heap.size ∧ w.cell? ⟨h, q + j, none⟩ = some (.int .u8 (x : Nat))

theorem RawIn.keep {w w' : World} {a : Option Addr} {xss : List (List Nat)} (h : RawIn w a xss) (b : Below w.heap.size w w') : RawIn w' a xss := by
 intro i xs hi
 obtain ⟨b1, o, e, hb, g, cap, hc, hj⟩ := h i xs hi
 refine ⟨b1, o, e, Nat.lt_of_lt_of_le hb b.size, g, cap, (b.cell (p := ⟨b1, o + i, none⟩) hb).trans hc, fun j x hx => ?_⟩
 obtain ⟨h1, q, e2, hh, hc2⟩ := hj j x hx
 exact ⟨h1, q, e2, Nat.lt_of_lt_of_le hh b.size, (b.cell (p := ⟨h1, q + j, none⟩) hh).trans hc2⟩

def RightP (xss : List (List Nat)) : Prop := 1 ≤ xss.length ∧ xss.length ≤ 64 ∧ ∃ c, 1 ≤ c ∧ c ≤ 64 ∧ ∀ (i : Nat) (xs : List Nat), xss[i]? = some xs → xs.length = c

theorem below_drewN (n : Nat) (w : World) : Below w.heap.size w (w.drewN n) := ⟨rfl, rfl, rfl, Nat.le_refl _, fun _ _ => rfl⟩

theorem not_true {t : Bool} {p : Prop} (h : t = true ↔ p) (n : ¬ p) : t = false := by
 cases t
 ·rfl
 ·exact absurd (h.1 rfl) n

end Go.Proofs.YtobkmohoepgfmaaGreatDoor.Kc
namespace Go.Proofs.YtobkmohoepgfmaaGreatDoor.Kc
open Go.RowKit Go.Sort
set_option maxRecDepth 100000
set_option maxHeartbeats 600000

def ent (xss : List (List Nat)) : Mx := fun i j => ((xss[i]?).getD [])[j]?.getD 0
def Bytes (xss : List (List Nat)) : Prop := ∀ (i : Nat) (xs : List Nat), xss[i]? = some xs → ∀ x ∈ xs, x < 256
theorem ent_lt {xss : List (List Nat)} (h : Bytes xss) (i j : Nat) : ent xss i j < 256 := by
 unfold ent
 cases e : xss[i]? with
 | none => simp
 | some xs =>
  simp only [Option.getD_some]
  cases e2 : xs[j]? with
  | none => simp
  | some x => exact h i xs e x (List.mem_of_getElem? e2)
theorem RawIn.at {w : World} {a : Option Addr} {xss : List (List Nat)} (h : RawIn w a xss) {i j c : Nat} (hi : i < xss.length) (hc : ∀ xs, xss[i]? = some xs → xs.length = c) (hj : j < c) :
  ∃ b o g q cap, a = some ⟨b, o, none⟩ ∧ b < w.heap.size ∧ g < w.heap.size ∧ w.cell? ⟨b, o + i, none⟩ = some (.slice (some ⟨g, q, none⟩) c cap) ∧ w.cell? ⟨g, q + j, none⟩ = some (.int .u8 (ent xss i j : Nat)) := by
 obtain ⟨xs, hxs⟩ : ∃ xs, xss[i]? = some xs := ⟨_, List.getElem?_eq_getElem hi⟩
 obtain ⟨b, o, rfl, hb, g, cap, hcell, hx⟩ := h i xs hxs
 have hl := hc xs hxs
 obtain ⟨x, hxj⟩ : ∃ x, xs[j]? = some x := ⟨_, List.getElem?_eq_getElem (by omega)⟩
 obtain ⟨g', q, rfl, hg, hv⟩ := hx j x hxj
 refine ⟨b, o, g', q, cap, rfl, hb, hg, by rw [← hl]; exact hcell, ?_⟩
 have : ent xss i j = x := by unfold ent; rw [hxs, Option.getD_some, hxj, Option.getD_some]
 rw [this]; exact hv

end Go.Proofs.YtobkmohoepgfmaaGreatDoor.Kc
namespace Go.Proofs.YtobkmohoepgfmaaGreatDoor.Kc
open Go.RowKit Go.Sort
set_option maxRecDepth 100000
set_option maxHeartbeats 1000000

end Go.Proofs.YtobkmohoepgfmaaGreatDoor.Kc
namespace Go.Proofs.YtobkmohoepgfmaaGreatDoor.Kc

def gr : Mx := fun i j => if i < 4 then one i j else if i = 4 then 1 else pw j
theorem gr_bd (r c : Nat) : Bd r c gr := fun i _ j _ => by
 unfold gr
 split
 ·unfold one; split <;> decide
 ·split
  ·decide
  ·exact pw_lt _
def sel (a b c d : Nat) : Nat → Nat := fun i => if i = 0 then a else if i = 1 then b else if i = 2 then c else d
def four (a b c d : Nat) : Mx := fun i j => gr (sel a b c d i) j
theorem check_four : all 6 (fun a => all 6 (fun b => all 6 (fun c => all 6 (fun d => (!(Nat.blt a b && Nat.blt b c && Nat.blt c d)) || !(Nat.beq (det 4 (four a b c d)) 0))))) = true := by kernel_rfl
theorem four_det {a b c d : Nat} (h1 : a < b) (h2 : b < c) (h3 : c < d) (h4 : d < 6) : det 4 (four a b c d) ≠ 0 := by
 have h := all_of (all_of (all_of (all_of check_four a (by omega)) b (by omega)) c (by omega)) d h4
 have e1 : Nat.blt a b = true := by simpa using h1
 have e2 : Nat.blt b c = true := by simpa using h2
 have e3 : Nat.blt c d = true := by simpa using h3
 rw [e1, e2, e3] at h
 intro e
 rw [e] at h
 exact absurd h (by decide)
def enc (D : Mx) : Mx := mm 4 gr D
theorem enc_bd (r c : Nat) (D : Mx) : Bd r c (enc D) := mm_bd _ _ _ _ _
end Go.Proofs.YtobkmohoepgfmaaGreatDoor.Kc
namespace Go.Proofs.YtobkmohoepgfmaaGreatDoor.Kc
open Go.RowKit Go.Sort
set_option maxRecDepth 100000
set_option maxHeartbeats 1000000

theorem alloc_block (w : World) (o : Obj) : (w.alloc o).heap[w.heap.size]? = some o := by
 show (w.heap.push _)[w.heap.size]? = _
 rw [Array.getElem?_push, if_pos rfl]
theorem alloc_old (w : World) (o : Obj) {k : Nat} (h : k < w.heap.size) : (w.alloc o).heap[k]? = w.heap[k]? := by
 show (w.heap.push _)[k]? = _
 rw [Array.getElem?_push, if_neg (by omega)]
theorem alloc_size (w : World) (o : Obj) : (w.alloc o).heap.size = w.heap.size + 1 := by simp
theorem free_of_block {w : World} {b k : Nat} {cs : Array Value} {t : TypeId} (h : w.heap[b]? = some (.cells cs t (0, 0))) : w.frozen? ⟨b, k, none⟩ = false := by
 simp [World.frozen?, h]

theorem only_drew {a w : World} {row : Option Nat} (h : a.grownBy w row) : a.grownBy w.drew row := ⟨h.os, h.tape, h.output, h.size, h.block⟩
theorem only_refl (a : World) (row : Option Nat) : a.grownBy a row := ⟨rfl, rfl, rfl, Nat.le_refl _, fun _ _ _ => rfl⟩
theorem only_setCell {a w : World} {g : Nat} (h : a.grownBy w (some g)) (k : Nat) (u : Value) : a.grownBy (w.setCell ⟨g, k, none⟩ u) (some g) :=
 ⟨h.os, h.tape, h.output, by simpa [World.setCell] using h.size, fun i hi hne => (Below.heap_setCell w ⟨g, k, none⟩ u i (by rintro rfl; exact hne rfl)).trans (h.block i hi hne)⟩

theorem Own.row8 {w : World} {b r c p : Nat} {G K : Nat → Nat} {A : Mx} (h : Own w b r c G K A) (hp : p < r) : Row8 w (G p) c (A p) := ⟨h.cell p hp, h.freeG p hp⟩
theorem Own.row_put {w w' : World} {b r c p : Nat} {G K : Nat → Nat} {A : Mx} {F : Nat → Nat} (h : Own w b r c G K A) (hp : p < r) (hc : 0 < c) (hr : Row8 w' (G p) c F) (hg : w.grownBy w' (some (G p))) :
  Own w' b r c G K (fun i j => if i = p then F j else A i j) := by
 have hb : ∀ i, i < r → i ≠ p → w'.heap[G i]? = w.heap[G i]? := fun i hi hne => hg.block _ (h.ltG hi hc) (fun e => hne (h.inj i hi p hp (by injection e)))
 have hbb : w'.heap[b]? = w.heap[b]? := hg.block _ (h.lt (by omega)) (fun e => h.apart p hp (by injection e with e; exact e.symm))
 refine ⟨fun i hi => (World.cell?_of_block (w := w) hbb).trans (h.outer i hi), fun i hi j hj => ?_, fun k => (World.frozen?_of_block (w := w) hbb).trans (h.free k), fun i hi k => ?_, h.apart, h.inj⟩
 ·by_cases e : i = p
  ·subst e; rw [if_pos rfl]; exact hr.cell j hj
  ·rw [if_neg e]; exact (World.cell?_of_block (w := w) (hb i hi e)).trans (h.cell i hi j hj)
 ·by_cases e : i = p
  ·subst e; exact hr.free k
  ·exact (World.frozen?_of_block (w := w) (hb i hi e)).trans (h.freeG i hi k)
theorem Own.drew {w : World} {b r c : Nat} {G K : Nat → Nat} {A : Mx} (h : Own w b r c G K A) : Own w.drew b r c G K A := h.keep (fun _ _ => rfl)
theorem Below.of_only {B : Nat} {w0 w w' : World} {g : Nat} (h : Below B w0 w) (hg : w.grownBy w' (some g)) (hB : B ≤ g) (hs : B ≤ w.heap.size) : Below B w0 w' :=
 ⟨hg.os.trans h.os, hg.tape.trans h.tape, hg.output.trans h.output, Nat.le_trans h.size hg.size, fun k hk => (hg.block k (by omega) (fun e => by injection e; omega)).trans (h.block k hk)⟩

theorem addr_add (h q j : Nat) : (⟨h, q, none⟩ : Addr).add j = ⟨h, q + j, none⟩ := by
 unfold Addr.add
 split
 ·rename_i e; subst e; rfl
 ·rfl
def rowL (n : Nat) (X : Nat → Nat) : List Value := (List.range n).map (fun j => Value.int .u8 (X j : Nat))
theorem rowL_len (n : Nat) (X : Nat → Nat) : (rowL n X).length = n := by simp [rowL]
theorem rowL_get {n j : Nat} {X : Nat → Nat} (h : j < n) : (rowL n X)[j]? = some (.int .u8 (X j : Nat)) := by simp [rowL, h]
theorem rowL_cells {w : World} {h q n : Nat} {X : Nat → Nat} (hx : ∀ j, j < n → w.cell? ⟨h, q + j, none⟩ = some (.int .u8 (X j : Nat))) : ∀ j u, (rowL n X)[j]? = some u → w.cell? ((⟨h, q, none⟩ : Addr).add j) = some u := by
 intro j u hu
 have hj : j < n := by have := (List.getElem?_eq_some_iff.1 hu).1; rwa [rowL_len] at this
 rw [rowL_get hj] at hu
 cases hu
 rw [addr_add]
 exact hx j hj
theorem rowL_one {n : Nat} {X : Nat → Nat} : ∀ u ∈ rowL n X, u.oneCell' = true := by
 intro u hu
 simp [rowL] at hu
 obtain ⟨j, _, rfl⟩ := hu
 rfl
theorem own_row8 {w : World} {B g n cap : Nat} {xs : List Value} {X : Nat → Nat} (h : w.ownsRow B 5 1 (.slice (some ⟨g, 0, none⟩) n cap) n xs) (hx : ∀ j, j < n → xs[j]? = some (.int .u8 (X j : Nat))) : Row8 w g n X := by
 refine ⟨fun j hj => ?_, fun k => ?_⟩
 ·have := h.cells (g := g) rfl j _ (hx j hj)
  rw [addr_add, Nat.zero_add] at this
  exact this
 ·rcases h.2 with ⟨h0, _⟩ | ⟨g', cap', cur, e, _, hb, _⟩
  ·cases h0
  ·cases e
   exact free_of_block hb

def rowsOf (r c : Nat) (M : Mx) : List (List Nat) := (List.range r).map (fun i => (List.range c).map (M i))
theorem rowsOf_len (r c : Nat) (M : Mx) : (rowsOf r c M).length = r := by simp [rowsOf]
theorem rowsOf_get {r c i : Nat} {M : Mx} (hi : i < r) : (rowsOf r c M)[i]? = some ((List.range c).map (M i)) := by simp [rowsOf, hi]
theorem rowsOf_row {r c i : Nat} {M : Mx} {xs : List Nat} (h : (rowsOf r c M)[i]? = some xs) : i < r ∧ xs = (List.range c).map (M i) := by
 have hi : i < r := by have := (List.getElem?_eq_some_iff.1 h).1; rwa [rowsOf_len] at this
 rw [rowsOf_get hi] at h
 exact ⟨hi, (Option.some.inj h).symm⟩
theorem rowsOf_rowlen {r c i : Nat} {M : Mx} {xs : List Nat} (h : (rowsOf r c M)[i]? = some xs) : xs.length = c := by
 rw [(rowsOf_row h).2]; simp
theorem rowsOf_right {r c : Nat} (M : Mx) (h1 : 1 ≤ r) (h2 : r ≤ 64) (h3 : 1 ≤ c) (h4 : c ≤ 64) : RightP (rowsOf r c M) :=
 ⟨by rw [rowsOf_len]; exact h1, by rw [rowsOf_len]; exact h2, c, h3, h4, fun _ _ h => rowsOf_rowlen h⟩
theorem rowsOf_bytes {r c : Nat} {M : Mx} (h : Bd r c M) : Bytes (rowsOf r c M) := fun i xs hx x hm => by
 obtain ⟨hi, rfl⟩ := rowsOf_row hx
 simp at hm
 obtain ⟨j, hj, rfl⟩ := hm
 exact h i hi j hj
theorem rowsOf_ent {r c : Nat} (M : Mx) : EqM r c (ent (rowsOf r c M)) M := fun i hi j hj => by
 unfold ent
 rw [rowsOf_get hi, Option.getD_some]
 simp [hj]
theorem rowsOf_congr {r c : Nat} {M M' : Mx} (h : EqM r c M M') : rowsOf r c M = rowsOf r c M' := by
 unfold rowsOf
 refine List.map_congr_left (fun i hi => List.map_congr_left (fun j hj => h i ?_ j ?_))
 ·simpa using hi
 ·simpa using hj
theorem rawIn_of {w : World} {b o r c : Nat} {M : Mx} (h : ∀ i, i < r → ∃ g q cap, w.cell? ⟨b, o + i, none⟩ = some (.slice (some ⟨g, q, none⟩) c cap) ∧ ∀ j, j < c → w.cell? ⟨g, q + j, none⟩ = some (.int .u8 (M i j : Nat))) :
  RawIn w (some ⟨b, o, none⟩) (rowsOf r c M) := by
 intro i xs hxs
 obtain ⟨hi, rfl⟩ := rowsOf_row hxs
 obtain ⟨g, q, cap, h1, h2⟩ := h i hi
 refine ⟨b, o, rfl, cell?_lt h1, some ⟨g, q, none⟩, cap, by simpa using h1, fun j x hx => ?_⟩
 have hj : j < c := by have := (List.getElem?_eq_some_iff.1 hx).1; simpa using this
 simp [hj] at hx
 subst hx
 exact ⟨g, q, rfl, cell?_lt (h2 j hj), h2 j hj⟩
theorem rowsOf_facts {r c : Nat} {M : Mx} (hM : Bd r c M) (h1 : 1 ≤ r) (h2 : r ≤ 64) (h3 : 1 ≤ c) (h4 : c ≤ 64) : RightP (rowsOf r c M) ∧ Bytes (rowsOf r c M) ∧ ∀ (i : Nat) (xs : List Nat), (rowsOf r c M)[i]? = some xs → xs.length = c :=
 ⟨rowsOf_right M h1 h2 h3 h4, rowsOf_bytes hM, fun _ _ h => rowsOf_rowlen h⟩
end Go.Proofs.YtobkmohoepgfmaaGreatDoor.Kc
namespace Go.Proofs.YtobkmohoepgfmaaGreatDoor.Kc
open Go.RowKit Go.Sort
set_option maxRecDepth 100000
set_option maxHeartbeats 1000000

end Go.Proofs.YtobkmohoepgfmaaGreatDoor.Kc
namespace Go.Proofs.YtobkmohoepgfmaaGreatDoor.Kc
open Go.RowKit Go.Shelf
attribute [local go_sem] Oper.semAt_some
set_option maxRecDepth 100000
set_option maxHeartbeats 8000000

def partV (h q k : Nat) : Value := .slice (some ⟨h, q + 32 * k, none⟩) 32 32

theorem chunk1_in (F : Fence) (n : Nat) (h6 : F.fn 164) (hro : F.round = none) (hn : 1 ≤ n) (l Bs Bn n₀ h q cap : Nat) (hcap : 128 ≤ cap) (hbs : Bs < n₀) (hbn : Bn < n₀) (J Jx : List Nat → World → Prop)
  (hJd : ∀ pre W, J pre W → J pre W.drew)
  (hY : ∀ pre x W, J pre W → pre.length < 4 → YieldAt F (n - 1) Tryz.prog l #[partV h q x] W fun e W' =>
   (e = .returned (.bool true) ∧ J (pre ++ [x]) W' ∧ Below n₀ W W') ∨ (e = .returned (.bool false) ∧ Jx (pre ++ [x]) W'))
  (W : World) (hBs : W.cell? ⟨Bs, 0, none⟩ = some (.slice (some ⟨h, q, none⟩) 128 cap)) (hBn : W.cell? ⟨Bn, 0, none⟩ = some (.int .i64 32)) (h0 : J [] W) :
  CallsIn F n Tryz.prog 164 #[.func (.yield l) #[] #[], .pointer (some ⟨Bs, 0, none⟩), .pointer (some ⟨Bn, 0, none⟩)] W fun e W' => (∃ v, e = .returned v) ∧
   ((∃ ys, ys = List.range 4 ∧ J ys W') ∨ (∃ pre, (∃ k, k ≤ 4 ∧ pre = List.range k) ∧ Jx pre W')) := by
 refine callsIn_of_wp Tryz.func164 rfl h6 ?_ hro
 simp only [Tryz.ntmps164, List.size_toArray, List.length_cons, List.length_nil, Nat.reduceAdd, Nat.reduceSub, Array.replicate_succ, Array.replicate_zero, List.push_toArray, List.append_toArray, List.nil_append, List.cons_append]
 gi_wp2
 gi_loopw [4, 5] (fun i _ wr => ∃ k : Nat, ((k = 0 ∧ i = .int .i64 0) ∨ (k = 1 ∧ i = .int .i64 32) ∨ (k = 2 ∧ i = .int .i64 64) ∨ (k = 3 ∧ i = .int .i64 96) ∨ (k = 4 ∧ i = .int .i64 128)) ∧ J (List.range k) wr ∧ Below n₀ W wr)
  (fun i _ _ => 128 - (intOf i).toNat)
 case atStart => exact ⟨0, .inl ⟨rfl, rfl⟩, h0, Below.refl _ _⟩
 case round =>
  obtain ⟨k, hk, hJs, hnx⟩ := hrel
  have c1 : wr.cell? ⟨Bs, 0, none⟩ = some (.slice (some ⟨h, q, none⟩) 128 cap) := (hnx.cell (p := ⟨Bs, 0, none⟩) hbs).trans hBs
  have c2 : wr.cell? ⟨Bn, 0, none⟩ = some (.int .i64 32) := (hnx.cell (p := ⟨Bn, 0, none⟩) hbn).trans hBn
  rcases hk with ⟨rfl, rfl⟩ | ⟨rfl, rfl⟩ | ⟨rfl, rfl⟩ | ⟨rfl, rfl⟩ | ⟨rfl, rfl⟩
  ·obtain ⟨fn, tmps, assign, body, hy, hR⟩ := hY _ 0 _ (hJd _ _ hJs) (by simp)
   simp only [partV, Nat.reduceMul, Nat.add_zero] at hy
   gi_wp2
   gi_region
   all_goals gi_wp2
   all_goals
    refine hR.mono ?_
    rintro e W3 (⟨rfl, hJ3, hk3⟩ | ⟨rfl, hJx3⟩)
    ·have hk4 := hnx.drew.trans hk3
     have c3 : W3.cell? ⟨Bn, 0, none⟩ = some (.int .i64 32) := (hk4.cell (p := ⟨Bn, 0, none⟩) hbn).trans hBn
     gi_wp2
     go_roundw
     case rel => exact ⟨1, .inr (.inl ⟨rfl, rfl⟩), hJ3, hk4⟩
     case measure => simp [intOf]
    ·gi_wp2
     refine bodyPost_ret (results_none rfl _ _ _) rfl ?_
     exact ⟨⟨_, rfl⟩, .inr ⟨List.range 1, ⟨1, by omega, rfl⟩, hJx3⟩⟩
  ·obtain ⟨fn, tmps, assign, body, hy, hR⟩ := hY _ 1 _ (hJd _ _ hJs) (by simp)
   simp only [partV, Nat.reduceMul] at hy
   gi_wp2
   gi_region
   all_goals gi_wp2
   all_goals
    refine hR.mono ?_
    rintro e W3 (⟨rfl, hJ3, hk3⟩ | ⟨rfl, hJx3⟩)
    ·have hk4 := hnx.drew.trans hk3
     have c3 : W3.cell? ⟨Bn, 0, none⟩ = some (.int .i64 32) := (hk4.cell (p := ⟨Bn, 0, none⟩) hbn).trans hBn
     gi_wp2
     go_roundw
     case rel => exact ⟨2, .inr (.inr (.inl ⟨rfl, rfl⟩)), hJ3, hk4⟩
     case measure => simp [intOf]
    ·gi_wp2
     refine bodyPost_ret (results_none rfl _ _ _) rfl ?_
     exact ⟨⟨_, rfl⟩, .inr ⟨List.range 2, ⟨2, by omega, rfl⟩, hJx3⟩⟩
  ·obtain ⟨fn, tmps, assign, body, hy, hR⟩ := hY _ 2 _ (hJd _ _ hJs) (by simp)
   simp only [partV, Nat.reduceMul] at hy
   gi_wp2
   gi_region
   all_goals gi_wp2
   all_goals
    refine hR.mono ?_
    rintro e W3 (⟨rfl, hJ3, hk3⟩ | ⟨rfl, hJx3⟩)
    ·have hk4 := hnx.drew.trans hk3
     have c3 : W3.cell? ⟨Bn, 0, none⟩ = some (.int .i64 32) := (hk4.cell (p := ⟨Bn, 0, none⟩) hbn).trans hBn
     gi_wp2
     go_roundw
     case rel => exact ⟨3, .inr (.inr (.inr (.inl ⟨rfl, rfl⟩))), hJ3, hk4⟩
     case measure => simp [intOf]
    ·gi_wp2
     refine bodyPost_ret (results_none rfl _ _ _) rfl ?_
     exact ⟨⟨_, rfl⟩, .inr ⟨List.range 3, ⟨3, by omega, rfl⟩, hJx3⟩⟩
  ·obtain ⟨fn, tmps, assign, body, hy, hR⟩ := hY _ 3 _ (hJd _ _ hJs) (by simp)
   simp only [partV, Nat.reduceMul] at hy
   gi_wp2
   gi_region
   all_goals gi_wp2
   all_goals
    refine hR.mono ?_
    rintro e W3 (⟨rfl, hJ3, hk3⟩ | ⟨rfl, hJx3⟩)
    ·have hk4 := hnx.drew.trans hk3
     have c3 : W3.cell? ⟨Bn, 0, none⟩ = some (.int .i64 32) := (hk4.cell (p := ⟨Bn, 0, none⟩) hbn).trans hBn
     gi_wp2
     go_roundw
     case rel => exact ⟨4, .inr (.inr (.inr (.inr ⟨rfl, rfl⟩))), hJ3, hk4⟩
     case measure => simp [intOf]
    ·gi_wp2
     refine bodyPost_ret (results_none rfl _ _ _) rfl ?_
     exact ⟨⟨_, rfl⟩, .inr ⟨List.range 4, ⟨4, by omega, rfl⟩, hJx3⟩⟩
  ·gi_wp2
   go_end0
   exact ⟨⟨_, rfl⟩, .inl ⟨_, rfl, hJs⟩⟩
end Go.Proofs.YtobkmohoepgfmaaGreatDoor.Kc
