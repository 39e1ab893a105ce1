import Derived.Test.YtoofgcdilgfclaaW14
import Derived.Test.YtoofgcdilgfclaaW15
import Derived.Deep.RegionHeld
namespace Go.Proofs.Ytoofgcdilgfclaa
open Go.RowKit Go.Sort
set_option maxRecDepth 100000
set_option maxHeartbeats 1000000

/-- A slot: its number, what stands in it, and the bytes that it is said to have. -/
structure Sx where
  no : Nat
  s : Nat
  g : Nat
  A : Option Addr
  n : Nat
  c : Nat
  D : Nat → Nat
def Sx.it (x : Sx) : It := ⟨x.s, x.g, x.D⟩
abbrev Sx.v (x : Sx) : Value := sv (x.no : Int) (x.s : Int) (x.g : Int) x.A x.n x.c
def Sx.z : Sx := ⟨0, 0, 0, none, 0, 0, fun _ => 0⟩
/-- A live one has its bytes. -/
def SxOk (w : World) (x : Sx) : Prop := x.no ≠ 0 → x.n = 128 ∧ DatI w x.A x.D ∧ x.it.Ok
theorem SxOk.z {w : World} : SxOk w Sx.z := fun h => absurd rfl h
theorem SxOk.keep {w w' : World} {x : Sx} (h : SxOk w x) (k : ∀ (g : Nat) (cs : Array Value), w.heap[g]? = some (Obj.cells cs 5 (0, 0)) → w'.heap[g]? = w.heap[g]?) : SxOk w' x := fun hn => by
  obtain ⟨a, b, c⟩ := h hn
  exact ⟨a, b.keep k, c⟩
theorem SxOk.below {w w' : World} {x : Sx} (h : SxOk w x) (b : Below w.heap.size w w') : SxOk w' x := h.keep (fun g _ hb => b.block g (heap_lt hb))
section
variable {w w' : World} {b n : Nat} {X : Nat → Sx}
end
def updS (X : Nat → Sx) (k : Nat) (y : Sx) : Nat → Sx := fun i => if i = k then y else X i
theorem Turn.put4 {S : List Nat} {b : Nat} {w w2 : World} (h : Turn S w w2) (hb : b ∈ S) (k1 k2 k3 k4 : Nat) (v1 v2 v3 v4 : Value) :
    Turn S w ((((w2.setCell ⟨b, k1, none⟩ v1).setCell ⟨b, k2, none⟩ v2).setCell ⟨b, k3, none⟩ v3).setCell ⟨b, k4, none⟩ v4) := by
  have s : ∀ (W : World) (k : Nat) (v : Value), Turn S w W → Turn S w (W.setCell ⟨b, k, none⟩ v) := fun W k v hW => hW.trans (Turn.set _ _ _ _ hb)
  exact s _ _ _ (s _ _ _ (s _ _ _ (s _ _ _ h)))
/-- The first place of which something holds, or -1. -/
def FirstI (n : Nat) (P : Nat → Prop) (k : Int) : Prop := (k = -1 ∧ ∀ i, i < n → ¬ P i) ∨ ∃ i : Nat, k = (i : Int) ∧ i < n ∧ P i ∧ ∀ j, j < i → ¬ P j
def IdxRet (n : Nat) (P : Nat → Prop) (w : World) (e : Ending) (w' : World) : Prop := ∃ k : Int, e = .returned (.int .i64 k) ∧ FirstI n P k ∧ Below w.heap.size w w'
section
variable {w w' : World} {r p sb last : Nat}
end
/-- How many of the first are not live. -/
def zer (X : Nat → Sx) : Nat → Nat
  | 0 => 0
  | k + 1 => zer X k + (if (X k).no = 0 then 1 else 0)
theorem zer_le (X : Nat → Sx) : ∀ k, zer X k ≤ k
  | 0 => Nat.le_refl _
  | k + 1 => by
    have := zer_le X k
    unfold zer
    split <;> omega
/-- What is left of the first behind a Release, and how many went. -/
def relS (s g : Int) (x : Sx) : Sx := if x.no ≠ 0 ∧ (x.s : Int) = s ∧ (x.g : Int) = g then Sx.z else x
def relX (s g : Int) (k : Nat) (X : Nat → Sx) : Nat → Sx := fun i => if i < k then relS s g (X i) else X i
def relC (s g : Int) (X : Nat → Sx) : Nat → Nat
  | 0 => 0
  | k + 1 => relC s g X k + (if (X k).no ≠ 0 ∧ ((X k).s : Int) = s ∧ ((X k).g : Int) = g then 1 else 0)
theorem relC_le (s g : Int) (X : Nat → Sx) : ∀ k, relC s g X k ≤ k
  | 0 => Nat.le_refl _
  | k + 1 => by
    have := relC_le s g X k
    unfold relC
    split <;> omega
theorem relX_succ_hit {s g : Int} {k : Nat} {X : Nat → Sx} (h : (X k).no ≠ 0 ∧ ((X k).s : Int) = s ∧ ((X k).g : Int) = g) : updS (relX s g k X) k Sx.z = relX s g (k + 1) X := by
  funext i
  unfold updS relX
  by_cases e : i = k
  · subst e
    rw [if_pos rfl, if_pos (by omega)]
    unfold relS
    rw [if_pos h]
  · rw [if_neg e]
    by_cases e2 : i < k
    · rw [if_pos e2, if_pos (by omega)]
    · rw [if_neg e2, if_neg (by omega)]
theorem relX_succ_miss {s g : Int} {k : Nat} {X : Nat → Sx} (h : ¬ ((X k).no ≠ 0 ∧ ((X k).s : Int) = s ∧ ((X k).g : Int) = g)) : relX s g k X = relX s g (k + 1) X := by
  funext i
  unfold relX
  by_cases e : i = k
  · subst e
    rw [if_neg (by omega), if_pos (by omega)]
    unfold relS
    rw [if_neg h]
  · by_cases e2 : i < k
    · rw [if_pos e2, if_pos (by omega)]
    · rw [if_neg e2, if_neg (by omega)]
theorem relX_at (s g : Int) (k : Nat) (X : Nat → Sx) : relX s g k X k = X k := by
  unfold relX
  rw [if_neg (by omega)]
end Go.Proofs.Ytoofgcdilgfclaa
namespace Go.Proofs.Ytoofgcdilgfclaa
open Go.RowKit Go.Sort
set_option maxRecDepth 100000
set_option maxHeartbeats 1000000

end Go.Proofs.Ytoofgcdilgfclaa
namespace Go.Proofs.Ytoofgcdilgfclaa
open Go.RowKit Go.Sort
set_option maxRecDepth 100000
set_option maxHeartbeats 2000000

section
variable {w w' : World} {r p sb last : Nat} {S : List Nat} {d : Disk} {wr : Nat} {X : Nat → Sx}
end
end Go.Proofs.Ytoofgcdilgfclaa
namespace Go.Proofs.Ytoofgcdilgfclaa
open Go.RowKit Go.Sort
set_option maxRecDepth 100000
set_option maxHeartbeats 2000000

theorem cell_put4 {w : World} {b g k : Nat} {x : Value} (h : w.cell? ⟨g, k, none⟩ = some x) (hne : g ≠ b) (k1 k2 k3 k4 : Nat) (v1 v2 v3 v4 : Value) :
    ((((w.setCell ⟨b, k1, none⟩ v1).setCell ⟨b, k2, none⟩ v2).setCell ⟨b, k3, none⟩ v3).setCell ⟨b, k4, none⟩ v4).cell? ⟨g, k, none⟩ = some x :=
  (World.cell?_of_block (w := w) ((set_other hne _ _).trans ((set_other hne _ _).trans ((set_other hne _ _).trans (set_other hne _ _))))).trans h
/-- What the ring's blocks say. -/
def RingOn (d : Disk) (R : Nat → Option (Nat × It)) : Prop := ∀ k, k < 16 → (R k = none ∧ ∀ j, j < 160 → d.now (80 + k) j = 0) ∨ ∃ no x, R k = some (no, x) ∧ x.Ok ∧ 1 ≤ no ∧ no < 281474976710656 ∧ ∀ j, j < 160 → d.now (80 + k) j = itS no x j
def numOf : Option (Nat × It) → Nat
  | none => 0
  | some (n, _) => n
def lastOf (R : Nat → Option (Nat × It)) : Nat → Nat
  | 0 => 0
  | k + 1 => max (lastOf R k) (numOf (R k))
def SaysR (x : Sx) (o : Option (Nat × It)) : Prop := x.no = numOf o ∧ ∀ n y, o = some (n, y) → x.it = y
theorem lastOf_lt {d : Disk} {R : Nat → Option (Nat × It)} (h : RingOn d R) : ∀ k, k ≤ 16 → lastOf R k < 281474976710656
  | 0, _ => by show 0 < _; omega
  | k + 1, hk => by
    have := lastOf_lt h k (by omega)
    have h2 : numOf (R k) < 281474976710656 := by
      rcases h k (by omega) with ⟨e, _⟩ | ⟨no, x, e, _, _, h3, _⟩
      · rw [e]; show 0 < _; omega
      · rw [e]; exact h3
    show max _ _ < _
    omega
end Go.Proofs.Ytoofgcdilgfclaa
