import Derived.Test.YtanlaannkdiieaaA1c
namespace Go.Proofs.Ytanlaannkdiieaa
open Go.RowKit Go.Sort
set_option maxRecDepth 100000
set_option maxHeartbeats 1000000

/-! Worlds that turn in some blocks alone. -/
structure Turn (S : List Nat) (w w' : World) : Prop where
  os : w'.os = w.os
  tape : w'.tape = w.tape
  output : w'.output = w.output
  size : w.heap.size ≤ w'.heap.size
  block : ∀ k, k < w.heap.size → k ∉ S → w'.heap[k]? = w.heap[k]?

theorem Turn.refl (S : List Nat) (w : World) : Turn S w w := ⟨rfl, rfl, rfl, Nat.le_refl _, fun _ _ _ => rfl⟩
theorem Turn.trans {S : List Nat} {a b c : World} (h : Turn S a b) (k : Turn S b c) : Turn S a c :=
  ⟨k.os.trans h.os, k.tape.trans h.tape, k.output.trans h.output, Nat.le_trans h.size k.size, fun i hi hc => (k.block i (Nat.lt_of_lt_of_le hi h.size) hc).trans (h.block i hi hc)⟩
theorem Turn.mono {S S' : List Nat} {a b : World} (h : Turn S a b) (hs : ∀ k ∈ S, k ∈ S') : Turn S' a b := ⟨h.os, h.tape, h.output, h.size, fun k hk hn => h.block k hk (fun hm => hn (hs k hm))⟩
/-- Two turns: what the second one turns was the first one's, or is new. -/
theorem Turn.then {S S' : List Nat} {a b c : World} (h : Turn S a b) (k : Turn S' b c) (hs : ∀ i ∈ S', i ∈ S ∨ a.heap.size ≤ i) : Turn S a c :=
  ⟨k.os.trans h.os, k.tape.trans h.tape, k.output.trans h.output, Nat.le_trans h.size k.size, fun i hi hc => (k.block i (Nat.lt_of_lt_of_le hi h.size) (fun hm => by rcases hs i hm with h1 | h1; exact hc h1; omega)).trans (h.block i hi hc)⟩
theorem Turn.set (S : List Nat) (w : World) (p : Addr) (v : Value) (hp : p.block ∈ S) : Turn S w (w.setCell p v) :=
  ⟨rfl, rfl, rfl, by simp, fun k _ hk => Below.heap_setCell _ _ _ _ (fun e => hk (e ▸ hp))⟩
theorem Turn.drew (S : List Nat) (w : World) : Turn S w w.drew := ⟨rfl, rfl, rfl, Nat.le_refl _, fun _ _ _ => rfl⟩
theorem Turn.of {S : List Nat} {w w' : World} (h : Below w.heap.size w w') : Turn S w w' := ⟨h.os, h.tape, h.output, h.size, fun k hk _ => h.block k hk⟩
theorem Turn.alloc (S : List Nat) (w : World) (o : Obj) : Turn S w (w.alloc o) := Turn.of ((Below.refl _ _).alloc (Nat.le_refl _) _)
theorem Turn.only {S : List Nat} {w w' : World} {g : Nat} (h : w.grownBy w' (some g)) (hg : g ∈ S) : Turn S w w' :=
  ⟨h.os, h.tape, h.output, h.size, fun k hk hn => h.block k hk (fun e => hn (by cases e; exact hg))⟩
/-- Turned in new blocks alone. -/
theorem Below.of_turn {B : Nat} {S : List Nat} {w0 w w' : World} (h : Below B w0 w) (t : Turn S w w') (hS : ∀ k ∈ S, B ≤ k) (hs : B ≤ w.heap.size) : Below B w0 w' :=
  ⟨t.os.trans h.os, t.tape.trans h.tape, t.output.trans h.output, Nat.le_trans h.size t.size, fun k hk => (t.block k (by omega) (fun hm => by have := hS k hm; omega)).trans (h.block k hk)⟩
theorem set_block {w : World} {g : Nat} {cur : Array Value} {t : TypeId} {fr : Nat × Nat} (h : w.heap[g]? = some (.cells cur t fr)) (o : Nat) (v : Value) : (w.setCell ⟨g, o, none⟩ v).heap[g]? = some (.cells (cur.setIfInBounds o v) t fr) := by
  simp only [World.setCell, Array.getElem?_modify, h]
  simp
theorem set_other {w : World} {g k : Nat} (h : k ≠ g) (o : Nat) (v : Value) : (w.setCell ⟨g, o, none⟩ v).heap[k]? = w.heap[k]? := Below.heap_setCell _ _ _ _ (by rintro rfl; exact h rfl)

/-! A disk, as it is meant. -/
abbrev Blk := Nat → Nat
structure Disk where
  done : Nat → Blk
  pend : List (Nat × Blk)
def upd (D : Nat → Blk) (x : Nat × Blk) : Nat → Blk := fun k => if k = x.1 then x.2 else D k
def Disk.now (d : Disk) : Nat → Blk := d.pend.foldl upd d.done
def Disk.write (d : Disk) (k : Nat) (F : Blk) : Disk := ⟨d.done, d.pend ++ [(k, F)]⟩
def Disk.flush (d : Disk) : Disk := ⟨d.now, []⟩
/-- What of a list is kept, of a place on. -/
def keptAt (f : Nat → Bool) : Nat → List (Nat × Blk) → List (Nat × Blk)
  | _, [] => []
  | i, x :: l => if f i then x :: keptAt f (i + 1) l else keptAt f (i + 1) l
def Disk.crash (d : Disk) (f : Nat → Bool) : Disk := ⟨(keptAt f 0 d.pend).foldl upd d.done, []⟩
def Disk.blank : Disk := ⟨fun _ _ => 0, []⟩
theorem now_write (d : Disk) (k : Nat) (F : Blk) : (d.write k F).now = upd d.now (k, F) := by
  simp [Disk.now, Disk.write, List.foldl_append]
theorem now_flush (d : Disk) : d.flush.now = d.now := rfl
theorem now_crash (d : Disk) (f : Nat → Bool) : (d.crash f).now = (d.crash f).done := rfl
theorem keptAt_append (f : Nat → Bool) : ∀ (l m : List (Nat × Blk)) (i : Nat), keptAt f i (l ++ m) = keptAt f i l ++ keptAt f (i + l.length) m
  | [], m, i => rfl
  | x :: l, m, i => by
    simp only [List.cons_append, keptAt, keptAt_append f l m (i + 1), List.length_cons, show i + 1 + l.length = i + (l.length + 1) by omega]
    split <;> rfl
theorem keptAt_none (l : List (Nat × Blk)) : ∀ i, keptAt (fun _ => false) i l = [] := by
  induction l with
  | nil => intro i; rfl
  | cons x l ih => intro i; simp [keptAt, ih]

/-! A disk in memory. -/
/-- A block's bytes, wherever they lie. -/
def Ref (w : World) (v : Value) (F : Blk) : Prop := ∃ g cap, v = .slice (some ⟨g, 0, none⟩) 160 cap ∧ 160 ≤ cap ∧ Blk8 w g 160 F
def pb (v : Value) : List Nat := match v with | .slice (some a) _ _ => [a.block] | _ => []

theorem lt_size {w : World} {b : Nat} {o : Obj} (h : w.heap[b]? = some o) : b < w.heap.size := heap_lt h
theorem Ref.keep {w w' : World} {v : Value} {F : Blk} (h : Ref w v F) (e : ∀ (g : Nat) (cs : Array Value), w.heap[g]? = some (Obj.cells cs 5 (0, 0)) → w'.heap[g]? = w.heap[g]?) : Ref w' v F := by
  obtain ⟨g, cap, rfl, hc, hb⟩ := h
  obtain ⟨cs, h1, h2⟩ := hb
  exact ⟨g, cap, rfl, hc, cs, (e g cs h1).trans h1, h2⟩
theorem Ref.congr {w : World} {v : Value} {F G : Blk} (h : Ref w v F) (e : ∀ j, j < 160 → F j = G j) : Ref w v G := by
  obtain ⟨g, cap, rfl, hc, hb⟩ := h
  exact ⟨g, cap, rfl, hc, hb.congr e⟩
/-- A world in which the disk's own blocks are as they were, and all bytes. -/
structure Same (S : List Nat) (w w' : World) : Prop where
  bytes : ∀ (g : Nat) (cs : Array Value), w.heap[g]? = some (Obj.cells cs 5 (0, 0)) → w'.heap[g]? = w.heap[g]?
  own : ∀ k ∈ S, w'.heap[k]? = w.heap[k]?

theorem Same.below {S : List Nat} {w w' : World} (b : Below w.heap.size w w') (hS : ∀ k ∈ S, k < w.heap.size) : Same S w w' := ⟨fun g _ h => b.block g (heap_lt h), fun k hk => b.block k (hS k hk)⟩
/-- What an act on a disk does to the world. -/
structure Step (S S' : List Nat) (w w' : World) : Prop where
  turn : Turn S w w'
  blocks : ∀ k ∈ S', k ∈ S ∨ w.heap.size ≤ k
theorem Step.refl (S : List Nat) (w : World) : Step S S w w := ⟨Turn.refl _ _, fun _ h => Or.inl h⟩
theorem Step.trans {S S' S2 : List Nat} {a b c : World} (h : Step S S' a b) (k : Step S' S2 b c) : Step S S2 a c :=
  ⟨h.turn.then k.turn h.blocks, fun i hi => by
    rcases k.blocks i hi with h1 | h1
    · exact h.blocks i h1
    · exact Or.inr (Nat.le_trans h.turn.size h1)⟩
theorem Step.below {S S' : List Nat} {a b c : World} (h : Step S S' a b) (k : Below b.heap.size b c) : Step S S' a c := ⟨h.turn.trans (Turn.of k), h.blocks⟩
/-- A disk that was made in the call: what lies ahead of the call stays. -/
theorem Below.step {B : Nat} {S S' : List Nat} {w0 w w' : World} (h : Below B w0 w) (t : Step S S' w w') (hS : ∀ k ∈ S, B ≤ k) (hs : B ≤ w.heap.size) : Below B w0 w' ∧ ∀ k ∈ S', B ≤ k :=
  ⟨Below.of_turn h t.turn hS hs, fun k hk => by rcases t.blocks k hk with h1 | h1; exact hS k h1; omega⟩

end Go.Proofs.Ytanlaannkdiieaa
