import Derived.Test.YtoofgcdilgfclaaU13
import Derived.Deep.RegionHeld
namespace Go.Proofs.Ytoofgcdilgfclaa
open Go.RowKit Go.Sort
set_option maxRecDepth 100000
set_option maxHeartbeats 1000000

/-- What is kept, of a list of numbers. -/
def keepF (xs : List Int) (j : Nat) : Bool := decide ((j : Int) ∈ xs)
theorem keepF_take {xs : List Int} {i : Nat} {x : Int} (h : xs[i]? = some x) (j : Nat) : keepF (xs.take (i + 1)) j = (if (j : Int) = x then true else keepF (xs.take i) j) := by
  unfold keepF
  rw [List.take_add_one, h]
  by_cases e : (j : Int) = x
  · rw [if_pos e]; simp [e]
  · rw [if_neg e]; simp [e]
theorem kept_take {f : Nat → Bool} {l : List (Nat × Blk)} {i : Nat} {x : Nat × Blk} (h : l[i]? = some x) (D : Nat → Blk) :
    (keptAt f 0 (l.take (i + 1))).foldl upd D = if f i then upd ((keptAt f 0 (l.take i)).foldl upd D) x else (keptAt f 0 (l.take i)).foldl upd D := by
  have hi := (List.getElem?_eq_some_iff.1 h).1
  rw [List.take_add_one, h, keptAt_append, List.length_take, Nat.zero_add, Nat.min_eq_left (by omega)]
  simp only [Option.toList, keptAt]
  split <;> simp [List.foldl_append]
theorem Slab.other {w w' : World} {b N b' o : Nat} {D : Nat → Blk} {u : Value} {cs : Array Value} {t : TypeId} {fr : Nat × Nat} (h : Slab w b N D) (hb : w.heap[b']? = some (.cells cs t fr)) (ht : t ≠ 5) (hne : b ≠ b') (e : w' = w.setCell ⟨b', o, none⟩ u) : Slab w' b N D := by
  subst e; exact h.far hb ht hne
end Go.Proofs.Ytoofgcdilgfclaa
namespace Go.Proofs.Ytoofgcdilgfclaa
open Go.RowKit Go.Sort
set_option maxRecDepth 100000
set_option maxHeartbeats 1000000

/-- A list of which the first are known. -/
def SlabTo (w : World) (b N m : Nat) (D : Nat → Blk) : Prop := ∃ cs, w.heap[b]? = some (.cells cs 22 (0, 0)) ∧ cs.size = N ∧ ∀ k, k < m → ∃ v, cs[k]? = some v ∧ Ref w v (D k)
theorem Arr.to {w : World} {b N : Nat} (h : Arr w b N) (D : Nat → Blk) : SlabTo w b N 0 D := by
  obtain ⟨cs, h1, h2⟩ := h
  exact ⟨cs, h1, h2, fun k hk => absurd hk (Nat.not_lt_zero _)⟩
theorem SlabTo.arr {w : World} {b N m : Nat} {D : Nat → Blk} (h : SlabTo w b N m D) : Arr w b N := by
  obtain ⟨cs, h1, h2, _⟩ := h
  exact ⟨cs, h1, h2⟩
theorem SlabTo.put {w : World} {b N m : Nat} {D : Nat → Blk} {v : Value} (h : SlabTo w b N m D) (hm : m < N) (hr : Ref w v (D m)) : SlabTo (w.setCell ⟨b, m, none⟩ v) b N (m + 1) D := by
  obtain ⟨cs, h1, h2, h3⟩ := h
  have hf := bytes_far (o := m) (u := v) h1 (by decide)
  refine ⟨_, set_block h1 m v, by simpa using h2, fun j hj => ?_⟩
  rw [Array.getElem?_setIfInBounds]
  by_cases e : m = j
  · subst e
    rw [if_pos rfl, if_pos (by omega)]
    exact ⟨v, rfl, hr.keep hf⟩
  · rw [if_neg e]
    obtain ⟨u, hu, hr'⟩ := h3 j (by omega)
    exact ⟨u, hu, hr'.keep hf⟩
theorem kept_no (l : List (Nat × Blk)) (D : Nat → Blk) : (keptAt (keepF []) 0 l).foldl upd D = D := by
  have : keepF [] = fun _ => false := by funext j; simp [keepF]
  rw [this, keptAt_none]
  rfl
end Go.Proofs.Ytoofgcdilgfclaa
namespace Go.Proofs.Ytoofgcdilgfclaa
open Go.RowKit Go.Sort
set_option maxRecDepth 100000
set_option maxHeartbeats 1000000

end Go.Proofs.Ytoofgcdilgfclaa
namespace Go.Proofs.Ytoofgcdilgfclaa
open Go.RowKit Go.Sort
set_option maxRecDepth 100000
set_option maxHeartbeats 1000000

theorem infoInt : (Try.prog.info? 3).map (fun i => (i.zero, i.size, i.bytes)) = some (some (.int .i64 0), 1, 8) := by kernel_rfl
def intsV (xs : List Int) : List Value := xs.map (Value.int .i64)
theorem intsV_snoc (xs : List Int) (x : Int) : intsV (xs ++ [x]) = intsV xs ++ [.int .i64 x] := by simp [intsV]
/-- append of one number to a row of one's own. -/
theorem append_int (w : World) {ops : Array Oper} {rest : List Oper} {o : Oper} {a : Act} {Q : Exit → Act → World → Prop} (hgd : o.guard = none) (s x : Operand)
    (ho : o.op = .call { callee := .builtin .append, args := #[s, x], argTypes := #[47, 47] })
    (base : Nat) (v : Value) (n : Nat) (xs : List Int) (hs : a.eval s = v) (hown : w.ownsRow base 3 1 v n (intsV xs)) (g : Nat) (k : Int) (hx : a.eval x = .slice (some ⟨g, 0, none⟩) 1 1)
    (hc : w.cell? ⟨g, 0, none⟩ = some (.int .i64 k)) (hn : n ≤ 1000000000) (hbase : base ≤ w.heap.size)
    (h : ∀ g' cap w', w'.ownsRow base 3 1 (.slice (some ⟨g', 0, none⟩) (n + 1) cap) (n + 1) (intsV (xs ++ [k])) → w.grownBy w' v.ownBlock → (v.ownBlock = some g' ∨ g' = w.heap.size) → g' < w'.heap.size →
      wpList Try.prog ops Q rest (a.put o.dst (.slice (some ⟨g', 0, none⟩) (n + 1) cap)) w') : wpList Try.prog ops Q (o :: rest) a w := by
  obtain ⟨i0, hi0, hz0, hz1, hz2⟩ := info_parts infoInt
  refine wpList_append_lies w hgd s x 47 ho base 3 i0 (.int .i64 0) 1 8 Try.underlying47 hi0 hz0 hz1 hz2 rfl (by decide) v n (intsV xs) hs hown ⟨g, 0, none⟩ 1 1 [.int .i64 k] hx rfl (fun j u hj => ?_) (fun u hu => ?_) (by omega) (by unfold maxLen; omega) (by omega) hbase w.heap.size rfl (fun g' cap w' h2 h3 h4 h5 => ?_)
  · match j, hj with
    | 0, hj => simp at hj; subst hj; exact hc
  · simp at hu; subst hu; rfl
  · exact h g' cap w' (by rw [intsV_snoc]; exact h2) h3 h4 h5
theorem own_nums {w : World} {B n cap : Nat} {A : Option Addr} {xs : List Int} (h : w.ownsRow B 3 1 (.slice A n cap) n (intsV xs)) : Nums w A xs ∧ xs.length = n := by
  have hl : xs.length = n := by have := h.1; simpa [intsV] using this
  refine ⟨fun i x hi => ?_, hl⟩
  have hi' : i < n := by have := (List.getElem?_eq_some_iff.1 hi).1; omega
  rcases h.2 with ⟨h0, h1⟩ | ⟨g, cap', cur, e, _, hh, _⟩
  · omega
  · cases e
    refine ⟨g, 0, rfl, heap_lt hh, ?_⟩
    have := h.cells (g := g) rfl i (.int .i64 x) (by simp [intsV, hi])
    rw [addr_add] at this
    exact this
theorem own_form {w : World} {B n : Nat} {v : Value} {t : TypeId} {s : Nat} {xs : List Value} (h : w.ownsRow B t s v n xs) : ∃ A cap, v = .slice A n cap ∧ (A = none ∧ n = 0 ∧ cap = 0 ∨ ∃ g, A = some ⟨g, 0, none⟩ ∧ B ≤ g ∧ g < w.heap.size) := by
  rcases h.2 with ⟨rfl, h0⟩ | ⟨g, cap', cur, rfl, hb, hh, _⟩
  · exact ⟨none, 0, by rw [h0], Or.inl ⟨rfl, h0, rfl⟩⟩
  · exact ⟨_, cap', rfl, Or.inr ⟨g, rfl, hb, heap_lt hh⟩⟩
theorem own_ge {w : World} {B n s : Nat} {v : Value} {t : TypeId} {xs : List Value} (h : w.ownsRow B t s v n xs) : ∀ k, v.ownBlock = some k → B ≤ k := by
  intro k hk
  rcases h.2 with ⟨rfl, _⟩ | ⟨g, cap', cur, rfl, hb, _⟩
  · cases hk
  · cases hk; exact hb
theorem Nums.keep {w w' : World} {A : Option Addr} {xs : List Int} (h : Nums w A xs) (b : Below w.heap.size w w') : Nums w' A xs := fun i x hi => by
  obtain ⟨g, o, e, hl, hc⟩ := h i x hi
  exact ⟨g, o, e, Nat.lt_of_lt_of_le hl b.size, (b.cell (p := ⟨g, o + i, none⟩) hl).trans hc⟩

end Go.Proofs.Ytoofgcdilgfclaa
namespace Go.Proofs.Ytoofgcdilgfclaa
open Go.RowKit Go.Sort
set_option maxRecDepth 100000
set_option maxHeartbeats 1000000

/-- A slot: its number, what stands in it, and the bytes that it is said to have. -/
structure Sx where
  no : Nat
  s : Nat
  g : Nat
  A : Option Addr
  n : Nat
  c : Nat
  D : Nat → Nat
def Sx.it (x : Sx) : It := ⟨x.s, x.g, x.D⟩
abbrev Sx.v (x : Sx) : Value := sv (x.no : Int) (x.s : Int) (x.g : Int) x.A x.n x.c
def Sx.z : Sx := ⟨0, 0, 0, none, 0, 0, fun _ => 0⟩
/-- A live one has its bytes. -/
def SxOk (w : World) (x : Sx) : Prop := x.no ≠ 0 → x.n = 128 ∧ DatI w x.A x.D ∧ x.it.Ok
theorem SxOk.z {w : World} : SxOk w Sx.z := fun h => absurd rfl h
theorem SxOk.keep {w w' : World} {x : Sx} (h : SxOk w x) (k : ∀ (g : Nat) (cs : Array Value), w.heap[g]? = some (Obj.cells cs 5 (0, 0)) → w'.heap[g]? = w.heap[g]?) : SxOk w' x := fun hn => by
  obtain ⟨a, b, c⟩ := h hn
  exact ⟨a, b.keep k, c⟩
theorem SxOk.below {w w' : World} {x : Sx} (h : SxOk w x) (b : Below w.heap.size w w') : SxOk w' x := h.keep (fun g _ hb => b.block g (heap_lt hb))
section
variable {w w' : World} {b n : Nat} {X : Nat → Sx}
end
def updS (X : Nat → Sx) (k : Nat) (y : Sx) : Nat → Sx := fun i => if i = k then y else X i
theorem Turn.put4 {S : List Nat} {b : Nat} {w w2 : World} (h : Turn S w w2) (hb : b ∈ S) (k1 k2 k3 k4 : Nat) (v1 v2 v3 v4 : Value) :
    Turn S w ((((w2.setCell ⟨b, k1, none⟩ v1).setCell ⟨b, k2, none⟩ v2).setCell ⟨b, k3, none⟩ v3).setCell ⟨b, k4, none⟩ v4) := by
  have s : ∀ (W : World) (k : Nat) (v : Value), Turn S w W → Turn S w (W.setCell ⟨b, k, none⟩ v) := fun W k v hW => hW.trans (Turn.set _ _ _ _ hb)
  exact s _ _ _ (s _ _ _ (s _ _ _ (s _ _ _ h)))
/-- The first place of which something holds, or -1. -/
def FirstI (n : Nat) (P : Nat → Prop) (k : Int) : Prop := (k = -1 ∧ ∀ i, i < n → ¬ P i) ∨ ∃ i : Nat, k = (i : Int) ∧ i < n ∧ P i ∧ ∀ j, j < i → ¬ P j
def IdxRet (n : Nat) (P : Nat → Prop) (w : World) (e : Ending) (w' : World) : Prop := ∃ k : Int, e = .returned (.int .i64 k) ∧ FirstI n P k ∧ Below w.heap.size w w'
section
variable {w w' : World} {r p sb last : Nat}
end
/-- How many of the first are not live. -/
def zer (X : Nat → Sx) : Nat → Nat
  | 0 => 0
  | k + 1 => zer X k + (if (X k).no = 0 then 1 else 0)
theorem zer_le (X : Nat → Sx) : ∀ k, zer X k ≤ k
  | 0 => Nat.le_refl _
  | k + 1 => by
    have := zer_le X k
    unfold zer
    split <;> omega
/-- What is left of the first behind a Release, and how many went. -/
def relS (s g : Int) (x : Sx) : Sx := if x.no ≠ 0 ∧ (x.s : Int) = s ∧ (x.g : Int) = g then Sx.z else x
def relX (s g : Int) (k : Nat) (X : Nat → Sx) : Nat → Sx := fun i => if i < k then relS s g (X i) else X i
def relC (s g : Int) (X : Nat → Sx) : Nat → Nat
  | 0 => 0
  | k + 1 => relC s g X k + (if (X k).no ≠ 0 ∧ ((X k).s : Int) = s ∧ ((X k).g : Int) = g then 1 else 0)
theorem relC_le (s g : Int) (X : Nat → Sx) : ∀ k, relC s g X k ≤ k
  | 0 => Nat.le_refl _
  | k + 1 => by
    have := relC_le s g X k
    unfold relC
    split <;> omega
theorem relX_succ_hit {s g : Int} {k : Nat} {X : Nat → Sx} (h : (X k).no ≠ 0 ∧ ((X k).s : Int) = s ∧ ((X k).g : Int) = g) : updS (relX s g k X) k Sx.z = relX s g (k + 1) X := by
  funext i
  unfold updS relX
  by_cases e : i = k
  · subst e
    rw [if_pos rfl, if_pos (by omega)]
    unfold relS
    rw [if_pos h]
  · rw [if_neg e]
    by_cases e2 : i < k
    · rw [if_pos e2, if_pos (by omega)]
    · rw [if_neg e2, if_neg (by omega)]
theorem relX_succ_miss {s g : Int} {k : Nat} {X : Nat → Sx} (h : ¬ ((X k).no ≠ 0 ∧ ((X k).s : Int) = s ∧ ((X k).g : Int) = g)) : relX s g k X = relX s g (k + 1) X := by
  funext i
  unfold relX
  by_cases e : i = k
  · subst e
    rw [if_neg (by omega), if_pos (by omega)]
    unfold relS
    rw [if_neg h]
  · by_cases e2 : i < k
    · rw [if_pos e2, if_pos (by omega)]
    · rw [if_neg e2, if_neg (by omega)]
theorem relX_at (s g : Int) (k : Nat) (X : Nat → Sx) : relX s g k X k = X k := by
  unfold relX
  rw [if_neg (by omega)]
end Go.Proofs.Ytoofgcdilgfclaa
namespace Go.Proofs.Ytoofgcdilgfclaa
open Go.RowKit Go.Sort
set_option maxRecDepth 100000
set_option maxHeartbeats 1000000

end Go.Proofs.Ytoofgcdilgfclaa
namespace Go.Proofs.Ytoofgcdilgfclaa
open Go.RowKit Go.Sort
set_option maxRecDepth 100000
set_option maxHeartbeats 2000000

section
variable {w w' : World} {r p sb last : Nat} {S : List Nat} {d : Disk} {wr : Nat} {X : Nat → Sx}
end
end Go.Proofs.Ytoofgcdilgfclaa
namespace Go.Proofs.Ytoofgcdilgfclaa
open Go.RowKit Go.Sort
set_option maxRecDepth 100000
set_option maxHeartbeats 2000000

theorem cell_put4 {w : World} {b g k : Nat} {x : Value} (h : w.cell? ⟨g, k, none⟩ = some x) (hne : g ≠ b) (k1 k2 k3 k4 : Nat) (v1 v2 v3 v4 : Value) :
    ((((w.setCell ⟨b, k1, none⟩ v1).setCell ⟨b, k2, none⟩ v2).setCell ⟨b, k3, none⟩ v3).setCell ⟨b, k4, none⟩ v4).cell? ⟨g, k, none⟩ = some x :=
  (World.cell?_of_block (w := w) ((set_other hne _ _).trans ((set_other hne _ _).trans ((set_other hne _ _).trans (set_other hne _ _))))).trans h
/-- What the ring's blocks say. -/
def RingOn (d : Disk) (R : Nat → Option (Nat × It)) : Prop := ∀ k, k < 16 → (R k = none ∧ ∀ j, j < 160 → d.now (80 + k) j = 0) ∨ ∃ no x, R k = some (no, x) ∧ x.Ok ∧ 1 ≤ no ∧ no < 281474976710656 ∧ ∀ j, j < 160 → d.now (80 + k) j = itS no x j
def numOf : Option (Nat × It) → Nat
  | none => 0
  | some (n, _) => n
def lastOf (R : Nat → Option (Nat × It)) : Nat → Nat
  | 0 => 0
  | k + 1 => max (lastOf R k) (numOf (R k))
def SaysR (x : Sx) (o : Option (Nat × It)) : Prop := x.no = numOf o ∧ ∀ n y, o = some (n, y) → x.it = y
theorem lastOf_lt {d : Disk} {R : Nat → Option (Nat × It)} (h : RingOn d R) : ∀ k, k ≤ 16 → lastOf R k < 281474976710656
  | 0, _ => by show 0 < _; omega
  | k + 1, hk => by
    have := lastOf_lt h k (by omega)
    have h2 : numOf (R k) < 281474976710656 := by
      rcases h k (by omega) with ⟨e, _⟩ | ⟨no, x, e, _, _, h3, _⟩
      · rw [e]; show 0 < _; omega
      · rw [e]; exact h3
    show max _ _ < _
    omega
end Go.Proofs.Ytoofgcdilgfclaa
