import Derived.Test.YtohmoakahfpjpaaDK
namespace Go.Proofs.Ytohmoakahfpjpaa
open Go.RowKit Go.Sort
set_option maxRecDepth 100000
set_option maxHeartbeats 1000000

/-- A block of values that are known. -/
def BlkT (w : World) (t : TypeId) (g n : Nat) (f : Nat → Value) : Prop := ∃ cs : Array Value, w.heap[g]? = some (.cells cs t (0, 0)) ∧ n ≤ cs.size ∧ ∀ j, j < n → cs[j]? = some (f j)
theorem BlkT.keep {w w' : World} {t : TypeId} {g n : Nat} {f : Nat → Value} (h : BlkT w t g n f) (e : w'.heap[g]? = w.heap[g]?) : BlkT w' t g n f := by
  obtain ⟨cs, hb, hc⟩ := h
  exact ⟨cs, e.trans hb, hc⟩
theorem BlkT.lt {w : World} {t : TypeId} {g n : Nat} {f : Nat → Value} (h : BlkT w t g n f) : g < w.heap.size := by
  obtain ⟨cs, hb, _⟩ := h
  exact heap_lt hb
theorem BlkT.cell {w : World} {t : TypeId} {g n j : Nat} {f : Nat → Value} (h : BlkT w t g n f) (hj : j < n) : w.cell? ⟨g, j, none⟩ = some (f j) := by
  obtain ⟨cs, hb, hs, hc⟩ := h
  exact (cell_of_block hb).trans (hc j hj)
theorem BlkT.free {w : World} {t : TypeId} {g n : Nat} {f : Nat → Value} (h : BlkT w t g n f) (k : Nat) : w.frozen? ⟨g, k, none⟩ = false := by
  obtain ⟨cs, hb, _⟩ := h
  exact free_of_block hb
theorem BlkT.congr {w : World} {t : TypeId} {g n : Nat} {f f' : Nat → Value} (h : BlkT w t g n f) (e : ∀ j, j < n → f j = f' j) : BlkT w t g n f' := by
  obtain ⟨cs, hb, hs, hc⟩ := h
  exact ⟨cs, hb, hs, fun j hj => by rw [← e j hj]; exact hc j hj⟩
theorem BlkT.put {w : World} {t : TypeId} {g n q : Nat} {x : Value} {f : Nat → Value} (h : BlkT w t g n f) (hq : q < n) : BlkT (w.setCell ⟨g, q, none⟩ x) t g n (fun j => if j = q then x else f j) := by
  obtain ⟨cs, hb, hs, hc⟩ := h
  refine ⟨cs.setIfInBounds q x, set_block hb q _, by simpa using hs, fun j hj => ?_⟩
  dsimp only
  rw [Array.getElem?_setIfInBounds]
  by_cases e : q = j
  · subst e
    rw [if_pos rfl, if_pos (by omega), if_pos rfl]
  · rw [if_neg e, if_neg (fun h => e h.symm), hc j hj]
def Bools (w : World) (a : Option Addr) (xs : List Bool) : Prop := ∀ (i : Nat) (x : Bool), xs[i]? = some x → ∃ g o, a = some ⟨g, o, none⟩ ∧ g < w.heap.size ∧ w.cell? ⟨g, o + i, none⟩ = some (.bool x)

theorem keptAt_congr {f f' : Nat → Bool} : ∀ (l : List (Nat × Blk)) (i : Nat), (∀ j, i ≤ j → j < i + l.length → f j = f' j) → keptAt f i l = keptAt f' i l
  | [], _, _ => rfl
  | x :: l, i, h => by
    simp only [keptAt, h i (Nat.le_refl _) (by simp), keptAt_congr l (i + 1) (fun j h1 h2 => h j (by omega) (by simp; omega))]
/-- What the law's loop keeps, said without memory. -/
structure OrdInv (i : Nat) (l : List (Nat × Blk)) (kept : List Int) (last : Nat → Int) : Prop where
  len : l.length = i
  low : ∀ x ∈ kept, 0 ≤ x ∧ x < (i : Int)
  klen : kept.length ≤ i
  eq : ∀ k, (keptAt (keepF kept) 0 l).foldl upd Disk.blank.done k = fun _ => byteOf (last k)
theorem ordInv_nil : OrdInv 0 [] [] (fun _ => 0) := ⟨rfl, by simp, Nat.le_refl _, fun k => by simp [keptAt, Disk.blank]; funext j; rfl⟩
theorem OrdInv.skip {i : Nat} {l : List (Nat × Blk)} {kept : List Int} {last : Nat → Int} (h : OrdInv i l kept last) (x : Nat × Blk) : OrdInv (i + 1) (l ++ [x]) kept last := by
  refine ⟨by simp [h.len], fun y hy => by have := h.low y hy; omega, by have := h.klen; omega, fun k => ?_⟩
  have e : keepF kept i = false := by
    unfold keepF
    rw [decide_eq_false_iff_not]
    intro hm
    have := h.low _ hm
    omega
  rw [keptAt_append, Nat.zero_add, h.len]
  simp only [keptAt, e, Bool.false_eq_true, if_false, List.append_nil]
  exact h.eq k
theorem OrdInv.take {i k : Nat} {l : List (Nat × Blk)} {kept : List Int} {last : Nat → Int} (h : OrdInv i l kept last) : OrdInv (i + 1) (l ++ [(k, fun _ => byteOf ((i : Int) + 1))]) (kept ++ [(i : Int)]) (fun j => if j = k then (i : Int) + 1 else last j) := by
  refine ⟨by simp [h.len], fun y hy => ?_, by have := h.klen; simp; omega, fun j => ?_⟩
  · simp only [List.mem_append, List.mem_singleton] at hy
    rcases hy with hy | rfl
    · have := h.low y hy; omega
    · omega
  · have e : keepF (kept ++ [(i : Int)]) i = true := by simp [keepF]
    have c : keptAt (keepF (kept ++ [(i : Int)])) 0 l = keptAt (keepF kept) 0 l := keptAt_congr l 0 (fun j _ h2 => by
      unfold keepF
      rw [decide_eq_decide]
      simp only [List.mem_append, List.mem_singleton]
      constructor
      · rintro (h' | h')
        · exact h'
        · have hl := h.len
          omega
      · exact Or.inl)
    rw [keptAt_append, Nat.zero_add, h.len, c]
    simp only [keptAt, e, if_true, List.foldl_append, List.foldl_cons, List.foldl_nil, upd]
    by_cases hj : j = k
    · rw [if_pos hj, if_pos hj]
    · rw [if_neg hj, if_neg hj]; exact h.eq j

/-! The law's memory. -/
/-- Two lists of numbers that grow. -/
structure Two (w : World) (B : Nat) (v1 : Value) (xs : List Int) (v2 : Value) (ys : List Int) : Prop where
  own1 : w.ownsRow B 3 1 v1 xs.length (intsV xs)
  own2 : w.ownsRow B 3 1 v2 ys.length (intsV ys)
  ne : ∀ a b, v1.ownBlock = some a → v2.ownBlock = some b → a ≠ b
theorem own_turn {w w' : World} {B n s : Nat} {v : Value} {t : TypeId} {xs : List Value} (h : w.ownsRow B t s v n xs) (e : ∀ k cs, v.ownBlock = some k → w.heap[k]? = some (Obj.cells cs t (0, 0)) → w'.heap[k]? = w.heap[k]?) : w'.ownsRow B t s v n xs := by
  obtain ⟨h1, h2⟩ := h
  refine ⟨h1, ?_⟩
  rcases h2 with h2 | ⟨g, cap, cur, rfl, hg', hh, r⟩
  · exact Or.inl h2
  · exact Or.inr ⟨g, cap, cur, rfl, hg', (e g cur rfl hh).trans hh, r⟩
theorem own_lt {w : World} {B n s : Nat} {v : Value} {t : TypeId} {xs : List Value} (h : w.ownsRow B t s v n xs) : ∀ k, v.ownBlock = some k → k < w.heap.size := by
  intro k hk
  rcases h.2 with ⟨rfl, _⟩ | ⟨g, cap', cur, rfl, hb, hh, _⟩
  · cases hk
  · cases hk; exact heap_lt hh
theorem Two.keep {w w' : World} {B : Nat} {v1 v2 : Value} {xs ys : List Int} (h : Two w B v1 xs v2 ys) (e : ∀ (k : Nat) (cs : Array Value), w.heap[k]? = some (Obj.cells cs 3 (0, 0)) → w'.heap[k]? = w.heap[k]?) : Two w' B v1 xs v2 ys :=
  ⟨own_turn h.own1 (fun k cs _ hk => e k cs hk), own_turn h.own2 (fun k cs _ hk => e k cs hk), h.ne⟩
/-- One more, in the first. -/
theorem Two.ap1 {w Wa w' : World} {B : Nat} {v1 v2 v' : Value} {xs ys : List Int} {x : Int} {g : Nat} (h : Two w B v1 xs v2 ys) (b : Below w.heap.size w Wa) (own : w'.ownsRow B 3 1 v' (xs.length + 1) (intsV (xs ++ [x]))) (gr : Wa.grownBy w' v1.ownBlock) (hv : v'.ownBlock = some g) (hl : v1.ownBlock = some g ∨ w.heap.size ≤ g) : Two w' B v' (xs ++ [x]) v2 ys := by
  refine ⟨by simpa using own, own_turn h.own2 (fun k cs hk hh => (gr.block k (Nat.lt_of_lt_of_le (heap_lt hh) b.size) (fun e => h.ne k k e.symm hk rfl)).trans (b.block k (heap_lt hh))), fun a c ha hc => ?_⟩
  rw [hv] at ha
  injection ha with ha
  subst ha
  rcases hl with hl | hl
  · exact h.ne _ _ hl hc
  · have := own_lt h.own2 c hc; omega
theorem Two.ap2 {w Wa w' : World} {B : Nat} {v1 v2 v' : Value} {xs ys : List Int} {x : Int} {g : Nat} (h : Two w B v1 xs v2 ys) (b : Below w.heap.size w Wa) (own : w'.ownsRow B 3 1 v' (ys.length + 1) (intsV (ys ++ [x]))) (gr : Wa.grownBy w' v2.ownBlock) (hv : v'.ownBlock = some g) (hl : v2.ownBlock = some g ∨ w.heap.size ≤ g) : Two w' B v1 xs v' (ys ++ [x]) := by
  refine ⟨own_turn h.own1 (fun k cs hk hh => (gr.block k (Nat.lt_of_lt_of_le (heap_lt hh) b.size) (fun e => h.ne k k hk e.symm rfl)).trans (b.block k (heap_lt hh))), by simpa using own, fun a c ha hc => ?_⟩
  rw [hv] at hc
  injection hc with hc
  subst hc
  rcases hl with hl | hl
  · exact h.ne _ _ ha hl
  · have := own_lt h.own1 a ha; omega
/-- The disk, the two lists, the array. -/
structure OMem (w0 w : World) (p : Nat) (S : List Nat) (d : Disk) (n la : Nat) (v1 : Value) (xs : List Int) (v2 : Value) (ys : List Int) (f : Nat → Int) : Prop where
  plt : Plt w p S 5 d n
  hS : ∀ k ∈ S, w0.heap.size ≤ k
  below : Below w0.heap.size w0 w
  two : Two w w0.heap.size v1 xs v2 ys
  last : BlkT w 54 la 5 (fun j => .int .i64 (f j))
  hla : w0.heap.size ≤ la
theorem OMem.more {w0 w w' : World} {p : Nat} {S : List Nat} {d : Disk} {n la : Nat} {v1 v2 : Value} {xs ys : List Int} {f : Nat → Int} (h : OMem w0 w p S d n la v1 xs v2 ys f) (b : Below w.heap.size w w') : OMem w0 w' p S d n la v1 xs v2 ys f :=
  ⟨h.plt.below b, h.hS, h.below.trans (b.mono h.below.size), h.two.keep (fun k _ hk => b.block k (heap_lt hk)), h.last.keep (b.block la h.last.lt), h.hla⟩
theorem OMem.step {w0 w w' : World} {p : Nat} {S S' : List Nat} {d d' : Disk} {n n' la : Nat} {v1 v2 : Value} {xs ys : List Int} {f : Nat → Int} (h : OMem w0 w p S d n la v1 xs v2 ys f) (hp : Plt w' p S' 5 d' n') (t : Step S S' w w') : OMem w0 w' p S' d' n' la v1 xs v2 ys f := by
  have hB := Below.step h.below t h.hS h.below.size
  refine ⟨hp, hB.2, hB.1, h.two.keep (fun k cs hk => t.turn.block k (heap_lt hk) (h.plt.notMem hk (by decide) (by decide) (by decide))), h.last.keep ?_, h.hla⟩
  obtain ⟨cs, hb, _⟩ := h.last
  exact t.turn.block la (heap_lt hb) (h.plt.notMem hb (by decide) (by decide) (by decide))
/-- Where a list grows: the rest is as it was. -/
theorem OMem.grown {w0 w Wa w' : World} {p : Nat} {S : List Nat} {d : Disk} {n la : Nat} {v1 v2 v : Value} {xs ys zs : List Int} {f : Nat → Int} (h : OMem w0 w p S d n la v1 xs v2 ys f) (b : Below w.heap.size w Wa) (own : w.ownsRow w0.heap.size 3 1 v zs.length (intsV zs)) (gr : Wa.grownBy w' v.ownBlock) : Plt w' p S 5 d n ∧ Below w0.heap.size w0 w' ∧ BlkT w' 54 la 5 (fun j => .int .i64 (f j)) := by
  have hcur : ∀ k, v.ownBlock = some k → ∃ cs, w.heap[k]? = some (Obj.cells cs 3 (0, 0)) := by
    intro k hk
    rcases own.2 with ⟨rfl, _⟩ | ⟨g, cap', cur, rfl, hb, hh, _⟩
    · cases hk
    · cases hk; exact ⟨cur, hh⟩
  have hne : ∀ (k : Nat) (cs : Array Value) (t : TypeId), w.heap[k]? = some (.cells cs t (0, 0)) → t ≠ 3 → w'.heap[k]? = w.heap[k]? := by
    intro k cs t hk ht
    refine (gr.block k (Nat.lt_of_lt_of_le (heap_lt hk) b.size) ?_).trans (b.block k (heap_lt hk))
    intro e
    obtain ⟨cs', hc⟩ := hcur k e.symm
    rw [hk] at hc
    cases hc
    exact ht rfl
  refine ⟨h.plt.same ⟨fun g cs hg => hne g cs _ hg (by decide), fun k hk => ?_⟩, Below.grown (h.below.trans (b.mono h.below.size)) gr (Nat.le_trans h.below.size b.size) (own_ge own), h.last.keep ?_⟩
  · obtain ⟨cs, t, hc, ht⟩ := h.plt.type hk
    exact hne k cs t hc (by rcases ht with rfl | rfl | rfl <;> decide)
  · obtain ⟨cs, hb, _⟩ := h.last
    exact hne la cs _ hb (by decide)
theorem OMem.ap1 {w0 w Wa w' : World} {p : Nat} {S : List Nat} {d : Disk} {n la g : Nat} {v1 v2 v' : Value} {xs ys : List Int} {x : Int} {f : Nat → Int} (h : OMem w0 w p S d n la v1 xs v2 ys f) (b : Below w.heap.size w Wa) (own : w'.ownsRow w0.heap.size 3 1 v' (xs.length + 1) (intsV (xs ++ [x]))) (gr : Wa.grownBy w' v1.ownBlock) (hv : v'.ownBlock = some g) (hl : v1.ownBlock = some g ∨ w.heap.size ≤ g) : OMem w0 w' p S d n la v' (xs ++ [x]) v2 ys f :=
  have r := h.grown b h.two.own1 gr
  ⟨r.1, h.hS, r.2.1, h.two.ap1 b own gr hv hl, r.2.2, h.hla⟩
theorem OMem.ap2 {w0 w Wa w' : World} {p : Nat} {S : List Nat} {d : Disk} {n la g : Nat} {v1 v2 v' : Value} {xs ys : List Int} {x : Int} {f : Nat → Int} (h : OMem w0 w p S d n la v1 xs v2 ys f) (b : Below w.heap.size w Wa) (own : w'.ownsRow w0.heap.size 3 1 v' (ys.length + 1) (intsV (ys ++ [x]))) (gr : Wa.grownBy w' v2.ownBlock) (hv : v'.ownBlock = some g) (hl : v2.ownBlock = some g ∨ w.heap.size ≤ g) : OMem w0 w' p S d n la v1 xs v' (ys ++ [x]) f :=
  have r := h.grown b h.two.own2 gr
  ⟨r.1, h.hS, r.2.1, h.two.ap2 b own gr hv hl, r.2.2, h.hla⟩
theorem OMem.put {w0 w : World} {p : Nat} {S : List Nat} {d : Disk} {n la k : Nat} {v1 v2 : Value} {xs ys : List Int} {x : Int} {f : Nat → Int} (h : OMem w0 w p S d n la v1 xs v2 ys f) (hk : k < 5) : OMem w0 (w.setCell ⟨la, k, none⟩ (.int .i64 x)) p S d n la v1 xs v2 ys (fun j => if j = k then x else f j) := by
  obtain ⟨cs, hb, _⟩ := h.last
  refine ⟨h.plt.same ⟨bytes_far hb (by decide), fun i hi => set_other (by rintro rfl; exact h.plt.notMem hb (by decide) (by decide) (by decide) hi) _ _⟩, h.hS, h.below.setCell (p := ⟨la, k, none⟩) h.hla _, h.two.keep (fun i cs' hi => set_other (by rintro rfl; rw [hb] at hi; cases hi) _ _), (h.last.put hk).congr (fun j _ => by split <;> rfl), h.hla⟩
end Go.Proofs.Ytohmoakahfpjpaa
