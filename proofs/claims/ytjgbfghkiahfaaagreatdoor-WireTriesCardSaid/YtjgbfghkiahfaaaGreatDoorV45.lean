import Derived.Test.YtjgbfghkiahfaaaGreatDoorV44
import Derived.Test.YtjgbfghkiahfaaaGreatDoorV34
namespace Go.Proofs.YtjgbfghkiahfaaaGreatDoor
open Go.RowKit Go.Sort
set_option maxRecDepth 100000
set_option maxHeartbeats 2000000

theorem BL.keep {w w' : World} {A : Option Addr} {L : List Nat} (h : BL w A L) (k : ∀ (g : Nat) (cs : Array Value), w.heap[g]? = some (Obj.cells cs 5 (0, 0)) → w'.heap[g]? = w.heap[g]?) : BL w' A L := DatN.keep h k
theorem ownX_ge {w : World} {B n s : Nat} {v : Value} {t : TypeId} {xs : List Value} (h : w.ownsRow B t s v n xs) : ∀ k, v.ownBlock = some k → B ≤ k := fun k hk => by
  rcases h.2 with ⟨rfl, _⟩ | ⟨g', cap', cur, rfl, hg, _⟩
  · simp [Value.ownBlock] at hk
  · simp [Value.ownBlock] at hk; omega

/-! Px. -/
theorem infoPx : (Tryz.prog.info? 117).map (fun i => (i.zero, i.size, i.bytes)) = some (some (.agg #[.int .i64 0, .int .i64 0, .int .i64 0, .slice none 0 0]), 4, 48) := by kernel_rfl
def PxX (W : World) (x : Nat → Option Value) (p : Px) : Prop := ∃ A c, x 0 = some (.int .i64 p.s) ∧ x 1 = some (.int .i64 p.g) ∧ x 2 = some (.int .i64 p.i) ∧ x 3 = some (.slice A p.D.length c) ∧ BL W A p.D ∧ By p.D
theorem PxX.keep {w w' : World} {x : Nat → Option Value} {p : Px} (h : PxX w x p) (k : ∀ (g : Nat) (cs : Array Value), w.heap[g]? = some (Obj.cells cs 5 (0, 0)) → w'.heap[g]? = w.heap[g]?) : PxX w' x p := by
  obtain ⟨A, c, a0, a1, a2, a3, b, y⟩ := h
  exact ⟨A, c, a0, a1, a2, a3, b.keep k, y⟩
theorem PxX.congr {w : World} {x y : Nat → Option Value} {p : Px} (h : PxX w x p) (e : ∀ k, k < 4 → y k = x k) : PxX w y p := by
  obtain ⟨A, c, a0, a1, a2, a3, b, z⟩ := h
  exact ⟨A, c, (e 0 (by omega)).trans a0, (e 1 (by omega)).trans a1, (e 2 (by omega)).trans a2, (e 3 (by omega)).trans a3, b, z⟩
/-- One as a value. -/
def PxV (W : World) (v : Value) (p : Px) : Prop := ∃ A c, v = pv p.s p.g p.i A p.D.length c ∧ BL W A p.D ∧ By p.D
theorem PxV.below {w w' : World} {v : Value} {p : Px} (h : PxV w v p) (b : Below w.heap.size w w') : PxV w' v p := by
  obtain ⟨A, c, rfl, h1, h2⟩ := h
  exact ⟨A, c, rfl, h1.below b, h2⟩
/-- In a row of one's own. -/
def PL1 (W : World) (B : Nat) (v : Value) (l : List Px) : Prop := ∃ xs, W.ownsRow B 117 4 v l.length xs ∧ ∀ i p, l[i]? = some p → PxX W (fun k => xs[i * 4 + k]?) p
theorem PL1.nil {W : World} {B : Nat} : PL1 W B (.slice none 0 0) [] := ⟨[], ⟨rfl, Or.inl ⟨rfl, rfl⟩⟩, fun i p hi => by simp at hi⟩
theorem PL1.keep {w w' : World} {B : Nat} {v : Value} {l : List Px} (h : PL1 w B v l) (k : ∀ (g : Nat) (cs : Array Value) (t : TypeId), w.heap[g]? = some (Obj.cells cs t (0, 0)) → (t = 5 ∨ t = 117) → w'.heap[g]? = w.heap[g]?) : PL1 w' B v l := by
  obtain ⟨xs, ⟨h1, h2⟩, h3⟩ := h
  refine ⟨xs, ⟨h1, ?_⟩, fun i p hi => (h3 i p hi).keep (fun g cs hg => k g cs _ hg (Or.inl rfl))⟩
  rcases h2 with h2 | ⟨g, cap, cur, hv, hg, hh, r⟩
  · exact Or.inl h2
  · exact Or.inr ⟨g, cap, cur, hv, hg, (k _ _ _ hh (Or.inr rfl)).trans hh, r⟩
theorem PL1.below {w w' : World} {B : Nat} {v : Value} {l : List Px} (h : PL1 w B v l) (b : Below w.heap.size w w') : PL1 w' B v l := h.keep (fun g _ _ hg _ => b.block g (heap_lt hg))
theorem PL1.turn {w w' : World} {B b : Nat} {v : Value} {l : List Px} {cs : Array Value} {t : TypeId} {fr : Nat × Nat} (h : PL1 w B v l) (hb : w.heap[b]? = some (.cells cs t fr)) (h1 : t ≠ 5) (h2 : t ≠ 117) (k : Turn [b] w w') : PL1 w' B v l :=
  h.keep (fun g cs' t' hg ht => k.block g (heap_lt hg) (fun hm => by
    obtain rfl : g = b := by simpa using hm
    rw [hb] at hg
    cases hg
    rcases ht with rfl | rfl
    · exact h1 rfl
    · exact h2 rfl))
theorem PL1.set {w : World} {B b j : Nat} {v u : Value} {l : List Px} {cs : Array Value} {t : TypeId} {fr : Nat × Nat} (h : PL1 w B v l) (hb : w.heap[b]? = some (.cells cs t fr)) (h1 : t ≠ 5) (h2 : t ≠ 117) : PL1 (w.setCell ⟨b, j, none⟩ u) B v l :=
  h.turn hb h1 h2 (Turn.set _ _ _ _ (by simp))
theorem PL1.form {W : World} {B : Nat} {v : Value} {l : List Px} (h : PL1 W B v l) : ∃ A c, v = .slice A l.length c := by
  obtain ⟨xs, ⟨h1, h2⟩, h3⟩ := h
  rcases h2 with ⟨rfl, h0⟩ | ⟨g, cap, cur, rfl, _⟩
  · rw [h0]; exact ⟨none, 0, rfl⟩
  · exact ⟨_, cap, rfl⟩
/-- As it is read. -/
def PR (W : World) (v : Value) (l : List Px) : Prop := ∃ A c, v = .slice A l.length c ∧ ∀ i p, l[i]? = some p → ∃ b A' c', A = some ⟨b, 0, none⟩ ∧ b < W.heap.size ∧ W.cell? ⟨b, i * 4, none⟩ = some (.int .i64 p.s) ∧ W.cell? ⟨b, i * 4 + 1, none⟩ = some (.int .i64 p.g) ∧ W.cell? ⟨b, i * 4 + 2, none⟩ = some (.int .i64 p.i) ∧ W.cell? ⟨b, i * 4 + 3, none⟩ = some (.slice A' p.D.length c') ∧ BL W A' p.D ∧ By p.D
theorem PR.below {w w' : World} {v : Value} {l : List Px} (h : PR w v l) (e : Below w.heap.size w w') : PR w' v l := by
  obtain ⟨A, c, rfl, h⟩ := h
  refine ⟨A, c, rfl, fun i p hi => ?_⟩
  obtain ⟨b, A', c', h0, hb, a0, a1, a2, a3, hd, hy⟩ := h i p hi
  exact ⟨b, A', c', h0, Nat.lt_of_lt_of_le hb e.size, (e.cell (p := ⟨b, _, none⟩) hb).trans a0, (e.cell (p := ⟨b, _, none⟩) hb).trans a1, (e.cell (p := ⟨b, _, none⟩) hb).trans a2, (e.cell (p := ⟨b, _, none⟩) hb).trans a3, hd.below e, hy⟩
theorem PR.nil {W : World} {A : Option Addr} {c : Nat} : PR W (.slice A 0 c) [] := ⟨A, c, rfl, fun i p hi => by simp at hi⟩
theorem PL1.read {W : World} {B : Nat} {v : Value} {l : List Px} (h : PL1 W B v l) : PR W v l := by
  obtain ⟨xs, ⟨h1, h2⟩, h3⟩ := h
  rcases h2 with ⟨rfl, h0⟩ | ⟨g, cap, cur, rfl, hg, hh, hc, _, hsz, htake⟩
  · rw [List.length_eq_zero_iff.1 h0]; exact PR.nil
  · refine ⟨_, cap, rfl, fun i p hi => ?_⟩
    obtain ⟨A, c, a0, a1, a2, a3, hd, hy⟩ := h3 i p hi
    have hi' := (List.getElem?_eq_some_iff.1 hi).1
    have ck : ∀ (k : Nat) (u : Value), k < 4 → xs[i * 4 + k]? = some u → W.cell? ⟨g, i * 4 + k, none⟩ = some u := fun k u hk hx => by
      rw [cell_of_block hh, ← hx, ← htake, List.getElem?_take_of_lt (by omega), Array.getElem?_toList]
    exact ⟨g, A, c, rfl, heap_lt hh, ck 0 _ (by omega) a0, ck 1 _ (by omega) a1, ck 2 _ (by omega) a2, ck 3 _ (by omega) a3, hd, hy⟩
/-- append of one. -/
theorem PL1.app {w w' : World} {base g cap : Nat} {v : Value} {l : List Px} {p : Px} {xs : List Value} {A : Option Addr} {c : Nat} (hown : w.ownsRow base 117 4 v l.length xs) (hxs : ∀ i p, l[i]? = some p → PxX w (fun k => xs[i * 4 + k]?) p) (hd : BL w A p.D) (hy : By p.D)
    (h2 : w'.ownsRow base 117 4 (.slice (some ⟨g, 0, none⟩) (l.length + 1) cap) (l.length + 1) (xs ++ [.int .i64 p.s, .int .i64 p.g, .int .i64 p.i, .slice A p.D.length c])) (h3 : w.grownBy w' v.ownBlock) : PL1 w' base (.slice (some ⟨g, 0, none⟩) (l.length + 1) cap) (l ++ [p]) := by
  have hlen : xs.length = l.length * 4 := hown.1
  have hbytes : ∀ (g : Nat) (cs : Array Value), w.heap[g]? = some (Obj.cells cs 5 (0, 0)) → w'.heap[g]? = w.heap[g]? := fun k cs hk => h3.block k (heap_lt hk) (by
    intro e
    rcases hown.2 with ⟨rfl, _⟩ | ⟨g1, cap1, cur, rfl, _, hh, _⟩
    · simp [Value.ownBlock] at e
    · simp [Value.ownBlock] at e; subst e; rw [hh] at hk; cases hk)
  refine ⟨_, by simpa using h2, fun i q hi => ?_⟩
  by_cases hil : i < l.length
  · rw [List.getElem?_append_left hil] at hi
    refine ((hxs i q hi).keep hbytes).congr (fun k hk => ?_)
    show (xs ++ _)[i * 4 + k]? = xs[i * 4 + k]?
    rw [List.getElem?_append_left (by omega)]
  · rw [List.getElem?_append_right (by omega)] at hi
    have hi0 : i = l.length := by
      have := (List.getElem?_eq_some_iff.1 hi).1
      simp at this
      omega
    subst hi0
    simp at hi
    subst hi
    have e : ∀ k, (xs ++ [Value.int .i64 p.s, Value.int .i64 p.g, Value.int .i64 p.i, .slice A p.D.length c])[l.length * 4 + k]? = [Value.int .i64 p.s, Value.int .i64 p.g, Value.int .i64 p.i, .slice A p.D.length c][k]? := fun k => by
      rw [List.getElem?_append_right (by omega), show l.length * 4 + k - xs.length = k by omega]
    exact ⟨A, c, e 0, e 1, e 2, e 3, hd.keep hbytes, hy⟩
def POne (w : World) (g : Nat) (p : Px) : Prop := ∃ A c, PV w g p.s p.g p.i A (p.D.length) c ∧ BL w A p.D ∧ By p.D
theorem append_P {base : Nat} (w : World) {ops : Array Oper} {rest : List Oper} {o : Oper} {a : Act} {Q : Exit → Act → World → Prop} (hgd : o.guard = none) (s x : Operand)
    (ho : o.op = .call { callee := .builtin .append, args := #[s, x], argTypes := #[28, 28] })
    (v : Value) (l : List Px) (p : Px) (hs : a.eval s = v) (hl : PL1 w base v l) (g : Nat) (hx : a.eval x = .slice (some ⟨g, 0, none⟩) 1 1)
    (hp : POne w g p) (hn : l.length ≤ 1000000) (hbase : base ≤ w.heap.size)
    (h : ∀ v' w', PL1 w' base v' (l ++ [p]) → (∀ w0, Below base w0 w → Below base w0 w') → base ≤ w'.heap.size → (∃ S0, Turn S0 w w' ∧ ∀ k ∈ S0, base ≤ k ∧ ∃ cs, w.heap[k]? = some (Obj.cells cs 117 (0, 0))) → wpList Tryz.prog ops Q rest (a.put o.dst v') w') : wpList Tryz.prog ops Q (o :: rest) a w := by
  obtain ⟨i0, hi0, hz0, hz1, hz2⟩ := info_parts infoPx
  obtain ⟨xs, hown, hxs⟩ := hl
  obtain ⟨A, c, hp, hd, hy⟩ := hp
  refine wpList_append_lies w hgd s x 28 ho base 117 i0 (.agg #[.int .i64 0, .int .i64 0, .int .i64 0, .slice none 0 0]) 4 48 Tryz.underlying28 hi0 hz0 hz1 hz2 rfl (by decide) v l.length xs hs hown ⟨g, 0, none⟩ 1 1 [.int .i64 p.s, .int .i64 p.g, .int .i64 p.i, .slice A p.D.length c] hx rfl (fun j u hj => ?_) (fun u hu => ?_) (by omega) (by unfold maxLen; omega) (by omega) hbase w.heap.size rfl (fun g' cap w' h2 h3 h4 h5 => ?_)
  · match j, hj with
    | 0, hj => simp at hj; subst hj; exact hp.c0
    | 1, hj => simp at hj; subst hj; exact hp.c1
    | 2, hj => simp at hj; subst hj; exact hp.c2
    | 3, hj => simp at hj; subst hj; exact hp.c3
  · simp at hu; rcases hu with rfl | rfl | rfl | rfl <;> rfl
  · refine h _ w' (PL1.app hown hxs hd hy h2 h3) (fun w0 hb => Below.grown hb h3 hbase (ownX_ge hown)) (Nat.le_trans hbase h3.size) (by
      rcases hown.2 with ⟨rfl, _⟩ | ⟨g1, cap1, cur, rfl, hg1, hh, _⟩
      · exact ⟨[], ⟨h3.os, h3.tape, h3.output, h3.size, fun k hk _ => h3.block k hk (by simp [Value.ownBlock])⟩, fun k hk => by cases hk⟩
      · exact ⟨[g1], ⟨h3.os, h3.tape, h3.output, h3.size, fun k hk hn => h3.block k hk (by simp [Value.ownBlock]; intro e; exact hn (by simp [e]))⟩, fun k hk => by rw [List.mem_singleton] at hk; subst hk; exact ⟨hg1, cur, hh⟩⟩)
theorem step_append_P {base : Nat} (w : World) {ops : Array Oper} {o : Oper} {a : Act} {K : Act → World → Prop} {Q : Exit → Act → World → Prop} {E : Prop} (hgd : o.guard = none) (s x : Operand)
    (ho : o.op = .call { callee := .builtin .append, args := #[s, x], argTypes := #[28, 28] })
    (v : Value) (l : List Px) (p : Px) (hs : a.eval s = v) (hl : PL1 w base v l) (g : Nat) (hx : a.eval x = .slice (some ⟨g, 0, none⟩) 1 1)
    (hp : POne w g p) (hn : l.length ≤ 1000000) (hbase : base ≤ w.heap.size)
    (h : ∀ v' w', PL1 w' base v' (l ++ [p]) → (∀ w0, Below base w0 w → Below base w0 w') → base ≤ w'.heap.size → (∃ S0, Turn S0 w w' ∧ ∀ k ∈ S0, base ≤ k ∧ ∃ cs, w.heap[k]? = some (Obj.cells cs 117 (0, 0))) → K (a.put o.dst v') w') : if Region.wanted o (yielded ops a.tmps) = true then Oper.wp Tryz.prog o a w K Q else E := by
  obtain ⟨i0, hi0, hz0, hz1, hz2⟩ := info_parts infoPx
  obtain ⟨xs, hown, hxs⟩ := hl
  obtain ⟨A, c, hp, hd, hy⟩ := hp
  refine step_append_lies (w := w) hgd s x 28 ho base 117 i0 (.agg #[.int .i64 0, .int .i64 0, .int .i64 0, .slice none 0 0]) 4 48 Tryz.underlying28 hi0 hz0 hz1 hz2 rfl (by decide) v l.length xs hs hown ⟨g, 0, none⟩ 1 1 [.int .i64 p.s, .int .i64 p.g, .int .i64 p.i, .slice A p.D.length c] hx rfl (fun j u hj => ?_) (fun u hu => ?_) (by omega) (by unfold maxLen; omega) (by omega) hbase w.heap.size rfl (fun g' cap w' h2 h3 h4 h5 => ?_)
  · match j, hj with
    | 0, hj => simp at hj; subst hj; exact hp.c0
    | 1, hj => simp at hj; subst hj; exact hp.c1
    | 2, hj => simp at hj; subst hj; exact hp.c2
    | 3, hj => simp at hj; subst hj; exact hp.c3
  · simp at hu; rcases hu with rfl | rfl | rfl | rfl <;> rfl
  · refine h _ w' (PL1.app hown hxs hd hy h2 h3) (fun w0 hb => Below.grown hb h3 hbase (ownX_ge hown)) (Nat.le_trans hbase h3.size) (by
      rcases hown.2 with ⟨rfl, _⟩ | ⟨g1, cap1, cur, rfl, hg1, hh, _⟩
      · exact ⟨[], ⟨h3.os, h3.tape, h3.output, h3.size, fun k hk _ => h3.block k hk (by simp [Value.ownBlock])⟩, fun k hk => by cases hk⟩
      · exact ⟨[g1], ⟨h3.os, h3.tape, h3.output, h3.size, fun k hk hn => h3.block k hk (by simp [Value.ownBlock]; intro e; exact hn (by simp [e]))⟩, fun k hk => by rw [List.mem_singleton] at hk; subst hk; exact ⟨hg1, cur, hh⟩⟩)

/-! Ix. -/
theorem infoIx : (Tryz.prog.info? 56).map (fun i => (i.zero, i.size, i.bytes)) = some (some (.agg #[.int .i64 0, .int .i64 0, .slice none 0 0]), 3, 40) := by kernel_rfl
def IxX (W : World) (x : Nat → Option Value) (p : Ix) : Prop := ∃ A c, x 0 = some (.int .i64 p.s) ∧ x 1 = some (.int .i64 p.g) ∧ x 2 = some (.slice A p.D.length c) ∧ BL W A p.D ∧ By p.D
theorem IxX.keep {w w' : World} {x : Nat → Option Value} {p : Ix} (h : IxX w x p) (k : ∀ (g : Nat) (cs : Array Value), w.heap[g]? = some (Obj.cells cs 5 (0, 0)) → w'.heap[g]? = w.heap[g]?) : IxX w' x p := by
  obtain ⟨A, c, a0, a1, a2, b, y⟩ := h
  exact ⟨A, c, a0, a1, a2, b.keep k, y⟩
theorem IxX.congr {w : World} {x y : Nat → Option Value} {p : Ix} (h : IxX w x p) (e : ∀ k, k < 3 → y k = x k) : IxX w y p := by
  obtain ⟨A, c, a0, a1, a2, b, z⟩ := h
  exact ⟨A, c, (e 0 (by omega)).trans a0, (e 1 (by omega)).trans a1, (e 2 (by omega)).trans a2, b, z⟩
/-- One as a value. -/
def IxV (W : World) (v : Value) (p : Ix) : Prop := ∃ A c, v = iv p.s p.g A p.D.length c ∧ BL W A p.D ∧ By p.D
theorem IxV.below {w w' : World} {v : Value} {p : Ix} (h : IxV w v p) (b : Below w.heap.size w w') : IxV w' v p := by
  obtain ⟨A, c, rfl, h1, h2⟩ := h
  exact ⟨A, c, rfl, h1.below b, h2⟩
/-- In a row of one's own. -/
def IL1 (W : World) (B : Nat) (v : Value) (l : List Ix) : Prop := ∃ xs, W.ownsRow B 56 3 v l.length xs ∧ ∀ i p, l[i]? = some p → IxX W (fun k => xs[i * 3 + k]?) p
theorem IL1.nil {W : World} {B : Nat} : IL1 W B (.slice none 0 0) [] := ⟨[], ⟨rfl, Or.inl ⟨rfl, rfl⟩⟩, fun i p hi => by simp at hi⟩
theorem IL1.keep {w w' : World} {B : Nat} {v : Value} {l : List Ix} (h : IL1 w B v l) (k : ∀ (g : Nat) (cs : Array Value) (t : TypeId), w.heap[g]? = some (Obj.cells cs t (0, 0)) → (t = 5 ∨ t = 56) → w'.heap[g]? = w.heap[g]?) : IL1 w' B v l := by
  obtain ⟨xs, ⟨h1, h2⟩, h3⟩ := h
  refine ⟨xs, ⟨h1, ?_⟩, fun i p hi => (h3 i p hi).keep (fun g cs hg => k g cs _ hg (Or.inl rfl))⟩
  rcases h2 with h2 | ⟨g, cap, cur, hv, hg, hh, r⟩
  · exact Or.inl h2
  · exact Or.inr ⟨g, cap, cur, hv, hg, (k _ _ _ hh (Or.inr rfl)).trans hh, r⟩
theorem IL1.below {w w' : World} {B : Nat} {v : Value} {l : List Ix} (h : IL1 w B v l) (b : Below w.heap.size w w') : IL1 w' B v l := h.keep (fun g _ _ hg _ => b.block g (heap_lt hg))
theorem IL1.turn {w w' : World} {B b : Nat} {v : Value} {l : List Ix} {cs : Array Value} {t : TypeId} {fr : Nat × Nat} (h : IL1 w B v l) (hb : w.heap[b]? = some (.cells cs t fr)) (h1 : t ≠ 5) (h2 : t ≠ 56) (k : Turn [b] w w') : IL1 w' B v l :=
  h.keep (fun g cs' t' hg ht => k.block g (heap_lt hg) (fun hm => by
    obtain rfl : g = b := by simpa using hm
    rw [hb] at hg
    cases hg
    rcases ht with rfl | rfl
    · exact h1 rfl
    · exact h2 rfl))
theorem IL1.set {w : World} {B b j : Nat} {v u : Value} {l : List Ix} {cs : Array Value} {t : TypeId} {fr : Nat × Nat} (h : IL1 w B v l) (hb : w.heap[b]? = some (.cells cs t fr)) (h1 : t ≠ 5) (h2 : t ≠ 56) : IL1 (w.setCell ⟨b, j, none⟩ u) B v l :=
  h.turn hb h1 h2 (Turn.set _ _ _ _ (by simp))
theorem IL1.form {W : World} {B : Nat} {v : Value} {l : List Ix} (h : IL1 W B v l) : ∃ A c, v = .slice A l.length c := by
  obtain ⟨xs, ⟨h1, h2⟩, h3⟩ := h
  rcases h2 with ⟨rfl, h0⟩ | ⟨g, cap, cur, rfl, _⟩
  · rw [h0]; exact ⟨none, 0, rfl⟩
  · exact ⟨_, cap, rfl⟩
/-- As it is read. -/
def IR (W : World) (v : Value) (l : List Ix) : Prop := ∃ A c, v = .slice A l.length c ∧ ∀ i p, l[i]? = some p → ∃ b A' c', A = some ⟨b, 0, none⟩ ∧ b < W.heap.size ∧ W.cell? ⟨b, i * 3, none⟩ = some (.int .i64 p.s) ∧ W.cell? ⟨b, i * 3 + 1, none⟩ = some (.int .i64 p.g) ∧ W.cell? ⟨b, i * 3 + 2, none⟩ = some (.slice A' p.D.length c') ∧ BL W A' p.D ∧ By p.D
theorem IR.below {w w' : World} {v : Value} {l : List Ix} (h : IR w v l) (e : Below w.heap.size w w') : IR w' v l := by
  obtain ⟨A, c, rfl, h⟩ := h
  refine ⟨A, c, rfl, fun i p hi => ?_⟩
  obtain ⟨b, A', c', h0, hb, a0, a1, a2, hd, hy⟩ := h i p hi
  exact ⟨b, A', c', h0, Nat.lt_of_lt_of_le hb e.size, (e.cell (p := ⟨b, _, none⟩) hb).trans a0, (e.cell (p := ⟨b, _, none⟩) hb).trans a1, (e.cell (p := ⟨b, _, none⟩) hb).trans a2, hd.below e, hy⟩
theorem IR.nil {W : World} {A : Option Addr} {c : Nat} : IR W (.slice A 0 c) [] := ⟨A, c, rfl, fun i p hi => by simp at hi⟩
theorem IL1.read {W : World} {B : Nat} {v : Value} {l : List Ix} (h : IL1 W B v l) : IR W v l := by
  obtain ⟨xs, ⟨h1, h2⟩, h3⟩ := h
  rcases h2 with ⟨rfl, h0⟩ | ⟨g, cap, cur, rfl, hg, hh, hc, _, hsz, htake⟩
  · rw [List.length_eq_zero_iff.1 h0]; exact IR.nil
  · refine ⟨_, cap, rfl, fun i p hi => ?_⟩
    obtain ⟨A, c, a0, a1, a2, hd, hy⟩ := h3 i p hi
    have hi' := (List.getElem?_eq_some_iff.1 hi).1
    have ck : ∀ (k : Nat) (u : Value), k < 3 → xs[i * 3 + k]? = some u → W.cell? ⟨g, i * 3 + k, none⟩ = some u := fun k u hk hx => by
      rw [cell_of_block hh, ← hx, ← htake, List.getElem?_take_of_lt (by omega), Array.getElem?_toList]
    exact ⟨g, A, c, rfl, heap_lt hh, ck 0 _ (by omega) a0, ck 1 _ (by omega) a1, ck 2 _ (by omega) a2, hd, hy⟩
/-- append of one. -/
theorem IL1.app {w w' : World} {base g cap : Nat} {v : Value} {l : List Ix} {p : Ix} {xs : List Value} {A : Option Addr} {c : Nat} (hown : w.ownsRow base 56 3 v l.length xs) (hxs : ∀ i p, l[i]? = some p → IxX w (fun k => xs[i * 3 + k]?) p) (hd : BL w A p.D) (hy : By p.D)
    (h2 : w'.ownsRow base 56 3 (.slice (some ⟨g, 0, none⟩) (l.length + 1) cap) (l.length + 1) (xs ++ [.int .i64 p.s, .int .i64 p.g, .slice A p.D.length c])) (h3 : w.grownBy w' v.ownBlock) : IL1 w' base (.slice (some ⟨g, 0, none⟩) (l.length + 1) cap) (l ++ [p]) := by
  have hlen : xs.length = l.length * 3 := hown.1
  have hbytes : ∀ (g : Nat) (cs : Array Value), w.heap[g]? = some (Obj.cells cs 5 (0, 0)) → w'.heap[g]? = w.heap[g]? := fun k cs hk => h3.block k (heap_lt hk) (by
    intro e
    rcases hown.2 with ⟨rfl, _⟩ | ⟨g1, cap1, cur, rfl, _, hh, _⟩
    · simp [Value.ownBlock] at e
    · simp [Value.ownBlock] at e; subst e; rw [hh] at hk; cases hk)
  refine ⟨_, by simpa using h2, fun i q hi => ?_⟩
  by_cases hil : i < l.length
  · rw [List.getElem?_append_left hil] at hi
    refine ((hxs i q hi).keep hbytes).congr (fun k hk => ?_)
    show (xs ++ _)[i * 3 + k]? = xs[i * 3 + k]?
    rw [List.getElem?_append_left (by omega)]
  · rw [List.getElem?_append_right (by omega)] at hi
    have hi0 : i = l.length := by
      have := (List.getElem?_eq_some_iff.1 hi).1
      simp at this
      omega
    subst hi0
    simp at hi
    subst hi
    have e : ∀ k, (xs ++ [Value.int .i64 p.s, Value.int .i64 p.g, .slice A p.D.length c])[l.length * 3 + k]? = [Value.int .i64 p.s, Value.int .i64 p.g, .slice A p.D.length c][k]? := fun k => by
      rw [List.getElem?_append_right (by omega), show l.length * 3 + k - xs.length = k by omega]
    exact ⟨A, c, e 0, e 1, e 2, hd.keep hbytes, hy⟩
def IOne (w : World) (g : Nat) (p : Ix) : Prop := ∃ A c, IV w g p.s p.g A (p.D.length) c ∧ BL w A p.D ∧ By p.D
theorem append_I {base : Nat} (w : World) {ops : Array Oper} {rest : List Oper} {o : Oper} {a : Act} {Q : Exit → Act → World → Prop} (hgd : o.guard = none) (s x : Operand)
    (ho : o.op = .call { callee := .builtin .append, args := #[s, x], argTypes := #[29, 29] })
    (v : Value) (l : List Ix) (p : Ix) (hs : a.eval s = v) (hl : IL1 w base v l) (g : Nat) (hx : a.eval x = .slice (some ⟨g, 0, none⟩) 1 1)
    (hp : IOne w g p) (hn : l.length ≤ 1000000) (hbase : base ≤ w.heap.size)
    (h : ∀ v' w', IL1 w' base v' (l ++ [p]) → (∀ w0, Below base w0 w → Below base w0 w') → base ≤ w'.heap.size → (∃ S0, Turn S0 w w' ∧ ∀ k ∈ S0, base ≤ k ∧ ∃ cs, w.heap[k]? = some (Obj.cells cs 56 (0, 0))) → wpList Tryz.prog ops Q rest (a.put o.dst v') w') : wpList Tryz.prog ops Q (o :: rest) a w := by
  obtain ⟨i0, hi0, hz0, hz1, hz2⟩ := info_parts infoIx
  obtain ⟨xs, hown, hxs⟩ := hl
  obtain ⟨A, c, hp, hd, hy⟩ := hp
  refine wpList_append_lies w hgd s x 29 ho base 56 i0 (.agg #[.int .i64 0, .int .i64 0, .slice none 0 0]) 3 40 Tryz.underlying29 hi0 hz0 hz1 hz2 rfl (by decide) v l.length xs hs hown ⟨g, 0, none⟩ 1 1 [.int .i64 p.s, .int .i64 p.g, .slice A p.D.length c] hx rfl (fun j u hj => ?_) (fun u hu => ?_) (by omega) (by unfold maxLen; omega) (by omega) hbase w.heap.size rfl (fun g' cap w' h2 h3 h4 h5 => ?_)
  · match j, hj with
    | 0, hj => simp at hj; subst hj; exact hp.c0
    | 1, hj => simp at hj; subst hj; exact hp.c1
    | 2, hj => simp at hj; subst hj; exact hp.c2
  · simp at hu; rcases hu with rfl | rfl | rfl <;> rfl
  · refine h _ w' (IL1.app hown hxs hd hy h2 h3) (fun w0 hb => Below.grown hb h3 hbase (ownX_ge hown)) (Nat.le_trans hbase h3.size) (by
      rcases hown.2 with ⟨rfl, _⟩ | ⟨g1, cap1, cur, rfl, hg1, hh, _⟩
      · exact ⟨[], ⟨h3.os, h3.tape, h3.output, h3.size, fun k hk _ => h3.block k hk (by simp [Value.ownBlock])⟩, fun k hk => by cases hk⟩
      · exact ⟨[g1], ⟨h3.os, h3.tape, h3.output, h3.size, fun k hk hn => h3.block k hk (by simp [Value.ownBlock]; intro e; exact hn (by simp [e]))⟩, fun k hk => by rw [List.mem_singleton] at hk; subst hk; exact ⟨hg1, cur, hh⟩⟩)
theorem step_append_I {base : Nat} (w : World) {ops : Array Oper} {o : Oper} {a : Act} {K : Act → World → Prop} {Q : Exit → Act → World → Prop} {E : Prop} (hgd : o.guard = none) (s x : Operand)
    (ho : o.op = .call { callee := .builtin .append, args := #[s, x], argTypes := #[29, 29] })
    (v : Value) (l : List Ix) (p : Ix) (hs : a.eval s = v) (hl : IL1 w base v l) (g : Nat) (hx : a.eval x = .slice (some ⟨g, 0, none⟩) 1 1)
    (hp : IOne w g p) (hn : l.length ≤ 1000000) (hbase : base ≤ w.heap.size)
    (h : ∀ v' w', IL1 w' base v' (l ++ [p]) → (∀ w0, Below base w0 w → Below base w0 w') → base ≤ w'.heap.size → (∃ S0, Turn S0 w w' ∧ ∀ k ∈ S0, base ≤ k ∧ ∃ cs, w.heap[k]? = some (Obj.cells cs 56 (0, 0))) → K (a.put o.dst v') w') : if Region.wanted o (yielded ops a.tmps) = true then Oper.wp Tryz.prog o a w K Q else E := by
  obtain ⟨i0, hi0, hz0, hz1, hz2⟩ := info_parts infoIx
  obtain ⟨xs, hown, hxs⟩ := hl
  obtain ⟨A, c, hp, hd, hy⟩ := hp
  refine step_append_lies (w := w) hgd s x 29 ho base 56 i0 (.agg #[.int .i64 0, .int .i64 0, .slice none 0 0]) 3 40 Tryz.underlying29 hi0 hz0 hz1 hz2 rfl (by decide) v l.length xs hs hown ⟨g, 0, none⟩ 1 1 [.int .i64 p.s, .int .i64 p.g, .slice A p.D.length c] hx rfl (fun j u hj => ?_) (fun u hu => ?_) (by omega) (by unfold maxLen; omega) (by omega) hbase w.heap.size rfl (fun g' cap w' h2 h3 h4 h5 => ?_)
  · match j, hj with
    | 0, hj => simp at hj; subst hj; exact hp.c0
    | 1, hj => simp at hj; subst hj; exact hp.c1
    | 2, hj => simp at hj; subst hj; exact hp.c2
  · simp at hu; rcases hu with rfl | rfl | rfl <;> rfl
  · refine h _ w' (IL1.app hown hxs hd hy h2 h3) (fun w0 hb => Below.grown hb h3 hbase (ownX_ge hown)) (Nat.le_trans hbase h3.size) (by
      rcases hown.2 with ⟨rfl, _⟩ | ⟨g1, cap1, cur, rfl, hg1, hh, _⟩
      · exact ⟨[], ⟨h3.os, h3.tape, h3.output, h3.size, fun k hk _ => h3.block k hk (by simp [Value.ownBlock])⟩, fun k hk => by cases hk⟩
      · exact ⟨[g1], ⟨h3.os, h3.tape, h3.output, h3.size, fun k hk hn => h3.block k hk (by simp [Value.ownBlock]; intro e; exact hn (by simp [e]))⟩, fun k hk => by rw [List.mem_singleton] at hk; subst hk; exact ⟨hg1, cur, hh⟩⟩)

/-! Replies. -/
def RVal (w : World) (v : Value) (p : Rx) : Prop := ∃ A1 c1 A2 c2, v = rpv p.code p.boot (.slice A1 p.ps.length c1) (.slice A2 p.xs.length c2) ∧ PR w (.slice A1 p.ps.length c1) p.ps ∧ IR w (.slice A2 p.xs.length c2) p.xs
theorem RVal.below {w w' : World} {v : Value} {p : Rx} (h : RVal w v p) (b : Below w.heap.size w w') : RVal w' v p := by
  obtain ⟨A1, c1, A2, c2, rfl, h1, h2⟩ := h
  exact ⟨A1, c1, A2, c2, rfl, h1.below b, h2.below b⟩
theorem RVal.no {w : World} : RVal w (rpv 0 0 (.slice none 0 0) (.slice none 0 0)) Rx.no := ⟨none, 0, none, 0, rfl, PR.nil, IR.nil⟩
theorem PR.at {w : World} {A : Option Addr} {n c i : Nat} {l : List Px} (h : PR w (.slice A n c) l) (hi : i < n) : ∃ p b A' c', l[i]? = some p ∧ A = some ⟨b, 0, none⟩ ∧ b < w.heap.size ∧ w.cell? ⟨b, i * 4, none⟩ = some (.int .i64 p.s) ∧ w.cell? ⟨b, i * 4 + 1, none⟩ = some (.int .i64 p.g) ∧ w.cell? ⟨b, i * 4 + 2, none⟩ = some (.int .i64 p.i) ∧ w.cell? ⟨b, i * 4 + 3, none⟩ = some (.slice A' p.D.length c') ∧ BL w A' p.D ∧ By p.D := by
  obtain ⟨A', c', e, h⟩ := h
  injection e with e1 e2 e3
  subst e1 e2
  obtain ⟨p, hp⟩ : ∃ p, l[i]? = some p := ⟨_, List.getElem?_eq_getElem hi⟩
  obtain ⟨b, A', c', r⟩ := h i p hp
  exact ⟨p, b, A', c', hp, r⟩
theorem IR.at {w : World} {A : Option Addr} {n c i : Nat} {l : List Ix} (h : IR w (.slice A n c) l) (hi : i < n) : ∃ p b A' c', l[i]? = some p ∧ A = some ⟨b, 0, none⟩ ∧ b < w.heap.size ∧ w.cell? ⟨b, i * 3, none⟩ = some (.int .i64 p.s) ∧ w.cell? ⟨b, i * 3 + 1, none⟩ = some (.int .i64 p.g) ∧ w.cell? ⟨b, i * 3 + 2, none⟩ = some (.slice A' p.D.length c') ∧ BL w A' p.D ∧ By p.D := by
  obtain ⟨A', c', e, h⟩ := h
  injection e with e1 e2 e3
  subst e1 e2
  obtain ⟨p, hp⟩ : ∃ p, l[i]? = some p := ⟨_, List.getElem?_eq_getElem hi⟩
  obtain ⟨b, A', c', r⟩ := h i p hp
  exact ⟨p, b, A', c', hp, r⟩
end Go.Proofs.YtjgbfghkiahfaaaGreatDoor
