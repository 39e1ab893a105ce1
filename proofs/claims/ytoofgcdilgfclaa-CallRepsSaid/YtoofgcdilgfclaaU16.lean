import Derived.Test.YtoofgcdilgfclaaU15
namespace Go.Proofs.Ytoofgcdilgfclaa
open Go.RowKit Go.Sort
set_option maxRecDepth 100000
set_option maxHeartbeats 2000000

theorem infoIntent : (Try.prog.info? 35).map (fun i => (i.zero, i.size, i.bytes)) = some (some (.agg #[.int .i64 0, .int .i64 0, .slice none 0 0]), 3, 40) := by kernel_rfl
/-- A piece's cells, from a place on. -/
def ItX (W : World) (x : Nat → Option Value) (p : It) : Prop := ∃ A c, x 0 = some (.int .i64 (p.s : Int)) ∧ x 1 = some (.int .i64 (p.g : Int)) ∧ x 2 = some (.slice A 128 c) ∧ DatI W A p.D
theorem ItX.keep {w w' : World} {x : Nat → Option Value} {p : It} (h : ItX w x p) (k : ∀ (g : Nat) (cs : Array Value), w.heap[g]? = some (Obj.cells cs 5 (0, 0)) → w'.heap[g]? = w.heap[g]?) : ItX w' x p := by
  obtain ⟨A, c, a, b, d, f⟩ := h
  exact ⟨A, c, a, b, d, f.keep k⟩
theorem ItX.congr {w : World} {x y : Nat → Option Value} {p : It} (h : ItX w x p) (e : ∀ k, k < 3 → y k = x k) : ItX w y p := by
  obtain ⟨A, c, a, b, d, g⟩ := h
  exact ⟨A, c, (e 0 (by omega)).trans a, (e 1 (by omega)).trans b, (e 2 (by omega)).trans d, g⟩
/-- Pieces in a row of one's own. -/
def LI (W : World) (B : Nat) (v : Value) (l : List It) : Prop := ∃ xs, W.ownsRow B 35 3 v l.length xs ∧ ∀ i p, l[i]? = some p → ItX W (fun k => xs[i * 3 + k]?) p
theorem LI.nil {W : World} {B : Nat} : LI W B (.slice none 0 0) [] := ⟨[], ⟨rfl, Or.inl ⟨rfl, rfl⟩⟩, fun i p hi => by simp at hi⟩
theorem LI.below {w w' : World} {B : Nat} {v : Value} {l : List It} (h : LI w B v l) (b : Below w.heap.size w w') : LI w' B v l := by
  obtain ⟨xs, ⟨h1, h2⟩, h3⟩ := h
  refine ⟨xs, ⟨h1, ?_⟩, fun i p hi => (h3 i p hi).keep (fun g _ hg => b.block g (heap_lt hg))⟩
  rcases h2 with h2 | ⟨g, cap, cur, hv, hg, hh, r⟩
  · exact Or.inl h2
  · exact Or.inr ⟨g, cap, cur, hv, hg, (b.block _ (heap_lt hh)).trans hh, r⟩
/-- append of one piece to a row of one's own. -/
theorem append_it (w : World) {ops : Array Oper} {rest : List Oper} {o : Oper} {a : Act} {Q : Exit → Act → World → Prop} (hgd : o.guard = none) (s x : Operand)
    (ho : o.op = .call { callee := .builtin .append, args := #[s, x], argTypes := #[37, 37] })
    (base : Nat) (v : Value) (l : List It) (p : It) (hs : a.eval s = v) (hl : LI w base v l) (g : Nat) (A : Option Addr) (c : Nat) (hx : a.eval x = .slice (some ⟨g, 0, none⟩) 1 1)
    (hp : IV w g (p.s : Int) (p.g : Int) A 128 c) (hd : DatI w A p.D) (hn : l.length ≤ 1000000) (hbase : base ≤ w.heap.size)
    (h : ∀ v' w', LI w' base v' (l ++ [p]) → (∀ w0, Below base w0 w → Below base w0 w') → (∃ S0, Turn S0 w w' ∧ ∀ k ∈ S0, base ≤ k ∧ ∃ cs, w.heap[k]? = some (Obj.cells cs 35 (0, 0))) → wpList Try.prog ops Q rest (a.put o.dst v') w') : wpList Try.prog ops Q (o :: rest) a w := by
  obtain ⟨i0, hi0, hz0, hz1, hz2⟩ := info_parts infoIntent
  obtain ⟨xs, hown, hxs⟩ := hl
  have hlen : xs.length = l.length * 3 := hown.1
  refine wpList_append_lies w hgd s x 37 ho base 35 i0 (.agg #[.int .i64 0, .int .i64 0, .slice none 0 0]) 3 40 Try.underlying37 hi0 hz0 hz1 hz2 rfl (by decide) v l.length xs hs hown ⟨g, 0, none⟩ 1 1 [.int .i64 (p.s : Int), .int .i64 (p.g : Int), .slice A 128 c] hx rfl (fun j u hj => ?_) (fun u hu => ?_) (by omega) (by unfold maxLen; omega) (by omega) hbase w.heap.size rfl (fun g' cap w' h2 h3 h4 h5 => ?_)
  · match j, hj with
    | 0, hj => simp at hj; subst hj; exact hp.c0
    | 1, hj => simp at hj; subst hj; exact hp.c1
    | 2, hj => simp at hj; subst hj; exact hp.c2
  · simp at hu; rcases hu with rfl | rfl | rfl <;> rfl
  · have hbytes : ∀ (g : Nat) (cs : Array Value), w.heap[g]? = some (Obj.cells cs 5 (0, 0)) → w'.heap[g]? = w.heap[g]? := fun k cs hk => h3.block k (heap_lt hk) (by
      intro e
      rcases hown.2 with ⟨rfl, _⟩ | ⟨g1, cap1, cur, rfl, _, hh, _⟩
      · simp [Value.ownBlock] at e
      · simp [Value.ownBlock] at e; subst e; rw [hh] at hk; cases hk)
    refine h _ w' ⟨_, by simpa using h2, fun i q hi => ?_⟩ (fun w0 hb => Below.grown hb h3 hbase (own_ge hown)) (by
      rcases hown.2 with ⟨rfl, _⟩ | ⟨g1, cap1, cur, rfl, hg1, hh, _⟩
      · exact ⟨[], ⟨h3.os, h3.tape, h3.output, h3.size, fun k hk _ => h3.block k hk (by simp [Value.ownBlock])⟩, fun k hk => by cases hk⟩
      · exact ⟨[g1], ⟨h3.os, h3.tape, h3.output, h3.size, fun k hk hn => h3.block k hk (by simp [Value.ownBlock]; intro e; exact hn (by simp [e]))⟩, fun k hk => by rw [List.mem_singleton] at hk; subst hk; exact ⟨hg1, cur, hh⟩⟩)
    by_cases hil : i < l.length
    · rw [List.getElem?_append_left hil] at hi
      refine ((hxs i q hi).keep hbytes).congr (fun k hk => ?_)
      show (xs ++ _)[i * 3 + k]? = xs[i * 3 + k]?
      rw [List.getElem?_append_left (by omega)]
    · rw [List.getElem?_append_right (by omega)] at hi
      have hi0 : i = l.length := by
        have := (List.getElem?_eq_some_iff.1 hi).1
        simp at this
        omega
      subst hi0
      simp at hi
      subst hi
      have e : ∀ k, (xs ++ [Value.int .i64 (p.s : Int), .int .i64 (p.g : Int), .slice A 128 c])[l.length * 3 + k]? = [Value.int .i64 (p.s : Int), .int .i64 (p.g : Int), .slice A 128 c][k]? := fun k => by
        rw [List.getElem?_append_right (by omega), show l.length * 3 + k - xs.length = k by omega]
      exact ⟨A, c, e 0, e 1, e 2, hd.keep hbytes⟩
/-- Pieces, as they are told. -/
def IL (W : World) (B : Nat) (v : Value) (l : List It) : Prop := (l = [] ∧ ∃ A c, v = .slice A 0 c) ∨ ∃ b c cur, v = .slice (some ⟨b, 0, none⟩) l.length c ∧ B ≤ b ∧ W.heap[b]? = some (.cells cur 35 (0, 0)) ∧ ∀ i p, l[i]? = some p → ItX W (fun k => cur[i * 3 + k]?) p
theorem LI.pl {W : World} {B : Nat} {v : Value} {l : List It} (h : LI W B v l) : IL W B v l := by
  obtain ⟨xs, ⟨h1, h2⟩, h3⟩ := h
  rcases h2 with ⟨rfl, h0⟩ | ⟨g, cap, cur, rfl, hg, hh, hc, _, hsz, htake⟩
  · exact Or.inl ⟨List.length_eq_zero_iff.1 h0, _, _, rfl⟩
  · refine Or.inr ⟨g, cap, cur, rfl, hg, hh, fun i p hi => (h3 i p hi).congr (fun k hk => ?_)⟩
    have hi' := (List.getElem?_eq_some_iff.1 hi).1
    show cur[i * 3 + k]? = xs[i * 3 + k]?
    rw [← htake, List.getElem?_take_of_lt (by omega), Array.getElem?_toList]
theorem IL.form {W : World} {B : Nat} {v : Value} {l : List It} (h : IL W B v l) : ∃ A c, v = .slice A l.length c := by
  rcases h with ⟨rfl, A, c, rfl⟩ | ⟨b, c, cur, rfl, _⟩
  · exact ⟨A, c, rfl⟩
  · exact ⟨_, c, rfl⟩
theorem IL.keep {w w' : World} {B : Nat} {v : Value} {l : List It} (h : IL w B v l) (k : ∀ (g : Nat) (cs : Array Value) (t : TypeId), w.heap[g]? = some (Obj.cells cs t (0, 0)) → (t = 5 ∨ t = 35) → w'.heap[g]? = w.heap[g]?) : IL w' B v l := by
  rcases h with h | ⟨b, c, cur, hv, hb, hh, hx⟩
  · exact Or.inl h
  · exact Or.inr ⟨b, c, cur, hv, hb, (k b _ _ hh (Or.inr rfl)).trans hh, fun i p hi => (hx i p hi).keep (fun g cs hg => k g cs _ hg (Or.inl rfl))⟩
theorem IL.below {w w' : World} {B : Nat} {v : Value} {l : List It} (h : IL w B v l) (b : Below w.heap.size w w') : IL w' B v l := h.keep (fun g _ _ hg _ => b.block g (heap_lt hg))
theorem IL.mono {w : World} {B B' : Nat} {v : Value} {l : List It} (h : IL w B v l) (hB : B' ≤ B) : IL w B' v l := by
  rcases h with h | ⟨b, c, cur, hv, hb, r⟩
  · exact Or.inl h
  · exact Or.inr ⟨b, c, cur, hv, Nat.le_trans hB hb, r⟩
/-- One of them, read. -/
theorem IL.at {w : World} {B : Nat} {v : Value} {l : List It} {i : Nat} {p : It} (h : IL w B v l) (hi : l[i]? = some p) : ∃ b c A d, v = .slice (some ⟨b, 0, none⟩) l.length c ∧ B ≤ b ∧ b < w.heap.size ∧ w.cell? ⟨b, i * 3, none⟩ = some (.int .i64 (p.s : Int)) ∧ w.cell? ⟨b, i * 3 + 1, none⟩ = some (.int .i64 (p.g : Int)) ∧ w.cell? ⟨b, i * 3 + 2, none⟩ = some (.slice A 128 d) ∧ DatI w A p.D := by
  rcases h with ⟨rfl, _⟩ | ⟨b, c, cur, hv, hb, hh, hx⟩
  · simp at hi
  · obtain ⟨A, d, a0, a1, a2, a4⟩ := hx i p hi
    exact ⟨b, c, A, d, hv, hb, heap_lt hh, (cell_of_block hh).trans a0, (cell_of_block hh).trans a1, (cell_of_block hh).trans a2, a4⟩
theorem LI.form {W : World} {B : Nat} {v : Value} {l : List It} (h : LI W B v l) : ∃ A c, v = .slice A l.length c := by
  obtain ⟨xs, ⟨h1, h2⟩, h3⟩ := h
  rcases h2 with ⟨rfl, h0⟩ | ⟨g, cap, cur, rfl, _⟩
  · rw [h0]; exact ⟨none, 0, rfl⟩
  · exact ⟨_, cap, rfl⟩
theorem LI.mono {W : World} {B B' : Nat} {v : Value} {l : List It} (h : LI W B v l) (hB : B' ≤ B) : LI W B' v l := by
  obtain ⟨xs, ⟨h1, h2⟩, h3⟩ := h
  refine ⟨xs, ⟨h1, ?_⟩, h3⟩
  rcases h2 with h2 | ⟨g, cap, cur, hv, hg, r⟩
  · exact Or.inl h2
  · exact Or.inr ⟨g, cap, cur, hv, Nat.le_trans hB hg, r⟩

/-- Live: those that are live, by their numbers. -/
def ILiveRet (X : Nat → Sx) (w : World) (e : Ending) (w' : World) : Prop := ∃ v L, e = .returned v ∧ LI w' w.heap.size v (L.map Sx.it) ∧ L.Perm (lv X 16) ∧ SoN L ∧ Below w.heap.size w w'
end Go.Proofs.Ytoofgcdilgfclaa
