import Derived.Test.YtoofgcdilgfclaaU13
import Derived.Test.YtoofgcdilgfclaaU14
namespace Go.Proofs.Ytoofgcdilgfclaa
open Go.RowKit Go.Sort
set_option maxRecDepth 100000
set_option maxHeartbeats 1000000

/-- Two pieces that lie one behind the other. -/
def PV2 (w : World) (b : Nat) (s0 g0 i0 s1 g1 i1 : Int) (A0 A1 : Option Addr) (n0 c0 n1 c1 : Nat) : Prop :=
  ∃ cur : Array Value, w.heap[b]? = some (.cells cur 31 (0, 0)) ∧ cur[0]? = some (.int .i64 s0) ∧ cur[1]? = some (.int .i64 g0) ∧ cur[2]? = some (.int .i64 i0) ∧ cur[3]? = some (.slice A0 n0 c0) ∧
    cur[4]? = some (.int .i64 s1) ∧ cur[5]? = some (.int .i64 g1) ∧ cur[6]? = some (.int .i64 i1) ∧ cur[7]? = some (.slice A1 n1 c1)
theorem PV2.below {w w' : World} {b n0 c0 n1 c1 : Nat} {s0 g0 i0 s1 g1 i1 : Int} {A0 A1 : Option Addr} (h : PV2 w b s0 g0 i0 s1 g1 i1 A0 A1 n0 c0 n1 c1) (e : Below w.heap.size w w') : PV2 w' b s0 g0 i0 s1 g1 i1 A0 A1 n0 c0 n1 c1 := by
  obtain ⟨cur, h0, r⟩ := h
  exact ⟨cur, (e.block b (heap_lt h0)).trans h0, r⟩
theorem PV2.cells {w : World} {b n0 c0 n1 c1 : Nat} {s0 g0 i0 s1 g1 i1 : Int} {A0 A1 : Option Addr} (h : PV2 w b s0 g0 i0 s1 g1 i1 A0 A1 n0 c0 n1 c1) :
    w.cell? ⟨b, 0, none⟩ = some (.int .i64 s0) ∧ w.cell? ⟨b, 1, none⟩ = some (.int .i64 g0) ∧ w.cell? ⟨b, 2, none⟩ = some (.int .i64 i0) ∧ w.cell? ⟨b, 3, none⟩ = some (.slice A0 n0 c0) ∧
    w.cell? ⟨b, 4, none⟩ = some (.int .i64 s1) ∧ w.cell? ⟨b, 5, none⟩ = some (.int .i64 g1) ∧ w.cell? ⟨b, 6, none⟩ = some (.int .i64 i1) ∧ w.cell? ⟨b, 7, none⟩ = some (.slice A1 n1 c1) ∧ (∀ k, w.frozen? ⟨b, k, none⟩ = false) ∧ b < w.heap.size := by
  obtain ⟨cur, h, a0, a1, a2, a3, a4, a5, a6, a7⟩ := h
  exact ⟨(cell_of_block h).trans a0, (cell_of_block h).trans a1, (cell_of_block h).trans a2, (cell_of_block h).trans a3, (cell_of_block h).trans a4, (cell_of_block h).trans a5, (cell_of_block h).trans a6, (cell_of_block h).trans a7, fun k => free_of_block h, heap_lt h⟩
theorem PV2.swap {w : World} {b n0 c0 n1 c1 : Nat} {s0 g0 i0 s1 g1 i1 : Int} {A0 A1 : Option Addr} (h : PV2 w b s0 g0 i0 s1 g1 i1 A0 A1 n0 c0 n1 c1) (w' : World)
    (e : w' = (((((((w.setCell ⟨b, 4, none⟩ (.int .i64 s0)).setCell ⟨b, 5, none⟩ (.int .i64 g0)).setCell ⟨b, 6, none⟩ (.int .i64 i0)).setCell ⟨b, 7, none⟩ (.slice A0 n0 c0)).setCell ⟨b, 0, none⟩ (.int .i64 s1)).setCell ⟨b, 1, none⟩ (.int .i64 g1)).setCell ⟨b, 2, none⟩ (.int .i64 i1)).setCell ⟨b, 3, none⟩ (.slice A1 n1 c1)) :
    PV2 w' b s1 g1 i1 s0 g0 i0 A1 A0 n1 c1 n0 c0 := by
  subst e
  obtain ⟨cur, h0, a0, a1, a2, a3, a4, a5, a6, a7⟩ := h
  have hz : 7 < cur.size := (Array.getElem?_eq_some_iff.1 a7).1
  refine ⟨_, set_block (set_block (set_block (set_block (set_block (set_block (set_block (set_block h0 4 _) 5 _) 6 _) 7 _) 0 _) 1 _) 2 _) 3 _, ?_, ?_, ?_, ?_, ?_, ?_, ?_, ?_⟩ <;> simp [Array.getElem?_setIfInBounds] <;> first | omega | (rintro rfl; simp at hz)
theorem Turn.put8 {b : Nat} {w w2 : World} (h : Turn [b] w w2) (k1 k2 k3 k4 k5 k6 k7 k8 : Nat) (v1 v2 v3 v4 v5 v6 v7 v8 : Value) :
    Turn [b] w ((((((((w2.setCell ⟨b, k1, none⟩ v1).setCell ⟨b, k2, none⟩ v2).setCell ⟨b, k3, none⟩ v3).setCell ⟨b, k4, none⟩ v4).setCell ⟨b, k5, none⟩ v5).setCell ⟨b, k6, none⟩ v6).setCell ⟨b, k7, none⟩ v7).setCell ⟨b, k8, none⟩ v8) := by
  have s : ∀ (W : World) (k : Nat) (v : Value), Turn [b] w W → Turn [b] w (W.setCell ⟨b, k, none⟩ v) := fun W k v hW => hW.trans (Turn.set _ _ _ _ (by simp))
  exact s _ _ _ (s _ _ _ (s _ _ _ (s _ _ _ (s _ _ _ (s _ _ _ (s _ _ _ (s _ _ _ h)))))))
end Go.Proofs.Ytoofgcdilgfclaa
namespace Go.Proofs.Ytoofgcdilgfclaa
open Go.RowKit Go.Sort
set_option maxRecDepth 100000
set_option maxHeartbeats 1000000

theorem infoPiece : (Try.prog.info? 31).map (fun i => (i.zero, i.size, i.bytes)) = some (some (.agg #[.int .i64 0, .int .i64 0, .int .i64 0, .slice none 0 0]), 4, 48) := by kernel_rfl
/-- A piece's cells, from a place on. -/
def PcX (W : World) (x : Nat → Option Value) (p : Pc) : Prop := ∃ A c, x 0 = some (.int .i64 (p.s : Int)) ∧ x 1 = some (.int .i64 (p.g : Int)) ∧ x 2 = some (.int .i64 (p.i : Int)) ∧ x 3 = some (.slice A 32 c) ∧ Dat W A p.D
theorem PcX.keep {w w' : World} {x : Nat → Option Value} {p : Pc} (h : PcX w x p) (k : ∀ (g : Nat) (cs : Array Value), w.heap[g]? = some (Obj.cells cs 5 (0, 0)) → w'.heap[g]? = w.heap[g]?) : PcX w' x p := by
  obtain ⟨A, c, a, b, d, e, f⟩ := h
  exact ⟨A, c, a, b, d, e, f.keep k⟩
theorem PcX.congr {w : World} {x y : Nat → Option Value} {p : Pc} (h : PcX w x p) (e : ∀ k, k < 4 → y k = x k) : PcX w y p := by
  obtain ⟨A, c, a, b, d, f, g⟩ := h
  exact ⟨A, c, (e 0 (by omega)).trans a, (e 1 (by omega)).trans b, (e 2 (by omega)).trans d, (e 3 (by omega)).trans f, g⟩
/-- Pieces in a row of one's own. -/
def LP (W : World) (B : Nat) (v : Value) (l : List Pc) : Prop := ∃ xs, W.ownsRow B 31 4 v l.length xs ∧ ∀ i p, l[i]? = some p → PcX W (fun k => xs[4 * i + k]?) p
theorem LP.nil {W : World} {B : Nat} : LP W B (.slice none 0 0) [] := ⟨[], ⟨rfl, Or.inl ⟨rfl, rfl⟩⟩, fun i p hi => by simp at hi⟩
theorem LP.below {w w' : World} {B : Nat} {v : Value} {l : List Pc} (h : LP w B v l) (b : Below w.heap.size w w') : LP w' B v l := by
  obtain ⟨xs, ⟨h1, h2⟩, h3⟩ := h
  refine ⟨xs, ⟨h1, ?_⟩, fun i p hi => (h3 i p hi).keep (fun g _ hg => b.block g (heap_lt hg))⟩
  rcases h2 with h2 | ⟨g, cap, cur, hv, hg, hh, r⟩
  · exact Or.inl h2
  · exact Or.inr ⟨g, cap, cur, hv, hg, (b.block _ (heap_lt hh)).trans hh, r⟩
/-- append of one piece to a row of one's own. -/
theorem append_pc (w : World) {ops : Array Oper} {rest : List Oper} {o : Oper} {a : Act} {Q : Exit → Act → World → Prop} (hgd : o.guard = none) (s x : Operand)
    (ho : o.op = .call { callee := .builtin .append, args := #[s, x], argTypes := #[33, 33] })
    (base : Nat) (v : Value) (l : List Pc) (p : Pc) (hs : a.eval s = v) (hl : LP w base v l) (g : Nat) (A : Option Addr) (c : Nat) (hx : a.eval x = .slice (some ⟨g, 0, none⟩) 1 1)
    (hp : PV w g (p.s : Int) (p.g : Int) (p.i : Int) A 32 c) (hd : Dat w A p.D) (hn : l.length ≤ 1000000) (hbase : base ≤ w.heap.size)
    (h : ∀ v' w', LP w' base v' (l ++ [p]) → (∀ w0, Below base w0 w → Below base w0 w') → wpList Try.prog ops Q rest (a.put o.dst v') w') : wpList Try.prog ops Q (o :: rest) a w := by
  obtain ⟨i0, hi0, hz0, hz1, hz2⟩ := info_parts infoPiece
  obtain ⟨xs, hown, hxs⟩ := hl
  have hlen : xs.length = l.length * 4 := hown.1
  refine wpList_append_lies w hgd s x 33 ho base 31 i0 (.agg #[.int .i64 0, .int .i64 0, .int .i64 0, .slice none 0 0]) 4 48 Try.underlying33 hi0 hz0 hz1 hz2 rfl (by decide) v l.length xs hs hown ⟨g, 0, none⟩ 1 1 [.int .i64 (p.s : Int), .int .i64 (p.g : Int), .int .i64 (p.i : Int), .slice A 32 c] hx rfl (fun j u hj => ?_) (fun u hu => ?_) (by omega) (by unfold maxLen; omega) (by omega) hbase w.heap.size rfl (fun g' cap w' h2 h3 h4 h5 => ?_)
  · match j, hj with
    | 0, hj => simp at hj; subst hj; exact hp.c0
    | 1, hj => simp at hj; subst hj; exact hp.c1
    | 2, hj => simp at hj; subst hj; exact hp.c2
    | 3, hj => simp at hj; subst hj; exact hp.c3
  · simp at hu; rcases hu with rfl | rfl | rfl | rfl <;> rfl
  · have hbytes : ∀ (g : Nat) (cs : Array Value), w.heap[g]? = some (Obj.cells cs 5 (0, 0)) → w'.heap[g]? = w.heap[g]? := fun k cs hk => h3.block k (heap_lt hk) (by
      intro e
      rcases hown.2 with ⟨rfl, _⟩ | ⟨g1, cap1, cur, rfl, _, hh, _⟩
      · simp [Value.ownBlock] at e
      · simp [Value.ownBlock] at e; subst e; rw [hh] at hk; cases hk)
    refine h _ w' ⟨_, by simpa using h2, fun i q hi => ?_⟩ (fun w0 hb => Below.grown hb h3 hbase (own_ge hown))
    by_cases hil : i < l.length
    · rw [List.getElem?_append_left hil] at hi
      refine ((hxs i q hi).keep hbytes).congr (fun k hk => ?_)
      show (xs ++ _)[4 * i + k]? = xs[4 * i + k]?
      rw [List.getElem?_append_left (by omega)]
    · rw [List.getElem?_append_right (by omega)] at hi
      have hi0 : i = l.length := by
        have := (List.getElem?_eq_some_iff.1 hi).1
        simp at this
        omega
      subst hi0
      simp at hi
      subst hi
      have e : ∀ k, (xs ++ [Value.int .i64 (p.s : Int), .int .i64 (p.g : Int), .int .i64 (p.i : Int), .slice A 32 c])[4 * l.length + k]? = [Value.int .i64 (p.s : Int), .int .i64 (p.g : Int), .int .i64 (p.i : Int), .slice A 32 c][k]? := fun k => by
        rw [List.getElem?_append_right (by omega), show 4 * l.length + k - xs.length = k by omega]
      exact ⟨A, c, e 0, e 1, e 2, e 3, hd.keep hbytes⟩
/-- Pieces, as they are told. -/
def PL (W : World) (B : Nat) (v : Value) (l : List Pc) : Prop := (l = [] ∧ ∃ A c, v = .slice A 0 c) ∨ ∃ b c cur, v = .slice (some ⟨b, 0, none⟩) l.length c ∧ B ≤ b ∧ W.heap[b]? = some (.cells cur 31 (0, 0)) ∧ ∀ i p, l[i]? = some p → PcX W (fun k => cur[4 * i + k]?) p
theorem LP.pl {W : World} {B : Nat} {v : Value} {l : List Pc} (h : LP W B v l) : PL W B v l := by
  obtain ⟨xs, ⟨h1, h2⟩, h3⟩ := h
  rcases h2 with ⟨rfl, h0⟩ | ⟨g, cap, cur, rfl, hg, hh, hc, _, hsz, htake⟩
  · exact Or.inl ⟨List.length_eq_zero_iff.1 h0, _, _, rfl⟩
  · refine Or.inr ⟨g, cap, cur, rfl, hg, hh, fun i p hi => (h3 i p hi).congr (fun k hk => ?_)⟩
    have hi' := (List.getElem?_eq_some_iff.1 hi).1
    show cur[4 * i + k]? = xs[4 * i + k]?
    rw [← htake, List.getElem?_take_of_lt (by omega), Array.getElem?_toList]
theorem PL.form {W : World} {B : Nat} {v : Value} {l : List Pc} (h : PL W B v l) : ∃ A c, v = .slice A l.length c := by
  rcases h with ⟨rfl, A, c, rfl⟩ | ⟨b, c, cur, rfl, _⟩
  · exact ⟨A, c, rfl⟩
  · exact ⟨_, c, rfl⟩
theorem PL.keep {w w' : World} {B : Nat} {v : Value} {l : List Pc} (h : PL w B v l) (k : ∀ (g : Nat) (cs : Array Value) (t : TypeId), w.heap[g]? = some (Obj.cells cs t (0, 0)) → (t = 5 ∨ t = 31) → w'.heap[g]? = w.heap[g]?) : PL w' B v l := by
  rcases h with h | ⟨b, c, cur, hv, hb, hh, hx⟩
  · exact Or.inl h
  · exact Or.inr ⟨b, c, cur, hv, hb, (k b _ _ hh (Or.inr rfl)).trans hh, fun i p hi => (hx i p hi).keep (fun g cs hg => k g cs _ hg (Or.inl rfl))⟩
theorem PL.below {w w' : World} {B : Nat} {v : Value} {l : List Pc} (h : PL w B v l) (b : Below w.heap.size w w') : PL w' B v l := h.keep (fun g _ _ hg _ => b.block g (heap_lt hg))
theorem PL.mono {w : World} {B B' : Nat} {v : Value} {l : List Pc} (h : PL w B v l) (hB : B' ≤ B) : PL w B' v l := by
  rcases h with h | ⟨b, c, cur, hv, hb, r⟩
  · exact Or.inl h
  · exact Or.inr ⟨b, c, cur, hv, Nat.le_trans hB hb, r⟩
/-- One of them, read. -/
theorem PL.at {w : World} {B : Nat} {v : Value} {l : List Pc} {i : Nat} {p : Pc} (h : PL w B v l) (hi : l[i]? = some p) : ∃ b c A d, v = .slice (some ⟨b, 0, none⟩) l.length c ∧ B ≤ b ∧ b < w.heap.size ∧ w.cell? ⟨b, 4 * i, none⟩ = some (.int .i64 (p.s : Int)) ∧ w.cell? ⟨b, 4 * i + 1, none⟩ = some (.int .i64 (p.g : Int)) ∧ w.cell? ⟨b, 4 * i + 2, none⟩ = some (.int .i64 (p.i : Int)) ∧ w.cell? ⟨b, 4 * i + 3, none⟩ = some (.slice A 32 d) ∧ Dat w A p.D := by
  rcases h with ⟨rfl, _⟩ | ⟨b, c, cur, hv, hb, hh, hx⟩
  · simp at hi
  · obtain ⟨A, d, a0, a1, a2, a3, a4⟩ := hx i p hi
    exact ⟨b, c, A, d, hv, hb, heap_lt hh, (cell_of_block hh).trans a0, (cell_of_block hh).trans a1, (cell_of_block hh).trans a2, (cell_of_block hh).trans a3, a4⟩
/-- The greater gen first. -/
def srt : List Pc → List Pc
  | [p, q] => if p.g < q.g then [q, p] else [p, q]
  | l => l
theorem srt2 (p q : Pc) : srt [p, q] = if p.g < q.g then [q, p] else [p, q] := rfl
def SortRet (l : List Pc) (v : Value) (B : Nat) (w : World) (e : Ending) (w' : World) : Prop := e = .returned (.tuple #[]) ∧ PL w' B v (srt l) ∧ (∀ w0, Below B w0 w → Below B w0 w')
theorem PL.pv2 {w : World} {B : Nat} {v : Value} {p q : Pc} (h : PL w B v [p, q]) : ∃ b c A0 c0 A1 c1, v = .slice (some ⟨b, 0, none⟩) 2 c ∧ B ≤ b ∧ PV2 w b (p.s : Int) (p.g : Int) (p.i : Int) (q.s : Int) (q.g : Int) (q.i : Int) A0 A1 32 c0 32 c1 ∧ Dat w A0 p.D ∧ Dat w A1 q.D := by
  rcases h with ⟨h, _⟩ | ⟨b, c, cur, hv, hb, hh, hx⟩
  · cases h
  · obtain ⟨A0, c0, a0, a1, a2, a3, a4⟩ := hx 0 p rfl
    obtain ⟨A1, c1, b0, b1, b2, b3, b4⟩ := hx 1 q rfl
    exact ⟨b, c, A0, c0, A1, c1, hv, hb, ⟨cur, hh, a0, a1, a2, a3, b0, b1, b2, b3⟩, a4, b4⟩
theorem PL.of_pv2 {w : World} {B b c c0 c1 : Nat} {p q : Pc} {A0 A1 : Option Addr} (hb : B ≤ b) (h : PV2 w b (p.s : Int) (p.g : Int) (p.i : Int) (q.s : Int) (q.g : Int) (q.i : Int) A0 A1 32 c0 32 c1) (d0 : Dat w A0 p.D) (d1 : Dat w A1 q.D) : PL w B (.slice (some ⟨b, 0, none⟩) 2 c) [p, q] := by
  obtain ⟨cur, hh, a0, a1, a2, a3, b0, b1, b2, b3⟩ := h
  refine Or.inr ⟨b, c, cur, rfl, hb, hh, fun i x hi => ?_⟩
  match i, hi with
  | 0, hi => simp at hi; subst hi; exact ⟨A0, c0, a0, a1, a2, a3, d0⟩
  | 1, hi => simp at hi; subst hi; exact ⟨A1, c1, b0, b1, b2, b3, d1⟩
end Go.Proofs.Ytoofgcdilgfclaa
