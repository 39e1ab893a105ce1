import Derived.Test.YtanlaannkdiieaaD8
namespace Go.Proofs.Ytanlaannkdiieaa
open Go.RowKit Go.Sort
set_option maxRecDepth 100000
set_option maxHeartbeats 1000000

theorem infoInt : (Try.prog.info? 3).map (fun i => (i.zero, i.size, i.bytes)) = some (some (.int .i64 0), 1, 8) := by kernel_rfl
def intsV (xs : List Int) : List Value := xs.map (Value.int .i64)
theorem intsV_snoc (xs : List Int) (x : Int) : intsV (xs ++ [x]) = intsV xs ++ [.int .i64 x] := by simp [intsV]
/-- append of one number to a row of one's own. -/
theorem append_int (w : World) {ops : Array Oper} {rest : List Oper} {o : Oper} {a : Act} {Q : Exit → Act → World → Prop} (hgd : o.guard = none) (s x : Operand)
    (ho : o.op = .call { callee := .builtin .append, args := #[s, x], argTypes := #[30, 30] })
    (base : Nat) (v : Value) (n : Nat) (xs : List Int) (hs : a.eval s = v) (hown : w.ownsRow base 3 1 v n (intsV xs)) (g : Nat) (k : Int) (hx : a.eval x = .slice (some ⟨g, 0, none⟩) 1 1)
    (hc : w.cell? ⟨g, 0, none⟩ = some (.int .i64 k)) (hn : n ≤ 1000000000) (hbase : base ≤ w.heap.size)
    (h : ∀ g' cap w', w'.ownsRow base 3 1 (.slice (some ⟨g', 0, none⟩) (n + 1) cap) (n + 1) (intsV (xs ++ [k])) → w.grownBy w' v.ownBlock → (v.ownBlock = some g' ∨ g' = w.heap.size) → g' < w'.heap.size →
      wpList Try.prog ops Q rest (a.put o.dst (.slice (some ⟨g', 0, none⟩) (n + 1) cap)) w') : wpList Try.prog ops Q (o :: rest) a w := by
  obtain ⟨i0, hi0, hz0, hz1, hz2⟩ := info_parts infoInt
  refine wpList_append_lies w hgd s x 30 ho base 3 i0 (.int .i64 0) 1 8 Try.underlying30 hi0 hz0 hz1 hz2 rfl (by decide) v n (intsV xs) hs hown ⟨g, 0, none⟩ 1 1 [.int .i64 k] hx rfl (fun j u hj => ?_) (fun u hu => ?_) (by omega) (by unfold maxLen; omega) (by omega) hbase w.heap.size rfl (fun g' cap w' h2 h3 h4 h5 => ?_)
  · match j, hj with
    | 0, hj => simp at hj; subst hj; exact hc
  · simp at hu; subst hu; rfl
  · exact h g' cap w' (by rw [intsV_snoc]; exact h2) h3 h4 h5
theorem own_nums {w : World} {B n cap : Nat} {A : Option Addr} {xs : List Int} (h : w.ownsRow B 3 1 (.slice A n cap) n (intsV xs)) : Nums w A xs ∧ xs.length = n := by
  have hl : xs.length = n := by have := h.1; simpa [intsV] using this
  refine ⟨fun i x hi => ?_, hl⟩
  have hi' : i < n := by have := (List.getElem?_eq_some_iff.1 hi).1; omega
  rcases h.2 with ⟨h0, h1⟩ | ⟨g, cap', cur, e, _, hh, _⟩
  · omega
  · cases e
    refine ⟨g, 0, rfl, heap_lt hh, ?_⟩
    have := h.cells (g := g) rfl i (.int .i64 x) (by simp [intsV, hi])
    rw [addr_add] at this
    exact this
theorem own_form {w : World} {B n : Nat} {v : Value} {t : TypeId} {s : Nat} {xs : List Value} (h : w.ownsRow B t s v n xs) : ∃ A cap, v = .slice A n cap ∧ (A = none ∧ n = 0 ∧ cap = 0 ∨ ∃ g, A = some ⟨g, 0, none⟩ ∧ B ≤ g ∧ g < w.heap.size) := by
  rcases h.2 with ⟨rfl, h0⟩ | ⟨g, cap', cur, rfl, hb, hh, _⟩
  · exact ⟨none, 0, by rw [h0], Or.inl ⟨rfl, h0, rfl⟩⟩
  · exact ⟨_, cap', rfl, Or.inr ⟨g, rfl, hb, heap_lt hh⟩⟩
theorem own_ge {w : World} {B n s : Nat} {v : Value} {t : TypeId} {xs : List Value} (h : w.ownsRow B t s v n xs) : ∀ k, v.ownBlock = some k → B ≤ k := by
  intro k hk
  rcases h.2 with ⟨rfl, _⟩ | ⟨g, cap', cur, rfl, hb, _⟩
  · cases hk
  · cases hk; exact hb
theorem Nums.keep {w w' : World} {A : Option Addr} {xs : List Int} (h : Nums w A xs) (b : Below w.heap.size w w') : Nums w' A xs := fun i x hi => by
  obtain ⟨g, o, e, hl, hc⟩ := h i x hi
  exact ⟨g, o, e, Nat.lt_of_lt_of_le hl b.size, (b.cell (p := ⟨g, o + i, none⟩) hl).trans hc⟩

end Go.Proofs.Ytanlaannkdiieaa
