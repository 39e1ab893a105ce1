import Derived.Test.YtohmoakahfpjpaaDO
import Derived.Maps.OwnOps
namespace Go.Proofs.Ytohmoakahfpjpaa
open Go.RowKit Go.Sort
set_option maxRecDepth 100000
set_option maxHeartbeats 1000000

/-! Sets of bytes: map[byte]bool. -/
theorem lawByte : Maps.Keyed Try.prog 5 := Maps.int_keyed Try.underlying5
abbrev bkey (c : Nat) : Lit := .int .u8 (c : Int)
abbrev bval (b : Bool) : DataW Unit := .lit (.bool b)
theorem bkey_wf {c : Nat} (h : c < 256) : (bkey c).wf = true := by
  simp [Lit.wf, IntKind.min, IntKind.max, IntKind.signed, IntKind.bits]
  omega
/-- A set in memory: which bytes it tells. -/
def MB (w : World) (mb n : Nat) (f : Nat → Bool) : Prop := ∃ D : DataW Unit, w.ownsMap Try.prog 5 (plainElem Try.prog 4) mb n D ∧ ∀ c, c < 256 → D.atKey (bkey c) (bval false) = bval (f c)
theorem MB.lt {w : World} {mb n : Nat} {f : Nat → Bool} (h : MB w mb n f) : mb < w.heap.size := by
  obtain ⟨D, hD, _⟩ := h
  exact World.ownsMap.lt hD
theorem MB.keep {w w' : World} {mb n : Nat} {f : Nat → Bool} (h : MB w mb n f) (e : w'.heap[mb]? = w.heap[mb]?) : MB w' mb n f := by
  obtain ⟨D, ⟨es, clock, hb, r⟩, h2⟩ := h
  exact ⟨D, ⟨es, clock, e.trans hb, r⟩, h2⟩
theorem MB.block {w : World} {mb n : Nat} {f : Nat → Bool} (h : MB w mb n f) : ∃ es clock, w.heap[mb]? = some (.map es clock) := by
  obtain ⟨D, ⟨es, clock, hb, _⟩, _⟩ := h
  exact ⟨es, clock, hb⟩
theorem MB.made (w : World) : MB (w.alloc (.map #[] 0)) w.heap.size 0 (fun _ => false) :=
  ⟨.map [], World.ownsMap_made w Try.prog _ _, fun _ _ => rfl⟩
theorem bkey_inj {a b : Nat} (h : bkey a = bkey b) : a = b := by
  injection h with _ h
  omega
/-- m[c] = b. -/
theorem MB.store {w : World} {mb n c : Nat} {b : Bool} {f : Nat → Bool} (h : MB w mb n f) (hn : n ≤ 1000000) (hc : c < 256) :
    ∃ w', (Instr.mapUpdate 49 (.map (some mb)) (.int .u8 (c : Int)) (.bool b)).run Try.prog w = .ok () w' ∧ MB w' mb (n + 1) (fun x => if x = c then b else f x) ∧ w.grownBy w' (some mb) := by
  obtain ⟨D, hD, h2⟩ := h
  have hm : Maps.IsMap D := by obtain ⟨es, clock, _, _, _, rfl⟩ := hD; exact ⟨_, rfl⟩
  obtain ⟨w', hrun, h3, h4⟩ := World.ownsMap.store hD lawByte Try.underlying49 (by unfold maxLen; omega) (Maps.keyOf_int_mk Try.underlying5 (bkey_wf hc)) (plainElem_bool (H := Unit) Try.underlying4 b)
  refine ⟨w', hrun, ⟨_, h3, fun x hx => ?_⟩, h4.grown⟩
  by_cases e : x = c
  · subst e
    have := Maps.atKey_put_same hm (show WideAt.IsKeyLit (bkey x) from trivial) (bval b) (bval false)
    rw [this]
    dsimp only
    rw [if_pos rfl]
  · rw [Maps.atKey_put_other (fun he => e (bkey_inj he))]
    dsimp only
    rw [if_neg e]
    exact h2 x hx
theorem zeroBool (w : World) : (zeroValue 4).run Try.prog w = .ok (.bool false) w := by kernel_rfl
/-- m[c]. -/
theorem MB.look {w : World} {mb n c : Nat} {f : Nat → Bool} (h : MB w mb n f) (hc : c < 256) : (Instr.lookup 49 (.map (some mb)) (.int .u8 (c : Int)) false).run Try.prog w = .ok (.bool (f c)) w := by
  obtain ⟨D, ⟨es, clock, hb, F, _, rfl⟩, h2⟩ := h
  have h3 := h2 c hc
  rcases Maps.fit_look false lawByte Try.underlying49 (zeroBool w) hb F (Maps.keyOf_int_mk Try.underlying5 (bkey_wf hc)) with ⟨hrun, _, hat⟩ | ⟨e0, y, _, _, hrun, hRv, hat, _⟩
  · rw [hat] at h3
    injection h3 with h3
    injection h3 with h3
    rw [← h3]
    exact hrun
  · rw [hat] at h3
    have : e0.val = .bool (f c) := by
      unfold plainElem at hRv
      rw [Try.underlying4] at hRv
      split at hRv
      · rename_i x hx
        simp at hRv
        rw [← hRv] at h3
        injection h3 with h3
        injection h3 with h3
        rw [hx, h3]
      · rename_i hh _
        cases hh
      · rename_i hh _
        cases hh
      · cases hRv
    rw [this] at hrun
    exact hrun
/-- a store into a set, at an operation; a literal's, too. -/
theorem map_put (w : World) {ops : Array Oper} {rest : List Oper} {o : Oper} {a : Act} {Q : Exit → Act → World → Prop} (hgd : o.guard = none) (m x v : Operand)
    (ho : o.op = .mapUpdate 49 m x v ∨ o.op = .insert 49 m x v) (mb n c : Nat) (b : Bool) (f : Nat → Bool) (hm : a.eval m = .map (some mb)) (hx : a.eval x = .int .u8 (c : Int)) (hv : a.eval v = .bool b)
    (hb : MB w mb n f) (hn : n ≤ 1000000) (hc : c < 256)
    (h : ∀ w', MB w' mb (n + 1) (fun x => if x = c then b else f x) → w.grownBy w' (some mb) → wpList Try.prog ops Q rest (a.put o.dst undef) w') : wpList Try.prog ops Q (o :: rest) a w := by
  obtain ⟨w', hrun, h1, h2⟩ := hb.store (b := b) hn hc
  refine wpList_plain hgd fun K hK => ?_
  unfold Oper.wp
  rcases ho with ho | ho
  · simp [execOp, ho, hm, hx, hv, hrun, Result.andThen]
    exact hK _ _ (h w' h1 h2)
  · simp [execOp, ho, hm, hx, hv, hrun, Result.andThen]
    exact hK _ _ (h w' h1 h2)
end Go.Proofs.Ytohmoakahfpjpaa
