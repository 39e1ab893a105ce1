import Derived.Test.YtajpnbmfeapmcaaL
import Derived.Deep.Slices
namespace Go.Proofs.Ytajpnbmfeapmcaa
open Go.RowKit Go.Sort
set_option maxRecDepth 100000
set_option maxHeartbeats 1000000

/-- 'append([][]byte{}, a...)': new memory for the rows' places, the rows themselves are shared. -/
theorem clone_rows (w w0 : World) {ops : Array Oper} {rest : List Oper} {o : Oper} {a : Act} {Q : Exit → Act → World → Prop}
    (hg : o.guard = none) (s x : Operand) (hop : o.op = Op.call { callee := Callee.builtin Builtin.append, args := #[s, x], argTypes := #[25, 25] })
    (hw : w = w0.alloc (.cells #[] 29)) (hs : a.eval s = .slice (some ⟨w0.heap.size, 0, none⟩) 0 0) (oa n ca : Nat) (hx : a.eval x = .slice (some ⟨oa, 0, none⟩) n ca) (R : Nat → Value)
    (hR : ∀ r, r < n → w0.cell? ⟨oa, r, none⟩ = some (R r)) (h1 : ∀ r, r < n → (R r).oneCell' = true) (n1 : 1 ≤ n) (n2 : n ≤ 64)
    (hK : ∀ g cap w', (∀ r, r < n → w'.cell? ⟨g, r, none⟩ = some (R r)) → (∀ j, w'.frozen? ⟨g, j, none⟩ = false) → w0.heap.size ≤ g → g < w'.heap.size → Below w0.heap.size w0 w' → wpList Try.prog ops Q rest (a.put o.dst (.slice (some ⟨g, 0, none⟩) n cap)) w') :
    wpList Try.prog ops Q (o :: rest) a w := by
  obtain ⟨i0, hi0, hz0, hz1, hz2⟩ := info_parts infoRow
  have hown : w.ownsRow w0.heap.size 29 1 (.slice (some ⟨w0.heap.size, 0, none⟩) 0 0) 0 [] := by
    rw [hw]; exact World.ownsRow_made w0 #[] 0 (Nat.le_refl _) (by unfold maxLen; omega) rfl
  have hb : Below w0.heap.size w0 w := by rw [hw]; exact (Below.refl _ _).alloc (Nat.le_refl _) _
  have hoa : oa < w0.heap.size := cell?_lt (hR 0 (by omega))
  have hl : ((List.range n).map R).length = n * 1 := by simp
  have get : ∀ r, r < n → ((List.range n).map R)[r]? = some (R r) := fun r hr => by simp [hr]
  refine append_mine w hg s x 25 hop w0.heap.size 29 i0 (.slice none 0 0) 1 24 Try.underlying25 hi0 hz0 hz1 hz2 rfl (by decide) _ 0 [] hs hown ⟨oa, 0, none⟩ n ca ((List.range n).map R) hx hl ?_ ?_ (by unfold maxLen; omega) (by omega) hb.size (by omega) ?_
  · intro j u hu
    have hj : j < n := by have := (List.getElem?_eq_some_iff.1 hu).1; simpa using this
    rw [get j hj] at hu
    cases hu
    rw [addr_add, Nat.zero_add]
    exact (hb.cell (p := ⟨oa, j, none⟩) hoa).trans (hR j hj)
  · intro u hu
    simp at hu
    obtain ⟨j, hj, rfl⟩ := hu
    exact h1 j hj
  · intro v' w' own gr hv
    rw [Nat.zero_add, List.nil_append] at own
    have hbw : Below w0.heap.size w0 w' := Below.grown hb gr hb.size (fun k hk => by injection hk with hk; exact hk ▸ Nat.le_refl _)
    have own' := own
    rcases own.2 with ⟨_, h0⟩ | ⟨g, cap, cur, rfl, hgB, hblk, _⟩
    · omega
    · refine hK g cap w' (fun r hr => ?_) (fun j => free_of_block hblk) hgB (heap_lt hblk) hbw
      have := own'.cells (g := g) rfl r _ (get r hr)
      rw [addr_add, Nat.zero_add] at this
      exact this

end Go.Proofs.Ytajpnbmfeapmcaa
