import Derived.Test.YtmnfgbfajhinlaaI8
import Derived.Deep.Slices
namespace Go.Proofs.Ytmnfgbfajhinlaa
open Go.RowKit Go.Sort
set_option maxRecDepth 100000
set_option maxHeartbeats 1000000

/-- 'append([][]byte{}, a...)': new memory for the rows' places, the rows themselves are shared. -/
theorem clone_rows (w w0 : World) {ops : Array Oper} {rest : List Oper} {o : Oper} {a : Act} {Q : Exit → Act → World → Prop}
    (hg : o.guard = none) (s x : Operand) (hop : o.op = Op.call { callee := Callee.builtin Builtin.append, args := #[s, x], argTypes := #[24, 24] })
    (hw : w = w0.alloc (.cells #[] 27)) (hs : a.eval s = .slice (some ⟨w0.heap.size, 0, none⟩) 0 0) (oa n ca : Nat) (hx : a.eval x = .slice (some ⟨oa, 0, none⟩) n ca) (R : Nat → Value)
    (hR : ∀ r, r < n → w0.cell? ⟨oa, r, none⟩ = some (R r)) (h1 : ∀ r, r < n → (R r).oneCell' = true) (n1 : 1 ≤ n) (n2 : n ≤ 64)
    (hK : ∀ g cap w', (∀ r, r < n → w'.cell? ⟨g, r, none⟩ = some (R r)) → (∀ j, w'.frozen? ⟨g, j, none⟩ = false) → w0.heap.size ≤ g → g < w'.heap.size → Below w0.heap.size w0 w' → wpList Try.prog ops Q rest (a.put o.dst (.slice (some ⟨g, 0, none⟩) n cap)) w') :
    wpList Try.prog ops Q (o :: rest) a w := by
  obtain ⟨i0, hi0, hz0, hz1, hz2⟩ := info_parts infoRow
  have hown : w.ownsRow w0.heap.size 27 1 (.slice (some ⟨w0.heap.size, 0, none⟩) 0 0) 0 [] := by
    rw [hw]; exact World.ownsRow_made w0 #[] 0 (Nat.le_refl _) (by unfold maxLen; omega) rfl
  have hb : Below w0.heap.size w0 w := by rw [hw]; exact (Below.refl _ _).alloc (Nat.le_refl _) _
  have hoa : oa < w0.heap.size := cell?_lt (hR 0 (by omega))
  have hl : ((List.range n).map R).length = n * 1 := by simp
  have get : ∀ r, r < n → ((List.range n).map R)[r]? = some (R r) := fun r hr => by simp [hr]
  refine append_mine w hg s x 24 hop w0.heap.size 27 i0 (.slice none 0 0) 1 24 Try.underlying24 hi0 hz0 hz1 hz2 rfl (by decide) _ 0 [] hs hown ⟨oa, 0, none⟩ n ca ((List.range n).map R) hx hl ?_ ?_ (by unfold maxLen; omega) (by omega) hb.size (by omega) ?_
  · intro j u hu
    have hj : j < n := by have := (List.getElem?_eq_some_iff.1 hu).1; simpa using this
    rw [get j hj] at hu
    cases hu
    rw [addr_add, Nat.zero_add]
    exact (hb.cell (p := ⟨oa, j, none⟩) hoa).trans (hR j hj)
  · intro u hu
    simp at hu
    obtain ⟨j, hj, rfl⟩ := hu
    exact h1 j hj
  · intro v' w' own gr hv
    rw [Nat.zero_add, List.nil_append] at own
    have hbw : Below w0.heap.size w0 w' := Below.grown hb gr hb.size (fun k hk => by injection hk with hk; exact hk ▸ Nat.le_refl _)
    have own' := own
    rcases own.2 with ⟨_, h0⟩ | ⟨g, cap, cur, rfl, hgB, hblk, _⟩
    · omega
    · refine hK g cap w' (fun r hr => ?_) (fun j => free_of_block hblk) hgB (heap_lt hblk) hbw
      have := own'.cells (g := g) rfl r _ (get r hr)
      rw [addr_add, Nat.zero_add] at this
      exact this

/-- Rows that are read, each wherever it lies. -/
def Rws (w : World) (o n c : Nat) (G Q C : Nat → Nat) (M : Mx) : Prop :=
  ∀ r, r < n → w.cell? ⟨o, r, none⟩ = some (.slice (some ⟨G r, Q r, none⟩) c (C r)) ∧ ∀ j, j < c → w.cell? ⟨G r, Q r + j, none⟩ = some (.int .u8 (M r j : Nat))
theorem raw_rws {w : World} {o n c : Nat} {M : Mx} (h : RawIn w (some ⟨o, 0, none⟩) (rowsOf n c M)) (hc : 0 < c) : ∃ G Q C : Nat → Nat, Rws w o n c G Q C M := by
  have each : ∀ r, r < n → ∃ y : Nat × Nat × Nat, w.cell? ⟨o, r, none⟩ = some (.slice (some ⟨y.1, y.2.1, none⟩) c y.2.2) ∧ ∀ j, j < c → w.cell? ⟨y.1, y.2.1 + j, none⟩ = some (.int .u8 (M r j : Nat)) := fun r hr => by
    obtain ⟨b, o', e, hb, g, cap, hcell, hx⟩ := h r _ (rowsOf_get hr)
    cases e
    have hlen : ((List.range c).map (M r)).length = c := by simp
    rw [hlen, Nat.zero_add] at hcell
    have get : ∀ j, j < c → ((List.range c).map (M r))[j]? = some (M r j) := fun j hj => by simp [hj]
    obtain ⟨h0, q0, rfl, _, _⟩ := hx 0 _ (get 0 hc)
    refine ⟨(h0, q0, cap), hcell, fun j hj => ?_⟩
    obtain ⟨h1, q1, e1, _, h2⟩ := hx j _ (get j hj)
    cases e1
    exact h2
  obtain ⟨y, hy⟩ := Go.Deep.choose_lt each
  exact ⟨fun r => (y r).1, fun r => (y r).2.1, fun r => (y r).2.2, fun r hr => hy r hr⟩
theorem Rws.raw {w : World} {o n c : Nat} {G Q C : Nat → Nat} {M : Mx} (h : Rws w o n c G Q C M) : RawIn w (some ⟨o, 0, none⟩) (rowsOf n c M) :=
  rawIn_of (fun i hi => ⟨G i, Q i, C i, by rw [Nat.zero_add]; exact (h i hi).1, (h i hi).2⟩)
theorem Rws.lt {w : World} {o n c : Nat} {G Q C : Nat → Nat} {M : Mx} (h : Rws w o n c G Q C M) (hc : 0 < c) {r : Nat} (hr : r < n) : G r < w.heap.size := cell?_lt ((h r hr).2 0 hc)

/-- What a copy of the places has. -/
structure Clone (w0 w : World) (oa g n : Nat) (G Q C : Nat → Nat) (A : Mx) : Prop where
  rows : Rws w g n n G Q C A
  old : Rws w oa n n G Q C A
  free : ∀ j, w.frozen? ⟨g, j, none⟩ = false
  ge : w0.heap.size ≤ g
  lt : g < w.heap.size
  small : ∀ r, r < n → G r < w0.heap.size
  oalt : oa < w0.heap.size
  below : Below w0.heap.size w0 w

theorem clone_at (w w0 : World) {ops : Array Oper} {rest : List Oper} {o : Oper} {a : Act} {Q' : Exit → Act → World → Prop}
    (hg : o.guard = none) (s x : Operand) (hop : o.op = Op.call { callee := Callee.builtin Builtin.append, args := #[s, x], argTypes := #[24, 24] })
    (hw : w = w0.alloc (.cells #[] 27)) (hs : a.eval s = .slice (some ⟨w0.heap.size, 0, none⟩) 0 0) (oa n ca : Nat) (hx : a.eval x = .slice (some ⟨oa, 0, none⟩) n ca) (G Q C : Nat → Nat) (A : Mx)
    (hR : Rws w0 oa n n G Q C A) (n1 : 1 ≤ n) (n2 : n ≤ 64)
    (hK : ∀ g cap w', Hid (Clone w0 w' oa g n G Q C A) → wpList Try.prog ops Q' rest (a.put o.dst (.slice (some ⟨g, 0, none⟩) n cap)) w') :
    wpList Try.prog ops Q' (o :: rest) a w := by
  refine clone_rows w w0 hg s x hop hw hs oa n ca hx (fun r => .slice (some ⟨G r, Q r, none⟩) n (C r)) (fun r hr => (hR r hr).1) (fun r hr => rfl) n1 n2 (fun g cap w' hc hf hge hlt hb => hK g cap w' (Lib.hid ?_))
  have hoa : oa < w0.heap.size := cell?_lt (hR 0 (by omega)).1
  have rd : ∀ r, r < n → ∀ j, j < n → w'.cell? ⟨G r, Q r + j, none⟩ = some (.int .u8 (A r j : Nat)) := fun r hr j hj => (hb.cell (p := ⟨G r, Q r + j, none⟩) (hR.lt (by omega) hr)).trans ((hR r hr).2 j hj)
  exact ⟨fun r hr => ⟨hc r hr, rd r hr⟩, fun r hr => ⟨(hb.cell (p := ⟨oa, r, none⟩) hoa).trans (hR r hr).1, rd r hr⟩, hf, hge, hlt, fun r hr => hR.lt (by omega) hr, hoa, hb⟩

/-- One place is written. -/
theorem Clone.set {w0 w : World} {oa g n k g2 q2 c2 : Nat} {G Q C : Nat → Nat} {A : Mx} {F : Nat → Nat} (h : Clone w0 w oa g n G Q C A) (hg2 : g2 ≠ g) (hF : ∀ j, j < n → w.cell? ⟨g2, q2 + j, none⟩ = some (.int .u8 (F j : Nat))) :
    Rws (w.setCell ⟨g, k, none⟩ (.slice (some ⟨g2, q2, none⟩) n c2)) g n n (fun r => if r = k then g2 else G r) (fun r => if r = k then q2 else Q r) (fun r => if r = k then c2 else C r) (setr A k F) := by
  intro r hr
  have h1 := h.rows r hr
  have hne : G r ≠ g := by have := h.small r hr; have := h.ge; omega
  unfold setr
  by_cases e : r = k
  · subst e
    simp only [if_true]
    exact ⟨World.cell?_setCell_same _ _ _ h1.1, fun j hj => by rw [cell_far (Or.inl hg2)]; exact hF j hj⟩
  · simp only [if_neg e]
    exact ⟨by rw [cell_far (Or.inr e)]; exact h1.1, fun j hj => by rw [cell_far (Or.inl hne)]; exact h1.2 j hj⟩
theorem Clone.alloc {w0 w : World} {oa g n : Nat} {G Q C : Nat → Nat} {A : Mx} (h : Clone w0 w oa g n G Q C A) (o : Obj) : Clone w0 (w.alloc o) oa g n G Q C A := by
  have old : ∀ b j, b < w.heap.size → (w.alloc o).cell? ⟨b, j, none⟩ = w.cell? ⟨b, j, none⟩ := fun b j hb => World.cell?_of_block (alloc_old w o hb)
  have hs := h.below.size
  have rd : ∀ r, r < n → ∀ j, j < n → (w.alloc o).cell? ⟨G r, Q r + j, none⟩ = some (.int .u8 (A r j : Nat)) := fun r hr j hj => by
    rw [old _ _ (by have := h.small r hr; omega)]; exact (h.rows r hr).2 j hj
  exact ⟨fun r hr => ⟨by rw [old _ _ h.lt]; exact (h.rows r hr).1, rd r hr⟩, fun r hr => ⟨by rw [old _ _ (by have := h.oalt; omega)]; exact (h.old r hr).1, rd r hr⟩,
    fun j => by rw [World.frozen?_of_block (alloc_old w o h.lt)]; exact h.free j, h.ge, by rw [alloc_size]; have := h.lt; omega, h.small, h.oalt, h.below.alloc hs _⟩
/-- Two places change. -/
theorem Clone.swap {w0 w : World} {oa g n i k : Nat} {G Q C : Nat → Nat} {A : Mx} (h : Clone w0 w oa g n G Q C A) (hi : i < n) (hk : k < n) (hik : i ≠ k) :
    Rws ((w.setCell ⟨g, i, none⟩ (.slice (some ⟨G k, Q k, none⟩) n (C k))).setCell ⟨g, k, none⟩ (.slice (some ⟨G i, Q i, none⟩) n (C i))).drew g n n (fun r => G (sw i k r)) (fun r => Q (sw i k r)) (fun r => C (sw i k r)) (fun r j => A (sw i k r) j) := by
  intro r hr
  have hs := sw_lt hi hk hr
  have hne : G (sw i k r) ≠ g := by have := h.small _ hs; have := h.ge; omega
  dsimp only
  refine ⟨?_, fun j hj => ?_⟩
  · show ((w.setCell ⟨g, i, none⟩ (.slice (some ⟨G k, Q k, none⟩) n (C k))).setCell ⟨g, k, none⟩ (.slice (some ⟨G i, Q i, none⟩) n (C i))).cell? _ = _
    have c1 : (w.setCell ⟨g, i, none⟩ (.slice (some ⟨G k, Q k, none⟩) n (C k))).cell? ⟨g, k, none⟩ = some (.slice (some ⟨G k, Q k, none⟩) n (C k)) := by
      rw [cell_far (Or.inr (fun e => hik e.symm))]; exact (h.rows k hk).1
    by_cases e1 : r = k
    · subst e1
      rw [World.cell?_setCell_same _ _ _ c1]
      have : sw i r r = i := by unfold sw; rw [if_neg (fun e => hik e.symm), if_pos rfl]
      rw [this]
    · rw [cell_far (Or.inr e1)]
      by_cases e2 : r = i
      · subst e2
        rw [World.cell?_setCell_same _ _ _ (h.rows r hr).1, sw_left]
      · rw [cell_far (Or.inr e2)]
        have : sw i k r = r := by unfold sw; rw [if_neg e2, if_neg e1]
        rw [this]; exact (h.rows r hr).1
  · show ((w.setCell ⟨g, i, none⟩ (.slice (some ⟨G k, Q k, none⟩) n (C k))).setCell ⟨g, k, none⟩ (.slice (some ⟨G i, Q i, none⟩) n (C i))).cell? _ = _
    rw [cell_far (Or.inl hne), cell_far (Or.inl hne)]
    exact (h.rows _ hs).2 j hj
end Go.Proofs.Ytmnfgbfajhinlaa
