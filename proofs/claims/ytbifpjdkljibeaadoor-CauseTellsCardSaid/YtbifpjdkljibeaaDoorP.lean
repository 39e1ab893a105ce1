import Derived.Test.YtbifpjdkljibeaaDoorO
namespace Go.Proofs.YtbifpjdkljibeaaDoor
open Go.RowKit Go.Extern.Stop Go.Stop Go.Extern Go.Extern.Rtype

def nodesOf (ns : List Nd) : List Int := ns.filterMap (·.2)
theorem nodesOf_flat {α : Type} (f : α → List Nd) (l : List α) : nodesOf (l.map f).flatten = (l.map fun z => nodesOf (f z)).flatten := by
  unfold nodesOf
  induction l with
  | nil => rfl
  | cons a l ih => simp only [List.map_cons, List.flatten_cons, List.filterMap_append, ih]

/-- The nodes that e tells by itself, its children, and how parts hands them out. -/
theorem tree_kids {w : World} {B d : Nat} {v : Value} {cs : List Int} {ns : List Nd} {ss : List Int} (e : Err w B (d + 1) v cs ns ss) :
    ∃ (zs : List (Value × List Nd)) (pre : List Int), (∀ w', Below B w w' → B ≤ w'.heap.size → Calls Tryd.prog 41 #[v] w' (PartsPost (zs.map (·.1)) w')) ∧ (∀ (i : Nat) (z : Value × List Nd), zs[i]? = some z → ∃ cs ss, Err w B d z.1 cs z.2 ss) ∧
      nodesOf ns = pre ++ (zs.map fun z => nodesOf z.2).flatten ∧ zs.length ≤ 1000 ∧
      ((∃ b n y, v = .iface 32 (.pointer (some ⟨b, 0, none⟩)) ∧ pre = [n] ∧ b < B ∧ w.heap[b]? = some (.cells #[.int .i64 n, y] 42 (0, 0))) ∨ (pre = [] ∧ ∃ t u, v = .iface t u ∧ t ≠ 32)) := by
  rcases e with ⟨n, rfl, _, rfl, _⟩ | ⟨b, s, rfl, e2, e3, _, rfl, _⟩ | ⟨b, n, y, ns', rfl, e2, e3, e4, rfl⟩ | ⟨b, n, y, ns', ss', rfl, e2, e3, e4, e5, rfl⟩ | ⟨b, g, m, cap, row, vs, rfl, e2, e3, e4, e5, e6, e7, e7', e8, e9, e10, rfl, e11⟩
  · exact ⟨[], [], fun w' _ _ => partsE _ w', fun i z hz => by simp at hz, rfl, by simp, .inr ⟨rfl, _, _, rfl, by decide⟩⟩
  · exact ⟨[], [], fun w' _ _ => partsS _ w', fun i z hz => by simp at hz, rfl, by simp, .inr ⟨rfl, _, _, rfl, by decide⟩⟩
  · obtain ⟨ty, y', rfl⟩ := e4.iface
    refine ⟨[(.iface ty y', ns')], [n], fun w' hb hs => partsN b _ ty y' w' (by omega) (by rw [hb.block b e2]; exact e3), fun i z hz => ?_, by simp [nodesOf], by simp, .inl ⟨b, n, _, rfl, rfl, e2, e3⟩⟩
    cases i with
    | zero => cases hz; exact ⟨_, _, e4⟩
    | succ i => simp at hz
  · obtain ⟨ty, y', rfl⟩ := e4.iface
    refine ⟨[(.iface ty y', ns')], [], fun w' hb hs => partsF b _ ty y' w' (by omega) (by rw [hb.block b e2]; exact e3), fun i z hz => ?_, by simp [nodesOf], by simp, .inr ⟨rfl, _, _, rfl, by decide⟩⟩
    cases i with
    | zero => cases hz; exact ⟨_, _, e4⟩
    | succ i => simp at hz
  · have hrow := take_row row m vs e8 (fun i x hx => (e9 i x hx).1)
    have hsz : m ≤ row.size := by
      have := congrArg List.length hrow
      simp at this; omega
    have hone : ∀ y ∈ row.toList.take m, Value.oneCell' y = true := by
      intro y hy
      rw [hrow] at hy
      obtain ⟨z, hz, rfl⟩ := List.mem_map.1 hy
      obtain ⟨i, hi⟩ := List.mem_iff_getElem?.1 hz
      obtain ⟨t, u, hu⟩ := (e9 i z hi).2.iface
      rw [hu]; rfl
    refine ⟨vs.map fun z => (z.1, z.2.2.1), [], fun w' hb hs => ?_, fun i z hz => ?_, ?_, by simpa using by omega, .inr ⟨rfl, _, _, rfl, by decide⟩⟩
    · have := partsA b g m cap row w' (by omega) (by omega) (by rw [hb.block b e2]; exact e4) (by rw [hb.block g e3]; exact e5) e7 e7' hsz hone
      rw [hrow] at this
      simpa [List.map_map, Function.comp_def] using this
    · rw [List.getElem?_map] at hz
      cases hv : vs[i]? with
      | none => rw [hv] at hz; cases hz
      | some x => rw [hv] at hz; cases hz; exact ⟨_, _, (e9 i x hv).2⟩
    · show nodesOf ((_, none) :: (vs.map (·.2.2.1)).flatten) = _
      have : nodesOf ((Value.iface 33 (.pointer (some ⟨b, 0, none⟩)), none) :: (vs.map (·.2.2.1)).flatten) = nodesOf (vs.map (·.2.2.1)).flatten := rfl
      rw [this, nodesOf_flat, List.map_map]; rfl

/-- Blocks that hold no numbers stay. -/
structure Rest (w w' : World) : Prop where
  size : w.heap.size ≤ w'.heap.size
  block : ∀ (k : Nat) (c : Array Value) (t : TypeId) (f : Nat × Nat), w.heap[k]? = some (Obj.cells c t f) → t ≠ 3 → w'.heap[k]? = some (Obj.cells c t f)
theorem Rest.refl (w : World) : Rest w w := ⟨Nat.le_refl _, fun _ _ _ _ h _ => h⟩
theorem Rest.trans {a b c : World} (h : Rest a b) (k : Rest b c) : Rest a c := ⟨Nat.le_trans h.size k.size, fun i x t f hi ht => k.block i x t f (h.block i x t f hi ht) ht⟩
theorem Rest.of {w w' : World} (h : Below w.heap.size w w') : Rest w w' := ⟨h.size, fun k c t f hk _ => by
  have hlt : k < w.heap.size := by
    by_cases hk' : k < w.heap.size
    · exact hk'
    · rw [Array.getElem?_eq_none (by omega)] at hk; cases hk
  rw [h.block k hlt]; exact hk⟩

def GPost (base : Nat) (ys : List Int) (w : World) (e : Ending) (w' : World) : Prop :=
  ∃ v, e = .returned v ∧ w'.ownsRow base 3 1 v ys.length (ys.map (Value.int .i64)) ∧ Below base w w' ∧ Rest w w'

def Gather31 (d : Nat) : Prop := ∀ l xs v cs ns ss w B base, Err w B d v cs ns ss → B ≤ base → base ≤ w.heap.size → w.ownsRow base 3 1 l xs.length (xs.map (Value.int .i64)) → xs.length + (nodesOf ns).length ≤ 100000 →
  Calls Tryd.prog 31 #[l, v] w (GPost base (xs ++ nodesOf ns) w)

theorem taOnN (v : Value) (xT : TypeId) (w : World) : (Instr.typeAssert (.iface 32 v) xT 32 true).run Tryd.prog w = .ok (.tuple #[v, .bool true]) w := by kernel_rfl
theorem taOnO (t : TypeId) (ht : t ≠ 32) (v : Value) (xT : TypeId) (w : World) : (Instr.typeAssert (.iface t v) xT 32 true).run Tryd.prog w = .ok (.tuple #[.pointer none, .bool false]) w := by
  have hz : (zeroValue 32).run Tryd.prog w = .ok (.pointer none) w := by kernel_rfl
  simp [Instr.typeAssert, run_underlying Tryd.underlying32, ht, hz]

end Go.Proofs.YtbifpjdkljibeaaDoor
