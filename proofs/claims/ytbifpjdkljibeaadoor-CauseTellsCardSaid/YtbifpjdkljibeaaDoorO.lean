import Derived.Test.YtbifpjdkljibeaaDoorM
namespace Go.Proofs.YtbifpjdkljibeaaDoor
open Go.RowKit Go.Extern.Stop Go.Stop Go.Extern Go.Extern.Rtype

/-- How parts ends: what e wraps or joins, in a new list. -/
def PartsPost (xs : List Value) (w : World) (e : Ending) (w' : World) : Prop :=
  ∃ v, e = .returned v ∧ Below w.heap.size w w' ∧ ((v = .slice none 0 0 ∧ xs = []) ∨
    ∃ g cap cur, v = .slice (some ⟨g, 0, none⟩) xs.length cap ∧ w.heap.size ≤ g ∧ w'.heap[g]? = some (.cells cur 24 (0, 0)) ∧ xs.length ≤ cap ∧ ∀ (i : Nat) (y : Value), xs[i]? = some y → cur[i]? = some y)

theorem heap_new (w : World) (o : Obj) : (w.alloc o).heap[w.heap.size]? = some o := by
  show (w.heap.push o)[w.heap.size]? = _
  rw [Array.getElem?_push, if_pos rfl]
theorem heap_new2 (w : World) (o1 o2 : Obj) : ((w.alloc o1).alloc o2).heap[w.heap.size + 1]? = some o2 := by
  have h : w.heap.size + 1 = (w.alloc o1).heap.size := by simp
  rw [h]; exact heap_new _ _

theorem ownsRow_setOther {w : World} {base n b : Nat} {t : TypeId} {v u : Value} {xs : List Value} (h : w.ownsRow base t 1 v n xs) (hb : b < base) : (w.setCell ⟨b, 0, none⟩ u).ownsRow base t 1 v n xs := by
  obtain ⟨h1, h2⟩ := h
  refine ⟨h1, ?_⟩
  rcases h2 with h2 | ⟨g, cap, cur, hv, hg, hh, r⟩
  · exact Or.inl h2
  · exact Or.inr ⟨g, cap, cur, hv, hg, by rw [Below.heap_setCell _ _ _ _ (by show g ≠ b; omega)]; exact hh, r⟩

set_option maxRecDepth 100000 in
set_option maxHeartbeats 1000000 in
theorem partsE (u : Value) (w : World) : Calls Tryd.prog 41 #[.iface 26 (u)] w (PartsPost [] w) := by
  have hmf : ∀ (fn : Fn) (first cap : Array Value) (w : World), (Instr.makeFunc fn first cap).run Tryd.prog w = .ok (.func fn first cap) w := fun _ _ _ _ => rfl
  have t7 := taUnE
  have t8 := taUnsE
  go_enter_defers Tryd.func41, Tryd.ntmps41
  go_wp2_with fail
  refine leaves_cons (f := 46) (args := #[.pointer (some ⟨w.heap.size, 0, none⟩)]) (by simp) (by simp [go_sem]) ?_
  refine (partsIdle ⟨w.heap.size, 0, none⟩ _).mono ?_
  rintro e u' w'' ⟨rfl, rfl, rfl⟩
  simp [Leaves, settle, results, Tryd.results41, go_sem]
  exact ⟨_, rfl, (Below.refl _ w).alloc (Nat.le_refl _) _, .inl ⟨rfl, rfl⟩⟩

set_option maxRecDepth 100000 in
set_option maxHeartbeats 1000000 in
theorem partsS (u : Value) (w : World) : Calls Tryd.prog 41 #[.iface 64 (u)] w (PartsPost [] w) := by
  have hmf : ∀ (fn : Fn) (first cap : Array Value) (w : World), (Instr.makeFunc fn first cap).run Tryd.prog w = .ok (.func fn first cap) w := fun _ _ _ _ => rfl
  have t7 := taUnS
  have t8 := taUnsS
  go_enter_defers Tryd.func41, Tryd.ntmps41
  go_wp2_with fail
  refine leaves_cons (f := 46) (args := #[.pointer (some ⟨w.heap.size, 0, none⟩)]) (by simp) (by simp [go_sem]) ?_
  refine (partsIdle ⟨w.heap.size, 0, none⟩ _).mono ?_
  rintro e u' w'' ⟨rfl, rfl, rfl⟩
  simp [Leaves, settle, results, Tryd.results41, go_sem]
  exact ⟨_, rfl, (Below.refl _ w).alloc (Nat.le_refl _) _, .inl ⟨rfl, rfl⟩⟩

set_option maxRecDepth 100000 in
set_option maxHeartbeats 1000000 in
theorem partsN (b : Nat) (n : Value) (ty : TypeId) (y : Value) (w : World) (hb : b < w.heap.size) (h : w.heap[b]? = some (.cells #[n, .iface ty y] 42 (0, 0))) : Calls Tryd.prog 41 #[.iface 32 (.pointer (some ⟨b, 0, none⟩))] w (PartsPost [.iface ty y] w) := by
  have hmf : ∀ (fn : Fn) (first cap : Array Value) (w : World), (Instr.makeFunc fn first cap).run Tryd.prog w = .ok (.func fn first cap) w := fun _ _ _ _ => rfl
  have t7 := taUnN
  have t9 := mUnN
  have t10 := naUnN
  have H := Lib.hid (And.intro h hb)
  clear h hb
  go_enter_defers Tryd.func41, Tryd.ntmps41
  go_wp2_with (go_at_call 83; refine (onUnwrap b n (.iface ty y) _ (by rw [Below.heap_alloc _ _ _ H.out.2]; exact H.out.1)).mono ?_; rintro e w' ⟨rfl, rfl⟩)
  refine leaves_cons (f := 46) (args := #[.pointer (some ⟨w.heap.size, 0, none⟩)]) (by simp) (by simp [go_sem]) ?_
  refine (partsIdle ⟨w.heap.size, 0, none⟩ _).mono ?_
  rintro e u' w'' ⟨rfl, rfl, rfl⟩
  simp [Leaves, settle, results, Tryd.results41, go_sem]
  exact ⟨_, rfl, ((Below.refl _ w).alloc (Nat.le_refl _) _).alloc (by simp) _, .inr ⟨w.heap.size + 1, 1, #[.iface ty y], rfl, by omega, heap_new2 _ _ _, Nat.le_refl _, fun i z hz => by simpa using hz⟩⟩

set_option maxRecDepth 100000 in
set_option maxHeartbeats 1000000 in
theorem partsF (b : Nat) (n : Value) (ty : TypeId) (y : Value) (w : World) (hb : b < w.heap.size) (h : w.heap[b]? = some (.cells #[n, .iface ty y] 58 (0, 0))) : Calls Tryd.prog 41 #[.iface 55 (.pointer (some ⟨b, 0, none⟩))] w (PartsPost [.iface ty y] w) := by
  have hmf : ∀ (fn : Fn) (first cap : Array Value) (w : World), (Instr.makeFunc fn first cap).run Tryd.prog w = .ok (.func fn first cap) w := fun _ _ _ _ => rfl
  have t7 := taUnF
  have t9 := mUnF
  have t10 := naUnF
  have H := Lib.hid (And.intro h hb)
  clear h hb
  go_enter_defers Tryd.func41, Tryd.ntmps41
  go_wp2_with (go_at_call 86; refine (ofUnwrap b n (.iface ty y) _ (by rw [Below.heap_alloc _ _ _ H.out.2]; exact H.out.1)).mono ?_; rintro e w' ⟨rfl, rfl⟩)
  refine leaves_cons (f := 46) (args := #[.pointer (some ⟨w.heap.size, 0, none⟩)]) (by simp) (by simp [go_sem]) ?_
  refine (partsIdle ⟨w.heap.size, 0, none⟩ _).mono ?_
  rintro e u' w'' ⟨rfl, rfl, rfl⟩
  simp [Leaves, settle, results, Tryd.results41, go_sem]
  exact ⟨_, rfl, ((Below.refl _ w).alloc (Nat.le_refl _) _).alloc (by simp) _, .inr ⟨w.heap.size + 1, 1, #[.iface ty y], rfl, by omega, heap_new2 _ _ _, Nat.le_refl _, fun i z hz => by simpa using hz⟩⟩

set_option maxRecDepth 100000 in
set_option maxHeartbeats 1000000 in
theorem partsA (b g m cap : Nat) (row : Array Value) (w : World) (hb : b < w.heap.size) (hgl : g < w.heap.size) (h : w.heap[b]? = some (.cells #[.slice (some ⟨g, 0, none⟩) m cap] 35 (0, 0))) (hg : w.heap[g]? = some (.cells row 24 (0, 0)))
    (hm : m ≤ 1000) (h0 : 0 < m) (hr : m ≤ row.size) (h1 : ∀ x ∈ row.toList.take m, Value.oneCell' x = true) :
    Calls Tryd.prog 41 #[.iface 33 (.pointer (some ⟨b, 0, none⟩))] w (PartsPost (row.toList.take m) w) := by
  have hmf : ∀ (fn : Fn) (first cap : Array Value) (w : World), (Instr.makeFunc fn first cap).run Tryd.prog w = .ok (.func fn first cap) w := fun _ _ _ _ => rfl
  have t7 := taUnA
  have t8 := taUnsA
  have t9 := mUnA
  have t10 := naUnA
  have H := Lib.hid (And.intro h (And.intro hg (And.intro hb hgl)))
  have HO := Lib.hid h1
  clear h hg hb hgl h1
  go_enter_defers Tryd.func41, Tryd.ntmps41
  go_wp2_with fail
  refine (allUnwrap b g m cap row _ (by rw [Below.heap_alloc _ _ _ H.out.2.2.1]; exact H.out.1) (by rw [Below.heap_alloc _ _ _ H.out.2.2.2]; exact H.out.2.1) hm h0 hr HO.out).mono ?_
  rintro e w1 ⟨v1, rfl, ho, hb1, hn⟩
  obtain ⟨hlen, ho | ⟨g1, cap1, cur, rfl, hg1, hh, hc1, hc2, hc3, hc4⟩⟩ := ho
  · exact absurd ho.1 hn
  have hcell : w1.cell? ⟨w.heap.size, 0, none⟩ = some (.slice none 0 0) := by rw [hb1.cell (p := ⟨w.heap.size, 0, none⟩) (by simp)]; simp [go_sem]
  have hfr : w1.frozen? ⟨w.heap.size, 0, none⟩ = false := by rw [hb1.frozen (p := ⟨w.heap.size, 0, none⟩) (by simp)]; simp [go_sem]
  have HB := Lib.hid (And.intro hb1 (And.intro hg1 (And.intro hh (And.intro hc1 (And.intro hc4 hlen)))))
  clear hb1 hn hh hc1 hc2 hc3 hc4 hlen hg1
  go_wp2_with fail
  refine leaves_cons (f := 46) (args := #[.pointer (some ⟨w.heap.size, 0, none⟩)]) (by simp) (by simp [go_sem]) ?_
  refine (partsIdle ⟨w.heap.size, 0, none⟩ _).mono ?_
  rintro e u' w'' ⟨rfl, rfl, rfl⟩
  simp [Leaves, settle, results, Tryd.results41, go_sem, hcell]
  obtain ⟨hb1, hg1, hh, hc1, hc4, hlen⟩ := HB.out
  have hg1' : w.heap.size + 1 ≤ g1 := by simpa using hg1
  have hlm : (row.toList.take m).length = m := by simpa using hlen
  refine ⟨_, rfl, ((Below.refl _ w).alloc (Nat.le_refl _) _).trans ((hb1.mono (by simp)).setCell (p := ⟨w.heap.size, 0, none⟩) (Nat.le_refl _) _), .inr ⟨g1, cap1, cur, by rw [hlm], by omega, ?_, by rw [hlm]; exact hc1, fun i y hy => ?_⟩⟩
  · rw [Below.heap_setCell _ _ _ _ (by show g1 ≠ w.heap.size; omega)]; exact hh
  · rw [← hc4, List.getElem?_take] at hy
    split at hy
    · simpa using hy
    · cases hy

end Go.Proofs.YtbifpjdkljibeaaDoor
