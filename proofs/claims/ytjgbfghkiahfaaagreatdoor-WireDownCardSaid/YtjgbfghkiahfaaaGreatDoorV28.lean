import Derived.Test.YtjgbfghkiahfaaaGreatDoorV27
namespace Go.Proofs.YtjgbfghkiahfaaaGreatDoor
open Go.RowKit Go.Sort
set_option maxRecDepth 100000
set_option maxHeartbeats 2000000

/-! The wire in memory. -/
/-- The fates that wait, as a slice of one's own memory, wherever in its block. -/
def FatV (w : World) (v : Value) (F : List Int) : Prop :=
  ∃ A c, v = .slice A F.length c ∧ F.length ≤ c ∧ c ≤ maxLen ∧ (0 < c → ∃ g o row, A = some ⟨g, o, none⟩ ∧ w.heap[g]? = some (.cells row 3 (0, 0)) ∧ o + c ≤ row.size ∧ ∀ (i : Nat) (x : Int), F[i]? = some x → row[o + i]? = some (.int .i64 x))
/-- The block in which they lie. -/
def fatB (v : Value) : List Nat := match v with | .slice (some a) _ c => if 0 < c then [a.block] else [] | _ => []
theorem FatV.nil (w : World) : FatV w (.slice none 0 0) [] := ⟨none, 0, rfl, Nat.le_refl _, by unfold maxLen; omega, fun h => absurd h (by omega)⟩
theorem FatV.keep {w w' : World} {v : Value} {F : List Int} (h : FatV w v F) (e : ∀ k ∈ fatB v, w'.heap[k]? = w.heap[k]?) : FatV w' v F := by
  obtain ⟨A, c, rfl, h1, h2, h3⟩ := h
  refine ⟨A, c, rfl, h1, h2, fun hc => ?_⟩
  obtain ⟨g, o, row, rfl, r1, r2, r3⟩ := h3 hc
  exact ⟨g, o, row, rfl, (e g (by simp [fatB, hc])).trans r1, r2, r3⟩
theorem FatV.type {w : World} {v : Value} {F : List Int} (h : FatV w v F) : ∀ k ∈ fatB v, ∃ row, w.heap[k]? = some (.cells row 3 (0, 0)) := by
  obtain ⟨A, c, rfl, h1, h2, h3⟩ := h
  intro k hk
  cases A with
  | none => simp [fatB] at hk
  | some a =>
    by_cases hc : 0 < c
    · obtain ⟨g, o, row, e, r1, r2, r3⟩ := h3 hc
      cases e
      simp [fatB, hc] at hk
      subst hk
      exact ⟨row, r1⟩
    · simp [fatB, hc] at hk

abbrev whead (P : Nat → Value) (dn : Nat → Bool) (fv : Value) (fuse : Int) (dead : Bool) (sent : Nat) : Array Value :=
  #[P 0, P 1, P 2, P 3, P 4, P 5, P 6, P 7, .bool (dn 0), .bool (dn 1), .bool (dn 2), .bool (dn 3), .bool (dn 4), .bool (dn 5), .bool (dn 6), .bool (dn 7), fv, .int .i64 fuse, .bool dead, .int .i64 (sent : Int)]
/-- Pointers to the first m nodes. -/
def nptr (m : Nat) (nd : Nat → Nat) (i : Nat) : Value := if i < m then .pointer (some ⟨nd i, 0, none⟩) else .pointer none
/-- A wire of which m nodes are there. -/
structure WM (v : World) (g m : Nat) (nd : Nat → Nat) (T : Nat → List Nat) (fv : Value) (s : Wp) : Prop where
  hd : v.heap[g]? = some (.cells (whead (nptr m nd) s.dn fv s.fuse s.dead s.sent) 64 (0, 0))
  fat : FatV v fv s.F
  node : ∀ i, i < m → ∃ r p sb S, NdM v (nd i) r p sb S (s.N i) ∧ (s.N i).Ok ∧ T i = nd i :: r :: p :: sb :: S
  sep : ∀ i j, i < m → j < m → i ≠ j → ∀ k ∈ T i, k ∉ T j
theorem wire_notN : ¬ NdT 64 := notNd (by decide) (by decide) (by decide) (by decide) (by decide) (by decide)
theorem int_notN : ¬ NdT 3 := notNd (by decide) (by decide) (by decide) (by decide) (by decide) (by decide)
section
variable {v v' : World} {g m : Nat} {nd : Nat → Nat} {T : Nat → List Nat} {fv : Value} {s : Wp}
theorem WM.lt (h : WM v g m nd T fv s) : g < v.heap.size := heap_lt h.hd
theorem WM.f (h : WM v g m nd T fv s) (k : Nat) : v.frozen? ⟨g, k, none⟩ = false := free_of_block h.hd
theorem WM.cp (h : WM v g m nd T fv s) {i : Nat} (hi : i < 8) : v.cell? ⟨g, i, none⟩ = some (nptr m nd i) := by
  rw [cell_of_block h.hd]
  rcases (by omega : i = 0 ∨ i = 1 ∨ i = 2 ∨ i = 3 ∨ i = 4 ∨ i = 5 ∨ i = 6 ∨ i = 7) with rfl | rfl | rfl | rfl | rfl | rfl | rfl | rfl <;> rfl
theorem WM.cn (h : WM v g m nd T fv s) {i : Nat} (hi : i < 8) (hm : i < m) : v.cell? ⟨g, i, none⟩ = some (.pointer (some ⟨nd i, 0, none⟩)) := by
  rw [h.cp hi]
  simp [nptr, hm]
theorem WM.cd (h : WM v g m nd T fv s) {i : Nat} (hi : i < 8) : v.cell? ⟨g, 8 + i, none⟩ = some (.bool (s.dn i)) := by
  rw [cell_of_block h.hd]
  rcases (by omega : i = 0 ∨ i = 1 ∨ i = 2 ∨ i = 3 ∨ i = 4 ∨ i = 5 ∨ i = 6 ∨ i = 7) with rfl | rfl | rfl | rfl | rfl | rfl | rfl | rfl <;> rfl
theorem WM.cf (h : WM v g m nd T fv s) : v.cell? ⟨g, 16, none⟩ = some fv := by rw [cell_of_block h.hd]; rfl
theorem WM.cz (h : WM v g m nd T fv s) : v.cell? ⟨g, 17, none⟩ = some (.int .i64 s.fuse) := by rw [cell_of_block h.hd]; rfl
theorem WM.ce (h : WM v g m nd T fv s) : v.cell? ⟨g, 18, none⟩ = some (.bool s.dead) := by rw [cell_of_block h.hd]; rfl
theorem WM.cs (h : WM v g m nd T fv s) : v.cell? ⟨g, 19, none⟩ = some (.int .i64 (s.sent : Int)) := by rw [cell_of_block h.hd]; rfl
theorem WM.Tlt (h : WM v g m nd T fv s) {i : Nat} (hi : i < m) {k : Nat} (hk : k ∈ T i) : k < v.heap.size := by
  obtain ⟨r, p, sb, S, h1, h2, h3⟩ := h.node i hi
  rw [h3] at hk
  have hl := h1.lt
  simp only [List.mem_cons] at hk hl
  rcases hk with rfl | rfl | rfl | rfl | hk
  · exact hl _ (by simp)
  · exact hl _ (by simp)
  · obtain ⟨X, hr, _⟩ := h1.ex
    obtain ⟨db, nb, pv, hp, _, _⟩ := hr.plt
    exact heap_lt hp.head
  · exact hl _ (by simp)
  · exact hl _ (by simp [hk])
/-- All that it is made of lies as it was. -/
theorem WM.same (h : WM v g m nd T fv s) (h1 : ∀ k ∈ g :: fatB fv, v'.heap[k]? = v.heap[k]?) (h2 : ∀ i, i < m → ∀ k ∈ T i, v'.heap[k]? = v.heap[k]?) (hb : ∀ (k : Nat) (cs : Array Value), v.heap[k]? = some (Obj.cells cs 5 (0, 0)) → v'.heap[k]? = v.heap[k]?) : WM v' g m nd T fv s :=
  ⟨(h1 g (by simp)).trans h.hd, h.fat.keep (fun k hk => h1 k (by simp [hk])), fun i hi => by
    obtain ⟨r, p, sb, S, q1, q2, q3⟩ := h.node i hi
    exact ⟨r, p, sb, S, q1.keep (fun k hk => h2 i hi k (by rw [q3]; simp at hk ⊢; rcases hk with rfl | rfl | rfl | hk <;> simp [*])) hb, q2, q3⟩, h.sep⟩
theorem WM.fatLt (h : WM v g m nd T fv s) {k : Nat} (hk : k ∈ fatB fv) : k < v.heap.size := by
  obtain ⟨row, hr⟩ := h.fat.type k hk
  exact heap_lt hr
theorem WM.below (h : WM v g m nd T fv s) (b : Below v.heap.size v v') : WM v' g m nd T fv s :=
  h.same (fun k hk => by
    rw [List.mem_cons] at hk
    rcases hk with rfl | hk
    · exact b.block _ h.lt
    · exact b.block _ (h.fatLt hk)) (fun i hi k hk => b.block _ (h.Tlt hi hk)) (fun k cs hk => b.block _ (heap_lt hk))
/-- A store into the wire itself. -/
theorem WM.put (h : WM v g m nd T fv s) {fv' : Value} {s' : Wp} (k : Nat) (u : Value) (hN : s'.N = s.N) (hw : (whead (nptr m nd) s.dn fv s.fuse s.dead s.sent).setIfInBounds k u = whead (nptr m nd) s'.dn fv' s'.fuse s'.dead s'.sent) (hf : FatV v fv' s'.F) : WM (v.setCell ⟨g, k, none⟩ u) g m nd T fv' s' := by
  refine ⟨?_, hf.keep (fun j hj => set_other (fun e => ?_) _ _), fun i hi => ?_, h.sep⟩
  · rw [set_block h.hd, hw]
  · subst e
    obtain ⟨row, hr⟩ := hf.type j hj
    rw [h.hd] at hr
    injection hr with hr
    injection hr with _ hr
    exact absurd hr (by decide)
  · obtain ⟨r, p, sb, S, q1, q2, q3⟩ := h.node i hi
    rw [hN]
    exact ⟨r, p, sb, S, q1.set h.hd (by decide) (by decide) (by decide) (by decide) (by decide) (by decide) (by decide), q2, q3⟩
/-- The blocks of node i are no other's. -/
theorem WM.act (h : WM v g m nd T fv s) {i : Nat} (hi : i < m) : ∃ r p sb S, NdM v (nd i) r p sb S (s.N i) ∧ (s.N i).Ok ∧ T i = nd i :: r :: p :: sb :: S ∧ ∀ w' r' sb' S' x, NdM w' (nd i) r' p sb' S' x → x.Ok → Turn (nd i :: r :: sb :: S) v w' → (∀ k ∈ r' :: sb' :: S', k ∈ r :: sb :: S ∨ v.heap.size ≤ k) →
    ∃ T', WM w' g m nd T' fv (s.setN i x) ∧ KeepN v w' ∧ ∀ j, j < m → ∀ k ∈ T' j, k ∈ T j ∨ v.heap.size ≤ k := by
  obtain ⟨r, p, sb, S, h1, h2, h3⟩ := h.node i hi
  refine ⟨r, p, sb, S, h1, h2, h3, fun w' r' sb' S' x n1 n2 t hs => ?_⟩
  have hk := h1.keepN t
  have hT : ∀ k ∈ nd i :: r' :: p :: sb' :: S', k ∈ T i ∨ v.heap.size ≤ k := by
    intro k hk
    rw [h3]
    simp only [List.mem_cons] at hk hs ⊢
    rcases hk with rfl | rfl | rfl | rfl | hk
    · simp
    · rcases hs k (by simp) with h | h
      · exact Or.inl (by rcases h with h | h | h <;> simp [h])
      · exact Or.inr h
    · simp
    · rcases hs k (by simp) with h | h
      · exact Or.inl (by rcases h with h | h | h <;> simp [h])
      · exact Or.inr h
    · rcases hs k (by simp [hk]) with h | h
      · exact Or.inl (by rcases h with h | h | h <;> simp [h])
      · exact Or.inr h
  refine ⟨fun j => if j = i then nd i :: r' :: p :: sb' :: S' else T j, ⟨(hk.cells h.hd wire_notN).trans h.hd, h.fat.keep (fun k hk' => by
    obtain ⟨row, hr⟩ := h.fat.type k hk'
    exact hk.cells hr int_notN), fun j hj => ?_, fun a b ha hb hab k hka hkb => ?_⟩, hk, fun j hj k hk' => ?_⟩
  · by_cases e : j = i
    · subst e
      simp only [Wp.setN, if_true]
      exact ⟨r', p, sb', S', n1, n2, rfl⟩
    · obtain ⟨rj, pj, sbj, Sj, q1, q2, q3⟩ := h.node j hj
      simp only [Wp.setN, if_neg e]
      refine ⟨rj, pj, sbj, Sj, q1.keep (fun k hkj => t.block k (q1.lt k hkj) (fun hm => ?_)) hk.b.bytes, q2, q3⟩
      refine h.sep j i hj hi e k (by rw [q3]; simp at hkj ⊢; rcases hkj with rfl | rfl | rfl | hkj <;> simp [*]) ?_
      rw [h3]
      simp at hm ⊢
      rcases hm with rfl | rfl | rfl | hm <;> simp [*]
  · by_cases e : a = i
    · rw [if_pos e] at hka
      rw [if_neg (fun e2 => hab (e.trans e2.symm))] at hkb
      rcases hT k hka with hx | hx
      · exact h.sep i b hi hb (fun e2 => hab (e.trans e2)) k hx hkb
      · exact absurd (h.Tlt hb hkb) (by omega)
    · rw [if_neg e] at hka
      by_cases e2 : b = i
      · rw [if_pos e2] at hkb
        rcases hT k hkb with hx | hx
        · exact h.sep a i ha hi e k hka hx
        · exact absurd (h.Tlt ha hka) (by omega)
      · rw [if_neg e2] at hkb
        exact h.sep a b ha hb hab k hka hkb
  · replace hk' : k ∈ if j = i then nd i :: r' :: p :: sb' :: S' else T j := hk'
    by_cases e : j = i
    · rw [if_pos e] at hk'
      subst e
      exact hT k hk'
    · rw [if_neg e] at hk'
      exact Or.inl hk'
end
end Go.Proofs.YtjgbfghkiahfaaaGreatDoor
