import Derived.Test.YtajpnbmfeapmcaaQ
namespace Go.Proofs.Ytajpnbmfeapmcaa
open Go.RowKit Go.Sort
set_option maxRecDepth 100000
set_option maxHeartbeats 1000000

theorem alloc_block (w : World) (o : Obj) : (w.alloc o).heap[w.heap.size]? = some o := by
  show (w.heap.push _)[w.heap.size]? = _
  rw [Array.getElem?_push, if_pos rfl]
theorem alloc_old (w : World) (o : Obj) {k : Nat} (h : k < w.heap.size) : (w.alloc o).heap[k]? = w.heap[k]? := by
  show (w.heap.push _)[k]? = _
  rw [Array.getElem?_push, if_neg (by omega)]
theorem alloc_size (w : World) (o : Obj) : (w.alloc o).heap.size = w.heap.size + 1 := by simp
theorem free_of_block {w : World} {b k : Nat} {cs : Array Value} {t : TypeId} (h : w.heap[b]? = some (.cells cs t (0, 0))) : w.frozen? ⟨b, k, none⟩ = false := by
  simp [World.frozen?, h]

/-- What a world's change leaves: all blocks but g. -/
theorem only_drewN {a w : World} {row : Option Nat} (h : a.grownBy w row) (n : Nat) : a.grownBy (w.drewN n) row := ⟨h.os, h.tape, h.output, h.size, h.block⟩
theorem only_drew {a w : World} {row : Option Nat} (h : a.grownBy w row) : a.grownBy w.drew row := ⟨h.os, h.tape, h.output, h.size, h.block⟩
theorem only_refl (a : World) (row : Option Nat) : a.grownBy a row := ⟨rfl, rfl, rfl, Nat.le_refl _, fun _ _ _ => rfl⟩
theorem only_setCell {a w : World} {g : Nat} (h : a.grownBy w (some g)) (k : Nat) (u : Value) : a.grownBy (w.setCell ⟨g, k, none⟩ u) (some g) :=
  ⟨h.os, h.tape, h.output, by simpa [World.setCell] using h.size, fun i hi hne => (Below.heap_setCell w ⟨g, k, none⟩ u i (by rintro rfl; exact hne rfl)).trans (h.block i hi hne)⟩

theorem Own.row8 {w : World} {b r c p : Nat} {G K : Nat → Nat} {A : Mx} (h : Own w b r c G K A) (hp : p < r) : Row8 w (G p) c (A p) := ⟨h.cell p hp, h.freeG p hp⟩
/-- One row has turned. -/
theorem Own.row_put {w w' : World} {b r c p : Nat} {G K : Nat → Nat} {A : Mx} {F : Nat → Nat} (h : Own w b r c G K A) (hp : p < r) (hc : 0 < c) (hr : Row8 w' (G p) c F) (hg : w.grownBy w' (some (G p))) :
    Own w' b r c G K (fun i j => if i = p then F j else A i j) := by
  have hb : ∀ i, i < r → i ≠ p → w'.heap[G i]? = w.heap[G i]? := fun i hi hne => hg.block _ (h.ltG hi hc) (fun e => hne (h.inj i hi p hp (by injection e)))
  have hbb : w'.heap[b]? = w.heap[b]? := hg.block _ (h.lt (by omega)) (fun e => h.apart p hp (by injection e with e; exact e.symm))
  refine ⟨fun i hi => (World.cell?_of_block (w := w) hbb).trans (h.outer i hi), fun i hi j hj => ?_, fun k => (World.frozen?_of_block (w := w) hbb).trans (h.free k), fun i hi k => ?_, h.apart, h.inj⟩
  · by_cases e : i = p
    · subst e; rw [if_pos rfl]; exact hr.cell j hj
    · rw [if_neg e]; exact (World.cell?_of_block (w := w) (hb i hi e)).trans (h.cell i hi j hj)
  · by_cases e : i = p
    · subst e; exact hr.free k
    · exact (World.frozen?_of_block (w := w) (hb i hi e)).trans (h.freeG i hi k)
theorem Own.drew {w : World} {b r c : Nat} {G K : Nat → Nat} {A : Mx} (h : Own w b r c G K A) : Own w.drew b r c G K A := h.keep (fun _ _ => rfl)
theorem Below.of_only {B : Nat} {w0 w w' : World} {g : Nat} (h : Below B w0 w) (hg : w.grownBy w' (some g)) (hB : B ≤ g) (hs : B ≤ w.heap.size) : Below B w0 w' :=
  ⟨hg.os.trans h.os, hg.tape.trans h.tape, hg.output.trans h.output, Nat.le_trans h.size hg.size, fun k hk => (hg.block k (by omega) (fun e => by injection e; omega)).trans (h.block k hk)⟩

theorem addr_add (h q j : Nat) : (⟨h, q, none⟩ : Addr).add j = ⟨h, q + j, none⟩ := by
  unfold Addr.add
  split
  · rename_i e; subst e; rfl
  · rfl
/-- A row, as it is read. -/
def rowL (n : Nat) (X : Nat → Nat) : List Value := (List.range n).map (fun j => Value.int .u8 (X j : Nat))
theorem rowL_len (n : Nat) (X : Nat → Nat) : (rowL n X).length = n := by simp [rowL]
theorem rowL_get {n j : Nat} {X : Nat → Nat} (h : j < n) : (rowL n X)[j]? = some (.int .u8 (X j : Nat)) := by simp [rowL, h]
theorem rowL_cells {w : World} {h q n : Nat} {X : Nat → Nat} (hx : ∀ j, j < n → w.cell? ⟨h, q + j, none⟩ = some (.int .u8 (X j : Nat))) : ∀ j u, (rowL n X)[j]? = some u → w.cell? ((⟨h, q, none⟩ : Addr).add j) = some u := by
  intro j u hu
  have hj : j < n := by have := (List.getElem?_eq_some_iff.1 hu).1; rwa [rowL_len] at this
  rw [rowL_get hj] at hu
  cases hu
  rw [addr_add]
  exact hx j hj
theorem rowL_one {n : Nat} {X : Nat → Nat} : ∀ u ∈ rowL n X, u.oneCell' = true := by
  intro u hu
  simp [rowL] at hu
  obtain ⟨j, _, rfl⟩ := hu
  rfl
/-- What a row owned has. -/
theorem own_row8 {w : World} {B g n cap : Nat} {xs : List Value} {X : Nat → Nat} (h : w.ownsRow B 5 1 (.slice (some ⟨g, 0, none⟩) n cap) n xs) (hx : ∀ j, j < n → xs[j]? = some (.int .u8 (X j : Nat))) : Row8 w g n X := by
  refine ⟨fun j hj => ?_, fun k => ?_⟩
  · have := h.cells (g := g) rfl j _ (hx j hj)
    rw [addr_add, Nat.zero_add] at this
    exact this
  · rcases h.2 with ⟨h0, _⟩ | ⟨g', cap', cur, e, _, hb, _⟩
    · cases h0
    · cases e
      exact free_of_block hb

/-- The rows of a matrix, as lists. -/
def rowsOf (r c : Nat) (M : Mx) : List (List Nat) := (List.range r).map (fun i => (List.range c).map (M i))
theorem rowsOf_len (r c : Nat) (M : Mx) : (rowsOf r c M).length = r := by simp [rowsOf]
theorem rowsOf_get {r c i : Nat} {M : Mx} (hi : i < r) : (rowsOf r c M)[i]? = some ((List.range c).map (M i)) := by simp [rowsOf, hi]
theorem rowsOf_row {r c i : Nat} {M : Mx} {xs : List Nat} (h : (rowsOf r c M)[i]? = some xs) : i < r ∧ xs = (List.range c).map (M i) := by
  have hi : i < r := by have := (List.getElem?_eq_some_iff.1 h).1; rwa [rowsOf_len] at this
  rw [rowsOf_get hi] at h
  exact ⟨hi, (Option.some.inj h).symm⟩
theorem rowsOf_rowlen {r c i : Nat} {M : Mx} {xs : List Nat} (h : (rowsOf r c M)[i]? = some xs) : xs.length = c := by
  rw [(rowsOf_row h).2]; simp
theorem rowsOf_right {r c : Nat} (M : Mx) (h1 : 1 ≤ r) (h2 : r ≤ 64) (h3 : 1 ≤ c) (h4 : c ≤ 64) : RightP (rowsOf r c M) :=
  ⟨by rw [rowsOf_len]; exact h1, by rw [rowsOf_len]; exact h2, c, h3, h4, fun _ _ h => rowsOf_rowlen h⟩
theorem rowsOf_bytes {r c : Nat} {M : Mx} (h : Bd r c M) : Bytes (rowsOf r c M) := fun i xs hx x hm => by
  obtain ⟨hi, rfl⟩ := rowsOf_row hx
  simp at hm
  obtain ⟨j, hj, rfl⟩ := hm
  exact h i hi j hj
theorem rowsOf_ent {r c : Nat} (M : Mx) : EqM r c (ent (rowsOf r c M)) M := fun i hi j hj => by
  unfold ent
  rw [rowsOf_get hi, Option.getD_some]
  simp [hj]
theorem rowsOf_congr {r c : Nat} {M M' : Mx} (h : EqM r c M M') : rowsOf r c M = rowsOf r c M' := by
  unfold rowsOf
  refine List.map_congr_left (fun i hi => List.map_congr_left (fun j hj => h i ?_ j ?_))
  · simpa using hi
  · simpa using hj
theorem rowsOf_inj {r c : Nat} {M M' : Mx} (h : rowsOf r c M = rowsOf r c M') : EqM r c M M' := fun i hi j hj => by
  have h1 := rowsOf_get (c := c) (M := M) hi
  rw [h, rowsOf_get hi] at h1
  have h2 : ((List.range c).map (M' i))[j]? = ((List.range c).map (M i))[j]? := by rw [Option.some.inj h1]
  simp [hj] at h2
  exact h2.symm
theorem rowsOf_zero (c : Nat) (M : Mx) : rowsOf 0 c M = [] := rfl
theorem rowsOf_of {xss : List (List Nat)} {c : Nat} (h : ∀ (i : Nat) (xs : List Nat), xss[i]? = some xs → xs.length = c) : rowsOf xss.length c (ent xss) = xss := by
  apply List.ext_getElem?
  intro i
  by_cases hi : i < xss.length
  · rw [rowsOf_get hi]
    obtain ⟨xs, hxs⟩ : ∃ xs, xss[i]? = some xs := ⟨_, List.getElem?_eq_getElem hi⟩
    rw [hxs]
    congr 1
    apply List.ext_getElem?
    intro j
    have hl := h i xs hxs
    by_cases hj : j < c
    · simp [hj, ent, hxs]
      rw [List.getElem?_eq_getElem (by omega)]; rfl
    · rw [List.getElem?_eq_none (by simp; omega), List.getElem?_eq_none (by omega)]
  · rw [List.getElem?_eq_none (by rw [rowsOf_len]; omega), List.getElem?_eq_none (by omega)]

/-- Rows as they are read, each wherever it lies. -/
theorem rawIn_of {w : World} {b o r c : Nat} {M : Mx} (h : ∀ i, i < r → ∃ g q cap, w.cell? ⟨b, o + i, none⟩ = some (.slice (some ⟨g, q, none⟩) c cap) ∧ ∀ j, j < c → w.cell? ⟨g, q + j, none⟩ = some (.int .u8 (M i j : Nat))) :
    RawIn w (some ⟨b, o, none⟩) (rowsOf r c M) := by
  intro i xs hxs
  obtain ⟨hi, rfl⟩ := rowsOf_row hxs
  obtain ⟨g, q, cap, h1, h2⟩ := h i hi
  refine ⟨b, o, rfl, cell?_lt h1, some ⟨g, q, none⟩, cap, by simpa using h1, fun j x hx => ?_⟩
  have hj : j < c := by have := (List.getElem?_eq_some_iff.1 hx).1; simpa using this
  simp [hj] at hx
  subst hx
  exact ⟨g, q, rfl, cell?_lt (h2 j hj), h2 j hj⟩
theorem Own.raw {w : World} {b r c : Nat} {G K : Nat → Nat} {A : Mx} (h : Own w b r c G K A) : RawIn w (some ⟨b, 0, none⟩) (rowsOf r c A) :=
  rawIn_of (fun i hi => ⟨G i, 0, K i, by rw [Nat.zero_add]; exact h.outer i hi, fun j hj => by rw [Nat.zero_add]; exact h.cell i hi j hj⟩)

theorem rowsOf_facts {r c : Nat} {M : Mx} (hM : Bd r c M) (h1 : 1 ≤ r) (h2 : r ≤ 64) (h3 : 1 ≤ c) (h4 : c ≤ 64) : RightP (rowsOf r c M) ∧ Bytes (rowsOf r c M) ∧ ∀ (i : Nat) (xs : List Nat), (rowsOf r c M)[i]? = some xs → xs.length = c :=
  ⟨rowsOf_right M h1 h2 h3 h4, rowsOf_bytes hM, fun _ _ h => rowsOf_rowlen h⟩
/-- Rows that a statement made by append. -/
theorem Rows8.mat {w : World} {B n c : Nat} {v : Value} {G : Nat → Nat} {A : Mx} (h : Rows8 w B v n c G A) (hn : 1 ≤ n) : ∃ o cap, v = .slice (some ⟨o, 0, none⟩) n cap ∧ RawIn w (some ⟨o, 0, none⟩) (rowsOf n c A) := by
  obtain ⟨xs, hx, hg⟩ := h.own
  rcases hx.2 with ⟨_, h0⟩ | ⟨g, cap, cur, rfl, _⟩
  · omega
  · refine ⟨g, cap, rfl, rawIn_of (fun i hi => ⟨G i, 0, c, ?_, fun j hj => by rw [Nat.zero_add]; exact (h.row i hi).cell j hj⟩)⟩
    have := hx.cells (g := g) rfl i _ (hg i hi)
    rw [addr_add] at this
    exact this
end Go.Proofs.Ytajpnbmfeapmcaa
