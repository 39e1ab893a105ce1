import Derived.Test.YtajpnbmfeapmcaaM4
import Derived.Test.YtajpnbmfeapmcaaC
namespace Go.Proofs.Ytajpnbmfeapmcaa
open Go.RowKit Go.Sort

/-- Rows of bytes, as they are read: a slice of r slices of c bytes. -/
def RowsIn (w : World) (a : Option Addr) (r c : Nat) (A : Mx) : Prop :=
  ∀ i, i < r → ∃ b o, a = some ⟨b, o, none⟩ ∧ b < w.heap.size ∧ ∃ (g : Option Addr) (cap : Nat), w.cell? ⟨b, o + i, none⟩ = some (.slice g c cap) ∧
    ∀ j, j < c → ∃ h q, g = some ⟨h, q, none⟩ ∧ h < w.heap.size ∧ w.cell? ⟨h, q + j, none⟩ = some (.int .u8 (A i j : Nat))

theorem RowsIn.keep {w w' : World} {a : Option Addr} {r c B : Nat} {A : Mx} (h : RowsIn w a r c A) (b : Below B w w') (hB : w.heap.size ≤ B) (hs : w.heap.size ≤ w'.heap.size) : RowsIn w' a r c A := by
  intro i hi
  obtain ⟨b1, o, e, hb, g, cap, hc, hj⟩ := h i hi
  refine ⟨b1, o, e, by omega, g, cap, (b.cell (p := ⟨b1, o + i, none⟩) (by show b1 < B; omega)).trans hc, fun j hjc => ?_⟩
  obtain ⟨h1, q, e2, hh, hx⟩ := hj j hjc
  exact ⟨h1, q, e2, by omega, (b.cell (p := ⟨h1, q + j, none⟩) (by show h1 < B; omega)).trans hx⟩
theorem RowsIn.congr {w : World} {a : Option Addr} {r c : Nat} {A B : Mx} (h : RowsIn w a r c A) (e : EqM r c A B) : RowsIn w a r c B := by
  intro i hi
  obtain ⟨b1, o, ea, hb, g, cap, hc, hj⟩ := h i hi
  refine ⟨b1, o, ea, hb, g, cap, hc, fun j hjc => ?_⟩
  obtain ⟨h1, q, e2, hh, hx⟩ := hj j hjc
  exact ⟨h1, q, e2, hh, by rw [← e i hi j hjc]; exact hx⟩

/-- Rows of one's own: block b has them, row i lies in block G i; no two share any. -/
structure Own (w : World) (b r c : Nat) (G K : Nat → Nat) (A : Mx) : Prop where
  outer : ∀ i, i < r → w.cell? ⟨b, i, none⟩ = some (.slice (some ⟨G i, 0, none⟩) c (K i))
  cell : ∀ i, i < r → ∀ j, j < c → w.cell? ⟨G i, j, none⟩ = some (.int .u8 (A i j : Nat))
  free : ∀ k, w.frozen? ⟨b, k, none⟩ = false
  freeG : ∀ i, i < r → ∀ k, w.frozen? ⟨G i, k, none⟩ = false
  apart : ∀ i, i < r → G i ≠ b
  inj : ∀ i, i < r → ∀ k, k < r → G i = G k → i = k

theorem addr_ne {b b' o o' : Nat} (h : b ≠ b' ∨ o ≠ o') : (⟨b, o, none⟩ : Addr) ≠ ⟨b', o', none⟩ := by
  intro e
  injection e with e1 e2
  rcases h with h | h
  · exact h e1
  · exact h e2

theorem cell_far {w : World} {b b' o o' : Nat} {v : Value} (h : b ≠ b' ∨ o ≠ o') : (w.setCell ⟨b', o', none⟩ v).cell? ⟨b, o, none⟩ = w.cell? ⟨b, o, none⟩ :=
  World.cell?_setCell_other _ _ _ _ (addr_ne h).symm

/-- One byte is written. -/
theorem Own.put {w : World} {b r c p q x : Nat} {G K : Nat → Nat} {A : Mx} (h : Own w b r c G K A) (hp : p < r) (hq : q < c) :
    Own (w.setCell ⟨G p, q, none⟩ (.int .u8 (x : Nat))) b r c G K (fun i j => if i = p ∧ j = q then x else A i j) := by
  refine ⟨fun i hi => ?_, fun i hi j hj => ?_, fun k => ?_, fun i hi k => ?_, h.apart, h.inj⟩
  · rw [cell_far (Or.inl (fun e => h.apart p hp e.symm))]
    exact h.outer i hi
  · by_cases e : i = p ∧ j = q
    · obtain ⟨rfl, rfl⟩ := e
      rw [World.cell?_setCell_same _ _ _ (h.cell i hi j hj), if_pos ⟨rfl, rfl⟩]
    · rw [if_neg e, cell_far (by
        by_cases hij : i = p
        · right
          intro e2
          exact e ⟨hij, e2⟩
        · left
          intro e2
          exact hij (h.inj i hi p hp e2))]
      exact h.cell i hi j hj
  · rw [World.frozen?_setCell]; exact h.free k
  · rw [World.frozen?_setCell]; exact h.freeG i hi k

/-- Two rows change places. -/
theorem Own.swap {w : World} {b r c p q : Nat} {G K : Nat → Nat} {A : Mx} (h : Own w b r c G K A) (hp : p < r) (hq : q < r) :
    Own ((w.setCell ⟨b, p, none⟩ (.slice (some ⟨G q, 0, none⟩) c (K q))).setCell ⟨b, q, none⟩ (.slice (some ⟨G p, 0, none⟩) c (K p))) b r c (fun i => G (sw p q i)) (fun i => K (sw p q i)) (fun i j => A (sw p q i) j) := by
  have c1 : (w.setCell ⟨b, p, none⟩ (.slice (some ⟨G q, 0, none⟩) c (K q))).cell? ⟨b, q, none⟩ = some (.slice (some ⟨G q, 0, none⟩) c (K q)) := by
    by_cases e : q = p
    · subst e; rw [World.cell?_setCell_same _ _ _ (h.outer q hq)]
    · rw [cell_far (Or.inr e)]; exact h.outer q hq
  refine ⟨fun i hi => ?_, fun i hi j hj => ?_, fun k => ?_, fun i hi k => ?_, fun i hi => h.apart _ (sw_lt hp hq hi), fun i hi k hk e => sw_inj (h.inj _ (sw_lt hp hq hi) _ (sw_lt hp hq hk) e)⟩
  · by_cases e1 : i = q
    · subst e1
      rw [World.cell?_setCell_same _ _ _ c1]
      have : sw p i i = p := by unfold sw; split <;> simp_all
      rw [this]
    · rw [cell_far (Or.inr e1)]
      by_cases e2 : i = p
      · subst e2
        rw [World.cell?_setCell_same _ _ _ (h.outer i hi)]
        have : sw i q i = q := by unfold sw; rw [if_pos rfl]
        rw [this]
      · rw [cell_far (Or.inr e2)]
        have : sw p q i = i := by unfold sw; rw [if_neg e2, if_neg e1]
        rw [this]
        exact h.outer i hi
  · have hs := sw_lt hp hq hi
    rw [cell_far (Or.inl (h.apart _ hs)), cell_far (Or.inl (h.apart _ hs))]
    exact h.cell _ hs j hj
  · rw [World.frozen?_setCell, World.frozen?_setCell]; exact h.free k
  · rw [World.frozen?_setCell, World.frozen?_setCell]; exact h.freeG _ (sw_lt hp hq hi) k

theorem Own.congr {w : World} {b r c : Nat} {G K : Nat → Nat} {A B : Mx} (h : Own w b r c G K A) (e : EqM r c A B) : Own w b r c G K B :=
  ⟨h.outer, fun i hi j hj => by rw [← e i hi j hj]; exact h.cell i hi j hj, h.free, h.freeG, h.apart, h.inj⟩
theorem Own.lt {w : World} {b r c : Nat} {G K : Nat → Nat} {A : Mx} (h : Own w b r c G K A) (hr : 0 < r) : b < w.heap.size := cell?_lt (h.outer 0 hr)
theorem Own.ltG {w : World} {b r c i : Nat} {G K : Nat → Nat} {A : Mx} (h : Own w b r c G K A) (hi : i < r) (hc : 0 < c) : G i < w.heap.size := cell?_lt (h.cell i hi 0 hc)

/-- Own rows stay where nothing of them is written. -/
theorem Own.keep {w w' : World} {b r c : Nat} {G K : Nat → Nat} {A : Mx} (h : Own w b r c G K A) (e : ∀ k, k = b ∨ (∃ i, i < r ∧ k = G i) → w'.heap[k]? = w.heap[k]?) : Own w' b r c G K A :=
  ⟨fun i hi => (World.cell?_of_block (w := w) (e b (Or.inl rfl))).trans (h.outer i hi),
   fun i hi j hj => (World.cell?_of_block (w := w) (e _ (Or.inr ⟨i, hi, rfl⟩))).trans (h.cell i hi j hj),
   fun k => (World.frozen?_of_block (w := w) (e b (Or.inl rfl))).trans (h.free k),
   fun i hi k => (World.frozen?_of_block (w := w) (e _ (Or.inr ⟨i, hi, rfl⟩))).trans (h.freeG i hi k), h.apart, h.inj⟩

/-- Own rows are rows. -/
theorem Own.rows {w : World} {b r c : Nat} {G K : Nat → Nat} {A : Mx} (h : Own w b r c G K A) (hc : 0 < c) : RowsIn w (some ⟨b, 0, none⟩) r c A := by
  intro i hi
  refine ⟨b, 0, rfl, h.lt (by omega), some ⟨G i, 0, none⟩, K i, by rw [Nat.zero_add]; exact h.outer i hi, fun j hj => ⟨G i, 0, rfl, h.ltG hi hc, by rw [Nat.zero_add]; exact h.cell i hi j hj⟩⟩
end Go.Proofs.Ytajpnbmfeapmcaa
