import Derived.Test.YtajpnbmfeapmcaaT
namespace Go.Proofs.Ytajpnbmfeapmcaa
open Go.RowKit Go.Sort
set_option maxRecDepth 100000
set_option maxHeartbeats 1000000

/-- 'make([][]byte, n)'. -/
theorem make88 (n : Nat) (hn : n ≤ 1000000) : ∃ zs : Array Value, (∀ j, j < n → zs[j]? = some (.slice none 0 0)) ∧
    ∀ W : World, Sem.run Try.prog (Instr.makeSlice 25 (.int .i64 (n : Int)) (.int .i64 (n : Int))) W = .ok (.slice (some ⟨W.heap.size, 0, none⟩) n n) (W.alloc (.cells zs 29)) := by
  obtain ⟨i0, hi0, hz0, hz1, hz2⟩ := info_parts infoRow
  refine ⟨madeCells (Value.slice none 0 0).cells (n * i0.size), fun j hj => ?_, fun W => ?_⟩
  · rw [hz1]
    simp [madeCells, Value.cells, hj]
    rw [Nat.mod_one]; rfl
  · have h := run_make W 25 29 i0 (.slice none 0 0) Try.underlying25 hi0 hz0 .i64 .i64 (n : Int) (n : Int) (by omega) (by omega) (by rw [hz2]; omega) (by omega)
    simpa using h

/-- 'zeros' under way: block H has the rows, block H + 1 + i is row i. -/
structure Zs (w : World) (H n m k : Nat) : Prop where
  size : w.heap.size = H + 1 + k
  room : ∀ i, i < n → ∃ v, w.cell? ⟨H, i, none⟩ = some v
  outer : ∀ i, i < k → w.cell? ⟨H, i, none⟩ = some (.slice (some ⟨H + 1 + i, 0, none⟩) m m)
  cell : ∀ i, i < k → ∀ j, j < m → w.cell? ⟨H + 1 + i, j, none⟩ = some (.int .u8 ((0 : Nat) : Int))
  free : ∀ j, w.frozen? ⟨H, j, none⟩ = false
  freeG : ∀ i, i < k → ∀ j, w.frozen? ⟨H + 1 + i, j, none⟩ = false

theorem Zs.next {w : World} {H n m k : Nat} {zs : Array Value} (h : Zs w H n m k) (hk : k < n) (hz : ∀ j, j < m → zs[j]? = some (.int .u8 0)) :
    Zs ((w.alloc (.cells zs 5)).setCell ⟨H, k, none⟩ (.slice (some ⟨w.heap.size, 0, none⟩) m m)) H n m (k + 1) := by
  have hs := h.size
  have old : ∀ (b j : Nat), b < w.heap.size → (w.alloc (.cells zs 5)).cell? ⟨b, j, none⟩ = w.cell? ⟨b, j, none⟩ := fun b j hb => World.cell?_of_block (alloc_old w _ hb)
  have oldf : ∀ (b j : Nat), b < w.heap.size → (w.alloc (.cells zs 5)).frozen? ⟨b, j, none⟩ = w.frozen? ⟨b, j, none⟩ := fun b j hb => World.frozen?_of_block (alloc_old w _ hb)
  have nb : (w.alloc (.cells zs 5)).heap[H + 1 + k]? = some (.cells zs 5 (0, 0)) := by rw [← hs]; exact alloc_block _ _
  have nf : ∀ j, (w.alloc (.cells zs 5)).frozen? ⟨H + 1 + k, j, none⟩ = false := fun j => free_of_block nb
  have asz := alloc_size w (.cells zs 5)
  generalize w.alloc (.cells zs 5) = w1 at *
  obtain ⟨v0, e0⟩ := h.room k hk
  refine ⟨by simp [World.setCell]; omega, fun i hi => ?_, fun i hi => ?_, fun i hi j hj => ?_, fun j => ?_, fun i hi j => ?_⟩
  · by_cases e : i = k
    · subst e; exact ⟨_, World.cell?_setCell_same _ _ _ ((old H i (by omega)).trans e0)⟩
    · rw [cell_far (Or.inr e), old H i (by omega)]; exact h.room i hi
  · by_cases e : i = k
    · subst e; rw [World.cell?_setCell_same _ _ _ ((old H i (by omega)).trans e0), hs]
    · rw [cell_far (Or.inr e), old H i (by omega)]; exact h.outer i (by omega)
  · rw [cell_far (Or.inl (by omega))]
    by_cases e : i = k
    · subst e; rw [cell_of_block nb, hz j hj]; rfl
    · rw [old _ j (by omega)]; exact h.cell i (by omega) j hj
  · rw [World.frozen?_setCell, oldf H j (by omega)]; exact h.free j
  · rw [World.frozen?_setCell]
    by_cases e : i = k
    · subst e; exact nf j
    · rw [oldf _ j (by omega)]; exact h.freeG i (by omega) j

theorem mzeros (n m : Nat) (w : World) (hn : n ≤ 1000000) (hm : m ≤ 1000000) :
    Calls Try.prog 42 #[.int .i64 (n : Int), .int .i64 (m : Int)] w fun e w' => e = .returned (.slice (some ⟨w.heap.size, 0, none⟩) n n) ∧
      Own w' w.heap.size n m (fun i => w.heap.size + 1 + i) (fun _ => m) (fun _ _ => 0) ∧ Below w.heap.size w w' := by
  obtain ⟨zs, z1, z2⟩ := make8 m hm
  obtain ⟨zr, r1, r2⟩ := make88 n hn
  have HZ := Lib.hid z1
  have H0 : Hid (Zs (w.alloc (.cells zr 29)) w.heap.size n m 0 ∧ Below w.heap.size w (w.alloc (.cells zr 29))) :=
    Lib.hid ⟨⟨by rw [alloc_size], fun i hi => ⟨_, (cell_of_block (alloc_block w _)).trans (r1 i hi)⟩, fun i hi => absurd hi (Nat.not_lt_zero _), fun i hi => absurd hi (Nat.not_lt_zero _), fun j => free_of_block (alloc_block w _), fun i hi => absurd hi (Nat.not_lt_zero _)⟩, (Below.refl _ _).alloc (Nat.le_refl _) _⟩
  obtain ⟨H, hH⟩ : ∃ H, w.heap.size = H := ⟨_, rfl⟩
  have HH := Lib.hid hH
  rw [hH] at H0 ⊢
  clear z1 r1
  go_enter Try.func42, Try.ntmps42
  go_wp2_with fail
  generalize w.alloc (.cells zr 29) = w1 at *
  clear r2
  clear hH
  go_loopg [6, 11] n (fun q s6 s11 v => ∃ k : Nat, s11 = .int .i64 (k : Int) ∧ k ≤ n ∧ q = n - k ∧ Hid (Zs v H n m k ∧ Below H w v))
  case atStart => exact ⟨0, rfl, by omega, rfl, H0⟩
  case round =>
    obtain ⟨k, rfl, hk, rfl, HS⟩ := hrel
    clear H0
    by_cases hlt : k < n
    · have hl : (k : Int) < (n : Int) := by omega
      obtain ⟨v0, c0⟩ := HS.out.1.room k hlt
      have hHs : H < wr.heap.size := by have := HS.out.1.size; omega
      have c1 : (wr.alloc (.cells zs 5)).cell? ⟨H, k, none⟩ = some v0 := (World.cell?_of_block (alloc_old wr _ hHs)).trans c0
      have f0 := HS.out.1.free k
      have f1 : (wr.alloc (.cells zs 5)).frozen? ⟨H, k, none⟩ = false := (World.frozen?_of_block (alloc_old wr _ hHs)).trans f0
      have hn0 := HS.out.1.next hlt HZ.out
      rw [World.setCell_alloc_past _ _ _ _ hHs] at hn0
      have HN := Lib.hid hn0
      clear hn0
      have HB : Hid (∀ v, Below H w ((wr.setCell ⟨H, k, none⟩ v).alloc (.cells zs 5))) := Lib.hid (fun v => (HS.out.2.setCell (Nat.le_refl _) _).alloc (by have := HS.out.1.size; simp [World.setCell]; omega) _)
      clear HS
      go_wp2_with fail
      go_roundg (n - (k + 1))
      case measure => omega
      case rel => exact ⟨k + 1, by go_num, by omega, rfl, Lib.hid ⟨HN.out, HB.out _⟩⟩
    · have hge : ¬ (k : Int) < (n : Int) := by omega
      have e : k = n := by omega
      subst e
      go_wp2_with fail
      go_ret
      have hs := HS.out.1
      exact ⟨rfl, ⟨hs.outer, hs.cell, hs.free, hs.freeG, fun i hi => by omega, fun i hi k' hk' e => by omega⟩, HS.out.2⟩
end Go.Proofs.Ytajpnbmfeapmcaa
