import Derived.Test.YtajpnbmfeapmcaaK11
namespace Go.Proofs.Ytajpnbmfeapmcaa
open Go.RowKit Go.Sort
set_option maxRecDepth 100000
set_option maxHeartbeats 1000000

theorem rowL_add (m n : Nat) (Z D : Nat → Nat) (h : ∀ j, j < n → D j = Z (m + j)) : rowL m Z ++ rowL n D = rowL (m + n) Z := by
  apply List.ext_getElem?
  intro i
  by_cases h1 : i < m
  · rw [List.getElem?_append_left (by rw [rowL_len]; exact h1), rowL_get h1, rowL_get (by omega)]
  · by_cases h2 : i < m + n
    · rw [List.getElem?_append_right (by rw [rowL_len]; omega), rowL_len, rowL_get (by omega), rowL_get h2, h (i - m) (by omega), show m + (i - m) = i by omega]
    · rw [List.getElem?_eq_none (by rw [List.length_append, rowL_len, rowL_len]; omega), List.getElem?_eq_none (by rw [rowL_len]; omega)]

/-- The bytes of four rows, one behind the other. -/
def flat (D : Mx) : Nat → Nat := fun t => D (t / 32) (t % 32)
theorem flat_at (D : Mx) {k j : Nat} (hj : j < 32) : D k j = flat D (32 * k + j) := by
  unfold flat
  rw [show (32 * k + j) / 32 = k by omega, show (32 * k + j) % 32 = j by omega]

/-- slices.Concat of four rows of 32. -/
theorem mconcat4 (b cs : Nat) (G K : Nat → Nat) (D : Mx) (w : World) (ho : Own w b 4 32 G K D) :
    Calls Try.prog 31 #[.slice (some ⟨b, 0, none⟩) 4 cs] w fun e w' => ∃ cap, e = .returned (.slice (some ⟨w.heap.size, 0, none⟩) 128 cap) ∧ 128 ≤ cap ∧
      Row8 w' w.heap.size 128 (flat D) ∧ Below w.heap.size w w' := by
  obtain ⟨i0, hi0, hz0, hz1, hz2⟩ := info_parts infoByte
  have HO := Lib.hid ho
  have lb := ho.lt (by omega)
  have HG := Lib.hid (mgrow 128 w (by omega) (by omega))
  obtain ⟨H, hH⟩ : ∃ H, w.heap.size = H := ⟨_, rfl⟩
  rw [hH] at HG lb ⊢
  have HH := Lib.hid hH
  have HLG : Hid (∀ i, i < 4 → G i < H) := Lib.hid (fun i hi => by have := ho.ltG hi (show 0 < 32 by omega); omega)
  clear hH ho
  go_enter Try.func31, Try.ntmps31
  go_wp2_with fail
  go_loopg [3, 11] 4 (fun q s3 s11 v => ∃ (k : Nat) (m : Int), s3 = .int .i64 m ∧ Hid (m = 32 * (k : Int)) ∧ s11 = .int .i64 (k : Int) ∧ k ≤ 4 ∧ q = 4 - k ∧ w = v)
  case atStart => exact ⟨0, 0, rfl, Lib.hid rfl, rfl, by omega, rfl, rfl⟩
  case round =>
    obtain ⟨k, m, rfl, hm, rfl, hk, rfl, rfl⟩ := hrel
    by_cases hlt : k < 4
    · have hk' : (k : Int) < 4 := by omega
      have c1 := HO.out.outer k hlt
      have n1 : ¬ m + 32 < 0 := by have := hm.out; omega
      have n2 : 0 ≤ m ∧ m ≤ 1000 := by have := hm.out; omega
      go_wp2_with fail
      go_roundg (4 - (k + 1))
      case measure => omega
      case rel => exact ⟨k + 1, m + 32, rfl, Lib.hid (by have := hm.out; omega), by go_num, by omega, rfl, rfl⟩
    · obtain rfl : k = 4 := by omega
      obtain rfl : m = 128 := by have := hm.out; omega
      go_wp2_with fail
      refine HG.out.mono ?_
      rintro e w2 ⟨cap, rfl, hcap, ho2, hb2⟩
      have HB := Lib.hid hb2
      have HHS : Hid (H ≤ w2.heap.size) := Lib.hid (by rw [← HH.out]; have := hb2.size; omega)
      have H0 : Hid (w2.ownsRow H 5 1 (.slice (some ⟨H, 0, none⟩) 0 cap) 0 (rowL 0 (flat D)) ∧ Below H w w2 ∧ H ≤ w2.heap.size) := Lib.hid ⟨ho2, hb2, HHS.out⟩
      clear ho2 hb2 HG
      go_wp2_with fail
      go_loopg [6, 27] 4 (fun q s6 s27 v => ∃ (k m : Nat), s6 = .slice (some ⟨H, 0, none⟩) m cap ∧ Hid (m = 32 * k) ∧ s27 = .int .i64 (k : Int) ∧ k ≤ 4 ∧ q = 4 - k ∧ Hid (v.ownsRow H 5 1 (.slice (some ⟨H, 0, none⟩) m cap) m (rowL m (flat D)) ∧ Below H w v ∧ H ≤ v.heap.size))
      case atStart => exact ⟨0, 0, rfl, Lib.hid rfl, rfl, by omega, rfl, H0⟩
      case round =>
        obtain ⟨k, m, rfl, hm, rfl, hk, rfl, HV⟩ := hrel
        clear H0
        by_cases hlt : k < 4
        · have hk' : (k : Int) < 4 := by omega
          have c1 := (HV.out.2.1.cell (p := ⟨b, k, none⟩) lb).trans (HO.out.outer k hlt)
          have HX : Hid (∀ j, j < 32 → wr.cell? ⟨G k, 0 + j, none⟩ = some (.int .u8 (D k j : Nat))) := Lib.hid (fun j hj => by
            rw [Nat.zero_add]
            exact (HV.out.2.1.cell (p := ⟨G k, j, none⟩) (HLG.out k hlt)).trans (HO.out.cell k hlt j hj))
          have hmc : m + 32 ≤ cap := by have := hm.out; omega
          go_wp2_with (at_builtin; refine wpList_append_fits _ rfl _ _ 29 rfl H 5 i0 1 Try.underlying29 hi0 hz1 H m cap (rowL m (flat D)) rfl HV.out.1 ⟨G k, 0, none⟩ 32 (K k) (rowL 32 (D k)) rfl (by rw [rowL_len]) (rowL_cells HX.out) rowL_one hmc ?_; intro w3 ho3 hg3; rw [rowL_add m 32 (flat D) (D k) (fun j hj => by rw [flat_at D hj, hm.out])] at ho3; have HO3 := Lib.hid ho3; have HG3 := Lib.hid hg3; clear ho3 hg3)
          go_roundg (4 - (k + 1))
          case measure => omega
          case rel => exact ⟨k + 1, m + 32, rfl, Lib.hid (by have := hm.out; omega), by go_num, by omega, rfl, Lib.hid ⟨HO3.out, Below.of_only HV.out.2.1 HG3.out (Nat.le_refl _) HV.out.2.2, Nat.le_trans HV.out.2.2 HG3.out.size⟩⟩
        · obtain rfl : k = 4 := by omega
          obtain rfl : m = 128 := by have := hm.out; omega
          go_wp2_with fail
          go_ret
          exact ⟨cap, rfl, hcap, own_row8 HV.out.1 (fun j hj => rowL_get hj), HV.out.2.1⟩
end Go.Proofs.Ytajpnbmfeapmcaa
