import Derived.Test.YtajpnbmfeapmcaaW
import Derived.Lib.AppendZeros
namespace Go.Proofs.Ytajpnbmfeapmcaa
open Go.RowKit Go.Sort
set_option maxRecDepth 100000
set_option maxHeartbeats 1000000

/-- slices.Grow of nil. -/
theorem mgrow (n : Nat) (w : World) (h1 : 1 ≤ n) (h2 : n ≤ 128) :
    Calls Try.prog 50 #[.slice none 0 0, .int .i64 (n : Int)] w fun e w' => ∃ cap, e = .returned (.slice (some ⟨w.heap.size, 0, none⟩) 0 cap) ∧ n ≤ cap ∧
      w'.ownsRow w.heap.size 5 1 (.slice (some ⟨w.heap.size, 0, none⟩) 0 cap) 0 [] ∧ Below w.heap.size w w' := by
  obtain ⟨i0, hi0, hz0, hz1, hz2⟩ := info_parts infoByte
  obtain ⟨cap, hcap⟩ : ∃ cap, cap = grownCap w n 0 5 := ⟨_, rfl⟩
  have hr := fun ty => Lib.run_append_nil_zeros (P := Try.prog) w 29 3 ty 5 i0 (.int .u8 0) .i64 .i64 Try.underlying29 Try.underlying3 hi0 hz0 n (by omega) (by omega) (by omega) (by rw [hz2]; omega)
  have hge : n ≤ cap := by rw [hcap]; exact grownCap_ge _ _ _ _
  have hmx : cap ≤ maxLen := by rw [hcap]; exact grownCap_le_maxLen _ _ _ _ (by unfold maxLen; omega)
  rw [← hcap] at hr
  have hsz : (Builtin.zeroCells (Value.int .u8 0).cells n ++ Builtin.zeroCells (Value.int .u8 0).cells (cap - n)).size = cap * 1 := by
    simp [Builtin.zeroCells, Value.cells]; omega
  clear hcap
  generalize Builtin.zeroCells (Value.int .u8 0).cells n ++ Builtin.zeroCells (Value.int .u8 0).cells (cap - n) = cur at hr hsz
  have HO : Hid ((w.drew.alloc (.cells cur 5)).ownsRow w.heap.size 5 1 (.slice (some ⟨w.heap.size, 0, none⟩) 0 cap) 0 [] ∧ Below w.heap.size w (w.drew.alloc (.cells cur 5))) :=
    Lib.hid ⟨World.ownsRow_made w.drew cur cap (Nat.le_refl _) hmx hsz, (Below.refl _ _).drew.alloc (Nat.le_refl _) _⟩
  have HR : Hid (∀ ty, (Builtin.append_ #[29, 3] ty #[.slice none 0 0, .int .i64 (n : Int)]).run Try.prog w = .ok (.slice (some ⟨w.heap.size, 0, none⟩) n cap) (w.drew.alloc (.cells cur 5))) := Lib.hid hr
  clear hr hsz
  unfold maxLen at hmx
  have hn0 : ¬ (n : Int) < 0 := by omega
  have hn1 : (0 : Int) < (n : Int) := by omega
  go_enter Try.func50, Try.ntmps50
  go_wp2_with (at_builtin; refine Lib.wpList_append_run _ rfl _ _ _ _ rfl _ _ rfl rfl _ _ (HR.out _) ?_)
  go_ret
  exact ⟨cap, rfl, hge, HO.out.1, HO.out.2⟩

/-- slices.Concat of two rows. -/
theorem mconcat (sb h1 q1 c1 h2 q2 c2 n m : Nat) (X Y : Nat → Nat) (w : World) (n1 : 1 ≤ n) (n2 : n ≤ 64) (m1 : 1 ≤ m) (m2 : m ≤ 64)
    (s0 : w.cell? ⟨sb, 0, none⟩ = some (.slice (some ⟨h1, q1, none⟩) n c1)) (s1 : w.cell? ⟨sb, 1, none⟩ = some (.slice (some ⟨h2, q2, none⟩) m c2))
    (hx : ∀ j, j < n → w.cell? ⟨h1, q1 + j, none⟩ = some (.int .u8 (X j : Nat))) (hy : ∀ j, j < m → w.cell? ⟨h2, q2 + j, none⟩ = some (.int .u8 (Y j : Nat))) :
    Calls Try.prog 31 #[.slice (some ⟨sb, 0, none⟩) 2 2] w fun e w' => ∃ cap, e = .returned (.slice (some ⟨w.heap.size, 0, none⟩) (n + m) cap) ∧ n + m ≤ cap ∧
      Row8 w' w.heap.size (n + m) (fun j => if j < n then X j else Y (j - n)) ∧ Below w.heap.size w w' := by
  obtain ⟨i0, hi0, hz0, hz1, hz2⟩ := info_parts infoByte
  have l1 := cell?_lt (hx 0 (by omega))
  have l2 := cell?_lt (hy 0 (by omega))
  have ls := cell?_lt s0
  have HX := Lib.hid hx
  have HY := Lib.hid hy
  clear hx hy
  have en : ¬ (n : Int) < 0 := by omega
  have enm : ¬ (n : Int) + (m : Int) < 0 := by omega
  have HG := Lib.hid (mgrow (n + m) w (by omega) (by omega))
  obtain ⟨H, hH⟩ : ∃ H, w.heap.size = H := ⟨_, rfl⟩
  rw [hH] at HG l1 l2 ls ⊢
  have HH := Lib.hid hH
  clear hH
  go_enter Try.func31, Try.ntmps31
  go_wp2_with fail
  refine wp_loop_rounds 3 ?_
  rw [rounds_succ]
  go_wp2_with fail
  rw [rounds_succ]
  go_wp2_with fail
  rw [rounds_succ]
  go_wp2_with fail
  have e2 : (n : Int) + (m : Int) = ((n + m : Nat) : Int) := by omega
  have HG2 := HG.out
  rw [← e2] at HG2
  refine HG2.mono ?_
  clear HG2 e2
  rintro e w2 ⟨cap, rfl, hcap, ho, hb⟩
  have HO := Lib.hid ho
  have HB := Lib.hid hb
  have s0' := (hb.cell (p := ⟨sb, 0, none⟩) ls).trans s0
  have s1' := (hb.cell (p := ⟨sb, 1, none⟩) ls).trans s1
  have HX2 : Hid (∀ j, j < n → w2.cell? ⟨h1, q1 + j, none⟩ = some (.int .u8 (X j : Nat))) := Lib.hid (fun j hj => (hb.cell (p := ⟨h1, q1 + j, none⟩) l1).trans (HX.out j hj))
  clear s0 s1 ho hb HG
  go_wp2_with fail
  refine wp_loop_rounds 3 ?_
  rw [rounds_succ]
  go_wp2_with (at_builtin; refine wpList_append_fits _ rfl _ _ 29 rfl H 5 i0 1 Try.underlying29 hi0 hz1 H 0 cap [] rfl HO.out ⟨h1, q1, none⟩ n c1 (rowL n X) rfl (by rw [rowL_len]; omega) (rowL_cells HX2.out) rowL_one (by omega) ?_; intro w3 ho3 hg3)
  rw [Nat.zero_add, List.nil_append] at ho3
  have HO3 := Lib.hid ho3
  have HG3 := Lib.hid hg3
  have s1'' := (World.cell?_of_block (hg3.block sb (Nat.lt_of_lt_of_le ls (by have := HB.out.size; have := HH.out; omega)) (fun e => by injection e; omega))).trans s1'
  have HY3 : Hid (∀ j, j < m → w3.cell? ⟨h2, q2 + j, none⟩ = some (.int .u8 (Y j : Nat))) := Lib.hid (fun j hj => (World.cell?_of_block (hg3.block h2 (Nat.lt_of_lt_of_le l2 (by have := HB.out.size; have := HH.out; omega)) (fun e => by injection e; omega))).trans ((HB.out.cell (p := ⟨h2, q2 + j, none⟩) l2).trans (HY.out j hj)))
  clear ho3 hg3 s1'
  go_wp2_with fail
  rw [rounds_succ]
  go_wp2_with (at_builtin; refine wpList_append_fits _ rfl _ _ 29 rfl H 5 i0 1 Try.underlying29 hi0 hz1 H n cap (rowL n X) rfl HO3.out ⟨h2, q2, none⟩ m c2 (rowL m Y) rfl (by rw [rowL_len]; omega) (rowL_cells HY3.out) rowL_one (by omega) ?_; intro w4 ho4 hg4)
  have HO4 := Lib.hid ho4
  have HB4 : Hid (Below H w w4) := Lib.hid (Below.of_only (Below.of_only HB.out HG3.out (Nat.le_refl _) (by rw [← HH.out]; exact HB.out.size)) hg4 (Nat.le_refl _) (by have := HB.out.size; have := HG3.out.size; have := HH.out; omega))
  clear ho4 hg4
  go_wp2_with fail
  rw [rounds_succ]
  go_wp2_with fail
  go_ret
  have ho := HO4.out
  refine ⟨cap, ?_, by omega, own_row8 ho (fun j hj => ?_), HB4.out⟩
  · rfl
  · by_cases h : j < n
    · rw [List.getElem?_append_left (by rw [rowL_len]; exact h), rowL_get h, if_pos h]
    · rw [List.getElem?_append_right (by rw [rowL_len]; omega), rowL_len, rowL_get (by omega), if_neg h]
end Go.Proofs.Ytajpnbmfeapmcaa
