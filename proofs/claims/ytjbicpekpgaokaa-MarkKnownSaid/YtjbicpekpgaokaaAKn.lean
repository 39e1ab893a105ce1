import Derived.Test.YtjbicpekpgaokaaA8
namespace Go.Proofs.Ytjbicpekpgaokaa
open Go.RowKit Go.Sort
set_option maxRecDepth 100000
set_option maxHeartbeats 1000000

theorem sum_zero_ne : num4 (fun _ => 0) 156 ≠ sumF (fun _ => 0) 156 := by
  have h1 : num4 (fun _ => 0) 156 = 0 := by unfold num4; rfl
  rw [h1]
  have : ∀ n, sumF (fun _ => 0) n = Nat.rec (motive := fun _ => Nat) 1 (fun _ s => (s * 31 + 7) % 4294967291) n := by
    intro n
    induction n with
    | zero => exact sumF_zero _
    | succ n ih => rw [sumF_succ, ih]
  rw [this]
  exact fun h => by
    have h2 : Nat.beq 0 (Nat.rec (motive := fun _ => Nat) 1 (fun _ s => (s * 31 + 7) % 4294967291) 156) = false := by kernel_rfl
    rw [← h] at h2
    cases h2
theorem markKnown (w : World) : Calls Try.prog 3 #[] w fun e w' => e = .returned (.bool true) ∧ Below w.heap.size w w' := by
  obtain ⟨z1, a0, a1, a2⟩ := make8s 154 (by omega)
  obtain ⟨z2, b0, b1, b2⟩ := make8s 153 (by omega)
  obtain ⟨z3, c0, c1, c2⟩ := make8s 160 (by omega)
  have a3 : ∀ W : World, Sem.run Try.prog (Instr.makeSlice 22 (.int .i64 154) (.int .i64 154)) W = .ok (.slice (some ⟨W.heap.size, 0, none⟩) 154 154) (W.alloc (.cells z1 5)) := a2
  have b3 : ∀ W : World, Sem.run Try.prog (Instr.makeSlice 22 (.int .i64 153) (.int .i64 153)) W = .ok (.slice (some ⟨W.heap.size, 0, none⟩) 153 153) (W.alloc (.cells z2 5)) := b2
  have c3 : ∀ W : World, Sem.run Try.prog (Instr.makeSlice 22 (.int .i64 160) (.int .i64 160)) W = .ok (.slice (some ⟨W.heap.size, 0, none⟩) 160 160) (W.alloc (.cells z3 5)) := c2
  have K2 := Lib.hid (fun w => Blk8.new (w := w) (F := fun _ => 0) b0 b1)
  have K3 := Lib.hid (fun w => Blk8.new (w := w) (F := fun _ => 0) c0 c1)
  clear a0 a1 a2 b0 b1 b2 c0 c1 c2
  go_enter Try.func3, Try.ntmps3
  go_wp2_with fail
  refine (mseal_no 0 0 0 none w (by omega) (by omega)).mono ?_
  rintro e w' ⟨rfl, hw⟩
  obtain rfl := hw.symm
  go_wp2_with fail
  refine (mseal_no 256 0 0 none w (by omega) (by omega)).mono ?_
  rintro e w' ⟨rfl, hw⟩
  obtain rfl := hw.symm
  go_wp2_with fail
  refine (mseal_no 1 154 154 (some ⟨w.heap.size, 0, none⟩) _ (by omega) (by omega)).mono ?_
  rintro e w' ⟨rfl, hw⟩
  obtain rfl := hw.symm
  have B1 : Hid (Below w.heap.size w (w.alloc (.cells z1 5))) := Lib.hid ((Below.refl _ _).alloc (Nat.le_refl _) _)
  generalize w.alloc (.cells z1 5) = w1 at *
  clear a3
  go_wp2_with fail
  have B2 : Hid (Below w1.heap.size w1 (w1.alloc (.cells z2 5))) := Lib.hid ((Below.refl _ _).alloc (Nat.le_refl _) _)
  have R2 : Hid (Rd (w1.alloc (.cells z2 5)) (some ⟨w1.heap.size, 0, none⟩) 153 (fun _ => 0)) := Lib.hid (K2.out w1).rd
  refine (mseal 255 153 153 (some ⟨w1.heap.size, 0, none⟩) (fun _ => 0) _ (by omega) (by omega) (by omega) R2.out (fun _ _ => (show (0 : Nat) < 256 by decide))).mono ?_
  rintro e w2 ⟨gd, rfl, kd, hb2, _⟩
  try dsimp only
  have W2 : Hid (Below w.heap.size w w2) := Lib.hid (B1.out.trans ((B2.out.trans (hb2.mono B2.out.size)).mono B1.out.size))
  clear b3 R2 B2 B1 K2 hb2 kd
  go_wp2_with fail
  refine (lknown w2).mono ?_
  rintro e w3 ⟨rfl, hb3⟩
  have W3 : Hid (Below w.heap.size w w3) := Lib.hid (W2.out.trans (hb3.mono W2.out.size))
  clear hb3 W2
  go_wp2_with fail
  refine (mopen_len _ 159 _ w3 (by omega)).mono ?_
  rintro e w' ⟨rfl, hw⟩
  obtain rfl := hw.symm
  go_wp2_with fail
  have B4 : Hid (Below w3.heap.size w3 (w3.alloc (.cells z3 5))) := Lib.hid ((Below.refl _ _).alloc (Nat.le_refl _) _)
  have R4 : Hid (Rd (w3.alloc (.cells z3 5)) (some ⟨w3.heap.size, 0, none⟩) 160 (fun _ => 0)) := Lib.hid (K3.out w3).rd
  refine (mopen_mark w3.heap.size 0 160 (fun _ => 0) _ R4.out (by omega) (fun _ _ => (show (0 : Nat) < 256 by decide)) sum_zero_ne).mono ?_
  rintro e w5 ⟨rfl, hb5⟩
  have W5 : Hid (Below w.heap.size w w5) := Lib.hid (W3.out.trans ((B4.out.trans (hb5.mono B4.out.size)).mono W3.out.size))
  clear hb5 B4 R4 K3 c3
  go_wp2_with fail
  go_ret
  exact ⟨rfl, W5.out⟩
end Go.Proofs.Ytjbicpekpgaokaa
