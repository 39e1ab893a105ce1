import Derived.Test.YtofmilkjhnkgjaaCh6
namespace Go.Proofs.Ytofmilkjhnkgjaa
open Go.RowKit Go.Sort
set_option maxRecDepth 100000
set_option maxHeartbeats 1000000

theorem blen64_0 (w : World) : Calls Try.prog 85 #[.int .u64 0] w fun e w' => e = .returned (.int .i64 0) ∧ w' = w := by
  go_enter Try.func85, Try.ntmps85
  go_wp2_with fail
  go_ret
  exact ⟨by kernel_rfl, rfl⟩
theorem blen64_1 (w : World) : Calls Try.prog 85 #[.int .u64 1] w fun e w' => e = .returned (.int .i64 1) ∧ w' = w := by
  go_enter Try.func85, Try.ntmps85
  go_wp2_with fail
  go_ret
  exact ⟨by kernel_rfl, rfl⟩
theorem blen64_2 (w : World) : Calls Try.prog 85 #[.int .u64 2] w fun e w' => e = .returned (.int .i64 2) ∧ w' = w := by
  go_enter Try.func85, Try.ntmps85
  go_wp2_with fail
  go_ret
  exact ⟨by kernel_rfl, rfl⟩
theorem blen (n : Nat) (hn : n < 3) (w : World) : Calls Try.prog 70 #[.int .u64 (n : Int)] w fun e w' => e = .returned (.int .i64 (n : Int)) ∧ w' = w := by
  have HC : Hid (Calls Try.prog 85 #[.int .u64 (n : Int)] w fun e w' => e = .returned (.int .i64 (n : Int)) ∧ w' = w) := Lib.hid (by
    match n, hn with
    | 0, _ => exact blen64_0 w
    | 1, _ => exact blen64_1 w
    | 2, _ => exact blen64_2 w)
  go_enter Try.func70, Try.ntmps70
  go_wp2_with fail
  refine HC.out.mono ?_
  rintro e w' ⟨rfl, hw⟩
  obtain rfl := hw.symm
  go_wp2_with fail
  go_ret
  exact ⟨rfl, rfl⟩
theorem cisnan (a : Int) (w : World) : Calls Try.prog 66 #[.int .i64 a] w fun e w' => e = .returned (.bool false) ∧ w' = w := by
  have h : (a != a) = false := by simp
  go_enter Try.func66, Try.ntmps66
  go_wp2_with fail
  go_ret
  exact ⟨rfl, rfl⟩
theorem ccompare (a b : Int) (w : World) : Calls Try.prog 50 #[.int .i64 a, .int .i64 b] w fun e w' => e = .returned (.int .i64 (if a < b then -1 else if b < a then 1 else 0)) ∧ w' = w := by
  have HA := Lib.hid (cisnan a w)
  have HB := Lib.hid (cisnan b w)
  by_cases h1 : a < b
  · rw [if_pos h1]
    go_enter Try.func50, Try.ntmps50
    go_wp2_with fail
    refine HA.out.mono ?_
    rintro e w' ⟨rfl, hw⟩
    obtain rfl := hw.symm
    go_wp2_with fail
    refine HB.out.mono ?_
    rintro e w' ⟨rfl, hw⟩
    obtain rfl := hw.symm
    go_wp2_with fail
    go_ret
    exact ⟨rfl, rfl⟩
  · rw [if_neg h1]
    by_cases h2 : b < a
    · rw [if_pos h2]
      go_enter Try.func50, Try.ntmps50
      go_wp2_with fail
      refine HA.out.mono ?_
      rintro e w' ⟨rfl, hw⟩
      obtain rfl := hw.symm
      go_wp2_with fail
      refine HB.out.mono ?_
      rintro e w' ⟨rfl, hw⟩
      obtain rfl := hw.symm
      go_wp2_with fail
      go_ret
      exact ⟨rfl, rfl⟩
    · rw [if_neg h2]
      go_enter Try.func50, Try.ntmps50
      go_wp2_with fail
      refine HA.out.mono ?_
      rintro e w' ⟨rfl, hw⟩
      obtain rfl := hw.symm
      go_wp2_with fail
      refine HB.out.mono ?_
      rintro e w' ⟨rfl, hw⟩
      obtain rfl := hw.symm
      go_wp2_with fail
      go_ret
      exact ⟨rfl, rfl⟩
/-- The order: the greater gen first. -/
theorem cgetcmp (s g i s' g' i' : Int) (A A' : Option Addr) (n c n' c' : Nat) (w : World) :
    Calls Try.prog 55 #[pv s g i A n c, pv s' g' i' A' n' c'] w fun e w' => e = .returned (.int .i64 (if g' < g then -1 else if g < g' then 1 else 0)) ∧ Below w.heap.size w w' := by
  have HC := Lib.hid (fun W => ccompare g' g W)
  have HB : Hid (Below w.heap.size w ((w.alloc (.cells #[.int .i64 s, .int .i64 g, .int .i64 i, .slice A n c] 44)).alloc (.cells #[.int .i64 s', .int .i64 g', .int .i64 i', .slice A' n' c'] 44))) := Lib.hid (((Below.refl _ _).alloc (Nat.le_refl _) _).alloc (by simp) _)
  unfold pv
  obtain ⟨r, hr⟩ : ∃ r : Int, (if g' < g then -1 else if g < g' then 1 else 0) = r := ⟨_, rfl⟩
  rw [hr] at HC ⊢
  clear hr
  go_enter Try.func55, Try.ntmps55
  go_wp2_with fail
  refine (HC.out _).mono ?_
  rintro e w' ⟨rfl, hw⟩
  obtain rfl := hw.symm
  go_wp2_with fail
  go_ret
  exact ⟨rfl, HB.out⟩
end Go.Proofs.Ytofmilkjhnkgjaa
