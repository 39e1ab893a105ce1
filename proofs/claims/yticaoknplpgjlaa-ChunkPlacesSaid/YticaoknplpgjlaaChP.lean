import Derived.Test.YticaoknplpgjlaaChF
namespace Go.Proofs.Yticaoknplpgjlaa
open Go.RowKit Go.Sort
set_option maxRecDepth 100000
set_option maxHeartbeats 1000000

theorem tmod2_zero (x : Int) : x.tmod 2 = 0 ↔ x % 2 = 0 := by
  rw [Int.tmod_eq_emod]
  split
  · omega
  · rename_i h
    constructor
    · intro e
      simp at e
      omega
    · intro e
      exact absurd (Or.inr (Int.dvd_of_emod_eq_zero e)) h
theorem tmod2 (a b : Int) : ((a - b).tmod 2 == 0) = decide (a % 2 = b % 2) := by
  have z := tmod2_zero (a - b)
  by_cases h : a % 2 = b % 2
  · rw [decide_eq_true h, beq_iff_eq]; exact z.2 (by omega)
  · rw [decide_eq_false h, beq_eq_false_iff_ne]; exact fun e => by have := z.1 e; omega
/-- ChunkPlaces. -/
theorem chunkPlaces (x0 x1 x2 x3 : Int) (W : World) : Calls Try.prog 8 #[.int .i64 x0, .int .i64 x1, .int .i64 x2, .int .i64 x3] W fun e w' => e = .returned (.bool true) ∧ Below W.heap.size W w' := by
  have HK := Lib.hid (lknown8 W)
  have HA := Lib.hid (rpick x0 40 (by omega) (by omega) W)
  have HB := Lib.hid (rpick x1 40 (by omega) (by omega) W)
  have HG := Lib.hid (rpick x2 1099511627776 (by omega) (by omega) W)
  have HH := Lib.hid (rpick x3 1099511627776 (by omega) (by omega) W)
  obtain ⟨a, ha⟩ : ∃ a, x0 % 40 = a := ⟨_, rfl⟩
  obtain ⟨b, hb⟩ : ∃ b, x1 % 40 = b := ⟨_, rfl⟩
  obtain ⟨g, hg⟩ : ∃ g, x2 % 1099511627776 = g := ⟨_, rfl⟩
  obtain ⟨h, hh⟩ : ∃ h, x3 % 1099511627776 = h := ⟨_, rfl⟩
  have a0 : 0 ≤ a := by omega
  have a1 : a < 40 := by omega
  have b0 : 0 ≤ b := by omega
  have b1 : b < 40 := by omega
  have g0 : 0 ≤ g := by omega
  have g1 : g < 1099511627776 := by omega
  have h0 : 0 ≤ h := by omega
  have h1 : h < 1099511627776 := by omega
  rw [ha] at HA
  rw [hb] at HB
  rw [hg] at HG
  rw [hh] at HH
  clear ha hb hg hh
  have HX := Lib.hid (cplace a (1 + g) W (by omega) (by omega) (by omega) (by omega))
  have HY := Lib.hid (cplace b (1 + h) W (by omega) (by omega) (by omega) (by omega))
  have HZ := Lib.hid (fun w => cplace a (1 + g + 2) w (by omega) (by omega) (by omega) (by omega))
  obtain ⟨x, hx⟩ : ∃ x, 2 * a + (1 + g) % 2 = x := ⟨_, rfl⟩
  obtain ⟨y, hy⟩ : ∃ y, 2 * b + (1 + h) % 2 = y := ⟨_, rfl⟩
  have hz : 2 * a + (1 + g + 2) % 2 = x := by omega
  have x0' : 0 ≤ x := by omega
  have x1' : x < 80 := by omega
  have E3 := Lib.hid (tmod2 (1 + g) (1 + h))
  have HQ : Hid (x = y ↔ a = b ∧ (1 + g) % 2 = (1 + h) % 2) := Lib.hid (by omega)
  rw [hx] at HX
  rw [hy] at HY
  rw [hz] at HZ
  clear hx hy hz
  by_cases hab : a = b
  · have e1 : (a == b) = true := beq_iff_eq.2 hab
    by_cases hp : (1 + g) % 2 = (1 + h) % 2
    · have e2 : (x == y) = true := beq_iff_eq.2 (HQ.out.2 ⟨hab, hp⟩)
      rw [decide_eq_true hp] at E3
      have e3 := E3.out
      clear hab hp
      go_enter Try.func8, Try.ntmps8
      go_wp2_with fail
      refine HA.out.mono ?_
      rintro e w' ⟨rfl, hw⟩
      obtain rfl := hw.symm
      go_wp2_with fail
      refine HB.out.mono ?_
      rintro e w' ⟨rfl, hw⟩
      obtain rfl := hw.symm
      go_wp2_with fail
      refine HG.out.mono ?_
      rintro e w' ⟨rfl, hw⟩
      obtain rfl := hw.symm
      go_wp2_with fail
      refine HH.out.mono ?_
      rintro e w' ⟨rfl, hw⟩
      obtain rfl := hw.symm
      go_wp2_with fail
      refine HX.out.mono ?_
      rintro e w' ⟨rfl, hw⟩
      obtain rfl := hw.symm
      go_wp2_with fail
      refine HY.out.mono ?_
      rintro e w' ⟨rfl, hw⟩
      obtain rfl := hw.symm
      go_wp2_with fail
      refine HK.out.mono ?_
      rintro e w2 ⟨rfl, hb2⟩
      try dsimp only
      have HB2 := Lib.hid hb2
      clear hb2
      go_wp2_with fail
      refine (HZ.out w2).mono ?_
      rintro e w' ⟨rfl, hw⟩
      obtain rfl := hw.symm
      go_wp2_with fail
      go_ret
      exact ⟨rfl, HB2.out⟩
    · have e2 : (x == y) = false := beq_eq_false_iff_ne.2 (fun e => hp (HQ.out.1 e).2)
      rw [decide_eq_false hp] at E3
      have e3 := E3.out
      clear hab hp
      go_enter Try.func8, Try.ntmps8
      go_wp2_with fail
      refine HA.out.mono ?_
      rintro e w' ⟨rfl, hw⟩
      obtain rfl := hw.symm
      go_wp2_with fail
      refine HB.out.mono ?_
      rintro e w' ⟨rfl, hw⟩
      obtain rfl := hw.symm
      go_wp2_with fail
      refine HG.out.mono ?_
      rintro e w' ⟨rfl, hw⟩
      obtain rfl := hw.symm
      go_wp2_with fail
      refine HH.out.mono ?_
      rintro e w' ⟨rfl, hw⟩
      obtain rfl := hw.symm
      go_wp2_with fail
      refine HX.out.mono ?_
      rintro e w' ⟨rfl, hw⟩
      obtain rfl := hw.symm
      go_wp2_with fail
      refine HY.out.mono ?_
      rintro e w' ⟨rfl, hw⟩
      obtain rfl := hw.symm
      go_wp2_with fail
      refine HK.out.mono ?_
      rintro e w2 ⟨rfl, hb2⟩
      try dsimp only
      have HB2 := Lib.hid hb2
      clear hb2
      go_wp2_with fail
      refine (HZ.out w2).mono ?_
      rintro e w' ⟨rfl, hw⟩
      obtain rfl := hw.symm
      go_wp2_with fail
      go_ret
      exact ⟨rfl, HB2.out⟩
  · have e1 : (a == b) = false := beq_eq_false_iff_ne.2 hab
    have e2 : (x == y) = false := beq_eq_false_iff_ne.2 (fun e => hab (HQ.out.1 e).1)
    clear hab
    go_enter Try.func8, Try.ntmps8
    go_wp2_with fail
    refine HA.out.mono ?_
    rintro e w' ⟨rfl, hw⟩
    obtain rfl := hw.symm
    go_wp2_with fail
    refine HB.out.mono ?_
    rintro e w' ⟨rfl, hw⟩
    obtain rfl := hw.symm
    go_wp2_with fail
    refine HG.out.mono ?_
    rintro e w' ⟨rfl, hw⟩
    obtain rfl := hw.symm
    go_wp2_with fail
    refine HH.out.mono ?_
    rintro e w' ⟨rfl, hw⟩
    obtain rfl := hw.symm
    go_wp2_with fail
    refine HX.out.mono ?_
    rintro e w' ⟨rfl, hw⟩
    obtain rfl := hw.symm
    go_wp2_with fail
    refine HY.out.mono ?_
    rintro e w' ⟨rfl, hw⟩
    obtain rfl := hw.symm
    go_wp2_with fail
    refine HK.out.mono ?_
    rintro e w2 ⟨rfl, hb2⟩
    try dsimp only
    have HB2 := Lib.hid hb2
    clear hb2
    go_wp2_with fail
    refine (HZ.out w2).mono ?_
    rintro e w' ⟨rfl, hw⟩
    obtain rfl := hw.symm
    go_wp2_with fail
    go_ret
    exact ⟨rfl, HB2.out⟩
end Go.Proofs.Yticaoknplpgjlaa
