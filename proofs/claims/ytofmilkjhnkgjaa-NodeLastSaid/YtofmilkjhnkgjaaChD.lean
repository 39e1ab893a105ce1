import Derived.Test.YtofmilkjhnkgjaaChC
namespace Go.Proofs.Ytofmilkjhnkgjaa
open Go.RowKit Go.Sort
set_option maxRecDepth 100000
set_option maxHeartbeats 1000000

/-- chunk.Get of no platter. -/
theorem cget_nil (s : Int) (w : World) : Calls Try.prog 33 #[.pointer none, .int .i64 s] w fun e w' => e = .returned (.slice none 0 0) ∧ w' = w := by
  go_enter Try.func33, Try.ntmps33
  go_wp2_with fail
  go_ret
  exact ⟨rfl, rfl⟩
/-- chunk.Get of a stripe that has no blocks. -/
theorem cget_out {w : World} {p : Nat} {S : List Nat} {N : Nat} {d : Disk} {nw : Nat} (h : Plt w p S N d nw) (s : Int) (s0 : -1000000 ≤ s) (s1 : s < 1000000) (hs : ∀ i : Int, 0 ≤ i → i < 2 → ¬ (0 ≤ 2 * s + i ∧ 2 * s + i < (N : Int))) :
    Calls Try.prog 33 #[.pointer (some ⟨p, 0, none⟩), .int .i64 s] w fun e w' => e = .returned (.slice none 0 0) ∧ Below w.heap.size w w' := by
  have HP := Lib.hid h
  have HS := Lib.hid hs
  have HSO := Lib.hid (fun W => csort none 0 0 (.func (.func 55) #[] #[]) W (fun e w' => e = .returned (.tuple #[]) ∧ w' = W) (by omega) ((cinsert1 none 0 0 _ W (by omega)).mono (by rintro e w' ⟨rfl, rfl⟩; exact ⟨rfl, rfl, rfl⟩)))
  clear h hs
  go_enter Try.func33, Try.ntmps33
  go_wp2_with fail
  go_loopg [5, 14] 2 (fun q s5 s14 v => ∃ i : Nat, s14 = .int .i64 (i : Int) ∧ i ≤ 2 ∧ q = 2 - i ∧ s5 = .slice none 0 0 ∧ Hid (Below w.heap.size w v))
  case atStart => exact ⟨0, rfl, by omega, rfl, rfl, Lib.hid (Below.refl _ _)⟩
  case round =>
    obtain ⟨i, rfl, hi, rfl, rfl, HV⟩ := hrel
    by_cases hlt : i < 2
    · have hl : (i : Int) < 2 := by omega
      have HP1 := Lib.hid (HP.out.below HV.out)
      have HPL := Lib.hid (cplace s (i : Int) wr (by omega) (by omega) (by omega) (by omega))
      have HRD := Lib.hid (dread_no (2 * s + (i : Int) % 2) HP1.out (by have := HS.out ((i : Int) % 2) (by omega) (by omega); omega))
      have HCR := Lib.hid (cread_len none 0 0 wr (by omega))
      obtain ⟨k, hk⟩ : ∃ k, 2 * s + (i : Int) % 2 = k := ⟨_, rfl⟩
      rw [hk] at HPL HRD
      clear hk
      unfold pv at HCR
      go_wp2_with fail
      refine HPL.out.mono ?_
      rintro e w' ⟨rfl, hw⟩
      obtain rfl := hw.symm
      go_wp2_with fail
      refine HRD.out.mono ?_
      rintro e w' ⟨rfl, hw⟩
      obtain rfl := hw.symm
      go_wp2_with fail
      refine HCR.out.mono ?_
      rintro e w2 ⟨rfl, hb2⟩
      try dsimp only
      have HB2 : Hid (Below w.heap.size w w2) := Lib.hid (HV.out.trans (hb2.mono HV.out.size))
      clear hb2
      go_wp2_with fail
      go_roundg (2 - (i + 1))
      case measure => omega
      case rel => exact ⟨i + 1, by go_num, by omega, rfl, rfl, Lib.hid (HB2.out.alloc HB2.out.size _)⟩
    · obtain rfl : i = 2 := by omega
      go_wp2_with fail
      refine (HSO.out wr).mono ?_
      rintro e w' ⟨rfl, hw⟩
      obtain rfl := hw.symm
      try dsimp only
      go_wp2_with fail
      go_ret
      exact ⟨rfl, HV.out⟩
end Go.Proofs.Ytofmilkjhnkgjaa
