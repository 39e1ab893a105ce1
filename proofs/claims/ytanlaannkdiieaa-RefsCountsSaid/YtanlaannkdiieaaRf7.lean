import Derived.Test.YtanlaannkdiieaaRf6
namespace Go.Proofs.Ytanlaannkdiieaa.Pk
open Go.RowKit Go.Sort
set_option maxRecDepth 100000
set_option maxHeartbeats 2000000

theorem upF_upF (f : Int → Nat) (k : Int) (a b : Nat) : upF (upF f k a) k b = upF f k b := by
  funext x
  unfold upF
  split <;> rfl
theorem upF_at (f : Int → Nat) (k : Int) (a : Nat) : upF f k a k = a := by
  unfold upF
  rw [if_pos rfl]

def sC (c : Nat) : RfS := ⟨rng 6 4, upF (fun _ => 0) 5 c, 1, []⟩
def sD : RfS := ⟨rng 6 4, upF (fun _ => 0) 5 0, 0, [5]⟩
theorem sC_f (c : Nat) : (sC c).f 5 = c := by
  show upF (fun _ => 0) 5 c 5 = c
  exact upF_at _ _ _
theorem sC_add {c : Nat} (h : c ≠ 0) : (sC c).add 5 = sC (c + 1) := by
  unfold RfS.add
  rw [if_neg (by rw [sC_f]; exact h), sC_f]
  unfold sC
  rw [upF_upF]
theorem sC_drop1 : (sC 1).drop 5 = sD := by
  unfold RfS.drop
  rw [if_neg (by rw [sC_f]; decide), if_pos (by rw [sC_f])]
  unfold sC
  rw [upF_upF]
  rfl
theorem sC_drop {c : Nat} (h : 2 ≤ c) : (sC c).drop 5 = sC (c - 1) := by
  unfold RfS.drop
  rw [if_neg (by rw [sC_f]; omega), if_neg (by rw [sC_f]; omega), sC_f]
  unfold sC
  rw [upF_upF]
def sL (p i : Nat) : RfS := if i ≤ p then sC (1 + p - i) else sD
theorem sL_le {p i : Nat} (h : i ≤ p) : sL p i = sC (1 + p - i) := if_pos h
theorem sL_next {p i : Nat} (h : i ≤ p) : (sC (1 + p - i)).drop 5 = sL p (i + 1) := by
  unfold sL
  by_cases e : i = p
  · subst e
    rw [if_neg (by omega), show 1 + i - i = 1 by omega]
    exact sC_drop1
  · rw [if_pos (by omega), sC_drop (by omega)]
    congr 1

/-- RefsCounts. -/
theorem refsCounts (adds : Int) (w : World) : Calls Try.prog 5 #[.int .i64 adds] w fun e w' => e = .returned (.bool true) ∧ Below w.heap.size w w' := by
  obtain ⟨p, hp, hpick⟩ := rpickN adds 30 (by decide) (by decide)
  have HP := Lib.hid hpick
  clear hpick
  go_enter Try.func5, Try.ntmps5
  go_wp2_with fail
  refine (rl_new 5 9 5 9 w w (by decide) (by decide) (Below.refl _ _) (Nat.le_refl _)).mono ?_
  rintro e w1 ⟨ra, rfl, h⟩
  have H1 := Lib.hid h
  clear h
  go_wp2_with fail
  refine (HP.out w1).mono ?_
  rintro e wx ⟨rfl, rfl⟩
  go_wp2_with fail
  refine (lknown16 _).mono ?_
  rintro e w2 ⟨rfl, b2⟩
  have H2 := Lib.hid (H1.out.below b2)
  clear b2 H1
  go_wp2_with fail
  refine (rl_of H2.out (fun F h => rf_take_yes (id := 5) (S' := rng 6 4) h rfl (by decide))).mono ?_
  rintro e w3 ⟨rfl, h, -⟩
  have H3 : Hid (RL w w3 ra (sC 1) []) := Lib.hid h
  clear h H2
  go_wp2_with fail
  go_loopg [6] (p + 1) (fun q s6 v => ∃ i : Nat, s6 = .int .i64 (i : Int) ∧ i ≤ p ∧ q = p + 1 - i ∧ Hid (RL w v ra (sC (i + 1)) []))
  case atStart => exact ⟨0, rfl, by omega, rfl, H3⟩
  case round =>
    obtain ⟨i, rfl, hi, rfl, HR⟩ := hrel
    generalize wr = v at *
    clear H3
    by_cases hlt : i < p
    · have t1 : (i : Int) < (p : Int) := by omega
      have HC := Lib.hid (rl_of HR.out (fun F h => rf_add 5 (by constructor <;> decide) h (by rw [sC_f]; omega) (by show 1 ≤ 1000000; decide)))
      rw [sC_add (by omega), sC_f] at HC
      clear HR
      go_wp2_with fail
      refine HC.out.mono ?_
      rintro e w5 ⟨rfl, h, -⟩
      have H5 := Lib.hid h
      clear h HC
      go_wp2_with fail
      go_roundg (p + 1 - (i + 1))
      case measure => omega
      case rel => exact ⟨i + 1, by simp, by omega, rfl, H5⟩
    · have hip : i = p := by omega
      subst hip
      go_wp2_with fail
      have HS0 : Hid (RL w v ra (sL i 0) []) := Lib.hid (by rw [sL_le (Nat.zero_le _), show 1 + i - 0 = i + 1 by omega]; exact HR.out)
      clear HR
      go_loopg [7] (i + 2) (fun q s7 v => ∃ j : Nat, s7 = .int .i64 (j : Int) ∧ j ≤ i + 1 ∧ q = i + 2 - j ∧ Hid (RL w v ra (sL i j) []))
      case atStart => exact ⟨0, rfl, by omega, rfl, HS0⟩
      case round =>
        obtain ⟨j, rfl, hj, rfl, HR⟩ := hrel
        generalize wr = v at *
        clear HS0
        by_cases hle : j ≤ i
        · have t1 : (j : Int) ≤ (i : Int) := by omega
          rw [sL_le hle] at HR
          have HN := Lib.hid (sL_next hle)
          obtain ⟨c, hc⟩ : ∃ c, 1 + i - j = c := ⟨_, rfl⟩
          rw [hc] at HR HN
          have ec : (1 : Int) + (i : Int) - (j : Int) = (c : Int) := by omega
          have hc1 : 1 ≤ c ∧ c ≤ 31 := by omega
          have HC := Lib.hid (rl_of (s' := sC c) HR.out (fun F h => rf_settle h (by show (rng 6 4).length + 0 ≤ 1000; decide)))
          clear HR
          go_wp2_with fail
          refine HC.out.mono ?_
          rintro e w5 ⟨rfl, h, -⟩
          have H5 := Lib.hid h
          clear h HC
          go_wp2_with fail
          obtain ⟨F, h⟩ := H5.out.rd
          refine (rf_count 5 (by constructor <;> decide) h).mono ?_
          rintro e wx ⟨rfl, rfl⟩
          clear h
          rw [sC_f]
          have hne : ((c : Int) != (1 : Int) + (i : Int) - (j : Int)) = false := by rw [ec]; simp
          have HE := Lib.hid ec
          clear ec
          go_wp2_with fail
          obtain ⟨F, h⟩ := H5.out.rd
          refine (rf_free h).mono ?_
          rintro e wx ⟨rfl, rfl⟩
          clear h
          have e4 : (sC c).S.length = 4 := rng_len 6 4
          rw [e4]
          have HC := Lib.hid (rl_of H5.out (fun F h => rf_drop 5 (by constructor <;> decide) h (by rw [sC_f]; omega) (by show 1 ≤ 1000000; decide) (by show 0 ≤ 1000000; decide)))
          rw [HN.out, sC_f] at HC
          have hd : decide (c ≠ 0) = true := decide_eq_true (by omega)
          rw [hd] at HC
          clear H5 e4 hd
          go_wp2_with fail
          refine HC.out.mono ?_
          rintro e w6 ⟨rfl, h, -⟩
          have H6 := Lib.hid h
          clear h HC
          go_wp2_with fail
          go_roundg (i + 2 - (j + 1))
          case measure => omega
          case rel => exact ⟨j + 1, by simp, by omega, rfl, H6⟩
        · have hji : j = i + 1 := by omega
          subst hji
          have t1 : ¬ ((i + 1 : Nat) : Int) ≤ (i : Int) := by omega
          have H3 : Hid (RL w v ra sD []) := Lib.hid (by
            have := HR.out
            unfold sL at this
            rw [if_neg (by omega)] at this
            exact this)
          clear HR
          go_wp2_with fail
          obtain ⟨F, h⟩ := H3.out.rd
          refine (rf_held h).mono ?_
          rintro e wx ⟨rfl, rfl⟩
          clear h
          go_wp2_with fail
          refine (rl_of H3.out (fun F h => rf_settle h (by decide))).mono ?_
          rintro e w5 ⟨rfl, h, -⟩
          have H5 := Lib.hid h
          clear h H3
          go_wp2_with fail
          obtain ⟨F, h⟩ := H5.out.rd
          refine (rf_free h).mono ?_
          rintro e wx ⟨rfl, rfl⟩
          clear h
          go_wp2_with fail
          refine (rl_of H5.out (fun F h => rf_drop 5 (by constructor <;> decide) h (by decide) (by decide) (by decide))).mono ?_
          rintro e w6 ⟨rfl, h, -⟩
          have H6 := Lib.hid h
          clear h H5
          go_wp2_with fail
          refine (rl_of H6.out (fun F h => rf_add 5 (by constructor <;> decide) h (by decide) (by decide))).mono ?_
          rintro e w7 ⟨rfl, h, -⟩
          have H7 := Lib.hid h
          clear h H6
          go_wp2_with fail
          go_ret
          exact ⟨rfl, H7.out.end_⟩
end Go.Proofs.Ytanlaannkdiieaa.Pk
