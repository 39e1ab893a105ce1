import Derived.Test.YtajpnbmfeapmcaaR
import Derived.Test.YtajpnbmfeapmcaaL
namespace Go.Proofs.Ytajpnbmfeapmcaa
open Go.RowKit Go.Sort
set_option maxRecDepth 100000
set_option maxHeartbeats 1000000

/-- The project's own 'fits'. -/
theorem mfits (n : Int) (w : World) (t : Bool) (ht : t = decide (1 ≤ n ∧ n ≤ 64)) : Calls Try.prog 41 #[.int .i64 n] w fun e w' => e = .returned (.bool t) ∧ w' = w := by
  by_cases h1 : 1 ≤ n
  · by_cases h2 : n ≤ 64
    · have : t = true := by rw [ht]; exact decide_eq_true ⟨h1, h2⟩
      subst this
      clear ht
      go_enter Try.func41, Try.ntmps41
      go_wp2
      go_ret
      exact ⟨rfl, rfl⟩
    · have : t = false := by rw [ht]; exact decide_eq_false (fun h => h2 h.2)
      subst this
      clear ht
      go_enter Try.func41, Try.ntmps41
      go_wp2
      go_ret
      exact ⟨rfl, rfl⟩
  · have : t = false := by rw [ht]; exact decide_eq_false (fun h => h1 h.1)
    subst this
    clear ht
    go_enter Try.func41, Try.ntmps41
    go_wp2
    go_ret
    exact ⟨rfl, rfl⟩

theorem mright (a : Option Addr) (xss : List (List Nat)) (cap : Nat) (w : World) (h : RawIn w a xss) (hl : xss.length ≤ 9223372036854775807) (t : Bool) (ht : t = true ↔ RightP xss) :
    Calls Try.prog 45 #[.slice a xss.length cap] w fun e w' => e = .returned (.bool t) ∧ w' = w := by
  have HH := Lib.hid h
  have HTT := Lib.hid ht
  clear h ht
  by_cases h1 : 1 ≤ xss.length ∧ xss.length ≤ 64
  · obtain ⟨x0, hx0⟩ : ∃ x0, xss[0]? = some x0 := ⟨_, List.getElem?_eq_getElem (by omega)⟩
    obtain ⟨b, o, rfl, hb, g0, cap0, c0, _⟩ := HH.out 0 x0 hx0
    rw [Nat.add_zero] at c0
    have h0' : (0 : Int) < (xss.length : Int) := by omega
    have HX := Lib.hid hx0
    have HL := Lib.hid h1
    by_cases h3 : 1 ≤ x0.length ∧ x0.length ≤ 64
    · have H3 := Lib.hid h3
      have F1 := Lib.hid (mfits xss.length w true (by rw [decide_eq_true]; have := HL.out; omega))
      have F2 := Lib.hid (mfits x0.length w true (by rw [decide_eq_true]; have := H3.out; omega))
      clear h3 hx0 h1
      go_enter Try.func45, Try.ntmps45
      go_wp2_with fail
      refine F1.out.mono ?_
      rintro e w2 ⟨rfl, rfl⟩
      go_wp2_with fail
      refine F2.out.mono ?_
      rintro e w3 ⟨rfl, rfl⟩
      go_wp2_with fail
      go_loop [4, 19] (fun _ s => ∃ k : Nat, s = .int .i64 (k : Int) ∧ k ≤ xss.length ∧ Hid (∀ i xs, i < k → xss[i]? = some xs → xs.length = x0.length)) (fun _ s => xss.length - (intOf s).toNat)
      case atStart => exact ⟨0, rfl, Nat.zero_le _, Lib.hid (fun i xs hi => absurd hi (Nat.not_lt_zero _))⟩
      case round =>
        obtain ⟨k, rfl, hk, HK⟩ := hrel
        by_cases hlt : k < xss.length
        · obtain ⟨xs, hxs⟩ : ∃ xs, xss[k]? = some xs := ⟨_, List.getElem?_eq_getElem hlt⟩
          obtain ⟨b', o', e, _, g1, cap1, c1, _⟩ := HH.out k xs hxs
          cases e
          have hk' : (k : Int) < (xss.length : Int) := by omega
          have HXS := Lib.hid hxs
          clear hxs
          by_cases he : xs.length = x0.length
          · have t1 : ((xs.length : Int) != (x0.length : Int)) = false := by rw [bne_eq_false_iff_eq]; omega
            have HE := Lib.hid he
            clear he
            go_wp2_with fail
            go_round
            case measure => simp [intOf]; omega
            case rel => exact ⟨k + 1, by go_num, by omega, Lib.hid (fun i ys hi hys => by
                by_cases e : i = k
                · subst e
                  rw [HXS.out] at hys
                  cases hys
                  exact HE.out
                · exact HK.out i ys (by omega) hys)⟩
          · have t1 : ((xs.length : Int) != (x0.length : Int)) = true := by rw [bne_iff_ne]; omega
            have HN : Hid (t = false) := Lib.hid (not_true HTT.out (fun h => by
              obtain ⟨_, _, c, hc1, hc2, hc⟩ := h
              have a1 := hc 0 x0 HX.out
              have a2 := hc k xs HXS.out
              omega))
            clear he
            go_wp2_with fail
            go_ret
            rw [HN.out]
            exact ⟨rfl, rfl⟩
        · have hge : ¬ (k : Int) < (xss.length : Int) := by omega
          have HN : Hid (t = true) := Lib.hid (HTT.out.2 ⟨by have := HL.out.1; omega, by have := HL.out.2; omega, x0.length, by have := H3.out.1; omega, by have := H3.out.2; omega, fun i xs hi => HK.out i xs (by
            have := (List.getElem?_eq_some_iff.1 hi).1
            omega) hi⟩)
          clear hlt hk
          go_wp2_with fail
          go_ret
          rw [HN.out]
          exact ⟨rfl, rfl⟩
    · have F1 := Lib.hid (mfits xss.length w true (by rw [decide_eq_true]; have := HL.out; omega))
      have F2 := Lib.hid (mfits x0.length w false (by rw [decide_eq_false]; omega))
      have HN : Hid (t = false) := Lib.hid (not_true HTT.out (fun h => by
        obtain ⟨_, _, c, hc1, hc2, hc⟩ := h
        have := hc 0 x0 hx0
        omega))
      clear h3 hx0 h1
      go_enter Try.func45, Try.ntmps45
      go_wp2_with fail
      refine F1.out.mono ?_
      rintro e w2 ⟨rfl, rfl⟩
      go_wp2_with fail
      refine F2.out.mono ?_
      rintro e w3 ⟨rfl, rfl⟩
      go_wp2_with fail
      go_ret
      rw [HN.out]
      exact ⟨rfl, rfl⟩
  · have F1 := Lib.hid (mfits xss.length w false (by rw [decide_eq_false]; omega))
    have HN : Hid (t = false) := Lib.hid (not_true HTT.out (fun h => h1 ⟨h.1, h.2.1⟩))
    clear h1
    go_enter Try.func45, Try.ntmps45
    go_wp2_with fail
    refine F1.out.mono ?_
    rintro e w2 ⟨rfl, rfl⟩
    go_wp2_with fail
    go_ret
    rw [HN.out]
    exact ⟨rfl, rfl⟩
end Go.Proofs.Ytajpnbmfeapmcaa
