import Derived.Test.YtajpnbmfeapmcaaN
namespace Go.Proofs.Ytajpnbmfeapmcaa
open Go.RowKit Go.Sort
set_option maxRecDepth 100000
set_option maxHeartbeats 1000000

/-- Rows of bytes that came in, each as long as it is. -/
def RawIn (w : World) (a : Option Addr) (xss : List (List Nat)) : Prop :=
  ∀ (i : Nat) (xs : List Nat), xss[i]? = some xs → ∃ b o, a = some ⟨b, o, none⟩ ∧ b < w.heap.size ∧ ∃ (g : Option Addr) (cap : Nat), w.cell? ⟨b, o + i, none⟩ = some (.slice g xs.length cap) ∧
    ∀ (j x : Nat), xs[j]? = some x → ∃ h q, g = some ⟨h, q, none⟩ ∧ h < w.heap.size ∧ w.cell? ⟨h, q + j, none⟩ = some (.int .u8 (x : Nat))

theorem RawIn.keep {w w' : World} {a : Option Addr} {xss : List (List Nat)} (h : RawIn w a xss) (b : Below w.heap.size w w') : RawIn w' a xss := by
  intro i xs hi
  obtain ⟨b1, o, e, hb, g, cap, hc, hj⟩ := h i xs hi
  refine ⟨b1, o, e, Nat.lt_of_lt_of_le hb b.size, g, cap, (b.cell (p := ⟨b1, o + i, none⟩) hb).trans hc, fun j x hx => ?_⟩
  obtain ⟨h1, q, e2, hh, hc2⟩ := hj j x hx
  exact ⟨h1, q, e2, Nat.lt_of_lt_of_le hh b.size, (b.cell (p := ⟨h1, q + j, none⟩) hh).trans hc2⟩

/-- 1 to 64 rows, all as long, 1 to 64 each. -/
def RightP (xss : List (List Nat)) : Prop := 1 ≤ xss.length ∧ xss.length ≤ 64 ∧ ∃ c, 1 ≤ c ∧ c ≤ 64 ∧ ∀ (i : Nat) (xs : List Nat), xss[i]? = some xs → xs.length = c

theorem below_drewN (n : Nat) (w : World) : Below w.heap.size w (w.drewN n) := ⟨rfl, rfl, rfl, Nat.le_refl _, fun _ _ => rfl⟩

theorem not_true {t : Bool} {p : Prop} (h : t = true ↔ p) (n : ¬ p) : t = false := by
  cases t
  · rfl
  · exact absurd (h.1 rfl) n

theorem rright (a : Option Addr) (xss : List (List Nat)) (cap : Nat) (w : World) (h : RawIn w a xss) (hl : xss.length ≤ 9223372036854775807) (t : Bool) (ht : t = true ↔ RightP xss) :
    Calls Try.prog 53 #[.slice a xss.length cap] w fun e w' => e = .returned (.bool t) ∧ Below w.heap.size w w' := by
  have HH := Lib.hid h
  have HTT := Lib.hid ht
  clear h ht
  by_cases h1 : xss.length < 1
  · have h1' : (xss.length : Int) < 1 := by omega
    have HN : Hid (t = false) := Lib.hid (not_true HTT.out (fun h => by have := h.1; omega))
    clear h1
    go_enter Try.func53, Try.ntmps53
    go_wp2_with fail
    go_ret
    rw [HN.out]
    exact ⟨rfl, Below.refl _ _⟩
  · by_cases h2 : 64 < xss.length
    · have h1' : ¬ (xss.length : Int) < 1 := by omega
      have h2' : (64 : Int) < (xss.length : Int) := by omega
      have HN : Hid (t = false) := Lib.hid (not_true HTT.out (fun h => by have := h.2.1; omega))
      clear h1 h2
      go_enter Try.func53, Try.ntmps53
      go_wp2_with fail
      go_ret
      rw [HN.out]
      exact ⟨rfl, Below.refl _ _⟩
    · obtain ⟨x0, hx0⟩ : ∃ x0, xss[0]? = some x0 := ⟨_, List.getElem?_eq_getElem (by omega)⟩
      obtain ⟨b, o, rfl, hb, g0, cap0, c0, _⟩ := HH.out 0 x0 hx0
      rw [Nat.add_zero] at c0
      have h1' : ¬ (xss.length : Int) < 1 := by omega
      have h2' : ¬ (64 : Int) < (xss.length : Int) := by omega
      have h0' : (0 : Int) < (xss.length : Int) := by omega
      have HX := Lib.hid hx0
      have HL := Lib.hid (And.intro h1 h2)
      by_cases h3 : x0.length < 1
      · have h3' : (x0.length : Int) < 1 := by omega
        have HN : Hid (t = false) := Lib.hid (not_true HTT.out (fun h => by
          obtain ⟨_, _, c, hc1, hc2, hc⟩ := h
          have := hc 0 x0 hx0
          omega))
        clear h3 hx0 h1 h2
        go_enter Try.func53, Try.ntmps53
        go_wp2_with fail
        go_ret
        rw [HN.out]
        exact ⟨rfl, Below.refl _ _⟩
      · by_cases h4 : 64 < x0.length
        · have h3' : ¬ (x0.length : Int) < 1 := by omega
          have h4' : (64 : Int) < (x0.length : Int) := by omega
          have HN : Hid (t = false) := Lib.hid (not_true HTT.out (fun h => by
            obtain ⟨_, _, c, hc1, hc2, hc⟩ := h
            have := hc 0 x0 hx0
            omega))
          clear h3 h4 hx0 h1 h2
          go_enter Try.func53, Try.ntmps53
          go_wp2_with fail
          go_ret
          rw [HN.out]
          exact ⟨rfl, Below.refl _ _⟩
        · have h3' : ¬ (x0.length : Int) < 1 := by omega
          have h4' : ¬ (64 : Int) < (x0.length : Int) := by omega
          have H3 := Lib.hid (And.intro h3 h4)
          clear h3 h4 hx0 h1 h2
          go_enter Try.func53, Try.ntmps53
          go_wp2_with fail
          go_loopg [3] xss.length (fun q s3 v => ∃ k : Nat, s3 = .int .i64 (k : Int) ∧ k ≤ xss.length ∧ q = xss.length - k ∧ Hid (Below w.heap.size w v ∧ ∀ i xs, i < k → xss[i]? = some xs → xs.length = x0.length))
          case atStart => exact ⟨0, rfl, Nat.zero_le _, rfl, Lib.hid ⟨Below.refl _ _, fun i xs hi => absurd hi (Nat.not_lt_zero _)⟩⟩
          case round =>
            obtain ⟨k, rfl, hk, rfl, HK⟩ := hrel
            by_cases hlt : k < xss.length
            · obtain ⟨xs, hxs⟩ : ∃ xs, xss[k]? = some xs := ⟨_, List.getElem?_eq_getElem hlt⟩
              obtain ⟨b', o', e, _, g1, cap1, c1, _⟩ := HH.out k xs hxs
              cases e
              have d0 : wr.cell? ⟨b, o, none⟩ = some (.slice g0 x0.length cap0) := (HK.out.1.cell (p := ⟨b, o, none⟩) hb).trans c0
              have d1 : wr.cell? ⟨b, o + k, none⟩ = some (.slice g1 xs.length cap1) := (HK.out.1.cell (p := ⟨b, o + k, none⟩) hb).trans c1
              have hk' : (k : Int) < (xss.length : Int) := by omega
              have HXS := Lib.hid hxs
              clear hxs c1
              by_cases he : xs.length = x0.length
              · have t1 : ((xs.length : Int) == (x0.length : Int)) = true := beq_iff_eq.2 (by omega)
                have HE := Lib.hid he
                clear he
                go_wp2_with fail
                go_big_quiet (fail)
                go_wp2_with fail
                go_roundg (xss.length - (k + 1))
                case measure => omega
                case rel => exact ⟨k + 1, by go_num, by omega, rfl, Lib.hid ⟨HK.out.1.trans ((below_drewN _ _).mono HK.out.1.size), fun i ys hi hys => by
                  by_cases e : i = k
                  · subst e
                    rw [HXS.out] at hys
                    cases hys
                    exact HE.out
                  · exact HK.out.2 i ys (by omega) hys⟩⟩
              · have t1 : ((xs.length : Int) == (x0.length : Int)) = false := beq_eq_false_iff_ne.2 (by omega)
                have HN : Hid (t = false) := Lib.hid (not_true HTT.out (fun h => by
                  obtain ⟨_, _, c, hc1, hc2, hc⟩ := h
                  have a1 := hc 0 x0 HX.out
                  have a2 := hc k xs HXS.out
                  omega))
                clear he
                go_wp2_with fail
                go_big_quiet (fail)
                go_wp2_with fail
                go_ret
                rw [HN.out]
                exact ⟨rfl, HK.out.1.trans ((below_drewN _ _).mono HK.out.1.size)⟩
            · have hge : ¬ (k : Int) < (xss.length : Int) := by omega
              have HN : Hid (t = true) := Lib.hid (HTT.out.2 ⟨by have := HL.out.1; omega, by have := HL.out.2; omega, x0.length, by have := H3.out.1; omega, by have := H3.out.2; omega, fun i xs hi => HK.out.2 i xs (by
                have := (List.getElem?_eq_some_iff.1 hi).1
                omega) hi⟩)
              clear hlt hk
              go_wp2_with fail
              go_ret
              rw [HN.out]
              exact ⟨rfl, HK.out.1⟩
end Go.Proofs.Ytajpnbmfeapmcaa
