import Derived.Test.YtajpnbmfeapmcaaQ
namespace Go.Proofs.Ytajpnbmfeapmcaa
open Go.RowKit Go.Sort
set_option maxRecDepth 100000
set_option maxHeartbeats 1000000

/-- The reference's inverse: by trying. -/
theorem rinv (a : Nat) (w : World) (ha : a < 256) : Calls Try.prog 54 #[.int .u8 (a : Int)] w
    fun e w' => e = .returned (.tuple #[.int .u8 (if a = 0 then 0 else inv a : Nat), .bool (decide (a ≠ 0))]) ∧ w' = w := by
  have HA := Lib.hid ha
  clear ha
  obtain ⟨r, hr⟩ : ∃ r, r = (if a = 0 then 0 else inv a) := ⟨_, rfl⟩
  obtain ⟨t, ht⟩ : ∃ t, t = decide (a ≠ 0) := ⟨_, rfl⟩
  rw [← hr, ← ht]
  have HR := Lib.hid hr
  have HT := Lib.hid ht
  clear hr ht
  go_enter Try.func54, Try.ntmps54
  go_wp2_with fail
  go_loopg [4] 255 (fun q s4 v => ∃ k : Nat, s4 = .int .i64 (k : Int) ∧ 1 ≤ k ∧ k ≤ 256 ∧ q = 256 - k ∧ v = w ∧ Hid (∀ j, 1 ≤ j → j < k → mul a j ≠ 1))
  case atStart => exact ⟨1, rfl, by omega, by omega, rfl, rfl, Lib.hid (fun j h1 h2 => by omega)⟩
  case round =>
    obtain ⟨k, rfl, hk1, hk, rfl, rfl, HJ⟩ := hrel
    by_cases hlt : k < 256
    · have hl : (k : Int) < 256 := by omega
      go_wp2_with fail
      refine (rmul a k _ HA.out hlt).mono ?_
      rintro e wz ⟨rfl, rfl⟩
      by_cases h1 : mul a k = 1
      · have HK : Hid (r = k ∧ t = true) := Lib.hid (by
          have a0 : a ≠ 0 := by rintro rfl; rw [zero_mul] at h1; exact absurd h1 (by decide)
          refine ⟨?_, by rw [HT.out]; exact decide_eq_true a0⟩
          rw [HR.out, if_neg a0]
          exact (inv_unique HA.out hlt h1).symm)
        rw [h1]
        clear h1
        go_wp2_with fail
        go_ret2
        rw [HK.out.1, HK.out.2]
        exact ⟨rfl, rfl⟩
      · have e1 : ((mul a k : Int) == 1) = false := beq_eq_false_iff_ne.2 (by omega)
        have HJ2 : Hid (∀ j, 1 ≤ j → j < k + 1 → mul a j ≠ 1) := Lib.hid (fun j j1 j2 => by
          by_cases e : j = k
          · subst e; exact h1
          · exact HJ.out j j1 (by omega))
        clear h1
        go_wp2_with fail
        go_roundg (256 - (k + 1))
        case measure => omega
        case rel => exact ⟨k + 1, by go_num, by omega, by omega, rfl, rfl, HJ2⟩
    · have hge : ¬ (k : Int) < 256 := by omega
      have HK : Hid (r = 0 ∧ t = false) := Lib.hid (by
        have a0 : a = 0 := by
          refine Classical.byContradiction fun a0 => ?_
          refine HJ.out (inv a) ?_ ?_ (mul_inv HA.out a0)
          · have := inv_pos a; omega
          · have := inv_lt a; omega
        rw [HR.out, HT.out, if_pos a0, a0]
        exact ⟨rfl, rfl⟩)
      go_wp2_with fail
      go_ret2
      rw [HK.out.1, HK.out.2]
      exact ⟨rfl, rfl⟩


theorem rmulmnone (a b : Option Addr) (xss yss : List (List Nat)) (ca cb : Nat) (w : World) (hx : RawIn w a xss) (hy : RawIn w b yss) (lx : xss.length ≤ 9223372036854775807) (ly : yss.length ≤ 9223372036854775807)
    (hno : ¬ (RightP xss ∧ RightP yss ∧ ∀ (i : Nat) (xs : List Nat), xss[i]? = some xs → xs.length = yss.length)) :
    Calls Try.prog 38 #[.slice a xss.length ca, .slice b yss.length cb] w fun e w' => e = .returned (.slice none 0 0) ∧ Below w.heap.size w w' := by
  have HX := Lib.hid hx
  have HY := Lib.hid hy
  have HNO := Lib.hid hno
  clear hx hy hno
  by_cases px : RightP xss
  · have C1 := Lib.hid (rright a xss ca w HX.out lx true ⟨fun _ => px, fun _ => rfl⟩)
    by_cases py : RightP yss
    · have hr := px.1
      have hr2 := px.2.1
      obtain ⟨n, _, hn2, hc⟩ := px.2.2
      obtain ⟨x0, hx0⟩ : ∃ x0, xss[0]? = some x0 := ⟨_, List.getElem?_eq_getElem (by omega)⟩
      obtain ⟨b0, o0, rfl, hb0, g0, cap0, c0, _⟩ := HX.out 0 x0 hx0
      have hl := hc 0 x0 hx0
      have hne : ¬ x0.length = yss.length := fun e => HNO.out ⟨px, py, fun i xs h => (hc i xs h).trans (hl.symm.trans e)⟩
      have hnb : ((x0.length : Int) != (yss.length : Int)) = true := by
        rw [bne_iff_ne]; omega
      have hr0 : (0 : Int) < (xss.length : Int) := by omega
      rw [Nat.add_zero] at c0
      have PY := Lib.hid py
      clear px py hc hl hx0
      go_enter Try.func38, Try.ntmps38
      go_wp2_with fail
      refine C1.out.mono ?_
      rintro e w2 ⟨rfl, b2⟩
      have HB2 := Lib.hid b2
      clear b2
      go_wp2_with fail
      refine (rright b yss cb w2 (HY.out.keep HB2.out) ly true ⟨fun _ => PY.out, fun _ => rfl⟩).mono ?_
      rintro e w3 ⟨rfl, b3⟩
      have HB3 : Hid (Below w.heap.size w w3) := Lib.hid (HB2.out.trans (b3.mono HB2.out.size))
      clear b3
      have a3 : w3.cell? ⟨b0, o0, none⟩ = some (.slice g0 x0.length cap0) := (HB3.out.cell (p := ⟨b0, o0, none⟩) hb0).trans c0
      go_wp2_with fail
      go_ret
      exact ⟨rfl, HB3.out⟩
    · have PY := Lib.hid py
      clear py px
      go_enter Try.func38, Try.ntmps38
      go_wp2_with fail
      refine C1.out.mono ?_
      rintro e w2 ⟨rfl, b2⟩
      have HB2 := Lib.hid b2
      clear b2
      go_wp2_with fail
      refine (rright b yss cb w2 (HY.out.keep HB2.out) ly false ⟨fun h => (by cases h), fun h => absurd h PY.out⟩).mono ?_
      rintro e w3 ⟨rfl, b3⟩
      have HB3 : Hid (Below w.heap.size w w3) := Lib.hid (HB2.out.trans (b3.mono HB2.out.size))
      clear b3
      go_wp2_with fail
      all_goals (go_ret; exact ⟨rfl, HB3.out⟩)
  · have C1 := Lib.hid (rright a xss ca w HX.out lx false ⟨fun h => (by cases h), fun h => absurd h px⟩)
    clear px
    go_enter Try.func38, Try.ntmps38
    go_wp2_with fail
    refine C1.out.mono ?_
    rintro e w2 ⟨rfl, b2⟩
    have HB2 := Lib.hid b2
    clear b2
    go_wp2_with fail
    all_goals (go_ret; exact ⟨rfl, HB2.out⟩)
end Go.Proofs.Ytajpnbmfeapmcaa
