import Derived.Test.YtajpnbmfeapmcaaI2
import Derived.Test.YtajpnbmfeapmcaaSt
import Derived.Laws.BytesArg
import Derived.Laws.Strings
namespace Go.Proofs.Ytajpnbmfeapmcaa
open Go.RowKit Go.Sort
set_option maxRecDepth 100000
set_option maxHeartbeats 1000000

/-- bytes.Equal of two rows whose bytes are known. -/
theorem mequal (v1 v2 : Value) (sa sb : ByteArray) (w : World) (h1 : Sem.run Try.prog (convert 29 9 v1) w = .ok (.string sa) w) (h2 : Sem.run Try.prog (convert 29 9 v2) w = .ok (.string sb) w) (t : Bool) (ht : (sa.toList == sb.toList) = t) :
    Calls Try.prog 52 #[v1, v2] w fun e w' => e = .returned (.bool t) ∧ w' = w := by
  go_enter Try.func52, Try.ntmps52
  go_wp2_with fail
  go_ret
  exact ⟨rfl, rfl⟩

theorem mequals (a b : Option Addr) (xss yss : List (List Nat)) (ca cb : Nat) (w : World) (hx : RawIn w a xss) (hy : RawIn w b yss) (lx : xss.length ≤ 9223372036854775807) (nx : ∀ (i : Nat) (xs : List Nat), xss[i]? = some xs → 0 < xs.length) (ny : ∀ (i : Nat) (xs : List Nat), yss[i]? = some xs → 0 < xs.length)
    (t : Bool) (ht : t = true ↔ xss.length = yss.length ∧ ∀ (i : Nat) (xs ys : List Nat), xss[i]? = some xs → yss[i]? = some ys → (strOf xs).toList = (strOf ys).toList) :
    Calls Try.prog 51 #[.slice a xss.length ca, .slice b yss.length cb, .func (.func 52) #[] #[]] w fun e w' => e = .returned (.bool t) ∧ w' = w := by
  have HX := Lib.hid hx
  have HY := Lib.hid hy
  have NX := Lib.hid nx
  have NY := Lib.hid ny
  have HT := Lib.hid ht
  clear hx hy nx ny ht
  by_cases hl : xss.length = yss.length
  · have e1 : ((xss.length : Int) != (yss.length : Int)) = false := by rw [bne_eq_false_iff_eq]; omega
    obtain ⟨r, hr⟩ : ∃ r, xss.length = r := ⟨_, rfl⟩
    have hr2 : yss.length = r := by omega
    have HR := Lib.hid (And.intro hr hr2)
    have hrb : r ≤ 9223372036854775807 := by omega
    rw [hr, hr2] at e1 ⊢
    clear hl hr hr2
    go_enter Try.func51, Try.ntmps51
    go_wp2_with fail
    go_loop [7, 8, 9, 17] (fun _ _ _ s => ∃ k : Nat, s = .int .i64 (k : Int) ∧ k ≤ r ∧ Hid (∀ (i : Nat) (xs ys : List Nat), i < k → xss[i]? = some xs → yss[i]? = some ys → (strOf xs).toList = (strOf ys).toList)) (fun _ _ _ s => r - (intOf s).toNat)
    case atStart => exact ⟨0, rfl, Nat.zero_le _, Lib.hid (fun i xs ys hi => absurd hi (Nat.not_lt_zero _))⟩
    case round =>
      obtain ⟨k, rfl, hk, HK⟩ := hrel
      by_cases hlt : k < r
      · obtain ⟨xs, hxs⟩ : ∃ xs, xss[k]? = some xs := ⟨_, List.getElem?_eq_getElem (by have := HR.out.1; omega)⟩
        obtain ⟨ys, hys⟩ : ∃ ys, yss[k]? = some ys := ⟨_, List.getElem?_eq_getElem (by have := HR.out.2; omega)⟩
        obtain ⟨b1, o1, g1, q1, c1, rfl, hb1, hg1, d1, v1⟩ := HX.out.str hxs (NX.out k xs hxs)
        obtain ⟨b2, o2, g2, q2, c2, rfl, hb2, hg2, d2, v2⟩ := HY.out.str hys (NY.out k ys hys)
        have hk' : (k : Int) < (r : Int) := by omega
        have HXS := Lib.hid hxs
        have HYS := Lib.hid hys
        have HQ := Lib.hid (fun t ht => mequal _ _ _ _ w (v1 w (fun _ => rfl)) (v2 w (fun _ => rfl)) t ht)
        clear hxs hys v1 v2
        by_cases he : (strOf xs).toList = (strOf ys).toList
        · have HE := Lib.hid he
          have HQ2 := Lib.hid (HQ.out true (beq_iff_eq.2 he))
          clear he HQ
          go_wp2_with fail
          refine HQ2.out.mono ?_
          rintro e w' ⟨rfl, hw⟩
          obtain rfl := hw.symm
          go_wp2_with fail
          go_round
          case measure => simp [intOf]; omega
          case rel => exact ⟨k + 1, by go_num, by omega, Lib.hid (fun i xs' ys' hi h1 h2 => by
            by_cases e : i = k
            · subst e
              rw [HXS.out] at h1
              rw [HYS.out] at h2
              cases h1
              cases h2
              exact HE.out
            · exact HK.out i xs' ys' (by omega) h1 h2)⟩
        · have HN : Hid (t = false) := Lib.hid (not_true HT.out (fun h => he (h.2 k xs ys HXS.out HYS.out)))
          have HQ2 := Lib.hid (HQ.out false (beq_eq_false_iff_ne.2 he))
          clear he HQ
          go_wp2_with fail
          refine HQ2.out.mono ?_
          rintro e w' ⟨rfl, hw⟩
          obtain rfl := hw.symm
          go_wp2_with fail
          go_ret
          rw [HN.out]
          exact ⟨rfl, rfl⟩
      · have hge : ¬ (k : Int) < (r : Int) := by omega
        have HN : Hid (t = true) := Lib.hid (HT.out.2 ⟨by have := HR.out; omega, fun i xs ys h1 h2 => HK.out i xs ys (by
          have := (List.getElem?_eq_some_iff.1 h1).1
          have := HR.out.1
          omega) h1 h2⟩)
        clear hlt hk
        go_wp2_with fail
        go_ret
        rw [HN.out]
        exact ⟨rfl, rfl⟩
  · have e1 : ((xss.length : Int) != (yss.length : Int)) = true := by rw [bne_iff_ne]; omega
    have HN : Hid (t = false) := Lib.hid (not_true HT.out (fun h => hl h.1))
    clear hl
    go_enter Try.func51, Try.ntmps51
    go_wp2_with fail
    go_ret
    rw [HN.out]
    exact ⟨rfl, rfl⟩

/-- Same: alike, byte by byte. -/
theorem msame (a b : Option Addr) (xss yss : List (List Nat)) (ca cb : Nat) (w : World) (hx : RawIn w a xss) (hy : RawIn w b yss) (lx : xss.length ≤ 9223372036854775807) (bx : Bytes xss) (bY : Bytes yss) (nx : ∀ (i : Nat) (xs : List Nat), xss[i]? = some xs → 0 < xs.length) (ny : ∀ (i : Nat) (xs : List Nat), yss[i]? = some xs → 0 < xs.length)
    (t : Bool) (ht : t = true ↔ xss = yss) :
    Calls Try.prog 33 #[.slice a xss.length ca, .slice b yss.length cb] w fun e w' => e = .returned (.bool t) ∧ w' = w := by
  have HC := Lib.hid (mequals a b xss yss ca cb w hx hy lx nx ny t (by
    rw [ht]
    constructor
    · rintro rfl
      exact ⟨rfl, fun i xs ys h1 h2 => by rw [h1] at h2; cases h2; rfl⟩
    · rintro ⟨hl, h⟩
      apply List.ext_getElem?
      intro i
      by_cases hi : i < xss.length
      · obtain ⟨xs, hxs⟩ : ∃ xs, xss[i]? = some xs := ⟨_, List.getElem?_eq_getElem hi⟩
        obtain ⟨ys, hys⟩ : ∃ ys, yss[i]? = some ys := ⟨_, List.getElem?_eq_getElem (by omega)⟩
        rw [hxs, hys, strOf_inj (bx i xs hxs) (bY i ys hys) (h i xs ys hxs hys)]
      · rw [List.getElem?_eq_none (by omega), List.getElem?_eq_none (by omega)]))
  clear hx hy bx bY nx ny ht
  go_enter Try.func33, Try.ntmps33
  go_wp2_with fail
  refine HC.out.mono ?_
  rintro e w' ⟨rfl, hw⟩
  obtain rfl := hw.symm
  go_wp2_with fail
  go_ret
  exact ⟨rfl, rfl⟩
end Go.Proofs.Ytajpnbmfeapmcaa
