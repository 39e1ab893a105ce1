import Derived.Test.YtajpnbmfeapmcaaSt
namespace Go.Proofs.Ytajpnbmfeapmcaa
open Go.RowKit Go.Sort
set_option maxRecDepth 100000
set_option maxHeartbeats 1000000

theorem lsame (a b : Option Addr) (xss yss : List (List Nat)) (ca cb : Nat) (w : World) (hx : RawIn w a xss) (hy : RawIn w b yss) (lx : xss.length ≤ 9223372036854775807) (nx : ∀ (i : Nat) (xs : List Nat), xss[i]? = some xs → 0 < xs.length) (ny : ∀ (i : Nat) (xs : List Nat), yss[i]? = some xs → 0 < xs.length)
    (t : Bool) (ht : t = true ↔ xss.length = yss.length ∧ ∀ (i : Nat) (xs ys : List Nat), xss[i]? = some xs → yss[i]? = some ys → (strOf xs).toList = (strOf ys).toList) :
    Calls Try.prog 18 #[.slice a xss.length ca, .slice b yss.length cb] w fun e w' => e = .returned (.bool t) ∧ Below w.heap.size w w' := by
  have HX := Lib.hid hx
  have HY := Lib.hid hy
  have NX := Lib.hid nx
  have NY := Lib.hid ny
  have HT := Lib.hid ht
  clear hx hy nx ny ht
  by_cases hl : xss.length = yss.length
  · have e1 : ((xss.length : Int) != (yss.length : Int)) = false := by rw [bne_eq_false_iff_eq]; omega
    obtain ⟨r, hr⟩ : ∃ r, xss.length = r := ⟨_, rfl⟩
    have hr2 : yss.length = r := by omega
    have HR := Lib.hid (And.intro hr hr2)
    have hrb : r ≤ 9223372036854775807 := by omega
    rw [hr, hr2] at e1 ⊢
    clear hl hr hr2
    go_enter Try.func18, Try.ntmps18
    go_wp2_with fail
    go_loopg [5, 13] r (fun q s5 s3 v => ∃ k : Nat, s3 = .int .i64 (k : Int) ∧ k ≤ r ∧ q = r - k ∧ Hid (Below w.heap.size w v ∧ ∀ (i : Nat) (xs ys : List Nat), i < k → xss[i]? = some xs → yss[i]? = some ys → (strOf xs).toList = (strOf ys).toList))
    case atStart => exact ⟨0, rfl, Nat.zero_le _, rfl, Lib.hid ⟨Below.refl _ _, fun i xs ys hi => absurd hi (Nat.not_lt_zero _)⟩⟩
    case round =>
      obtain ⟨k, rfl, hk, rfl, HK⟩ := hrel
      by_cases hlt : k < r
      · obtain ⟨xs, hxs⟩ : ∃ xs, xss[k]? = some xs := ⟨_, List.getElem?_eq_getElem (by have := HR.out.1; omega)⟩
        obtain ⟨ys, hys⟩ : ∃ ys, yss[k]? = some ys := ⟨_, List.getElem?_eq_getElem (by have := HR.out.2; omega)⟩
        obtain ⟨b1, o1, g1, q1, c1, rfl, hb1, hg1, d1, v1⟩ := HX.out.str hxs (NX.out k xs hxs)
        obtain ⟨b2, o2, g2, q2, c2, rfl, hb2, hg2, d2, v2⟩ := HY.out.str hys (NY.out k ys hys)
        have d1' := (HK.out.1.cell (p := ⟨b1, o1 + k, none⟩) hb1).trans d1
        have d2' := (HK.out.1.cell (p := ⟨b2, o2 + k, none⟩) hb2).trans d2
        have s1 := v1 wr.drew (fun o => HK.out.1.cell (p := ⟨g1, o, none⟩) hg1)
        have s2 := v2 wr.drew (fun o => HK.out.1.cell (p := ⟨g2, o, none⟩) hg2)
        have hk' : (k : Int) < (r : Int) := by omega
        have HXS := Lib.hid hxs
        have HYS := Lib.hid hys
        clear hxs hys d1 d2 v1 v2
        by_cases he : (strOf xs).toList = (strOf ys).toList
        · have HE := Lib.hid he
          have hs : ((strOf xs).toList == (strOf ys).toList) = true := beq_iff_eq.2 he
          clear he
          generalize strOf xs = sa at hs s1
          generalize strOf ys = sb at hs s2
          go_wp2_with fail
          go_still (by kernel_rfl)
          change Exit.then _ _ _ _ wr.drew
          go_wp2_with fail
          go_roundg (r - (k + 1))
          case measure => omega
          case rel => exact ⟨k + 1, by go_num, by omega, rfl, Lib.hid ⟨HK.out.1.drew, fun i xs' ys' hi h1 h2 => by
            by_cases e : i = k
            · subst e
              rw [HXS.out] at h1
              rw [HYS.out] at h2
              cases h1
              cases h2
              exact HE.out
            · exact HK.out.2 i xs' ys' (by omega) h1 h2⟩⟩
        · have HN : Hid (t = false) := Lib.hid (not_true HT.out (fun h => he (h.2 k xs ys HXS.out HYS.out)))
          have hs : ((strOf xs).toList == (strOf ys).toList) = false := beq_eq_false_iff_ne.2 he
          clear he
          generalize strOf xs = sa at hs s1
          generalize strOf ys = sb at hs s2
          go_wp2_with fail
          go_still (by kernel_rfl)
          change Exit.then _ _ _ _ wr.drew
          go_wp2_with fail
          go_ret
          rw [HN.out]
          exact ⟨rfl, HK.out.1.drew⟩
      · have hge : ¬ (k : Int) < (r : Int) := by omega
        have HN : Hid (t = true) := Lib.hid (HT.out.2 ⟨by have := HR.out; omega, fun i xs ys h1 h2 => HK.out.2 i xs ys (by
          have := (List.getElem?_eq_some_iff.1 h1).1
          have := HR.out.1
          omega) h1 h2⟩)
        clear hlt hk
        go_wp2_with fail
        go_ret
        rw [HN.out]
        exact ⟨rfl, HK.out.1⟩
  · have e1 : ((xss.length : Int) != (yss.length : Int)) = true := by rw [bne_iff_ne]; omega
    have HN : Hid (t = false) := Lib.hid (not_true HT.out (fun h => hl h.1))
    clear hl
    go_enter Try.func18, Try.ntmps18
    go_wp2_with fail
    go_ret
    rw [HN.out]
    exact ⟨rfl, Below.refl _ _⟩
end Go.Proofs.Ytajpnbmfeapmcaa
