import Derived.Test.YthakocmhpchkcaaD9
namespace Go.Proofs.Ythakocmhpchkcaa
open Go.RowKit Go.Sort
set_option maxRecDepth 100000
set_option maxHeartbeats 1000000

/-- corbelref7.SameInts. -/
theorem lsame (A1 A2 : Option Addr) (xs ys : List Int) (c1 c2 : Nat) (w : World) (h1 : Nums w A1 xs) (h2 : Nums w A2 ys) (l1 : xs.length ≤ 1000000000) (t : Bool) (ht : t = true ↔ xs = ys) :
    Calls Try.prog 15 #[.slice A1 xs.length c1, .slice A2 ys.length c2] w fun e w' => e = .returned (.bool t) ∧ Below w.heap.size w w' := by
  by_cases hl : xs.length = ys.length
  · obtain ⟨n, hn⟩ : ∃ n, xs.length = n := ⟨_, rfl⟩
    have e2 : ys.length = n := by omega
    rw [e2, hn]
    have H1 := Lib.hid h1
    have H2 := Lib.hid h2
    have HN := Lib.hid hn
    have HM := Lib.hid e2
    have HT := Lib.hid ht
    rw [hn] at l1
    clear hl hn e2 h1 h2 ht
    go_enter Try.func15, Try.ntmps15
    go_wp2_with fail
    go_loopg [5] n (fun q s5 v => ∃ i : Nat, s5 = .int .i64 (i : Int) ∧ i ≤ n ∧ q = n - i ∧ Hid (xs.take i = ys.take i ∧ Below w.heap.size w v))
    case atStart => exact ⟨0, rfl, by omega, rfl, Lib.hid ⟨rfl, Below.refl _ _⟩⟩
    case round =>
      obtain ⟨i, rfl, hi, rfl, HS⟩ := hrel
      generalize wr = v at *
      by_cases hlt : i < n
      · have hl3 : (i : Int) < (n : Int) := by omega
        obtain ⟨x, hx⟩ : ∃ x, xs[i]? = some x := ⟨_, List.getElem?_eq_getElem (by rw [HN.out]; exact hlt)⟩
        obtain ⟨y, hy⟩ : ∃ y, ys[i]? = some y := ⟨_, List.getElem?_eq_getElem (by rw [HM.out]; exact hlt)⟩
        obtain ⟨g, o, rfl, hg, hc⟩ := H1.out i x hx
        obtain ⟨g', o', rfl, hg', hc'⟩ := H2.out i y hy
        have d1 : ∀ k, (v.drewN k).cell? ⟨g, o + i, none⟩ = some (.int .i64 x) := fun k => (HS.out.2.cell (p := ⟨g, o + i, none⟩) hg).trans hc
        have d2 : ∀ k, (v.drewN k).cell? ⟨g', o' + i, none⟩ = some (.int .i64 y) := fun k => (HS.out.2.cell (p := ⟨g', o' + i, none⟩) hg').trans hc'
        have d1' := d1 0
        have d2' := d2 0
        have HX := Lib.hid hx
        have HY := Lib.hid hy
        clear hx hy hc hc' hg hg'
        by_cases e : x = y
        · subst e
          have t1 : (x != x) = false := by simp
          go_wp2_with fail
          go_big_quiet (fail)
          go_wp2_with fail
          go_roundg (n - (i + 1))
          case measure => omega
          case rel => exact ⟨i + 1, by go_num, by omega, rfl, Lib.hid ⟨by rw [List.take_add_one, List.take_add_one, HX.out, HY.out, HS.out.1], HS.out.2.trans ((below_drewN _ _).mono HS.out.2.size)⟩⟩
        · have t1 : (x != y) = true := by simpa using e
          have HF : Hid (t = false) := Lib.hid (by
            cases t with
            | false => rfl
            | true =>
              have := HT.out.1 rfl
              subst this
              have h := HX.out
              rw [HY.out] at h
              cases h
              exact absurd rfl e)
          clear e
          go_wp2_with fail
          go_big_quiet (fail)
          go_wp2_with fail
          go_ret
          exact ⟨congrArg (fun b => Ending.returned (Value.bool b)) HF.out.symm, HS.out.2.trans ((below_drewN _ _).mono HS.out.2.size)⟩
      · obtain rfl : i = n := by omega
        have hge : ¬ (i : Int) < (i : Int) := by omega
        have HF : Hid (t = true) := Lib.hid (HT.out.2 (by
          have := HS.out.1
          rwa [List.take_of_length_le (by rw [HN.out]; omega), List.take_of_length_le (by rw [HM.out]; omega)] at this))
        clear hlt
        go_wp2_with fail
        go_ret
        exact ⟨congrArg (fun b => Ending.returned (Value.bool b)) HF.out.symm, HS.out.2⟩
  · have e1 : ((xs.length : Int) != (ys.length : Int)) = true := by rw [bne_iff_ne]; omega
    have HF : Hid (t = false) := Lib.hid (by
      cases t with
      | false => rfl
      | true => exact absurd (congrArg List.length (ht.1 rfl)) hl)
    clear hl ht h1 h2
    generalize xs.length = n at *
    generalize ys.length = m at *
    go_enter Try.func15, Try.ntmps15
    go_wp2_with fail
    go_ret
    exact ⟨congrArg (fun b => Ending.returned (Value.bool b)) HF.out.symm, Below.refl _ _⟩
end Go.Proofs.Ythakocmhpchkcaa
