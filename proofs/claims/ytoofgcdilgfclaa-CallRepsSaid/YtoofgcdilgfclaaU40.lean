import Derived.Test.YtoofgcdilgfclaaU39
namespace Go.Proofs.Ytoofgcdilgfclaa
open Go.RowKit Go.Sort
set_option maxRecDepth 100000
set_option maxHeartbeats 2000000

/-- RightRep. -/
theorem rrightRep {w : World} {v : Value} {p : Rx} (h : RVal w v p) (hn1 : p.ps.length ≤ 1000000) (hn2 : p.xs.length ≤ 1000000) (t : Bool) (ht : t = true ↔ p.Right) :
    Calls Try.prog 23 #[v] w fun e w' => e = .returned (.bool t) ∧ Below w.heap.size w w' := by
  obtain ⟨A1, c1, A2, c2, rfl, h1, h2⟩ := h
  obtain ⟨code, boot, l, m⟩ := p
  dsimp only at h1 h2 hn1 hn2 ⊢
  obtain ⟨H, hH⟩ : ∃ H, w.heap.size = H := ⟨_, rfl⟩
  have HH := Lib.hid hH
  obtain ⟨w1, hw1⟩ : ∃ w1, w.alloc (.cells #[.int .i64 code, .int .i64 boot, .slice A1 l.length c1, .slice A2 m.length c2] 39) = w1 := ⟨_, rfl⟩
  have HW1 := Lib.hid hw1
  have hb1 : Below H w w1 := by rw [← hw1, ← hH]; exact (Below.refl _ _).alloc (Nat.le_refl _) _
  have HB1 := Lib.hid hb1
  have HV1 : Hid (RV w1 H code boot (.slice A1 l.length c1) (.slice A2 m.length c2)) := Lib.hid (by rw [← hw1]; exact RV.of_new hH)
  have HP1 : Hid (PR w1 (.slice A1 l.length c1) l) := Lib.hid (h1.below (by rw [hH]; exact hb1))
  have HI1 : Hid (IR w1 (.slice A2 m.length c2) m) := Lib.hid (h2.below (by rw [hH]; exact hb1))
  have HZ1 : Hid (H ≤ w1.heap.size) := Lib.hid (Nat.le_of_lt HV1.out.lt)
  have HT : Hid (t = true ↔ ((0 ≤ code ∧ code ≤ 255) ∧ (0 ≤ boot ∧ boot ≤ 2147483647) ∧ l.length ≤ 2 ∧ m.length ≤ 16 ∧ (∀ x ∈ l, x.Right) ∧ ∀ x ∈ m, x.Right)) := Lib.hid ht
  clear hw1 hb1 h1 h2 hH ht
  obtain ⟨n1, hn1'⟩ : ∃ n, l.length = n := ⟨_, rfl⟩
  obtain ⟨n2, hn2'⟩ : ∃ n, m.length = n := ⟨_, rfl⟩
  have HN1 := Lib.hid hn1'
  have HN2 := Lib.hid hn2'
  rw [hn1'] at HW1 HV1 HP1 HT hn1 ⊢
  rw [hn2'] at HW1 HV1 HI1 HT hn2 ⊢
  clear hn1' hn2'
  unfold rpv
  go_enter Try.func23, Try.ntmps23
  go_upto_region 1 with fail
  rw [HW1.out, HH.out]
  go_wp2_with fail
  go_loopg [3] n1 (fun q s3 v => ∃ i : Nat, s3 = .int .i64 (i : Int) ∧ i ≤ n1 ∧ q = n1 - i ∧ Hid (Below w1.heap.size w1 v ∧ ∀ x ∈ l.take i, x.Right))
  case atStart => exact ⟨0, rfl, by omega, rfl, Lib.hid ⟨Below.refl _ _, fun x hx => by simp at hx⟩⟩
  case round =>
    obtain ⟨i, rfl, hi, rfl, HS⟩ := hrel
    have z2 := (HV1.out.below HS.out.1).c2
    by_cases hlt : i < n1
    · have hlt' : (i : Int) < (n1 : Int) := by omega
      have hi0 : (0 : Int) ≤ (i : Int) := by omega
      obtain ⟨x, b, A', c', hx, rfl, hbl, a0, a1, a2, a3, hd, hy⟩ := (HP1.out.below HS.out.1).at hlt
      obtain ⟨r, hr⟩ := bool_of x.Right
      have HR := Lib.hid hr
      have HCR : Hid (∀ W, Calls Try.prog 45 #[pv x.s x.g x.i A' x.D.length c'] W fun e w' => e = .returned (.bool r) ∧ Below W.heap.size W w') := Lib.hid (fun W => rright x.s x.g x.i A' x.D.length c' W r hr)
      have HX := Lib.hid hx
      clear hr hx hd hy
      unfold pv at HCR
      go_wp2_with fail
      refine (HCR.out _).mono ?_
      rintro e w5 ⟨rfl, hb5⟩
      try dsimp only
      have HB5 : Hid (Below w1.heap.size w1 w5) := Lib.hid (HS.out.1.trans (hb5.mono HS.out.1.size))
      clear hb5 a0 a1 a2 a3 z2
      cases r with
      | false =>
        obtain rfl : t = false := not_true HT.out (fun h => by have := HR.out.2 (h.2.2.2.2.1 x (List.mem_of_getElem? HX.out)); cases this)
        go_wp2_with fail
        go_ret
        exact ⟨rfl, by rw [HH.out]; exact HB1.out.trans (HB5.out.mono HZ1.out)⟩
      | true =>
        go_wp2_with fail
        go_roundg (n1 - (i + 1))
        case measure => omega
        case rel => exact ⟨i + 1, by go_num, by omega, rfl, Lib.hid ⟨HB5.out, fun y hy => by
          rw [List.take_add_one, HX.out] at hy
          rcases List.mem_append.1 hy with h | h
          · exact HS.out.2 y h
          · simp at h; subst h; exact HR.out.1 (by simp)⟩⟩
    · obtain rfl : i = n1 := by omega
      have HLR : Hid (∀ x ∈ l, x.Right) := Lib.hid (by have := HS.out.2; rwa [← HN1.out, List.take_length] at this)
      have HBr := Lib.hid HS.out.1
      clear HS
      obtain ⟨ww, rfl⟩ : ∃ ww : World, ww = wr := ⟨wr, rfl⟩
      go_wp2_with fail
      go_loopg [4] n2 (fun q s4 v => ∃ j : Nat, s4 = .int .i64 (j : Int) ∧ j ≤ n2 ∧ q = n2 - j ∧ Hid (Below w1.heap.size w1 v ∧ ∀ x ∈ m.take j, x.Right))
      case atStart => exact ⟨0, rfl, by omega, rfl, Lib.hid ⟨HBr.out, fun x hx => by simp at hx⟩⟩
      case round =>
        obtain ⟨j, rfl, hj, rfl, HS⟩ := hrel
        clear z2
        have z3 := (HV1.out.below HS.out.1).c3
        by_cases hlt2 : j < n2
        · have hlt' : (j : Int) < (n2 : Int) := by omega
          have hi0 : (0 : Int) ≤ (j : Int) := by omega
          obtain ⟨x, b, A', c', hx, rfl, hbl, a0, a1, a2, hd, hy⟩ := (HI1.out.below HS.out.1).at hlt2
          obtain ⟨r, hr⟩ := bool_of x.Right
          have HR := Lib.hid hr
          have HCR : Hid (∀ W, Calls Try.prog 46 #[iv x.s x.g A' x.D.length c'] W fun e w' => e = .returned (.bool r) ∧ Below W.heap.size W w') := Lib.hid (fun W => rrightI x.s x.g A' x.D.length c' W r hr)
          have HX := Lib.hid hx
          clear hr hx hd hy
          unfold iv at HCR
          go_wp2_with fail
          refine (HCR.out _).mono ?_
          rintro e w5 ⟨rfl, hb5⟩
          try dsimp only
          have HB5 : Hid (Below w1.heap.size w1 w5) := Lib.hid (HS.out.1.trans (hb5.mono HS.out.1.size))
          clear hb5 a0 a1 a2 z3
          cases r with
          | false =>
            obtain rfl : t = false := not_true HT.out (fun h => by have := HR.out.2 (h.2.2.2.2.2 x (List.mem_of_getElem? HX.out)); cases this)
            go_wp2_with fail
            go_ret
            exact ⟨rfl, by rw [HH.out]; exact HB1.out.trans (HB5.out.mono HZ1.out)⟩
          | true =>
            go_wp2_with fail
            go_roundg (n2 - (j + 1))
            case measure => omega
            case rel => exact ⟨j + 1, by go_num, by omega, rfl, Lib.hid ⟨HB5.out, fun y hy => by
              rw [List.take_add_one, HX.out] at hy
              rcases List.mem_append.1 hy with h | h
              · exact HS.out.2 y h
              · simp at h; subst h; exact HR.out.1 (by simp)⟩⟩
        · obtain rfl : j = n2 := by omega
          have HLI : Hid (∀ x ∈ m, x.Right) := Lib.hid (by have := HS.out.2; rwa [← HN2.out, List.take_length] at this)
          have HF : Hid (Below w.heap.size w wr) := Lib.hid (by rw [HH.out]; exact HB1.out.trans (HS.out.1.mono HZ1.out))
          have y0 := (HV1.out.below HS.out.1).c0
          have y1 := (HV1.out.below HS.out.1).c1
          have y2 := (HV1.out.below HS.out.1).c2
          have HT2 : Hid (t = true ↔ (0 ≤ code ∧ code ≤ 255 ∧ 0 ≤ boot ∧ boot ≤ 2147483647 ∧ i ≤ 2 ∧ j ≤ 16)) := Lib.hid ⟨fun h => by
            obtain ⟨⟨a, b⟩, ⟨c, d⟩, e, f, _⟩ := HT.out.1 h
            exact ⟨a, b, c, d, e, f⟩, fun ⟨a, b, c, d, e, f⟩ => HT.out.2 ⟨⟨a, b⟩, ⟨c, d⟩, e, f, HLR.out, HLI.out⟩⟩
          clear HS HT
          obtain ⟨wt, rfl⟩ : ∃ wt : World, wt = wr := ⟨wr, rfl⟩
          by_cases g0 : 0 ≤ code
          · by_cases g1 : code ≤ 255
            · by_cases g2 : 0 ≤ boot
              · by_cases g3 : boot ≤ 2147483647
                · by_cases g4 : (i : Int) ≤ 2
                  · have e9 : decide ((j : Int) ≤ 16) = t := by
                      cases t with
                      | true => exact decide_eq_true (by have := HT2.out.1 rfl; omega)
                      | false => refine decide_eq_false (fun h => ?_); have := HT2.out.2 (by omega); cases this
                    go_wp2_with fail
                    go_ret
                    exact ⟨rfl, HF.out⟩
                  · obtain rfl : t = false := not_true HT2.out (fun h => by omega)
                    go_wp2_with fail
                    go_ret
                    exact ⟨rfl, HF.out⟩
                · obtain rfl : t = false := not_true HT2.out (fun h => by omega)
                  go_wp2_with fail
                  go_ret
                  exact ⟨rfl, HF.out⟩
              · obtain rfl : t = false := not_true HT2.out (fun h => by omega)
                go_wp2_with fail
                go_ret
                exact ⟨rfl, HF.out⟩
            · obtain rfl : t = false := not_true HT2.out (fun h => by omega)
              go_wp2_with fail
              go_ret
              exact ⟨rfl, HF.out⟩
          · obtain rfl : t = false := not_true HT2.out (fun h => by omega)
            go_wp2_with fail
            go_ret
            exact ⟨rfl, HF.out⟩
end Go.Proofs.Ytoofgcdilgfclaa
