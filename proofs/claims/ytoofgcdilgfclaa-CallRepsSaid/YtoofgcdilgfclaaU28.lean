import Derived.Test.YtoofgcdilgfclaaU25
import Derived.Test.YtoofgcdilgfclaaU27
namespace Go.Proofs.Ytoofgcdilgfclaa
open Go.RowKit Go.Sort
set_option maxRecDepth 100000
set_option maxHeartbeats 2000000

theorem RV.c2' {w : World} {b : Nat} {code boot : Int} {u v : Value} (h : RV w b code boot u v) : w.cell? ⟨b, 2, none⟩ = some u := h.c2
/-- rightRep. -/
theorem crightRep {w : World} {v : Value} {p : Rx} (h : RVal w v p) (hn1 : p.ps.length ≤ 1000000) (hn2 : p.xs.length ≤ 1000000) (t : Bool) (ht : t = true ↔ p.Right) :
    Calls Try.prog 34 #[v] w fun e w' => e = .returned (.bool t) ∧ Below w.heap.size w w' := by
  obtain ⟨A1, c1, A2, c2, rfl, h1, h2⟩ := h
  obtain ⟨code, boot, l, m⟩ := p
  dsimp only at h1 h2 hn1 hn2 ⊢
  obtain ⟨H, hH⟩ : ∃ H, w.heap.size = H := ⟨_, rfl⟩
  have HH := Lib.hid hH
  obtain ⟨w1, hw1⟩ : ∃ w1, w.alloc (.cells #[.int .i64 code, .int .i64 boot, .slice A1 l.length c1, .slice A2 m.length c2] 39) = w1 := ⟨_, rfl⟩
  have HW1 := Lib.hid hw1
  have hb1 : Below H w w1 := by rw [← hw1, ← hH]; exact (Below.refl _ _).alloc (Nat.le_refl _) _
  have HB1 := Lib.hid hb1
  have HV1 : Hid (RV w1 H code boot (.slice A1 l.length c1) (.slice A2 m.length c2)) := Lib.hid (by rw [← hw1]; exact RV.of_new hH)
  have HP1 : Hid (PR w1 (.slice A1 l.length c1) l) := Lib.hid (h1.below (by rw [hH]; exact hb1))
  have HI1 : Hid (IR w1 (.slice A2 m.length c2) m) := Lib.hid (h2.below (by rw [hH]; exact hb1))
  have HZ1 : Hid (H ≤ w1.heap.size) := Lib.hid (Nat.le_of_lt HV1.out.lt)
  have HT : Hid (t = true ↔ ((0 ≤ code ∧ code ≤ 255) ∧ (0 ≤ boot ∧ boot ≤ 2147483647) ∧ l.length ≤ 2 ∧ m.length ≤ 16 ∧ (∀ x ∈ l, x.Right) ∧ ∀ x ∈ m, x.Right)) := Lib.hid ht
  have z0 := HV1.out.c0
  have z1 := HV1.out.c1
  have z2 := HV1.out.c2
  have z3 := HV1.out.c3
  clear hw1 hb1 h1 h2 hH ht
  obtain ⟨n1, hn1'⟩ : ∃ n, l.length = n := ⟨_, rfl⟩
  obtain ⟨n2, hn2'⟩ : ∃ n, m.length = n := ⟨_, rfl⟩
  have HN1 := Lib.hid hn1'
  have HN2 := Lib.hid hn2'
  rw [hn1'] at HW1 HV1 HP1 HT z2 hn1 ⊢
  rw [hn2'] at HW1 HV1 HI1 HT z3 hn2 ⊢
  clear hn1' hn2'
  obtain ⟨t1, ht1⟩ := bool_of (0 ≤ code ∧ code ≤ 255)
  obtain ⟨t2, ht2⟩ := bool_of (0 ≤ boot ∧ boot ≤ 2147483647)
  have HC1 := Lib.hid (fun W => cwithin code 0 255 t1 ht1 W)
  have HC2 := Lib.hid (fun W => cwithin boot 0 2147483647 t2 ht2 W)
  have HT1 := Lib.hid ht1
  have HT2 := Lib.hid ht2
  clear ht1 ht2
  unfold rpv
  go_enter Try.func34, Try.ntmps34
  go_wp2_with fail
  rw [HW1.out, HH.out]
  refine (HC1.out _).mono ?_
  rintro e w2 ⟨rfl, hw⟩
  obtain rfl := hw.symm
  try dsimp only
  cases t1 with
  | false =>
    obtain rfl : t = false := not_true HT.out (fun h => by have := HT1.out.2 h.1; cases this)
    go_wp2_with fail
    go_ret
    exact ⟨rfl, by rw [HH.out]; exact HB1.out⟩
  | true =>
  go_wp2_with fail
  refine (HC2.out _).mono ?_
  rintro e w2 ⟨rfl, hw⟩
  obtain rfl := hw.symm
  try dsimp only
  cases t2 with
  | false =>
    obtain rfl : t = false := not_true HT.out (fun h => by have := HT2.out.2 h.2.1; cases this)
    go_wp2_with fail
    go_ret
    exact ⟨rfl, by rw [HH.out]; exact HB1.out⟩
  | true =>
  by_cases g1 : n1 ≤ 2
  · by_cases g2 : n2 ≤ 16
    · have g1' : ¬ (2 : Int) < (n1 : Int) := by omega
      have g2' : ¬ (16 : Int) < (n2 : Int) := by omega
      go_wp2_with fail
      go_loopg [30] n1 (fun q s30 v => ∃ i : Nat, s30 = .int .i64 (i : Int) ∧ i ≤ n1 ∧ q = n1 - i ∧ Hid (Below H w v ∧ Below w1.heap.size w1 v ∧ ∀ x ∈ l.take i, x.Right))
      case atStart => exact ⟨0, rfl, by omega, rfl, Lib.hid ⟨HB1.out, Below.refl _ _, fun x hx => by simp at hx⟩⟩
      case round =>
        obtain ⟨i, rfl, hi, rfl, HS⟩ := hrel
        by_cases hlt : i < n1
        · have hlt' : (i : Int) < (n1 : Int) := by omega
          obtain ⟨x, b, A', c', hx, rfl, hbl, a0, a1, a2, a3, hd, hy⟩ := (HP1.out.below HS.out.2.1).at hlt
          obtain ⟨r, hr⟩ := bool_of x.Right
          have HR := Lib.hid hr
          have HCR : Hid (∀ W, Calls Try.prog 56 #[pv x.s x.g x.i A' x.D.length c'] W fun e w' => e = .returned (.bool r) ∧ Below W.heap.size W w') := Lib.hid (fun W => cright x.s x.g x.i A' x.D.length c' W r hr)
          have HX := Lib.hid hx
          clear hr hx hd hy
          unfold pv at HCR
          obtain ⟨wn, hwn⟩ : ∃ wn, wr.alloc (.cells #[.int .i64 x.s, .int .i64 x.g, .int .i64 x.i, .slice A' x.D.length c'] 31) = wn := ⟨_, rfl⟩
          have HBN : Hid (Below wr.heap.size wr wn) := Lib.hid (by rw [← hwn]; exact (Below.refl _ _).alloc (Nat.le_refl _) _)
          have HWN := Lib.hid hwn
          clear hwn
          go_wp2_with fail
          rw [HWN.out]
          refine (HCR.out _).mono ?_
          rintro e w5 ⟨rfl, hb5⟩
          try dsimp only
          have HB5 : Hid (Below wr.heap.size wr w5) := Lib.hid (HBN.out.trans (hb5.mono HBN.out.size))
          clear hb5 a0 a1 a2 a3
          have HBH : Hid (Below H w w5) := Lib.hid (HS.out.1.trans (HB5.out.mono (Nat.le_trans HZ1.out HS.out.2.1.size)))
          cases r with
          | false =>
            obtain rfl : t = false := not_true HT.out (fun h => by have := HR.out.2 (h.2.2.2.2.1 x (List.mem_of_getElem? HX.out)); cases this)
            go_wp2_with fail
            go_ret
            exact ⟨rfl, by rw [HH.out]; exact HBH.out⟩
          | true =>
            go_wp2_with fail
            go_roundg (n1 - (i + 1))
            case measure => omega
            case rel => exact ⟨i + 1, by go_num, by omega, rfl, Lib.hid ⟨HBH.out, HS.out.2.1.trans (HB5.out.mono HS.out.2.1.size), fun y hy => by
              rw [List.take_add_one, HX.out] at hy
              rcases List.mem_append.1 hy with h | h
              · exact HS.out.2.2 y h
              · simp at h; subst h; exact HR.out.1 (by simp)⟩⟩
        · obtain rfl : i = n1 := by omega
          have HLR : Hid (∀ x ∈ l, x.Right) := Lib.hid (by have := HS.out.2.2; rwa [← HN1.out, List.take_length] at this)
          have HZr : Hid (H ≤ wr.heap.size) := Lib.hid (Nat.le_trans HZ1.out HS.out.2.1.size)
          have HIr := Lib.hid (HI1.out.below HS.out.2.1)
          have y3 := (HV1.out.below HS.out.2.1).c3
          obtain ⟨ww, rfl⟩ : ∃ ww : World, ww = wr := ⟨wr, rfl⟩
          go_wp2_with fail
          go_loopg [41] n2 (fun q s41 v => ∃ j : Nat, s41 = .int .i64 (j : Int) ∧ j ≤ n2 ∧ q = n2 - j ∧ Hid (Below ww.heap.size ww v ∧ ∀ x ∈ m.take j, x.Right))
          case atStart => exact ⟨0, rfl, by omega, rfl, Lib.hid ⟨Below.refl _ _, fun x hx => by simp at hx⟩⟩
          case round =>
            obtain ⟨j, rfl, hj, rfl, HS2⟩ := hrel
            have HBW : Hid (∀ W, Below wr.heap.size wr W → Below H w W) := Lib.hid (fun W hW => HS.out.1.trans ((HS2.out.1.trans (hW.mono HS2.out.1.size)).mono HZr.out))
            by_cases hlt : j < n2
            · have hlt' : (j : Int) < (n2 : Int) := by omega
              obtain ⟨x, b, A', c', hx, rfl, hbl, a0, a1, a2, hd, hy⟩ := (HIr.out.below HS2.out.1).at hlt
              obtain ⟨r, hr⟩ := bool_of x.Right
              have HR := Lib.hid hr
              have HCR : Hid (∀ W, Calls Try.prog 57 #[iv x.s x.g A' x.D.length c'] W fun e w' => e = .returned (.bool r) ∧ Below W.heap.size W w') := Lib.hid (fun W => iright x.s x.g A' x.D.length c' W r hr)
              have HX := Lib.hid hx
              clear hr hx hd hy y3
              unfold iv at HCR
              obtain ⟨wn, hwn⟩ : ∃ wn, wr.alloc (.cells #[.int .i64 x.s, .int .i64 x.g, .slice A' x.D.length c'] 35) = wn := ⟨_, rfl⟩
              have HBN : Hid (Below wr.heap.size wr wn) := Lib.hid (by rw [← hwn]; exact (Below.refl _ _).alloc (Nat.le_refl _) _)
              have HWN := Lib.hid hwn
              clear hwn
              go_wp2_with fail
              rw [HWN.out]
              refine (HCR.out _).mono ?_
              rintro e w5 ⟨rfl, hb5⟩
              try dsimp only
              have HB5 : Hid (Below wr.heap.size wr w5) := Lib.hid (HBN.out.trans (hb5.mono HBN.out.size))
              clear hb5 a0 a1 a2
              cases r with
              | false =>
                obtain rfl : t = false := not_true HT.out (fun h => by have := HR.out.2 (h.2.2.2.2.2 x (List.mem_of_getElem? HX.out)); cases this)
                go_wp2_with fail
                go_ret
                exact ⟨rfl, by rw [HH.out]; exact HBW.out _ HB5.out⟩
              | true =>
                go_wp2_with fail
                go_roundg (n2 - (j + 1))
                case measure => omega
                case rel => exact ⟨j + 1, by go_num, by omega, rfl, Lib.hid ⟨HS2.out.1.trans (HB5.out.mono HS2.out.1.size), fun y hy => by
                  rw [List.take_add_one, HX.out] at hy
                  rcases List.mem_append.1 hy with h | h
                  · exact HS2.out.2 y h
                  · simp at h; subst h; exact HR.out.1 (by simp)⟩⟩
            · obtain rfl : j = n2 := by omega
              have HLI : Hid (∀ x ∈ m, x.Right) := Lib.hid (by have := HS2.out.2; rwa [← HN2.out, List.take_length] at this)
              obtain rfl : t = true := HT.out.2 ⟨HT1.out.1 (by simp), HT2.out.1 (by simp), g1, g2, HLR.out, HLI.out⟩
              go_wp2_with fail
              go_ret
              exact ⟨rfl, by rw [HH.out]; exact HBW.out _ (Below.refl _ _)⟩
    · obtain rfl : t = false := not_true HT.out (fun h => g2 h.2.2.2.1)
      have g1' : ¬ (2 : Int) < (n1 : Int) := by omega
      have g2' : (16 : Int) < (n2 : Int) := by omega
      go_wp2_with fail
      go_ret
      exact ⟨rfl, by rw [HH.out]; exact HB1.out⟩
  · obtain rfl : t = false := not_true HT.out (fun h => g1 h.2.2.1)
    have g1' : (2 : Int) < (n1 : Int) := by omega
    go_wp2_with fail
    go_ret
    exact ⟨rfl, by rw [HH.out]; exact HB1.out⟩
end Go.Proofs.Ytoofgcdilgfclaa
