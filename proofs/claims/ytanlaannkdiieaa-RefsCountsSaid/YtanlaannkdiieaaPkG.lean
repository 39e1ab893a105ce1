import Derived.Test.YtanlaannkdiieaaPkF
namespace Go.Proofs.Ytanlaannkdiieaa.Pk
open Go.RowKit Go.Sort

theorem Raw.less' {w : World} {hb g mb cap : Nat} {l : List It} (h : Raw w hb g mb cap l) (x y : Int) (i j : Nat) (b : Bool) (hx : x = i) (hy : y = j) (hi : i < l.length) (hj : j < l.length) (hb' : ltIt (at' l i) (at' l j) = b) :
    Calls Try.prog 45 #[.pointer (some ⟨hb, 0, none⟩), .int .i64 x, .int .i64 y] w fun e w' => e = .returned (.bool b) ∧ Below w.heap.size w w' := by
  subst hx hy hb'
  exact h.less i j hi hj

theorem swap69' (hb g mb cap i j : Nat) (x y : Int) (l : List It) (w : World) (h : Raw w hb g mb cap l) (hx : x = i) (hy : y = j) (hi : i < l.length) (hj : j < l.length) :
    Calls Try.prog 48 #[.pointer (some ⟨hb, 0, none⟩), .int .i64 x, .int .i64 y] w fun e w' => e = .returned (.tuple #[]) ∧ Raw w' hb g mb cap (swp l i j) ∧ Turn [g, mb] w w' := by
  subst hx hy
  exact swap69 hb g mb cap i j l w h hi hj

def DownPost (hb g mb cap i0 n : Nat) (l : List It) (w : World) (e : Ending) (w' : World) : Prop :=
  ∃ mv, e = .returned (.bool mv) ∧ ∃ l', Raw w' hb g mb cap l' ∧ Turn [g, mb] w w' ∧ l'.Perm l ∧ (∀ k, n ≤ k → at' l' k = at' l k) ∧ (mv = true → Heapy l' n) ∧ (mv = false → Pu l' n i0)

/-- What the loop holds. -/
structure DownRel (hb g mb cap i0 n : Nat) (l : List It) (w wr : World) (i : Nat) (l1 : List It) : Prop where
  raw : Raw wr hb g mb cap l1
  turn : Turn [g, mb] w wr
  perm : l1.Perm l
  tail : ∀ k, n ≤ k → at' l1 k = at' l k
  q : Q l1 n i
  up : i0 < i → PathUp l1 i

theorem DownRel.stop {hb g mb cap i0 n i : Nat} {l l1 : List It} {w wr w' : World} (h : DownRel hb g mb cap i0 n l w wr i l1) (b : Below wr.heap.size wr w') (hi : i0 ≤ i) (hc : ∀ k, 0 < k → k < n → par k = i → le (at' l1 i) (at' l1 k)) :
    DownPost hb g mb cap i0 n l w (.returned (.bool (decide (i0 < i)))) w' := by
  refine ⟨_, rfl, l1, h.raw.below b, h.turn.trans (Turn.of b), h.perm, h.tail, fun e => ?_, fun e => ?_⟩
  · have := of_decide_eq_true e
    exact heapy_of (down_stop h.q hc) (h.up (by omega))
  · have := of_decide_eq_false e
    have e0 : i0 = i := by omega
    subst e0
    exact down_stop h.q hc

theorem DownRel.step {hb g mb cap i0 n i j : Nat} {l l1 : List It} {w wr w1 w2 : World} (h : DownRel hb g mb cap i0 n l w wr i l1) (b : Below wr.heap.size wr w1) (hn : n ≤ l1.length) (hj : j < n) (hj0 : 0 < j) (hp : par j = i)
    (hc : ∀ k, 0 < k → k < n → par k = i → le (at' l1 j) (at' l1 k)) (hlt : ltIt (at' l1 j) (at' l1 i) = true) (R : Raw w2 hb g mb cap (swp l1 i j)) (T : Turn [g, mb] w1 w2) : DownRel hb g mb cap i0 n l w w2 j (swp l1 i j) := by
  have hi : i < j := by unfold par at hp; omega
  have s := down_step h.q hj hn hj0 hp hc hlt
  refine ⟨R, (h.turn.trans (Turn.of b)).trans T, (swp_perm (by omega) (by omega)).trans h.perm, fun k hk => ?_, s.1, fun _ => s.2⟩
  rw [at_swp _ _ _ _ (by omega) (by omega), if_neg (by omega), if_neg (by omega)]
  exact h.tail k hk

set_option maxHeartbeats 4000000 in
set_option maxRecDepth 100000 in
theorem down27 (hb g mb cap i0 n : Nat) (l : List It) (w : World) (h : Raw w hb g mb cap l) (hn : n ≤ l.length) (hi : i0 ≤ l.length) (hQ : Q l n i0) :
    Calls Try.prog 27 #[.iface 51 (.pointer (some ⟨hb, 0, none⟩)), .int .i64 i0, .int .i64 n] w (DownPost hb g mb cap i0 n l w) := by
  have m1 := fun w' => mLess ⟨hb, 0, none⟩ w'
  have m2 := fun w' => naLess ⟨hb, 0, none⟩ w'
  have m3 := fun w' => mSwap ⟨hb, 0, none⟩ w'
  have m4 := fun w' => naSwap ⟨hb, 0, none⟩ w'
  have hsh := h.short
  have hn1 : n ≤ 1000 := by omega
  have HD : Hid (DownRel hb g mb cap i0 n l w w i0 l) := Lib.hid ⟨h, Turn.refl _ _, List.Perm.refl _, fun _ _ => rfl, hQ, fun h => absurd h (Nat.lt_irrefl _)⟩
  have hi1 : i0 ≤ 1000 := by omega
  have HN := Lib.hid hn
  clear h hQ hn hi hsh
  go_enter Try.func27, Try.ntmps27
  go_wp2_with fail
  go_loopg [7] (1001 - i0) (fun gh si wr => ∃ (i : Nat) (l1 : List It), si = .int .i64 i ∧ 1001 - i ≤ gh ∧ i ≤ 1000 ∧ i0 ≤ i ∧ Hid (n ≤ l1.length) ∧ Hid (DownRel hb g mb cap i0 n l w wr i l1))
  case atStart => exact ⟨i0, l, rfl, Nat.le_refl _, hi1, Nat.le_refl _, HN, HD⟩
  case round =>
    obtain ⟨i, l1, rfl, hg, hi, hii, HL, HR⟩ := hrel
    clear HD HN
    by_cases c1 : 2 * i + 1 < n
    · by_cases c2 : 2 * i + 2 < n
      · cases hlt : ltIt (at' l1 (2 * i + 2)) (at' l1 (2 * i + 1))
        · have HH := Lib.hid hlt
          clear hlt
          go_wp2_with fail
          refine (HR.out.raw.less' _ _ (2 * i + 2) (2 * i + 1) _ (by omega) (by omega) (by have := HL.out; omega) (by have := HL.out; omega) HH.out).mono ?_
          rintro e w1 ⟨rfl, b1⟩
          have HB1 := Lib.hid b1
          have HC := Lib.hid (show ∀ k, 0 < k → k < n → par k = i → le (at' l1 (2 * i + 1)) (at' l1 k) from fun k h0 hk hp => by
            have : k = 2 * i + 1 ∨ k = 2 * i + 2 := by unfold par at hp; omega
            rcases this with rfl | rfl
            · exact le_refl _
            · exact HH.out)
          clear b1
          cases hl2 : ltIt (at' l1 (2 * i + 1)) (at' l1 i)
          · have H2 := Lib.hid hl2
            clear hl2
            go_wp2_with fail
            refine ((HR.out.raw.below HB1.out).less' _ _ (2 * i + 1) i _ (by omega) (by omega) (by have := HL.out; omega) (by have := HL.out; omega) H2.out).mono ?_
            rintro e w2 ⟨rfl, b2⟩
            have HB2 := Lib.hid b2
            clear b2
            go_wp2_with fail
            go_ret
            exact HR.out.stop (HB1.out.trans (HB2.out.mono HB1.out.size)) hii (fun k h0 hk hp => le_trans H2.out (HC.out k h0 hk hp))
          · have H2 := Lib.hid hl2
            clear hl2
            go_wp2_with fail
            refine ((HR.out.raw.below HB1.out).less' _ _ (2 * i + 1) i _ (by omega) (by omega) (by have := HL.out; omega) (by have := HL.out; omega) H2.out).mono ?_
            rintro e w2 ⟨rfl, b2⟩
            have HB2 := Lib.hid b2
            clear b2
            go_wp2_with fail
            refine (swap69' hb g mb cap i (2 * i + 1) _ _ l1 w2 (HR.out.raw.below (HB1.out.trans (HB2.out.mono HB1.out.size))) (by omega) (by omega) (by have := HL.out; omega) (by have := HL.out; omega)).mono ?_
            rintro e w3 ⟨rfl, R3, T3⟩
            have HR3 := Lib.hid R3
            have HT3 := Lib.hid T3
            clear R3 T3
            go_wp2_with fail
            go_roundg (1001 - (2 * i + 1))
            case measure => omega
            case rel => exact ⟨2 * i + 1, swp l1 i (2 * i + 1), by first | rfl | (congr 1; omega), Nat.le_refl _, by omega, by omega, Lib.hid (by rw [length_swp]; exact HL.out), Lib.hid (HR.out.step (HB1.out.trans (HB2.out.mono HB1.out.size)) HL.out (by omega) (by omega) (by unfold par; omega) HC.out H2.out HR3.out HT3.out)⟩
        · have HH := Lib.hid hlt
          clear hlt
          go_wp2_with fail
          refine (HR.out.raw.less' _ _ (2 * i + 2) (2 * i + 1) _ (by omega) (by omega) (by have := HL.out; omega) (by have := HL.out; omega) HH.out).mono ?_
          rintro e w1 ⟨rfl, b1⟩
          have HB1 := Lib.hid b1
          have HC := Lib.hid (show ∀ k, 0 < k → k < n → par k = i → le (at' l1 (2 * i + 2)) (at' l1 k) from fun k h0 hk hp => by
            have : k = 2 * i + 1 ∨ k = 2 * i + 2 := by unfold par at hp; omega
            rcases this with rfl | rfl
            · exact le_of_lt HH.out
            · exact le_refl _)
          clear b1
          cases hl2 : ltIt (at' l1 (2 * i + 2)) (at' l1 i)
          · have H2 := Lib.hid hl2
            clear hl2
            go_wp2_with fail
            refine ((HR.out.raw.below HB1.out).less' _ _ (2 * i + 2) i _ (by omega) (by omega) (by have := HL.out; omega) (by have := HL.out; omega) H2.out).mono ?_
            rintro e w2 ⟨rfl, b2⟩
            have HB2 := Lib.hid b2
            clear b2
            go_wp2_with fail
            go_ret
            exact HR.out.stop (HB1.out.trans (HB2.out.mono HB1.out.size)) hii (fun k h0 hk hp => le_trans H2.out (HC.out k h0 hk hp))
          · have H2 := Lib.hid hl2
            clear hl2
            go_wp2_with fail
            refine ((HR.out.raw.below HB1.out).less' _ _ (2 * i + 2) i _ (by omega) (by omega) (by have := HL.out; omega) (by have := HL.out; omega) H2.out).mono ?_
            rintro e w2 ⟨rfl, b2⟩
            have HB2 := Lib.hid b2
            clear b2
            go_wp2_with fail
            refine (swap69' hb g mb cap i (2 * i + 2) _ _ l1 w2 (HR.out.raw.below (HB1.out.trans (HB2.out.mono HB1.out.size))) (by omega) (by omega) (by have := HL.out; omega) (by have := HL.out; omega)).mono ?_
            rintro e w3 ⟨rfl, R3, T3⟩
            have HR3 := Lib.hid R3
            have HT3 := Lib.hid T3
            clear R3 T3
            go_wp2_with fail
            go_roundg (1001 - (2 * i + 2))
            case measure => omega
            case rel => exact ⟨2 * i + 2, swp l1 i (2 * i + 2), by first | rfl | (congr 1; omega), Nat.le_refl _, by omega, by omega, Lib.hid (by rw [length_swp]; exact HL.out), Lib.hid (HR.out.step (HB1.out.trans (HB2.out.mono HB1.out.size)) HL.out (by omega) (by omega) (by unfold par; omega) HC.out H2.out HR3.out HT3.out)⟩
      · have HB1 := Lib.hid (Below.refl wr.heap.size wr)
        have HC := Lib.hid (show ∀ k, 0 < k → k < n → par k = i → le (at' l1 (2 * i + 1)) (at' l1 k) from fun k h0 hk hp => by
          have : k = 2 * i + 1 := by unfold par at hp; omega
          subst this
          exact le_refl _)
        obtain ⟨w1, rfl⟩ : ∃ w1, w1 = wr := ⟨wr, rfl⟩
        cases hl2 : ltIt (at' l1 (2 * i + 1)) (at' l1 i)
        · have H2 := Lib.hid hl2
          clear hl2
          go_wp2_with fail
          refine ((HR.out.raw.below HB1.out).less' _ _ (2 * i + 1) i _ (by omega) (by omega) (by have := HL.out; omega) (by have := HL.out; omega) H2.out).mono ?_
          rintro e w2 ⟨rfl, b2⟩
          have HB2 := Lib.hid b2
          clear b2
          go_wp2_with fail
          go_ret
          exact HR.out.stop (HB1.out.trans (HB2.out.mono HB1.out.size)) hii (fun k h0 hk hp => le_trans H2.out (HC.out k h0 hk hp))
        · have H2 := Lib.hid hl2
          clear hl2
          go_wp2_with fail
          refine ((HR.out.raw.below HB1.out).less' _ _ (2 * i + 1) i _ (by omega) (by omega) (by have := HL.out; omega) (by have := HL.out; omega) H2.out).mono ?_
          rintro e w2 ⟨rfl, b2⟩
          have HB2 := Lib.hid b2
          clear b2
          go_wp2_with fail
          refine (swap69' hb g mb cap i (2 * i + 1) _ _ l1 w2 (HR.out.raw.below (HB1.out.trans (HB2.out.mono HB1.out.size))) (by omega) (by omega) (by have := HL.out; omega) (by have := HL.out; omega)).mono ?_
          rintro e w3 ⟨rfl, R3, T3⟩
          have HR3 := Lib.hid R3
          have HT3 := Lib.hid T3
          clear R3 T3
          go_wp2_with fail
          go_roundg (1001 - (2 * i + 1))
          case measure => omega
          case rel => exact ⟨2 * i + 1, swp l1 i (2 * i + 1), by first | rfl | (congr 1; omega), Nat.le_refl _, by omega, by omega, Lib.hid (by rw [length_swp]; exact HL.out), Lib.hid (HR.out.step (HB1.out.trans (HB2.out.mono HB1.out.size)) HL.out (by omega) (by omega) (by unfold par; omega) HC.out H2.out HR3.out HT3.out)⟩
    · go_wp2_with fail
      go_ret
      exact HR.out.stop (Below.refl _ _) hii (fun k h0 hk hp => by unfold par at hp; omega)
end Go.Proofs.Ytanlaannkdiieaa.Pk
