import Derived.Test.YtoofgcdilgfclaaU23
import Derived.Test.YtoofgcdilgfclaaU07
namespace Go.Proofs.Ytoofgcdilgfclaa
open Go.RowKit Go.Sort
set_option maxRecDepth 100000
set_option maxHeartbeats 1000000

def QVal (w : World) (v : Value) (q : Qx) : Prop := ∃ A c, v = rqv q.k q.s q.g q.i A q.D.length c ∧ BL w A q.D ∧ By q.D
theorem QVal.below {w w' : World} {v : Value} {q : Qx} (h : QVal w v q) (b : Below w.heap.size w w') : QVal w' v q := by
  obtain ⟨A, c, h1, h2, h4⟩ := h
  exact ⟨A, c, h1, h2.below b, h4⟩
/-- within. -/
theorem cwithin (n a b : Int) (t : Bool) (ht : t = true ↔ a ≤ n ∧ n ≤ b) (w : World) :
    Calls Try.prog 51 #[.int .i64 n, .int .i64 a, .int .i64 b] w fun e w' => e = .returned (.bool t) ∧ w' = w := by
  by_cases h1 : a ≤ n
  · have e2 : decide (n ≤ b) = t := by
      cases t with
      | true => exact decide_eq_true (ht.1 rfl).2
      | false => refine decide_eq_false (fun h => ?_); have := ht.2 ⟨h1, h⟩; cases this
    clear ht
    go_enter Try.func51, Try.ntmps51
    go_wp2_with fail
    go_ret
    exact ⟨rfl, rfl⟩
  · obtain rfl : t = false := not_true ht (fun h => h1 h.1)
    clear ht
    go_enter Try.func51, Try.ntmps51
    go_wp2_with fail
    go_ret
    exact ⟨rfl, rfl⟩
def OkQ (k s g i : Int) (n : Nat) : Prop := 1 ≤ k ∧ k ≤ 6 ∧ 0 ≤ s ∧ s ≤ 65535 ∧ 0 ≤ g ∧ g ≤ 1099511627776 ∧ 0 ≤ i ∧ i ≤ 255 ∧ n ≤ 128
/-- rightReq. -/
theorem crightReq (k s g i : Int) (A : Option Addr) (n c : Nat) (w : World) (t : Bool) (ht : t = true ↔ OkQ k s g i n) :
    Calls Try.prog 27 #[rqv k s g i A n c] w fun e w' => e = .returned (.bool t) ∧ Below w.heap.size w w' := by
  obtain ⟨w1, hw1⟩ : ∃ w1, w.alloc (.cells #[.int .i64 k, .int .i64 s, .int .i64 g, .int .i64 i, .slice A n c] 27) = w1 := ⟨_, rfl⟩
  obtain ⟨H, hH⟩ : ∃ H, w.heap.size = H := ⟨_, rfl⟩
  have HW1 := Lib.hid hw1
  have HH := Lib.hid hH
  have hq : QV w1 H k s g i A n c := by rw [← hw1]; exact QV.of_new hH
  have HB1 : Hid (Below H w w1) := Lib.hid (by rw [← hw1, ← hH]; exact (Below.refl _ _).alloc (Nat.le_refl _) _)
  have q0 := hq.c0
  have q1 := hq.c1
  have q2 := hq.c2
  have q3 := hq.c3
  have q4 := hq.c4
  obtain ⟨t1, h1⟩ : ∃ t1 : Bool, t1 = true ↔ 1 ≤ k ∧ k ≤ 6 := ⟨decide (1 ≤ k ∧ k ≤ 6), by simp⟩
  obtain ⟨t2, h2⟩ : ∃ t2 : Bool, t2 = true ↔ 0 ≤ s ∧ s ≤ 65535 := ⟨decide (0 ≤ s ∧ s ≤ 65535), by simp⟩
  obtain ⟨t3, h3⟩ : ∃ t3 : Bool, t3 = true ↔ 0 ≤ g ∧ g ≤ 1099511627776 := ⟨decide (0 ≤ g ∧ g ≤ 1099511627776), by simp⟩
  obtain ⟨t4, h4⟩ : ∃ t4 : Bool, t4 = true ↔ 0 ≤ i ∧ i ≤ 255 := ⟨decide (0 ≤ i ∧ i ≤ 255), by simp⟩
  obtain ⟨t5, h5⟩ : ∃ t5 : Bool, decide ((n : Int) ≤ 128) = t5 := ⟨_, rfl⟩
  have hT : t = (t1 && t2 && t3 && t4 && t5) := by
    rw [Bool.eq_iff_iff, ht]
    unfold OkQ
    simp only [Bool.and_eq_true, h1, h2, h3, h4, ← h5, decide_eq_true_eq]
    omega
  have HC1 := Lib.hid (fun W => cwithin k 1 6 t1 h1 W)
  have HC2 := Lib.hid (fun W => cwithin s 0 65535 t2 h2 W)
  have HC3 := Lib.hid (fun W => cwithin g 0 1099511627776 t3 h3 W)
  have HC4 := Lib.hid (fun W => cwithin i 0 255 t4 h4 W)
  clear h1 h2 h3 h4 ht hw1 hH hq
  unfold rqv
  cases t1 with
  | false =>
    simp only [Bool.false_and] at hT
    subst hT
    go_enter Try.func27, Try.ntmps27
    go_wp2_with fail
    rw [HW1.out, HH.out]
    refine (HC1.out _).mono ?_
    rintro e w2 ⟨rfl, hw⟩
    obtain rfl := hw.symm
    try dsimp only
    go_wp2_with fail
    go_ret
    exact ⟨rfl, by rw [HH.out]; exact HB1.out⟩
  | true =>
    cases t2 with
    | false =>
      simp only [Bool.false_and, Bool.and_false] at hT
      subst hT
      go_enter Try.func27, Try.ntmps27
      go_wp2_with fail
      rw [HW1.out, HH.out]
      refine (HC1.out _).mono ?_
      rintro e w2 ⟨rfl, hw⟩
      obtain rfl := hw.symm
      try dsimp only
      go_wp2_with fail
      refine (HC2.out _).mono ?_
      rintro e w2 ⟨rfl, hw⟩
      obtain rfl := hw.symm
      try dsimp only
      go_wp2_with fail
      go_ret
      exact ⟨rfl, by rw [HH.out]; exact HB1.out⟩
    | true =>
      cases t3 with
      | false =>
        simp only [Bool.false_and, Bool.and_false] at hT
        subst hT
        go_enter Try.func27, Try.ntmps27
        go_wp2_with fail
        rw [HW1.out, HH.out]
        refine (HC1.out _).mono ?_
        rintro e w2 ⟨rfl, hw⟩
        obtain rfl := hw.symm
        try dsimp only
        go_wp2_with fail
        refine (HC2.out _).mono ?_
        rintro e w2 ⟨rfl, hw⟩
        obtain rfl := hw.symm
        try dsimp only
        go_wp2_with fail
        refine (HC3.out _).mono ?_
        rintro e w2 ⟨rfl, hw⟩
        obtain rfl := hw.symm
        try dsimp only
        go_wp2_with fail
        go_ret
        exact ⟨rfl, by rw [HH.out]; exact HB1.out⟩
      | true =>
        simp only [Bool.true_and] at hT
        have HT := Lib.hid hT
        clear hT
        go_enter Try.func27, Try.ntmps27
        go_wp2_with fail
        rw [HW1.out, HH.out]
        refine (HC1.out _).mono ?_
        rintro e w2 ⟨rfl, hw⟩
        obtain rfl := hw.symm
        try dsimp only
        go_wp2_with fail
        refine (HC2.out _).mono ?_
        rintro e w2 ⟨rfl, hw⟩
        obtain rfl := hw.symm
        try dsimp only
        go_wp2_with fail
        refine (HC3.out _).mono ?_
        rintro e w2 ⟨rfl, hw⟩
        obtain rfl := hw.symm
        try dsimp only
        go_wp2_with fail
        refine (HC4.out _).mono ?_
        rintro e w2 ⟨rfl, hw⟩
        obtain rfl := hw.symm
        try dsimp only
        cases t4 with
        | false =>
          go_wp2_with fail
          go_ret
          exact ⟨by rw [HT.out]; rfl, by rw [HH.out]; exact HB1.out⟩
        | true =>
          go_wp2_with fail
          go_ret
          exact ⟨by rw [HT.out]; rfl, by rw [HH.out]; exact HB1.out⟩
end Go.Proofs.Ytoofgcdilgfclaa
