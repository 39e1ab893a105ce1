import Derived.Test.YtjbicpekpgaokaaR4
namespace Go.Proofs.Ytjbicpekpgaokaa
open Go.RowKit Go.Sort
set_option maxRecDepth 100000
set_option maxHeartbeats 2000000

/-- ReadPiece of other than 160 bytes. -/
theorem rreadp_len (A : Option Addr) (n cap : Nat) (w : World) (hn : n ≠ 160) :
    Calls Try.prog 28 #[.slice A n cap] w fun e w' => e = .returned (.tuple #[pv 0 0 0 none 0 0, .bool false]) ∧ Below w.heap.size w w' := by
  have HO : Hid (∀ W, Calls Try.prog 19 #[.slice A n cap] W fun e w' => e = .returned (.tuple #[.int .i64 0, .slice none 0 0, .int .i64 2]) ∧ w' = W) := Lib.hid (fun W => ropen_len A n cap W hn)
  clear hn
  unfold pv
  go_enter Try.func28, Try.ntmps28
  go_wp2_with fail
  refine (HO.out _).mono ?_
  rintro e w' ⟨rfl, hw⟩
  obtain rfl := hw.symm
  go_wp2_with fail
  refine bodyPost_ret (v := .tuple #[.agg #[.int .i64 0, .int .i64 0, .int .i64 0, .slice none 0 0], .bool false]) ?_ rfl ?_
  · rw [results_cell_tmp rfl]
    simp [go_sem]
  exact ⟨rfl, (Below.refl _ _).alloc (Nat.le_refl _) _⟩

/-- SamePiece. -/
theorem rsame (s g i s' g' i' : Int) (A A' : Option Addr) (n c n' c' : Nat) (D D' : Nat → Nat) (w : World) (h1 : Rd w A n D) (h2 : Rd w A' n' D') (b1 : ∀ j, j < n → D j < 256) (b2 : ∀ j, j < n' → D' j < 256)
    (t : Bool) (ht : t = true ↔ s = s' ∧ g = g' ∧ i = i' ∧ n = n' ∧ ∀ j, j < n → D j = D' j) :
    Calls Try.prog 30 #[pv s g i A n c, pv s' g' i' A' n' c'] w fun e w' => e = .returned (.bool t) ∧ Below w.heap.size w w' := by
  have HT := Lib.hid ht
  obtain ⟨w1, hw1⟩ : ∃ w1, (w.alloc (.cells #[.int .i64 s, .int .i64 g, .int .i64 i, .slice A n c] 42)).alloc (.cells #[.int .i64 s', .int .i64 g', .int .i64 i', .slice A' n' c'] 42) = w1 := ⟨_, rfl⟩
  have HB1 : Hid (Below w.heap.size w w1) := Lib.hid (by rw [← hw1]; exact ((Below.refl _ _).alloc (Nat.le_refl _) _).alloc (by simp) _)
  have HW1 := Lib.hid hw1
  have v1 := conv_rd (cap := c) (h1.keep HB1.out)
  have v2 := conv_rd (cap := c') (h2.keep HB1.out)
  have HST := Lib.hid (str_eq b1 b2)
  generalize strOf ((List.range n).map D) = s1 at *
  generalize strOf ((List.range n').map D') = s2 at *
  rw [← hw1] at v1 v2
  clear ht h1 h2 b1 b2 hw1
  unfold pv
  by_cases hs : s = s'
  · have e1 : (s == s') = true := beq_iff_eq.2 hs
    have HS := Lib.hid hs
    clear hs
    by_cases hg : g = g'
    · have e2 : (g == g') = true := beq_iff_eq.2 hg
      have HG := Lib.hid hg
      clear hg
      by_cases hi : i = i'
      · have e3 : (i == i') = true := beq_iff_eq.2 hi
        have HI := Lib.hid hi
        clear hi
        have e4 : (s1.toList == s2.toList) = t := by
          cases ht' : t with
          | true => exact beq_iff_eq.2 (HST.out.2 (HT.out.1 ht').2.2.2)
          | false => exact beq_eq_false_iff_ne.2 (fun e => by have := HT.out.2 ⟨HS.out, HG.out, HI.out, HST.out.1 e⟩; rw [ht'] at this; cases this)
        go_enter Try.func30, Try.ntmps30
        go_wp2_with fail
        go_ret
        rw [HW1.out]
        exact ⟨rfl, HB1.out⟩
      · have e3 : (i == i') = false := beq_eq_false_iff_ne.2 hi
        obtain rfl : t = false := not_true HT.out (fun h => hi h.2.2.1)
        clear hi
        go_enter Try.func30, Try.ntmps30
        go_wp2_with fail
        go_ret
        rw [HW1.out]
        exact ⟨rfl, HB1.out⟩
    · have e2 : (g == g') = false := beq_eq_false_iff_ne.2 hg
      obtain rfl : t = false := not_true HT.out (fun h => hg h.2.1)
      clear hg
      go_enter Try.func30, Try.ntmps30
      go_wp2_with fail
      go_ret
      rw [HW1.out]
      exact ⟨rfl, HB1.out⟩
  · have e1 : (s == s') = false := beq_eq_false_iff_ne.2 hs
    obtain rfl : t = false := not_true HT.out (fun h => hs h.1)
    clear hs
    go_enter Try.func30, Try.ntmps30
    go_wp2_with fail
    go_ret
    rw [HW1.out]
    exact ⟨rfl, HB1.out⟩

theorem rreadp_yes (g q cap : Nat) (F : Nat → Nat) (w : World) (h : Rd w (some ⟨g, q, none⟩) 160 F) (hc : 160 ≤ cap) (hF : ∀ j, j < 160 → F j < 256) (hP : IsPc F) :
    Calls Try.prog 28 #[.slice (some ⟨g, q, none⟩) 160 cap] w fun e w' => ∃ A c, e = .returned (.tuple #[pv ((rdP F).s : Int) ((rdP F).g : Int) ((rdP F).i : Int) A 32 c, .bool true]) ∧ Dat w' A (rdP F).D ∧ Below w.heap.size w w' :=
  rreadp g q cap F w _ h hc hF (fun n => absurd hP n) (fun _ A c _ hd hb => ⟨A, c, rfl, hd, hb⟩)
theorem rreadp_no (g q cap : Nat) (F : Nat → Nat) (w : World) (h : Rd w (some ⟨g, q, none⟩) 160 F) (hc : 160 ≤ cap) (hF : ∀ j, j < 160 → F j < 256) (hP : ¬ IsPc F) :
    Calls Try.prog 28 #[.slice (some ⟨g, q, none⟩) 160 cap] w fun e w' => e = .returned (.tuple #[pv 0 0 0 none 0 0, .bool false]) ∧ Below w.heap.size w w' :=
  rreadp g q cap F w _ h hc hF (fun _ _ hb => ⟨rfl, hb⟩) (fun n => absurd n hP)
end Go.Proofs.Ytjbicpekpgaokaa
