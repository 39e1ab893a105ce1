import Derived.Test.YthakocmhpchkcaaPl3
namespace Go.Proofs.Ythakocmhpchkcaa
open Go.RowKit Go.Sort
set_option maxRecDepth 100000
set_option maxHeartbeats 1000000

/-- PlaceKnown. -/
theorem placeKnown (W : World) : Calls Try.prog 3 #[] W fun e w' => e = .returned (.bool true) ∧ Below W.heap.size W w' := by
  have HK := Lib.hid (lknown13 W)
  have H0 := Lib.hid (fun v => lindex (3) (1) v)
  rw [show indexF (3) (1) = -1 by decide +kernel] at H0
  have H1 := Lib.hid (fun v => lindex (3) (2) v)
  rw [show indexF (3) (2) = -1 by decide +kernel] at H1
  have H2 := Lib.hid (fun v => lindex (3) (3) v)
  rw [show indexF (3) (3) = 0 by decide +kernel] at H2
  have H3 := Lib.hid (fun v => lnode (3) (6) v)
  rw [show nodeF (3) (6) = -1 by decide +kernel] at H3
  have H4 := Lib.hid (fun v => lnode (-1) (0) v)
  rw [show nodeF (-1) (0) = -1 by decide +kernel] at H4
  have H5 := Lib.hid (fun v => lnode (40) (0) v)
  rw [show nodeF (40) (0) = -1 by decide +kernel] at H5
  have H6 := Lib.hid (fun v => lindex (0) (8) v)
  rw [show indexF (0) (8) = -1 by decide +kernel] at H6
  have H7 := Lib.hid (fun v => lindex (-1) (0) v)
  rw [show indexF (-1) (0) = -1 by decide +kernel] at H7
  have H8 := Lib.hid (fun v => llogs (40) v)
  unfold LogsRet at H8
  rw [show logsF (40) = [] by decide +kernel] at H8
  have H9 := Lib.hid (fun v => lright (0) v)
  rw [show decide ((0 : Int) ≤ 0 ∧ (0 : Int) < 40) = true by decide +kernel] at H9
  have H10 := Lib.hid (fun v => lright (-1) v)
  rw [show decide ((0 : Int) ≤ -1 ∧ (-1 : Int) < 40) = false by decide +kernel] at H10
  have H11 := Lib.hid (fun v => lright (39) v)
  rw [show decide ((0 : Int) ≤ 39 ∧ (39 : Int) < 40) = true by decide +kernel] at H11
  have H12 := Lib.hid (fun v => lright (40) v)
  rw [show decide ((0 : Int) ≤ 40 ∧ (40 : Int) < 40) = false by decide +kernel] at H12
  go_enter Try.func3, Try.ntmps3
  go_wp2_with fail
  refine HK.out.mono ?_
  rintro e w1 ⟨rfl, b1⟩
  try dsimp only
  have HB1 := Lib.hid b1
  clear b1
  go_wp2_with fail
  refine (H0.out w1).mono ?_
  rintro e w' ⟨rfl, hw⟩
  obtain rfl := hw.symm
  clear H0
  go_wp2_with fail
  refine (H1.out w1).mono ?_
  rintro e w' ⟨rfl, hw⟩
  obtain rfl := hw.symm
  clear H1
  go_wp2_with fail
  refine (H2.out w1).mono ?_
  rintro e w' ⟨rfl, hw⟩
  obtain rfl := hw.symm
  clear H2
  go_wp2_with fail
  refine (H3.out w1).mono ?_
  rintro e w' ⟨rfl, hw⟩
  obtain rfl := hw.symm
  clear H3
  go_wp2_with fail
  refine (H4.out w1).mono ?_
  rintro e w' ⟨rfl, hw⟩
  obtain rfl := hw.symm
  clear H4
  go_wp2_with fail
  refine (H5.out w1).mono ?_
  rintro e w' ⟨rfl, hw⟩
  obtain rfl := hw.symm
  clear H5
  go_wp2_with fail
  refine (H6.out w1).mono ?_
  rintro e w' ⟨rfl, hw⟩
  obtain rfl := hw.symm
  clear H6
  go_wp2_with fail
  refine (H7.out w1).mono ?_
  rintro e w' ⟨rfl, hw⟩
  obtain rfl := hw.symm
  clear H7
  go_wp2_with fail
  refine (H8.out w1).mono ?_
  rintro e w2 ⟨A, c, rfl, _, b2, _⟩
  try dsimp only
  have HB2 : Hid (Below W.heap.size W w2) := Lib.hid (HB1.out.trans (b2.mono HB1.out.size))
  clear b2 H8
  go_wp2_with fail
  refine (H9.out w2).mono ?_
  rintro e w' ⟨rfl, hw⟩
  obtain rfl := hw.symm
  clear H9
  go_wp2_with fail
  refine (H10.out w2).mono ?_
  rintro e w' ⟨rfl, hw⟩
  obtain rfl := hw.symm
  clear H10
  go_wp2_with fail
  refine (H11.out w2).mono ?_
  rintro e w' ⟨rfl, hw⟩
  obtain rfl := hw.symm
  clear H11
  go_wp2_with fail
  refine (H12.out w2).mono ?_
  rintro e w' ⟨rfl, hw⟩
  obtain rfl := hw.symm
  clear H12
  go_wp2_with fail
  go_ret
  exact ⟨rfl, HB2.out⟩

/-- PlaceTells. -/
theorem placeTells (s0 i0 n0 : Int) (near : Bool) (W : World) : Calls Try.prog 4 #[.int .i64 s0, .int .i64 i0, .int .i64 n0, .bool near] W fun e w' => e = .returned (.bool true) ∧ Below W.heap.size W w' := by
  cases near with
  | true =>
    obtain ⟨p, hp, HP⟩ := rpickN s0 42 (by omega) (by omega)
    obtain ⟨q, hq, HQ⟩ := rpickN i0 8 (by omega) (by omega)
    obtain ⟨r, hr, HX⟩ := rpickN n0 10 (by omega) (by omega)
    obtain ⟨s, hs⟩ : ∃ s : Int, (p : Int) - 1 = s := ⟨_, rfl⟩
    obtain ⟨i, hi⟩ : ∃ i : Int, (q : Int) - 1 = i := ⟨_, rfl⟩
    obtain ⟨n, hn⟩ : ∃ n : Int, (r : Int) - 1 = n := ⟨_, rfl⟩
    have GP := Lib.hid HP
    have GQ := Lib.hid HQ
    have GX := Lib.hid HX
    clear HP HQ HX
    have HK := Lib.hid (lknown13 W)
    have HN := Lib.hid (fun v => lnode s i v)
    have HO := Lib.hid (fun v => ron s i v)
    have HI := Lib.hid (fun v => lindex s n v)
    have HJ := Lib.hid (fun v => rindex s n v)
    have HL := Lib.hid (fun v => llogs s v)
    have HM := Lib.hid (fun v => rlogs s v)
    have HR := Lib.hid (fun v => lright s v)
    generalize nodeF s i = y at *
    generalize indexF s n = z at *
    have t1 : (y == y) = true := beq_self_eq_true y
    have t2 : (z == z) = true := beq_self_eq_true z
    unfold LogsRet at HL HM
    by_cases h0 : 0 ≤ s
    · by_cases h1 : s < 40
      · rw [decide_eq_true (show 0 ≤ s ∧ s < 40 from ⟨h0, h1⟩)] at HR
        go_enter Try.func4, Try.ntmps4
        go_wp2_with fail
        refine (GP.out W).mono ?_
        rintro e w' ⟨rfl, hw⟩
        obtain rfl := hw.symm
        go_wp2_with fail
        refine (GQ.out W).mono ?_
        rintro e w' ⟨rfl, hw⟩
        obtain rfl := hw.symm
        go_wp2_with fail
        refine (GX.out W).mono ?_
        rintro e w' ⟨rfl, hw⟩
        obtain rfl := hw.symm
        go_wp2_with fail
        refine (HK.out).mono ?_
        rintro e w1 ⟨rfl, b1⟩
        try dsimp only
        have HB1 := Lib.hid b1
        clear b1 HK
        go_wp2_with fail
        refine (HN.out w1).mono ?_
        rintro e w' ⟨rfl, hw⟩
        obtain rfl := hw.symm
        go_wp2_with fail
        refine (HO.out w1).mono ?_
        rintro e w' ⟨rfl, hw⟩
        obtain rfl := hw.symm
        go_wp2_with fail
        refine (HI.out w1).mono ?_
        rintro e w' ⟨rfl, hw⟩
        obtain rfl := hw.symm
        go_wp2_with fail
        refine (HJ.out w1).mono ?_
        rintro e w' ⟨rfl, hw⟩
        obtain rfl := hw.symm
        go_wp2_with fail
        refine (HL.out w1).mono ?_
        rintro e w2 ⟨A, c, rfl, n2, b2, _⟩
        try dsimp only
        have HN2 := Lib.hid n2
        have HB2 : Hid (Below W.heap.size W w2) := Lib.hid (HB1.out.trans (b2.mono HB1.out.size))
        clear b2 n2 HL
        go_wp2_with fail
        refine (HM.out w2).mono ?_
        rintro e w3 ⟨A3, c3, rfl, n3, b3, _⟩
        try dsimp only
        have HS := Lib.hid (lsame A A3 (logsF s) (logsF s) c c3 w3 (HN2.out.keep b3) n3 (by have := logsF_le s; omega) true ⟨fun _ => rfl, fun _ => rfl⟩)
        have HB3 : Hid (Below W.heap.size W w3) := Lib.hid (HB2.out.trans (b3.mono HB2.out.size))
        clear b3 n3 HM HN2
        go_wp2_with fail
        refine HS.out.mono ?_
        rintro e w4 ⟨rfl, b4⟩
        try dsimp only
        have HB4 : Hid (Below W.heap.size W w4) := Lib.hid (HB3.out.trans (b4.mono HB3.out.size))
        clear b4 HS
        go_wp2_with fail
        refine (HR.out w4).mono ?_
        rintro e w' ⟨rfl, hw⟩
        obtain rfl := hw.symm
        go_wp2_with fail
        go_ret
        exact ⟨by first | rfl | exact congrArg (fun b => Ending.returned (Value.bool (!b))) (decide_eq_false (Int.not_lt.2 h1)), HB4.out⟩
      · rw [decide_eq_false (show ¬ (0 ≤ s ∧ s < 40) by omega)] at HR
        go_enter Try.func4, Try.ntmps4
        go_wp2_with fail
        refine (GP.out W).mono ?_
        rintro e w' ⟨rfl, hw⟩
        obtain rfl := hw.symm
        go_wp2_with fail
        refine (GQ.out W).mono ?_
        rintro e w' ⟨rfl, hw⟩
        obtain rfl := hw.symm
        go_wp2_with fail
        refine (GX.out W).mono ?_
        rintro e w' ⟨rfl, hw⟩
        obtain rfl := hw.symm
        go_wp2_with fail
        refine (HK.out).mono ?_
        rintro e w1 ⟨rfl, b1⟩
        try dsimp only
        have HB1 := Lib.hid b1
        clear b1 HK
        go_wp2_with fail
        refine (HN.out w1).mono ?_
        rintro e w' ⟨rfl, hw⟩
        obtain rfl := hw.symm
        go_wp2_with fail
        refine (HO.out w1).mono ?_
        rintro e w' ⟨rfl, hw⟩
        obtain rfl := hw.symm
        go_wp2_with fail
        refine (HI.out w1).mono ?_
        rintro e w' ⟨rfl, hw⟩
        obtain rfl := hw.symm
        go_wp2_with fail
        refine (HJ.out w1).mono ?_
        rintro e w' ⟨rfl, hw⟩
        obtain rfl := hw.symm
        go_wp2_with fail
        refine (HL.out w1).mono ?_
        rintro e w2 ⟨A, c, rfl, n2, b2, _⟩
        try dsimp only
        have HN2 := Lib.hid n2
        have HB2 : Hid (Below W.heap.size W w2) := Lib.hid (HB1.out.trans (b2.mono HB1.out.size))
        clear b2 n2 HL
        go_wp2_with fail
        refine (HM.out w2).mono ?_
        rintro e w3 ⟨A3, c3, rfl, n3, b3, _⟩
        try dsimp only
        have HS := Lib.hid (lsame A A3 (logsF s) (logsF s) c c3 w3 (HN2.out.keep b3) n3 (by have := logsF_le s; omega) true ⟨fun _ => rfl, fun _ => rfl⟩)
        have HB3 : Hid (Below W.heap.size W w3) := Lib.hid (HB2.out.trans (b3.mono HB2.out.size))
        clear b3 n3 HM HN2
        go_wp2_with fail
        refine HS.out.mono ?_
        rintro e w4 ⟨rfl, b4⟩
        try dsimp only
        have HB4 : Hid (Below W.heap.size W w4) := Lib.hid (HB3.out.trans (b4.mono HB3.out.size))
        clear b4 HS
        go_wp2_with fail
        refine (HR.out w4).mono ?_
        rintro e w' ⟨rfl, hw⟩
        obtain rfl := hw.symm
        go_wp2_with fail
        go_ret
        exact ⟨by first | rfl | exact congrArg (fun b => Ending.returned (Value.bool (!b))) (decide_eq_false (Int.not_lt.2 h1)), HB4.out⟩
    · rw [decide_eq_false (show ¬ (0 ≤ s ∧ s < 40) by omega)] at HR
      go_enter Try.func4, Try.ntmps4
      go_wp2_with fail
      refine (GP.out W).mono ?_
      rintro e w' ⟨rfl, hw⟩
      obtain rfl := hw.symm
      go_wp2_with fail
      refine (GQ.out W).mono ?_
      rintro e w' ⟨rfl, hw⟩
      obtain rfl := hw.symm
      go_wp2_with fail
      refine (GX.out W).mono ?_
      rintro e w' ⟨rfl, hw⟩
      obtain rfl := hw.symm
      go_wp2_with fail
      refine (HK.out).mono ?_
      rintro e w1 ⟨rfl, b1⟩
      try dsimp only
      have HB1 := Lib.hid b1
      clear b1 HK
      go_wp2_with fail
      refine (HN.out w1).mono ?_
      rintro e w' ⟨rfl, hw⟩
      obtain rfl := hw.symm
      go_wp2_with fail
      refine (HO.out w1).mono ?_
      rintro e w' ⟨rfl, hw⟩
      obtain rfl := hw.symm
      go_wp2_with fail
      refine (HI.out w1).mono ?_
      rintro e w' ⟨rfl, hw⟩
      obtain rfl := hw.symm
      go_wp2_with fail
      refine (HJ.out w1).mono ?_
      rintro e w' ⟨rfl, hw⟩
      obtain rfl := hw.symm
      go_wp2_with fail
      refine (HL.out w1).mono ?_
      rintro e w2 ⟨A, c, rfl, n2, b2, _⟩
      try dsimp only
      have HN2 := Lib.hid n2
      have HB2 : Hid (Below W.heap.size W w2) := Lib.hid (HB1.out.trans (b2.mono HB1.out.size))
      clear b2 n2 HL
      go_wp2_with fail
      refine (HM.out w2).mono ?_
      rintro e w3 ⟨A3, c3, rfl, n3, b3, _⟩
      try dsimp only
      have HS := Lib.hid (lsame A A3 (logsF s) (logsF s) c c3 w3 (HN2.out.keep b3) n3 (by have := logsF_le s; omega) true ⟨fun _ => rfl, fun _ => rfl⟩)
      have HB3 : Hid (Below W.heap.size W w3) := Lib.hid (HB2.out.trans (b3.mono HB2.out.size))
      clear b3 n3 HM HN2
      go_wp2_with fail
      refine HS.out.mono ?_
      rintro e w4 ⟨rfl, b4⟩
      try dsimp only
      have HB4 : Hid (Below W.heap.size W w4) := Lib.hid (HB3.out.trans (b4.mono HB3.out.size))
      clear b4 HS
      go_wp2_with fail
      refine (HR.out w4).mono ?_
      rintro e w' ⟨rfl, hw⟩
      obtain rfl := hw.symm
      go_wp2_with fail
      go_ret
      exact ⟨by first | rfl | exact congrArg (fun b => Ending.returned (Value.bool (!b))) (decide_eq_false (Int.not_lt.2 h1)), HB4.out⟩
  | false =>
    obtain ⟨s, hs⟩ : ∃ s : Int, s0 = s := ⟨_, rfl⟩
    obtain ⟨i, hi⟩ : ∃ i : Int, i0 = i := ⟨_, rfl⟩
    obtain ⟨n, hn⟩ : ∃ n : Int, n0 = n := ⟨_, rfl⟩
    rw [hs, hi, hn]
    clear hs hi hn
    have HK := Lib.hid (lknown13 W)
    have HN := Lib.hid (fun v => lnode s i v)
    have HO := Lib.hid (fun v => ron s i v)
    have HI := Lib.hid (fun v => lindex s n v)
    have HJ := Lib.hid (fun v => rindex s n v)
    have HL := Lib.hid (fun v => llogs s v)
    have HM := Lib.hid (fun v => rlogs s v)
    have HR := Lib.hid (fun v => lright s v)
    generalize nodeF s i = y at *
    generalize indexF s n = z at *
    have t1 : (y == y) = true := beq_self_eq_true y
    have t2 : (z == z) = true := beq_self_eq_true z
    unfold LogsRet at HL HM
    by_cases h0 : 0 ≤ s
    · by_cases h1 : s < 40
      · rw [decide_eq_true (show 0 ≤ s ∧ s < 40 from ⟨h0, h1⟩)] at HR
        go_enter Try.func4, Try.ntmps4
        go_wp2_with fail
        refine (HK.out).mono ?_
        rintro e w1 ⟨rfl, b1⟩
        try dsimp only
        have HB1 := Lib.hid b1
        clear b1 HK
        go_wp2_with fail
        refine (HN.out w1).mono ?_
        rintro e w' ⟨rfl, hw⟩
        obtain rfl := hw.symm
        go_wp2_with fail
        refine (HO.out w1).mono ?_
        rintro e w' ⟨rfl, hw⟩
        obtain rfl := hw.symm
        go_wp2_with fail
        refine (HI.out w1).mono ?_
        rintro e w' ⟨rfl, hw⟩
        obtain rfl := hw.symm
        go_wp2_with fail
        refine (HJ.out w1).mono ?_
        rintro e w' ⟨rfl, hw⟩
        obtain rfl := hw.symm
        go_wp2_with fail
        refine (HL.out w1).mono ?_
        rintro e w2 ⟨A, c, rfl, n2, b2, _⟩
        try dsimp only
        have HN2 := Lib.hid n2
        have HB2 : Hid (Below W.heap.size W w2) := Lib.hid (HB1.out.trans (b2.mono HB1.out.size))
        clear b2 n2 HL
        go_wp2_with fail
        refine (HM.out w2).mono ?_
        rintro e w3 ⟨A3, c3, rfl, n3, b3, _⟩
        try dsimp only
        have HS := Lib.hid (lsame A A3 (logsF s) (logsF s) c c3 w3 (HN2.out.keep b3) n3 (by have := logsF_le s; omega) true ⟨fun _ => rfl, fun _ => rfl⟩)
        have HB3 : Hid (Below W.heap.size W w3) := Lib.hid (HB2.out.trans (b3.mono HB2.out.size))
        clear b3 n3 HM HN2
        go_wp2_with fail
        refine HS.out.mono ?_
        rintro e w4 ⟨rfl, b4⟩
        try dsimp only
        have HB4 : Hid (Below W.heap.size W w4) := Lib.hid (HB3.out.trans (b4.mono HB3.out.size))
        clear b4 HS
        go_wp2_with fail
        refine (HR.out w4).mono ?_
        rintro e w' ⟨rfl, hw⟩
        obtain rfl := hw.symm
        go_wp2_with fail
        go_ret
        exact ⟨by first | rfl | exact congrArg (fun b => Ending.returned (Value.bool (!b))) (decide_eq_false (Int.not_lt.2 h1)), HB4.out⟩
      · rw [decide_eq_false (show ¬ (0 ≤ s ∧ s < 40) by omega)] at HR
        go_enter Try.func4, Try.ntmps4
        go_wp2_with fail
        refine (HK.out).mono ?_
        rintro e w1 ⟨rfl, b1⟩
        try dsimp only
        have HB1 := Lib.hid b1
        clear b1 HK
        go_wp2_with fail
        refine (HN.out w1).mono ?_
        rintro e w' ⟨rfl, hw⟩
        obtain rfl := hw.symm
        go_wp2_with fail
        refine (HO.out w1).mono ?_
        rintro e w' ⟨rfl, hw⟩
        obtain rfl := hw.symm
        go_wp2_with fail
        refine (HI.out w1).mono ?_
        rintro e w' ⟨rfl, hw⟩
        obtain rfl := hw.symm
        go_wp2_with fail
        refine (HJ.out w1).mono ?_
        rintro e w' ⟨rfl, hw⟩
        obtain rfl := hw.symm
        go_wp2_with fail
        refine (HL.out w1).mono ?_
        rintro e w2 ⟨A, c, rfl, n2, b2, _⟩
        try dsimp only
        have HN2 := Lib.hid n2
        have HB2 : Hid (Below W.heap.size W w2) := Lib.hid (HB1.out.trans (b2.mono HB1.out.size))
        clear b2 n2 HL
        go_wp2_with fail
        refine (HM.out w2).mono ?_
        rintro e w3 ⟨A3, c3, rfl, n3, b3, _⟩
        try dsimp only
        have HS := Lib.hid (lsame A A3 (logsF s) (logsF s) c c3 w3 (HN2.out.keep b3) n3 (by have := logsF_le s; omega) true ⟨fun _ => rfl, fun _ => rfl⟩)
        have HB3 : Hid (Below W.heap.size W w3) := Lib.hid (HB2.out.trans (b3.mono HB2.out.size))
        clear b3 n3 HM HN2
        go_wp2_with fail
        refine HS.out.mono ?_
        rintro e w4 ⟨rfl, b4⟩
        try dsimp only
        have HB4 : Hid (Below W.heap.size W w4) := Lib.hid (HB3.out.trans (b4.mono HB3.out.size))
        clear b4 HS
        go_wp2_with fail
        refine (HR.out w4).mono ?_
        rintro e w' ⟨rfl, hw⟩
        obtain rfl := hw.symm
        go_wp2_with fail
        go_ret
        exact ⟨by first | rfl | exact congrArg (fun b => Ending.returned (Value.bool (!b))) (decide_eq_false (Int.not_lt.2 h1)), HB4.out⟩
    · rw [decide_eq_false (show ¬ (0 ≤ s ∧ s < 40) by omega)] at HR
      go_enter Try.func4, Try.ntmps4
      go_wp2_with fail
      refine (HK.out).mono ?_
      rintro e w1 ⟨rfl, b1⟩
      try dsimp only
      have HB1 := Lib.hid b1
      clear b1 HK
      go_wp2_with fail
      refine (HN.out w1).mono ?_
      rintro e w' ⟨rfl, hw⟩
      obtain rfl := hw.symm
      go_wp2_with fail
      refine (HO.out w1).mono ?_
      rintro e w' ⟨rfl, hw⟩
      obtain rfl := hw.symm
      go_wp2_with fail
      refine (HI.out w1).mono ?_
      rintro e w' ⟨rfl, hw⟩
      obtain rfl := hw.symm
      go_wp2_with fail
      refine (HJ.out w1).mono ?_
      rintro e w' ⟨rfl, hw⟩
      obtain rfl := hw.symm
      go_wp2_with fail
      refine (HL.out w1).mono ?_
      rintro e w2 ⟨A, c, rfl, n2, b2, _⟩
      try dsimp only
      have HN2 := Lib.hid n2
      have HB2 : Hid (Below W.heap.size W w2) := Lib.hid (HB1.out.trans (b2.mono HB1.out.size))
      clear b2 n2 HL
      go_wp2_with fail
      refine (HM.out w2).mono ?_
      rintro e w3 ⟨A3, c3, rfl, n3, b3, _⟩
      try dsimp only
      have HS := Lib.hid (lsame A A3 (logsF s) (logsF s) c c3 w3 (HN2.out.keep b3) n3 (by have := logsF_le s; omega) true ⟨fun _ => rfl, fun _ => rfl⟩)
      have HB3 : Hid (Below W.heap.size W w3) := Lib.hid (HB2.out.trans (b3.mono HB2.out.size))
      clear b3 n3 HM HN2
      go_wp2_with fail
      refine HS.out.mono ?_
      rintro e w4 ⟨rfl, b4⟩
      try dsimp only
      have HB4 : Hid (Below W.heap.size W w4) := Lib.hid (HB3.out.trans (b4.mono HB3.out.size))
      clear b4 HS
      go_wp2_with fail
      refine (HR.out w4).mono ?_
      rintro e w' ⟨rfl, hw⟩
      obtain rfl := hw.symm
      go_wp2_with fail
      go_ret
      exact ⟨by first | rfl | exact congrArg (fun b => Ending.returned (Value.bool (!b))) (decide_eq_false (Int.not_lt.2 h1)), HB4.out⟩
end Go.Proofs.Ythakocmhpchkcaa
