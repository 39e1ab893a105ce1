import Derived.Test.YthakocmhpchkcaaPl3
namespace Go.Proofs.Ythakocmhpchkcaa
open Go.RowKit Go.Sort
set_option maxRecDepth 100000
set_option maxHeartbeats 2000000

/-- Which nodes the first so many chunks (or answers) have. -/
def hF (p : Nat) : Nat → Nat → Bool
  | 0, _ => false
  | i + 1, n => if n = (p + i) % 8 then true else hF p i n
theorem hF_of {p n : Nat} : ∀ {i : Nat}, hF p i n = true → ∃ j, j < i ∧ n = (p + j) % 8
  | 0, h => by cases h
  | i + 1, h => by
    unfold hF at h
    split at h
    · exact ⟨i, by omega, by assumption⟩
    · obtain ⟨j, h1, h2⟩ := hF_of h
      exact ⟨j, by omega, h2⟩
theorem hF_new {p i : Nat} (hi : i < 8) : hF p i ((p + i) % 8) = false := by
  cases h : hF p i ((p + i) % 8) with
  | false => rfl
  | true =>
    obtain ⟨j, h1, h2⟩ := hF_of h
    omega
def ccF (p a b : Nat) : Nat → Nat
  | 0 => 0
  | n + 1 => ccF p a b n + if n = a ∨ n = b then 0 else if hF p 6 n = true then 1 else 0
def iiF (p a b : Nat) : Nat → Nat
  | 0 => 0
  | n + 1 => iiF p a b n + if n = a ∨ n = b then 0 else if n = (p + 5) % 8 ∨ n = (p + 6) % 8 ∨ n = (p + 7) % 8 then 1 else 0
theorem enough : ∀ p < 40, ∀ a < 8, ∀ b < 8, 4 ≤ ccF p a b 8 ∧ 1 ≤ iiF p a b 8 := by decide +kernel
theorem Nums.cell {w : World} {g o i : Nat} {xs : List Int} {x : Int} (h : Nums w (some ⟨g, o, none⟩) xs) (hi : xs[i]? = some x) : w.cell? ⟨g, o + i, none⟩ = some (.int .i64 x) := by
  obtain ⟨g', o', e, _, hc⟩ := h i x hi
  cases e
  exact hc
theorem zeros8 (w : World) : BlkT (w.alloc (.cells #[.bool false, .bool false, .bool false, .bool false, .bool false, .bool false, .bool false, .bool false] 29)) 29 w.heap.size 8 (fun _ => .bool false) :=
  ⟨_, alloc_block _ _, Nat.le_refl _, fun j hj => by
    match j, hj with
    | 0, _ => rfl
    | 1, _ => rfl
    | 2, _ => rfl
    | 3, _ => rfl
    | 4, _ => rfl
    | 5, _ => rfl
    | 6, _ => rfl
    | 7, _ => rfl⟩
/-- PlaceApart. -/
theorem placeApart (s0 a0 b0 : Int) (W : World) : Calls Try.prog 5 #[.int .i64 s0, .int .i64 a0, .int .i64 b0] W fun e w' => e = .returned (.bool true) ∧ Below W.heap.size W w' := by
  obtain ⟨p, hp, GP⟩ := rpickN s0 40 (by omega) (by omega)
  obtain ⟨a, ha, GA⟩ := rpickN a0 8 (by omega) (by omega)
  obtain ⟨b, hb, GB⟩ := rpickN b0 8 (by omega) (by omega)
  have HP := Lib.hid GP
  have HA := Lib.hid GA
  have HB := Lib.hid GB
  have HK := Lib.hid (fun v => lknown13 v)
  have HL := Lib.hid (llogs p W)
  have HLL := Lib.hid (logsF_len hp)
  have HLA := Lib.hid (fun j (hj : j < 8) => logsF_at hp hj)
  unfold LogsRet at HL
  rw [logsF_len hp] at HL
  clear GP GA GB
  go_enter Try.func5, Try.ntmps5
  go_wp2_with fail
  refine (HP.out W).mono ?_
  rintro e w' ⟨rfl, hw⟩
  obtain rfl := hw.symm
  go_wp2_with fail
  refine HL.out.mono ?_
  rintro e w1 ⟨A, c, rfl, n1, b1, _⟩
  try dsimp only
  obtain ⟨g, o, rfl, _, _⟩ := n1 0 _ (HLA.out 0 (by omega))
  have HN1 := Lib.hid n1
  have HB1 := Lib.hid b1
  clear n1 b1 HL
  go_wp2_with fail
  refine (HK.out w1).mono ?_
  rintro e w2 ⟨rfl, b2⟩
  try dsimp only
  have HN2 : Hid (Nums w2 (some ⟨g, o, none⟩) (logsF p)) := Lib.hid (HN1.out.keep b2)
  have HB2 : Hid (Below W.heap.size W w2) := Lib.hid (HB1.out.trans (b2.mono HB1.out.size))
  clear b2 HN1 HB1 HK
  go_upto_region 7 with fail
  obtain ⟨w3, hw3⟩ : ∃ w3, w2.alloc (.cells #[.bool false, .bool false, .bool false, .bool false, .bool false, .bool false, .bool false, .bool false] 29) = w3 := ⟨_, rfl⟩
  have k3 : BlkT w3 29 w2.heap.size 8 (fun _ => .bool false) := by rw [← hw3]; exact zeros8 w2
  have z3 : w3.heap.size = w2.heap.size + 1 := by rw [← hw3]; exact alloc_size _ _
  have b3 : Below w2.heap.size w2 w3 := by rw [← hw3]; exact (Below.refl _ _).alloc (Nat.le_refl _) _
  try rw [hw3]
  clear hw3
  obtain ⟨w4, hw4⟩ : ∃ w4, w3.alloc (.cells #[.bool false, .bool false, .bool false, .bool false, .bool false, .bool false, .bool false, .bool false] 29) = w4 := ⟨_, rfl⟩
  have k4 : BlkT w4 29 (w2.heap.size + 1) 8 (fun _ => .bool false) := by rw [← hw4, ← z3]; exact zeros8 w3
  have k4' : BlkT w4 29 w2.heap.size 8 (fun _ => .bool false) := by rw [← hw4]; exact k3.keep (alloc_old _ _ (by omega))
  have b4 : Below w2.heap.size w2 w4 := by rw [← hw4]; exact b3.alloc (by omega) _
  try rw [hw4]
  clear hw4 k3 b3 z3
  have HS0 : Hid (Below w2.heap.size w2 w4 ∧ BlkT w4 29 w2.heap.size 8 (fun j => .bool (hF p 0 j)) ∧ BlkT w4 29 (w2.heap.size + 1) 8 (fun j => .bool (hF (p + 5) 0 j))) := Lib.hid ⟨b4, k4', k4⟩
  clear k4 k4' b4
  obtain ⟨H, hH⟩ : ∃ H, w2.heap.size = H := ⟨_, rfl⟩
  have HH := Lib.hid hH
  rw [hH] at HS0
  try rw [hH]
  clear hH
  go_loopg [10, 11] 6 (fun q s10 s11 v => ∃ i : Nat, s10 = .int .i64 (i : Int) ∧ i ≤ 6 ∧ q = 6 - i ∧ Hid (Below H w2 v ∧ BlkT v 29 H 8 (fun j => .bool (hF p i j)) ∧ BlkT v 29 (H + 1) 8 (fun j => .bool (hF (p + 5) 0 j))))
  case atStart => exact ⟨0, rfl, by omega, rfl, HS0⟩
  case round =>
    obtain ⟨i, rfl, hi, rfl, HS⟩ := hrel
    clear HS0
    generalize wr = v at *
    by_cases hlt : i < 6
    · have t1 : (i : Int) < 6 := by omega
      obtain ⟨y, hy⟩ : ∃ y : Nat, (p + i) % 8 = y := ⟨_, rfl⟩
      have y8 : y < 8 := by omega
      have t2 : ¬ 8 ≤ (y : Int) := by omega
      have t3 : ¬ (y : Int) < 0 := by omega
      have t4 : ((i : Int) != (i : Int)) = false := by simp
      have HN := Lib.hid (lnode p i v)
      have hI := lindex p y v
      rw [nodeF_nat hp hlt, hy] at HN
      rw [indexF_hit (i := i) (by omega) (by omega) hlt (by rw [nodeF_nat hp hlt, hy])] at hI
      have HI := Lib.hid hI
      obtain ⟨bl, k8, k9⟩ := HS.out
      have c1 := k8.cell y8
      have f1 := k8.free y
      have hn : hF p i y = false := by rw [← hy]; exact hF_new (by omega)
      try dsimp only at c1
      rw [hn] at c1
      have HBL := Lib.hid bl
      have HK8 := Lib.hid k8
      have HK9 := Lib.hid k9
      have HY := Lib.hid hy
      clear HS bl k8 k9 hy hI hn
      go_wp2_with fail
      refine HN.out.mono ?_
      rintro e w' ⟨rfl, hw⟩
      obtain rfl := hw.symm
      go_wp2_with fail
      refine HI.out.mono ?_
      rintro e w' ⟨rfl, hw⟩
      obtain rfl := hw.symm
      go_wp2_with fail
      go_roundg (6 - (i + 1))
      case measure => omega
      case rel => exact ⟨i + 1, by go_num, by omega, rfl, Lib.hid ⟨HBL.out.setCell (p := ⟨H, y, none⟩) (Nat.le_refl _) _, (HK8.out.put (x := .bool true) y8).congr (fun j hj => by
        show _ = Value.bool (if j = (p + i) % 8 then true else hF p i j)
        rw [HY.out]
        try dsimp only
        split <;> rfl), HK9.out.keep (Below.heap_setCell _ _ _ _ (by show H + 1 ≠ H; omega))⟩⟩
    · obtain rfl : i = 6 := by omega
      have t1 : ¬ ((6 : Nat) : Int) < 6 := by omega
      clear hlt
      go_wp2_with fail
      go_loopg [57, 13] 8 (fun q s57 s13 vb => ∃ i : Nat, s57 = .int .i64 (i : Int) ∧ i ≤ 8 ∧ q = 8 - i ∧ Hid (Below H w2 vb ∧ BlkT vb 29 H 8 (fun j => .bool (hF p 6 j)) ∧ BlkT vb 29 (H + 1) 8 (fun j => .bool (hF (p + 5) i j))))
      case atStart => exact ⟨0, rfl, by omega, rfl, HS⟩
      case round =>
        obtain ⟨i, rfl, hi, rfl, HS2⟩ := hrel
        clear HS
        generalize wr = v2 at *
        by_cases hlt : i < 8
        · have t1 : (i : Int) < 8 := by omega
          obtain ⟨y, hy⟩ : ∃ y : Nat, (p + 5 + i) % 8 = y := ⟨_, rfl⟩
          have y8 : y < 8 := by omega
          have t2 : ¬ 8 ≤ (y : Int) := by omega
          have t3 : ¬ (y : Int) < 0 := by omega
          obtain ⟨bl, k8, k9⟩ := HS2.out
          have hx := HLA.out i hlt
          rw [hy] at hx
          have c0 := (HN2.out.keep (by rw [HH.out]; exact bl)).cell hx
          have c1 := k9.cell y8
          have f1 := k9.free y
          have hn : hF (p + 5) i y = false := by rw [← hy]; exact hF_new (by omega)
          try dsimp only at c1
          rw [hn] at c1
          have HBL := Lib.hid bl
          have HK8 := Lib.hid k8
          have HK9 := Lib.hid k9
          have HY := Lib.hid hy
          clear HS2 bl k8 k9 hy hn hx
          go_wp2_with fail
          go_roundg (8 - (i + 1))
          case measure => omega
          case rel => exact ⟨i + 1, by go_num, by omega, rfl, Lib.hid ⟨HBL.out.setCell (p := ⟨H + 1, y, none⟩) (Nat.le_succ _) _, HK8.out.keep (Below.heap_setCell _ _ _ _ (by show H ≠ H + 1; omega)), (HK9.out.put (x := .bool true) y8).congr (fun j hj => by
            show _ = Value.bool (if j = (p + 5 + i) % 8 then true else hF (p + 5) i j)
            rw [HY.out]
            try dsimp only
            split <;> rfl)⟩⟩
        · obtain rfl : i = 8 := by omega
          have t1 : ¬ ((8 : Nat) : Int) < 8 := by omega
          clear hlt
          go_wp2_with fail
          refine (HA.out v2).mono ?_
          rintro e w' ⟨rfl, hw⟩
          obtain rfl := hw.symm
          go_wp2_with fail
          refine (HB.out v2).mono ?_
          rintro e w' ⟨rfl, hw⟩
          obtain rfl := hw.symm
          go_wp2_with fail
          go_loopg [14, 15, 16] 8 (fun q s14 s15 s16 vb => ∃ i cc ii : Nat, s16 = .int .i64 (i : Int) ∧ s14 = .int .i64 (cc : Int) ∧ s15 = .int .i64 (ii : Int) ∧ i ≤ 8 ∧ cc ≤ i ∧ ii ≤ i ∧ q = 8 - i ∧ vb = v2 ∧ Hid (ccF p a b i = cc ∧ iiF p a b i = ii))
          case atStart => exact ⟨0, 0, 0, rfl, rfl, rfl, by omega, by omega, by omega, rfl, rfl, Lib.hid ⟨rfl, rfl⟩⟩
          case round =>
            obtain ⟨i, cc, ii, rfl, rfl, rfl, hi, hc, hii, rfl, hv, HC⟩ := hrel
            generalize wr = v3 at *
            obtain rfl := hv
            by_cases hlt : i < 8
            · have t1 : (i : Int) < 8 := by omega
              obtain ⟨bl, k8, k9⟩ := HS2.out
              have c8 := k8.cell hlt
              try dsimp only at c8
              have kn := HN2.out.keep (by rw [HH.out]; exact bl)
              obtain ⟨x0, h0⟩ : ∃ x : Nat, (p + 5 + 0) % 8 = x := ⟨_, rfl⟩
              obtain ⟨x1, h1⟩ : ∃ x : Nat, (p + 5 + 1) % 8 = x := ⟨_, rfl⟩
              obtain ⟨x2, h2⟩ : ∃ x : Nat, (p + 5 + 2) % 8 = x := ⟨_, rfl⟩
              have d0 := kn.cell (HLA.out 0 (by omega))
              have d1 := kn.cell (HLA.out 1 (by omega))
              have d2 := kn.cell (HLA.out 2 (by omega))
              rw [h0] at d0
              rw [h1] at d1
              rw [h2] at d2
              try rw [Nat.add_zero] at d0
              have e1 : ccF p a b (i + 1) = cc + if i = a ∨ i = b then 0 else if hF p 6 i = true then 1 else 0 := by rw [← HC.out.1]; rfl
              have e2 : iiF p a b (i + 1) = ii + if i = a ∨ i = b then 0 else if i = x0 ∨ i = x1 ∨ i = x2 then 1 else 0 := by rw [← HC.out.2, ← h0, ← h1, ← h2]; rfl
              generalize hF p 6 i = bb at *
              have E1 := Lib.hid e1
              have E2 := Lib.hid e2
              clear e1 e2 HC bl k8 k9 kn h0 h1 h2 HS2
              by_cases na : i = a
              · have t5 : ((i : Int) == (a : Int)) = true := by rw [beq_iff_eq]; omega
                have E3 : Hid (ccF p a b (i + 1) = cc + 0) := Lib.hid (by rw [E1.out, if_pos (Or.inl na)])
                have E4 : Hid (iiF p a b (i + 1) = ii + 0) := Lib.hid (by rw [E2.out, if_pos (Or.inl na)])
                clear na
                go_wp2_with fail
                go_roundg (8 - (i + 1))
                case measure => omega
                case rel => exact ⟨i + 1, cc + 0, ii + 0, by go_num, by rfl, by rfl, by omega, by omega, by omega, rfl, rfl, Lib.hid ⟨E3.out, E4.out⟩⟩
              · have t5 : ((i : Int) == (a : Int)) = false := by rw [beq_eq_false_iff_ne]; omega
                by_cases nb : i = b
                · have t6 : ((i : Int) == (b : Int)) = true := by rw [beq_iff_eq]; omega
                  have E3 : Hid (ccF p a b (i + 1) = cc + 0) := Lib.hid (by rw [E1.out, if_pos (Or.inr nb)])
                  have E4 : Hid (iiF p a b (i + 1) = ii + 0) := Lib.hid (by rw [E2.out, if_pos (Or.inr nb)])
                  clear na nb
                  go_wp2_with fail
                  go_roundg (8 - (i + 1))
                  case measure => omega
                  case rel => exact ⟨i + 1, cc + 0, ii + 0, by go_num, by rfl, by rfl, by omega, by omega, by omega, rfl, rfl, Lib.hid ⟨E3.out, E4.out⟩⟩
                · have t6 : ((i : Int) == (b : Int)) = false := by rw [beq_eq_false_iff_ne]; omega
                  have SK : ¬ (i = a ∨ i = b) := by omega
                  clear na nb
                  cases bb with
                  | true =>
                    by_cases q0 : i = x0
                    · have t7 : ((i : Int) == (x0 : Int)) = true := by rw [beq_iff_eq]; omega
                      have E3 : Hid (ccF p a b (i + 1) = cc + 1) := Lib.hid (by rw [E1.out, if_neg SK, if_pos rfl])
                      have E4 : Hid (iiF p a b (i + 1) = ii + 1) := Lib.hid (by rw [E2.out, if_neg SK, if_pos (Or.inl q0)])
                      clear q0 SK
                      go_wp2_with fail
                      go_roundg (8 - (i + 1))
                      case measure => omega
                      case rel => exact ⟨i + 1, cc + 1, ii + 1, by go_num, by go_num, by go_num, by omega, by omega, by omega, rfl, rfl, Lib.hid ⟨E3.out, E4.out⟩⟩
                    · have t7 : ((i : Int) == (x0 : Int)) = false := by rw [beq_eq_false_iff_ne]; omega
                      by_cases q1 : i = x1
                      · have t8 : ((i : Int) == (x1 : Int)) = true := by rw [beq_iff_eq]; omega
                        have E3 : Hid (ccF p a b (i + 1) = cc + 1) := Lib.hid (by rw [E1.out, if_neg SK, if_pos rfl])
                        have E4 : Hid (iiF p a b (i + 1) = ii + 1) := Lib.hid (by rw [E2.out, if_neg SK, if_pos (Or.inr (Or.inl q1))])
                        clear q0 q1 SK
                        go_wp2_with fail
                        go_roundg (8 - (i + 1))
                        case measure => omega
                        case rel => exact ⟨i + 1, cc + 1, ii + 1, by go_num, by go_num, by go_num, by omega, by omega, by omega, rfl, rfl, Lib.hid ⟨E3.out, E4.out⟩⟩
                      · have t8 : ((i : Int) == (x1 : Int)) = false := by rw [beq_eq_false_iff_ne]; omega
                        by_cases q2 : i = x2
                        · have t9 : ((i : Int) == (x2 : Int)) = true := by rw [beq_iff_eq]; omega
                          have E3 : Hid (ccF p a b (i + 1) = cc + 1) := Lib.hid (by rw [E1.out, if_neg SK, if_pos rfl])
                          have E4 : Hid (iiF p a b (i + 1) = ii + 1) := Lib.hid (by rw [E2.out, if_neg SK, if_pos (Or.inr (Or.inr q2))])
                          clear q0 q1 q2 SK
                          go_wp2_with fail
                          go_roundg (8 - (i + 1))
                          case measure => omega
                          case rel => exact ⟨i + 1, cc + 1, ii + 1, by go_num, by go_num, by go_num, by omega, by omega, by omega, rfl, rfl, Lib.hid ⟨E3.out, E4.out⟩⟩
                        · have t9 : ((i : Int) == (x2 : Int)) = false := by rw [beq_eq_false_iff_ne]; omega
                          have E3 : Hid (ccF p a b (i + 1) = cc + 1) := Lib.hid (by rw [E1.out, if_neg SK, if_pos rfl])
                          have E4 : Hid (iiF p a b (i + 1) = ii + 0) := Lib.hid (by rw [E2.out, if_neg SK, if_neg (show ¬ (i = x0 ∨ i = x1 ∨ i = x2) by omega)])
                          clear q0 q1 q2 SK
                          go_wp2_with fail
                          go_roundg (8 - (i + 1))
                          case measure => omega
                          case rel => exact ⟨i + 1, cc + 1, ii + 0, by go_num, by go_num, by rfl, by omega, by omega, by omega, rfl, rfl, Lib.hid ⟨E3.out, E4.out⟩⟩
                  | false =>
                    by_cases q0 : i = x0
                    · have t7 : ((i : Int) == (x0 : Int)) = true := by rw [beq_iff_eq]; omega
                      have E3 : Hid (ccF p a b (i + 1) = cc + 0) := Lib.hid (by rw [E1.out, if_neg SK, if_neg (by simp)])
                      have E4 : Hid (iiF p a b (i + 1) = ii + 1) := Lib.hid (by rw [E2.out, if_neg SK, if_pos (Or.inl q0)])
                      clear q0 SK
                      go_wp2_with fail
                      go_roundg (8 - (i + 1))
                      case measure => omega
                      case rel => exact ⟨i + 1, cc + 0, ii + 1, by go_num, by rfl, by go_num, by omega, by omega, by omega, rfl, rfl, Lib.hid ⟨E3.out, E4.out⟩⟩
                    · have t7 : ((i : Int) == (x0 : Int)) = false := by rw [beq_eq_false_iff_ne]; omega
                      by_cases q1 : i = x1
                      · have t8 : ((i : Int) == (x1 : Int)) = true := by rw [beq_iff_eq]; omega
                        have E3 : Hid (ccF p a b (i + 1) = cc + 0) := Lib.hid (by rw [E1.out, if_neg SK, if_neg (by simp)])
                        have E4 : Hid (iiF p a b (i + 1) = ii + 1) := Lib.hid (by rw [E2.out, if_neg SK, if_pos (Or.inr (Or.inl q1))])
                        clear q0 q1 SK
                        go_wp2_with fail
                        go_roundg (8 - (i + 1))
                        case measure => omega
                        case rel => exact ⟨i + 1, cc + 0, ii + 1, by go_num, by rfl, by go_num, by omega, by omega, by omega, rfl, rfl, Lib.hid ⟨E3.out, E4.out⟩⟩
                      · have t8 : ((i : Int) == (x1 : Int)) = false := by rw [beq_eq_false_iff_ne]; omega
                        by_cases q2 : i = x2
                        · have t9 : ((i : Int) == (x2 : Int)) = true := by rw [beq_iff_eq]; omega
                          have E3 : Hid (ccF p a b (i + 1) = cc + 0) := Lib.hid (by rw [E1.out, if_neg SK, if_neg (by simp)])
                          have E4 : Hid (iiF p a b (i + 1) = ii + 1) := Lib.hid (by rw [E2.out, if_neg SK, if_pos (Or.inr (Or.inr q2))])
                          clear q0 q1 q2 SK
                          go_wp2_with fail
                          go_roundg (8 - (i + 1))
                          case measure => omega
                          case rel => exact ⟨i + 1, cc + 0, ii + 1, by go_num, by rfl, by go_num, by omega, by omega, by omega, rfl, rfl, Lib.hid ⟨E3.out, E4.out⟩⟩
                        · have t9 : ((i : Int) == (x2 : Int)) = false := by rw [beq_eq_false_iff_ne]; omega
                          have E3 : Hid (ccF p a b (i + 1) = cc + 0) := Lib.hid (by rw [E1.out, if_neg SK, if_neg (by simp)])
                          have E4 : Hid (iiF p a b (i + 1) = ii + 0) := Lib.hid (by rw [E2.out, if_neg SK, if_neg (show ¬ (i = x0 ∨ i = x1 ∨ i = x2) by omega)])
                          clear q0 q1 q2 SK
                          go_wp2_with fail
                          go_roundg (8 - (i + 1))
                          case measure => omega
                          case rel => exact ⟨i + 1, cc + 0, ii + 0, by go_num, by rfl, by rfl, by omega, by omega, by omega, rfl, rfl, Lib.hid ⟨E3.out, E4.out⟩⟩
            · obtain rfl : i = 8 := by omega
              have t1 : ¬ ((8 : Nat) : Int) < 8 := by omega
              have hE := enough p hp a ha b hb
              rw [HC.out.1, HC.out.2] at hE
              obtain ⟨e1, e2⟩ := hE
              have t5 : (4 : Int) ≤ (cc : Int) := by omega
              have t6 : (1 : Int) ≤ (ii : Int) := by omega
              have HX : Hid (Below W.heap.size W v3) := Lib.hid (HB2.out.trans (HS2.out.1.mono (by rw [← HH.out]; exact HB2.out.size)))
              clear hlt e1 e2
              go_wp2_with fail
              go_ret
              exact ⟨rfl, HX.out⟩
end Go.Proofs.Ythakocmhpchkcaa
