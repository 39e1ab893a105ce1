import Derived.Test.YthakocmhpchkcaaPl1
namespace Go.Proofs.Ythakocmhpchkcaa
open Go.RowKit Go.Sort
set_option maxRecDepth 100000
set_option maxHeartbeats 1000000

/-- corbelref7.On. -/
theorem ron (s i : Int) (w : World) : Calls Try.prog 13 #[.int .i64 s, .int .i64 i] w fun e w' => e = .returned (.int .i64 (nodeF s i)) ∧ w' = w := by
  by_cases h0 : 0 ≤ s
  · by_cases h1 : s < 40
    · by_cases i0 : 0 ≤ i
      · by_cases i1 : i < 6
        · obtain ⟨y, hy⟩ : ∃ y, nodeF s i = y := ⟨_, rfl⟩
          have hy2 : (s + i) % 8 = y := by
            rw [← hy]
            unfold nodeF
            rw [if_pos ⟨h0, h1, i0, i1⟩]
          rw [hy]
          have HY := Lib.hid hy2
          clear hy hy2
          go_enter Try.func13, Try.ntmps13
          go_wp2_with fail
          go_ret
          exact ⟨congrArg (fun z => Ending.returned (Value.int .i64 z)) HY.out, rfl⟩
        · rw [nodeF_no (by omega)]
          go_enter Try.func13, Try.ntmps13
          go_wp2_with fail
          go_ret
          exact ⟨rfl, rfl⟩
      · rw [nodeF_no (by omega)]
        go_enter Try.func13, Try.ntmps13
        go_wp2_with fail
        go_ret
        exact ⟨rfl, rfl⟩
    · rw [nodeF_no (by omega)]
      go_enter Try.func13, Try.ntmps13
      go_wp2_with fail
      go_ret
      exact ⟨rfl, rfl⟩
  · rw [nodeF_no (by omega)]
    go_enter Try.func13, Try.ntmps13
    go_wp2_with fail
    go_ret
    exact ⟨rfl, rfl⟩

/-- corbelref7.Index. -/
theorem rindex (s n : Int) (w : World) : Calls Try.prog 14 #[.int .i64 s, .int .i64 n] w fun e w' => e = .returned (.int .i64 (indexF s n)) ∧ w' = w := by
  obtain ⟨z, hz⟩ : ∃ z, indexF s n = z := ⟨_, rfl⟩
  have HZ := Lib.hid hz
  rw [hz]
  clear hz
  go_enter Try.func14, Try.ntmps14
  go_wp2_with fail
  go_loopg [5] 6 (fun q s5 v => ∃ i : Nat, s5 = .int .i64 (i : Int) ∧ i ≤ 6 ∧ q = 6 - i ∧ v = w ∧ Hid (∀ j : Nat, j < i → 0 ≤ s → s < 40 → nodeF s j ≠ n))
  case atStart => exact ⟨0, rfl, by omega, rfl, rfl, Lib.hid (fun j hj => by omega)⟩
  case round =>
    obtain ⟨i, rfl, hi, rfl, hv, HS⟩ := hrel
    generalize wr = v at *
    obtain rfl := hv
    by_cases hlt : i < 6
    · have t1 : (i : Int) < 6 := by omega
      obtain ⟨y, hy⟩ : ∃ y, nodeF s i = y := ⟨_, rfl⟩
      have HN := Lib.hid (ron s i v)
      rw [hy] at HN
      have HY := Lib.hid hy
      clear hy
      by_cases hn : 0 ≤ n
      · by_cases e : y = n
        · have t2 : (y == n) = true := beq_iff_eq.2 e
          have HE : Hid (z = (i : Int)) := Lib.hid (by
            rw [← HZ.out]
            have hh : 0 ≤ s ∧ s < 40 := by
              by_cases hh : 0 ≤ s ∧ s < 40
              · exact hh
              · have h := HY.out
                rw [nodeF_no (by omega)] at h
                omega
            exact indexF_hit hh.1 hh.2 hlt (HY.out.trans e))
          clear e
          go_wp2_with fail
          refine HN.out.mono ?_
          rintro e w' ⟨rfl, hw⟩
          obtain rfl := hw.symm
          go_wp2_with fail
          go_ret
          exact ⟨congrArg (fun z => Ending.returned (Value.int .i64 z)) HE.out.symm, rfl⟩
        · have t2 : (y == n) = false := beq_eq_false_iff_ne.2 e
          have HE := Lib.hid e
          clear e
          go_wp2_with fail
          refine HN.out.mono ?_
          rintro e w' ⟨rfl, hw⟩
          obtain rfl := hw.symm
          go_wp2_with fail
          go_roundg (6 - (i + 1))
          case measure => omega
          case rel => exact ⟨i + 1, by go_num, by omega, rfl, rfl, Lib.hid (fun j hj h0 h1 => by
            rcases Nat.lt_succ_iff_lt_or_eq.1 hj with h | rfl
            · exact HS.out j h h0 h1
            · rw [HY.out]; exact HE.out)⟩
      · have HX := Lib.hid hn
        clear hn
        have t3 : ¬ 0 ≤ n := HX.out
        go_wp2_with fail
        go_roundg (6 - (i + 1))
        case measure => omega
        case rel => exact ⟨i + 1, by go_num, by omega, rfl, rfl, Lib.hid (fun j hj h0 h1 h => by
          rcases Nat.lt_succ_iff_lt_or_eq.1 hj with h2 | rfl
          · exact HS.out j h2 h0 h1 h
          · have h5 := HX.out
            unfold nodeF at h
            rw [if_pos (by omega)] at h
            omega)⟩
    · obtain rfl : i = 6 := by omega
      have HE : Hid (z = -1) := Lib.hid (by rw [← HZ.out]; exact indexF_none HS.out)
      clear hlt
      go_wp2_with fail
      go_ret
      exact ⟨congrArg (fun z => Ending.returned (Value.int .i64 z)) HE.out.symm, rfl⟩

/-- corbelref7.Logs. -/
theorem rlogs (s : Int) (w : World) : Calls Try.prog 16 #[.int .i64 s] w (LogsRet s w) := by
  by_cases h0 : 0 ≤ s
  · by_cases h1 : s < 40
    · obtain ⟨p, rfl⟩ : ∃ p : Nat, s = (p : Int) := ⟨s.toNat, by omega⟩
      have hp : p < 40 := by omega
      have HLL := Lib.hid (logsF_len hp)
      go_enter Try.func16, Try.ntmps16
      go_wp2_with fail
      go_loopg [3, 4] 8 (fun q s3 s4 v => ∃ i : Nat, s4 = .int .i64 (i : Int) ∧ i ≤ 8 ∧ q = 8 - i ∧ Hid (v.ownsRow w.heap.size 3 1 s3 i (intsV ((logsF p).take i)) ∧ Below w.heap.size w v))
      case atStart => exact ⟨0, rfl, by omega, rfl, Lib.hid ⟨World.ownsRow_nil _ _ _ _, Below.refl _ _⟩⟩
      case round =>
        obtain ⟨i, rfl, hi, rfl, HS⟩ := hrel
        generalize wr = v at *
        by_cases hlt : i < 8
        · have t1 : (i : Int) < 8 := by omega
          have HT : Hid ((logsF p).take i ++ [(((p + 5 + i) % 8 : Nat) : Int)] = (logsF p).take (i + 1)) := Lib.hid (by rw [List.take_add_one, logsF_at hp hlt]; rfl)
          obtain ⟨y, hy⟩ : ∃ y : Nat, (p + 5 + i) % 8 = y := ⟨_, rfl⟩
          have hy2 : ((p : Int) + 5 + (i : Int)) % 8 = (y : Int) := by omega
          rw [hy] at HT
          have HO := Lib.hid HS.out.1
          have HB := Lib.hid HS.out.2
          have zz : w.heap.size ≤ v.heap.size := HB.out.size
          have HY := Lib.hid hy2
          clear HS hy
          go_wp2_with (at_builtin; go_loud (refine append_int _ rfl _ _ rfl w.heap.size u3 i ((logsF p).take i) rfl (HO.out.alloc _) v.heap.size (y : Int) rfl (by simp [go_sem]) (by omega) (by simp; omega) ?_; intro g6 cap6 w6 o6 gr6 y6 _); have HO6 := Lib.hid o6; have HB6 : Hid (Below w.heap.size w w6) := Lib.hid ((HB.out.alloc HB.out.size _).grown gr6 (by have := HB.out.size; simp; omega) (fun k hk => own_ge HO.out k hk)); clear o6 gr6 y6)
          go_roundg (8 - (i + 1))
          case measure => omega
          case rel => exact ⟨i + 1, by go_num, by omega, rfl, Lib.hid ⟨by have := HO6.out; rw [HT.out] at this; exact this, HB6.out⟩⟩
        · obtain rfl : i = 8 := by omega
          have t1 : ¬ ((8 : Nat) : Int) < 8 := by omega
          clear hlt
          go_wp2_with fail
          go_ret
          obtain ⟨ho, hb⟩ := HS.out
          rw [List.take_of_length_le (by rw [HLL.out]; exact Nat.le_refl _)] at ho
          obtain ⟨A, c, rfl, hA⟩ := own_form ho
          have hc : 8 ≤ c := by
            rcases ho.2 with ⟨_, h8⟩ | ⟨g, cap', cur, e, _, _, h3, _⟩
            · omega
            · cases e; first | exact h3 | omega
          exact ⟨A, c, by rw [HLL.out]; rfl, (own_nums ho).1, hb, by rw [HLL.out]; exact hc, fun g' o' e => by
            subst e
            rcases hA with ⟨h, _⟩ | ⟨g2, h, h2, _⟩
            · cases h
            · cases h; exact h2⟩
    · have HL : Hid (logsF s = []) := Lib.hid (by unfold logsF; rw [if_neg (by omega)])
      go_enter Try.func16, Try.ntmps16
      go_wp2_with fail
      go_ret
      exact ⟨none, 0, by rw [HL.out]; rfl, by rw [HL.out]; exact fun i x hx => by simp at hx, Below.refl _ _, by rw [HL.out]; exact Nat.le_refl _, fun _ _ e => by cases e⟩
  · have HL : Hid (logsF s = []) := Lib.hid (by unfold logsF; rw [if_neg (by omega)])
    go_enter Try.func16, Try.ntmps16
    go_wp2_with fail
    go_ret
    exact ⟨none, 0, by rw [HL.out]; rfl, by rw [HL.out]; exact fun i x hx => by simp at hx, Below.refl _ _, by rw [HL.out]; exact Nat.le_refl _, fun _ _ e => by cases e⟩
end Go.Proofs.Ythakocmhpchkcaa
