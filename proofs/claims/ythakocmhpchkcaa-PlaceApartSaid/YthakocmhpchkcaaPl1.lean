import Derived.Test.YthakocmhpchkcaaD9s
import Derived.Test.YthakocmhpchkcaaBt
namespace Go.Proofs.Ythakocmhpchkcaa
open Go.RowKit Go.Sort
set_option maxRecDepth 100000
set_option maxHeartbeats 1000000

/-! Package place: who has what. -/
/-- Where a chunk stands. -/
def nodeF (s i : Int) : Int := if 0 ≤ s ∧ s < 40 ∧ 0 ≤ i ∧ i < 6 then (s + i) % 8 else -1
/-- Which chunk stands there. -/
def indexF (s n : Int) : Int := if 0 ≤ s ∧ s < 40 ∧ 0 ≤ n ∧ n < 8 ∧ (n - s) % 8 < 6 then (n - s) % 8 else -1
/-- Who is asked. -/
def logsF (s : Int) : List Int := if 0 ≤ s ∧ s < 40 then (List.range 8).map (fun j : Nat => (s + 5 + (j : Int)) % 8) else []
theorem nodeF_nat {s i : Nat} (h : s < 40) (hi : i < 6) : nodeF s i = (((s + i) % 8 : Nat) : Int) := by
  unfold nodeF
  rw [if_pos (by omega)]
  omega
theorem nodeF_no {s i : Int} (h : ¬ (0 ≤ s ∧ s < 40 ∧ 0 ≤ i ∧ i < 6)) : nodeF s i = -1 := if_neg h
theorem indexF_hit {s n : Int} {i : Nat} (h0 : 0 ≤ s) (h1 : s < 40) (hi : i < 6) (h : nodeF s i = n) : indexF s n = (i : Int) := by
  unfold nodeF at h
  rw [if_pos (by omega)] at h
  unfold indexF
  rw [if_pos (by omega)]
  omega
theorem indexF_none {s n : Int} (h : ∀ j : Nat, j < 6 → 0 ≤ s → s < 40 → nodeF s j ≠ n) : indexF s n = -1 := by
  unfold indexF
  split
  · rename_i hh
    exfalso
    refine h ((n - s) % 8).toNat (by omega) hh.1 hh.2.1 ?_
    unfold nodeF
    rw [if_pos (by omega)]
    omega
  · rfl
theorem logsF_len {s : Nat} (h : s < 40) : (logsF s).length = 8 := by
  unfold logsF
  rw [if_pos (by omega)]
  simp
theorem logsF_at {s j : Nat} (h : s < 40) (hj : j < 8) : (logsF s)[j]? = some (((s + 5 + j) % 8 : Nat) : Int) := by
  unfold logsF
  rw [if_pos (by omega)]
  simp [hj]
theorem logsF_le (s : Int) : (logsF s).length ≤ 8 := by
  unfold logsF
  split <;> simp

/-- place.Right. -/
theorem lright (s : Int) (w : World) : Calls Try.prog 11 #[.int .i64 s] w fun e w' => e = .returned (.bool (decide (0 ≤ s ∧ s < 40))) ∧ w' = w := by
  by_cases h0 : 0 ≤ s
  · by_cases h1 : s < 40
    · rw [decide_eq_true (show 0 ≤ s ∧ s < 40 from ⟨h0, h1⟩)]
      go_enter Try.func11, Try.ntmps11
      go_wp2_with fail
      go_ret
      exact ⟨rfl, rfl⟩
    · rw [decide_eq_false (show ¬ (0 ≤ s ∧ s < 40) by omega)]
      go_enter Try.func11, Try.ntmps11
      go_wp2_with fail
      go_ret
      exact ⟨rfl, rfl⟩
  · rw [decide_eq_false (show ¬ (0 ≤ s ∧ s < 40) by omega)]
    go_enter Try.func11, Try.ntmps11
    go_wp2_with fail
    go_ret
    exact ⟨rfl, rfl⟩
theorem lright_yes {s : Int} (h0 : 0 ≤ s) (h1 : s < 40) (w : World) : Calls Try.prog 11 #[.int .i64 s] w fun e w' => e = .returned (.bool true) ∧ w' = w := by
  have := lright s w
  rwa [decide_eq_true (show 0 ≤ s ∧ s < 40 from ⟨h0, h1⟩)] at this
theorem lright_no {s : Int} (h : ¬ (0 ≤ s ∧ s < 40)) (w : World) : Calls Try.prog 11 #[.int .i64 s] w fun e w' => e = .returned (.bool false) ∧ w' = w := by
  have := lright s w
  rwa [decide_eq_false h] at this

/-- place.Node. -/
theorem lnode (s i : Int) (w : World) : Calls Try.prog 9 #[.int .i64 s, .int .i64 i] w fun e w' => e = .returned (.int .i64 (nodeF s i)) ∧ w' = w := by
  by_cases hs : 0 ≤ s ∧ s < 40
  · obtain ⟨h0, h1⟩ := hs
    have HR := Lib.hid (lright_yes h0 h1 w)
    by_cases i0 : 0 ≤ i
    · by_cases i1 : i < 6
      · obtain ⟨y, hy⟩ : ∃ y, nodeF s i = y := ⟨_, rfl⟩
        have hy2 : (s + i) % 8 = y := by
          rw [← hy]
          unfold nodeF
          rw [if_pos ⟨h0, h1, i0, i1⟩]
        rw [hy]
        have HY := Lib.hid hy2
        clear hy hy2
        go_enter Try.func9, Try.ntmps9
        go_wp2_with fail
        refine HR.out.mono ?_
        rintro e w' ⟨rfl, hw⟩
        obtain rfl := hw.symm
        go_wp2_with fail
        go_ret
        exact ⟨congrArg (fun z => Ending.returned (Value.int .i64 z)) HY.out, rfl⟩
      · rw [nodeF_no (by omega)]
        go_enter Try.func9, Try.ntmps9
        go_wp2_with fail
        refine HR.out.mono ?_
        rintro e w' ⟨rfl, hw⟩
        obtain rfl := hw.symm
        go_wp2_with fail
        go_ret
        exact ⟨rfl, rfl⟩
    · rw [nodeF_no (by omega)]
      go_enter Try.func9, Try.ntmps9
      go_wp2_with fail
      refine HR.out.mono ?_
      rintro e w' ⟨rfl, hw⟩
      obtain rfl := hw.symm
      go_wp2_with fail
      go_ret
      exact ⟨rfl, rfl⟩
  · have HR := Lib.hid (lright_no hs w)
    rw [nodeF_no (by omega)]
    clear hs
    go_enter Try.func9, Try.ntmps9
    go_wp2_with fail
    refine HR.out.mono ?_
    rintro e w' ⟨rfl, hw⟩
    obtain rfl := hw.symm
    go_wp2_with fail
    go_ret
    exact ⟨rfl, rfl⟩

/-- place.Index. -/
theorem lindex (s n : Int) (w : World) : Calls Try.prog 8 #[.int .i64 s, .int .i64 n] w fun e w' => e = .returned (.int .i64 (indexF s n)) ∧ w' = w := by
  obtain ⟨z, hz⟩ : ∃ z, indexF s n = z := ⟨_, rfl⟩
  have HZ := Lib.hid hz
  rw [hz]
  clear hz
  go_enter Try.func8, Try.ntmps8
  go_wp2_with fail
  go_loopg [6] 6 (fun q s6 v => ∃ i : Nat, s6 = .int .i64 (i : Int) ∧ i ≤ 6 ∧ q = 6 - i ∧ v = w ∧ Hid (∀ j : Nat, j < i → 0 ≤ s → s < 40 → nodeF s j ≠ n))
  case atStart => exact ⟨0, rfl, by omega, rfl, rfl, Lib.hid (fun j hj => by omega)⟩
  case round =>
    obtain ⟨i, rfl, hi, rfl, hv, HS⟩ := hrel
    generalize wr = v at *
    obtain rfl := hv
    by_cases hlt : i < 6
    · have t1 : (i : Int) < 6 := by omega
      by_cases hs : 0 ≤ s ∧ s < 40
      · obtain ⟨h0, h1⟩ := hs
        obtain ⟨y, hy⟩ : ∃ y, nodeF s i = y := ⟨_, rfl⟩
        have HN := Lib.hid (lnode s i v)
        rw [hy] at HN
        have HY := Lib.hid hy
        clear hy
        have HR := Lib.hid (lright_yes h0 h1 v)
        by_cases e : y = n
        · have t2 : (y == n) = true := beq_iff_eq.2 e
          have HE : Hid (z = (i : Int)) := Lib.hid (by rw [← HZ.out]; exact indexF_hit h0 h1 hlt (HY.out.trans e))
          clear e h0 h1
          go_wp2_with fail
          refine HR.out.mono ?_
          rintro e w' ⟨rfl, hw⟩
          obtain rfl := hw.symm
          go_wp2_with fail
          refine HN.out.mono ?_
          rintro e w' ⟨rfl, hw⟩
          obtain rfl := hw.symm
          go_wp2_with fail
          go_ret
          exact ⟨congrArg (fun z => Ending.returned (Value.int .i64 z)) HE.out.symm, rfl⟩
        · have t2 : (y == n) = false := beq_eq_false_iff_ne.2 e
          have HE := Lib.hid e
          clear e h0 h1
          go_wp2_with fail
          refine HR.out.mono ?_
          rintro e w' ⟨rfl, hw⟩
          obtain rfl := hw.symm
          go_wp2_with fail
          refine HN.out.mono ?_
          rintro e w' ⟨rfl, hw⟩
          obtain rfl := hw.symm
          go_wp2_with fail
          go_roundg (6 - (i + 1))
          case measure => omega
          case rel => exact ⟨i + 1, by go_num, by omega, rfl, rfl, Lib.hid (fun j hj h0 h1 => by
            rcases Nat.lt_succ_iff_lt_or_eq.1 hj with h | rfl
            · exact HS.out j h h0 h1
            · rw [HY.out]; exact HE.out)⟩
      · have HR := Lib.hid (lright_no hs v)
        have HX := Lib.hid hs
        clear hs
        go_wp2_with fail
        refine HR.out.mono ?_
        rintro e w' ⟨rfl, hw⟩
        obtain rfl := hw.symm
        go_wp2_with fail
        go_roundg (6 - (i + 1))
        case measure => omega
        case rel => exact ⟨i + 1, by go_num, by omega, rfl, rfl, Lib.hid (fun j hj h0 h1 => absurd ⟨h0, h1⟩ HX.out)⟩
    · obtain rfl : i = 6 := by omega
      have HE : Hid (z = -1) := Lib.hid (by rw [← HZ.out]; exact indexF_none HS.out)
      clear hlt
      go_wp2_with fail
      go_ret
      exact ⟨congrArg (fun z => Ending.returned (Value.int .i64 z)) HE.out.symm, rfl⟩

/-- 'make([]int, n)'. -/
theorem makeI (n : Nat) (hn : n ≤ 1000000) : ∃ zs : Array Value, n ≤ zs.size ∧ (∀ j, j < n → zs[j]? = some (.int .i64 0)) ∧
    ∀ W : World, Sem.run Try.prog (Instr.makeSlice 24 (.int .i64 (n : Int)) (.int .i64 (n : Int))) W = .ok (.slice (some ⟨W.heap.size, 0, none⟩) n n) (W.alloc (.cells zs 3)) := by
  obtain ⟨i0, hi0, hz0, hz1, hz2⟩ := info_parts infoInt
  have hz : ∀ j, j < n → (madeCells (Value.int .i64 0).cells (n * i0.size))[j]? = some (.int .i64 0) := fun j hj => by
    rw [hz1]
    simp [madeCells, Value.cells, hj]
    rw [Nat.mod_one]; rfl
  refine ⟨madeCells (Value.int .i64 0).cells (n * i0.size), ?_, hz, fun W => ?_⟩
  · rcases Nat.eq_zero_or_pos n with h0 | h0
    · omega
    · have := (Array.getElem?_eq_some_iff.1 (hz (n - 1) (by omega))).1
      omega
  · have h := run_make W 24 3 i0 (.int .i64 0) Try.underlying24 hi0 hz0 .i64 .i64 (n : Int) (n : Int) (by omega) (by omega) (by rw [hz2]; omega) (by omega)
    simpa using h
/-- Who is asked, in new memory. -/
def LogsRet (s : Int) (w : World) (e : Ending) (w' : World) : Prop := ∃ A c, e = .returned (.slice A (logsF s).length c) ∧ Nums w' A (logsF s) ∧ Below w.heap.size w w' ∧ (logsF s).length ≤ c ∧ ∀ g o, A = some ⟨g, o, none⟩ → w.heap.size ≤ g
theorem nums_blk {w : World} {g s : Nat} {f : Nat → Int} (hs : s < 40) (h : BlkT w 3 g 8 (fun j => .int .i64 (f j))) (hf : ∀ j, j < 8 → f j = (((s + 5 + j) % 8 : Nat) : Int)) : Nums w (some ⟨g, 0, none⟩) (logsF s) := fun i x hx => by
  have hi : i < 8 := by have := (List.getElem?_eq_some_iff.1 hx).1; rw [logsF_len hs] at this; exact this
  rw [logsF_at hs hi] at hx
  cases hx
  refine ⟨g, 0, rfl, h.lt, ?_⟩
  rw [Nat.zero_add, h.cell hi, hf i hi]
/-- place.Logs. -/
theorem llogs (s : Int) (w : World) : Calls Try.prog 10 #[.int .i64 s] w (LogsRet s w) := by
  by_cases hs : 0 ≤ s ∧ s < 40
  · obtain ⟨p, rfl⟩ : ∃ p : Nat, s = (p : Int) := ⟨s.toNat, by omega⟩
    have hp : p < 40 := by omega
    have HR := Lib.hid (lright_yes hs.1 hs.2 w)
    obtain ⟨zs, z0, z1, z2⟩ := makeI 8 (by omega)
    have z3 : ∀ W : World, Sem.run Try.prog (Instr.makeSlice 24 (.int .i64 8) (.int .i64 8)) W = .ok (.slice (some ⟨W.heap.size, 0, none⟩) 8 8) (W.alloc (.cells zs 3)) := z2
    have HK : Hid (BlkT (w.alloc (.cells zs 3)) 3 w.heap.size 8 (fun _ => .int .i64 0)) := Lib.hid ⟨zs, alloc_block _ _, z0, z1⟩
    have HB0 : Hid (Below w.heap.size w (w.alloc (.cells zs 3))) := Lib.hid ((Below.refl _ _).alloc (Nat.le_refl _) _)
    clear z0 z1 z2 hs
    go_enter Try.func10, Try.ntmps10
    go_wp2_with fail
    refine HR.out.mono ?_
    rintro e w' ⟨rfl, hw⟩
    obtain rfl := hw.symm
    go_upto_region 5 with fail
    generalize w.alloc (.cells zs 3) = w1 at *
    obtain ⟨g, hg⟩ : ∃ g, w.heap.size = g := ⟨_, rfl⟩
    have HG := Lib.hid hg
    rw [hg] at HK ⊢
    clear hg z3
    go_loopg [11, 4] 8 (fun q s11 s4 v => ∃ i : Nat, s11 = .int .i64 (i : Int) ∧ i ≤ 8 ∧ q = 8 - i ∧ Hid (Below w.heap.size w v ∧ ∃ f : Nat → Int, BlkT v 3 g 8 (fun j => .int .i64 (f j)) ∧ ∀ j, j < i → f j = (((p + 5 + j) % 8 : Nat) : Int)))
    case atStart => exact ⟨0, rfl, by omega, rfl, Lib.hid ⟨HB0.out, fun _ => 0, HK.out, fun j hj => by omega⟩⟩
    case round =>
      obtain ⟨i, rfl, hi, rfl, HS⟩ := hrel
      clear HK HB0
      generalize wr = v at *
      by_cases hlt : i < 8
      · have t1 : (i : Int) < 8 := by omega
        obtain ⟨hb, f, hf, he⟩ := HS.out
        have HF := Lib.hid hf
        have HE := Lib.hid he
        have HB := Lib.hid hb
        have c1 := hf.cell hlt
        have c2 := hf.free i
        clear HS hf he hb
        go_wp2_with fail
        go_roundg (8 - (i + 1))
        case measure => omega
        case rel => exact ⟨i + 1, by go_num, by omega, rfl, Lib.hid ⟨HB.out.setCell (p := ⟨g, i, none⟩) (by rw [HG.out]; exact Nat.le_refl _) _, fun j => if j = i then (((p + 5 + i) % 8 : Nat) : Int) else f j, ((HF.out.put (x := .int .i64 (((p + 5 + i) % 8 : Nat) : Int)) hlt).congr (fun j hj => by dsimp only; split <;> rfl)), fun j hj => by
          dsimp only
          split
          · rename_i h; rw [h]
          · exact HE.out j (by omega)⟩⟩
      · obtain rfl : i = 8 := by omega
        have t1 : ¬ ((8 : Nat) : Int) < 8 := by omega
        have HL := Lib.hid (logsF_len hp)
        clear hlt
        go_wp2_with fail
        go_ret
        obtain ⟨hb, f, hf, he⟩ := HS.out
        exact ⟨some ⟨g, 0, none⟩, 8, by rw [HL.out]; rfl, nums_blk hp hf he, hb, by rw [HL.out]; exact Nat.le_refl _, fun g' o' e => by cases e; rw [HG.out]; exact Nat.le_refl _⟩
  · have HR := Lib.hid (lright_no hs w)
    have HL : Hid (logsF s = []) := Lib.hid (by unfold logsF; rw [if_neg hs])
    clear hs
    go_enter Try.func10, Try.ntmps10
    go_wp2_with fail
    refine HR.out.mono ?_
    rintro e w' ⟨rfl, hw⟩
    obtain rfl := hw.symm
    go_wp2_with fail
    go_ret
    refine ⟨none, 0, by rw [HL.out]; rfl, by rw [HL.out]; exact fun i x hx => by simp at hx, Below.refl _ _, by rw [HL.out]; exact Nat.le_refl _, fun g' o' e => by cases e⟩
end Go.Proofs.Ythakocmhpchkcaa
