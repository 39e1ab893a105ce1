import Derived.Test.YtohmoakahfpjpaaDA
namespace Go.Proofs.Ytohmoakahfpjpaa
open Go.RowKit Go.Sort
set_option maxRecDepth 100000
set_option maxHeartbeats 20000000

/-- A round's end: both have the same disk. -/
def ActMid (w0 : World) (p r N i : Nat) (v : World) : Prop := ∃ S R d n, BMem w0 v p S r R N d n d n ∧ n ≤ i
theorem platterActs (x0 : Int) (A : Option Addr) (L : List AI) (c1 : Nat) (w : World) (hL : ActsIn w A L) (hl : L.length ≤ 9223372036854775807) :
    Calls Try.prog 4 #[.int .i64 x0, .slice A L.length c1] w fun e w' => e = .returned (.bool true) ∧ Below w.heap.size w w' := by
  obtain ⟨p8, lp8, hp8⟩ := rpickN x0 8 (by omega) (by omega)
  have HP8 := Lib.hid hp8
  have HLL := Lib.hid hL
  obtain ⟨m, hm⟩ : ∃ m, L.length = m := ⟨_, rfl⟩
  rw [hm] at hl ⊢
  have HM := Lib.hid hm
  obtain ⟨N, hN⟩ : ∃ N, 1 + p8 = N := ⟨_, rfl⟩
  have e0 : (1 : Int) + (p8 : Int) = (N : Int) := by omega
  have n1 : 1 ≤ N := by omega
  have n2 : N ≤ 8 := by omega
  obtain ⟨n, hn⟩ : ∃ n, n = min m 60 := ⟨_, rfl⟩
  have n60 : n ≤ 60 := by omega
  have nm : n ≤ m := by omega
  have HNN : Hid (∀ i : Nat, i = n → m ≤ i ∨ 60 ≤ i) := Lib.hid (by omega)
  clear hp8 hL hm hN hn
  go_enter Try.func4, Try.ntmps4
  go_wp2_with fail
  refine (HP8.out w).mono ?_
  rintro e w' ⟨rfl, hw⟩
  obtain rfl := hw.symm
  go_wp2_with fail
  clear e0
  refine (dnew_of w (N : Int) N (by omega) rfl).mono ?_
  rintro e w1 ⟨p, S1, rfl, P1, B1, E1⟩
  try dsimp only
  have HP1 := Lib.hid P1
  have HB1 : Hid (Below w.heap.size w w1 ∧ ∀ k ∈ S1, w.heap.size ≤ k) := Lib.hid ⟨B1, E1⟩
  clear P1 B1 E1
  go_wp2_with fail
  refine (dknown w1).mono ?_
  rintro e w2 ⟨rfl, B2⟩
  try dsimp only
  have HP2 := Lib.hid (HP1.out.below B2)
  have HB2 : Hid (Below w.heap.size w w2 ∧ ∀ k ∈ S1, w.heap.size ≤ k) := Lib.hid ⟨HB1.out.1.trans (B2.mono HB1.out.1.size), HB1.out.2⟩
  clear B2 HP1 HB1
  go_wp2_with fail
  refine (rnew w2 N n1 (by omega)).mono ?_
  rintro e w3 ⟨r, R3, rfl, P3, B3, E3⟩
  try dsimp only
  have HM3 : Hid (ActMid w p r N 0 w3) := Lib.hid ⟨S1, R3, Disk.blank, 0, ⟨HP2.out.below B3, P3, HB2.out.2, fun k hk => Nat.le_trans HB2.out.1.size (E3 k hk), HB2.out.1.trans (B3.mono HB2.out.1.size)⟩, Nat.le_refl _⟩
  clear P3 B3 E3 HP2 HB2
  go_wp2_with fail
  go_loopg [7] n (fun q s7 v => ∃ i : Nat, s7 = .int .i64 (i : Int) ∧ i ≤ n ∧ q = n - i ∧ Hid (ActMid w p r N i v))
  case atStart => exact ⟨0, rfl, by omega, rfl, HM3⟩
  case round =>
    obtain ⟨i, rfl, hi, rfl, HS⟩ := hrel
    clear HM3
    obtain ⟨S, R, d, nw, hb, hnw⟩ := HS.out
    have HB := Lib.hid hb
    clear HS hb
    generalize wr = v at *
    by_cases hlt : i < n
    · have t1 : (i : Int) < (m : Int) := by omega
      have t2 : (i : Int) < 60 := by omega
      obtain ⟨x, hx⟩ : ∃ x, L[i]? = some x := ⟨_, List.getElem?_eq_getElem (by rw [HM.out]; omega)⟩
      obtain ⟨xw, xk, xn, xa, xs, xc⟩ := x
      obtain ⟨g, o, rfl, hg, c0, c1', c2, c3, hk, hkl, hnb⟩ := HLL.out i _ hx
      have e1 := (HB.out.below.cell (p := ⟨g, o + i * 4, none⟩) hg).trans c0
      have e2 := (HB.out.below.cell (p := ⟨g, o + i * 4 + 1, none⟩) hg).trans c1'
      have e3 := (HB.out.below.cell (p := ⟨g, o + i * 4 + 2, none⟩) hg).trans c2
      have e4 := (HB.out.below.cell (p := ⟨g, o + i * 4 + 3, none⟩) hg).trans c3
      have HKS := Lib.hid hk
      clear hx c0 c1' c2 c3 hk hg
      dsimp only at e1 e2 e3 e4 HKS hkl hnb
      obtain ⟨ty, lty, hty⟩ := rpickN xw 9 (by omega) (by omega)
      have HTY := Lib.hid hty
      clear hty
      go_wp2_with fail
      refine (HTY.out _).mono ?_
      rintro e w' ⟨rfl, rfl⟩
      try dsimp only
      have HB4 := Lib.hid (HB.out.more ((Below.refl _ _).alloc (Nat.le_refl _) (.cells #[.int .i64 xw, .int .i64 xk, .int .i64 xn, .slice xa xs.length xc] 40)))
      have HL4 : Hid ((v.alloc (.cells #[.int .i64 xw, .int .i64 xk, .int .i64 xn, .slice xa xs.length xc] 40)).heap[v.heap.size]? = some (.cells #[.int .i64 xw, .int .i64 xk, .int .i64 xn, .slice xa xs.length xc] 40 (0, 0))) := Lib.hid (alloc_block _ _)
      have hla : w.heap.size ≤ v.heap.size := HB.out.below.size
      clear HB e1 e2 e3 e4
      generalize v.alloc (.cells #[.int .i64 xw, .int .i64 xk, .int .i64 xn, .slice xa xs.length xc] 40) = v4 at *
      generalize v.heap.size = la at *
      go_upto_block 2 with fail
      go_cut [4, 9, 10, 11] from 47 to 110 (fun s4 s9 s10 s11 wx => Hid (ActMid w p r N (i + 1) wx))
      case first =>
        rcases (show ty = 6 ∨ ty = 7 ∨ ty = 8 ∨ ty < 6 by omega) with rfl | rfl | rfl | hty
        · go_wp2_with fail
          refine (dflush HB4.out.plt).mono ?_
          rintro e w5 ⟨S5, rfl, p5, t5⟩
          try dsimp only
          have HB5 := Lib.hid (HB4.out.step1 p5 t5)
          clear p5 t5 HB4
          go_wp2_with fail
          refine (rflush HB5.out.rplt (by omega)).mono ?_
          rintro e w6 ⟨R6, rfl, p6, t6⟩
          try dsimp only
          have HE : Hid (ActMid w p r N (i + 1) w6) := Lib.hid ⟨_, _, _, _, HB5.out.step2 p6 t6, by omega⟩
          clear p6 t6 HB5
          go_wp2_with fail
          go_meet
          case rel => exact HE
        · have HX4 := Lib.hid (fun W (hW : Below w.heap.size w W) => HKS.out.keep hW)
          obtain ⟨ml, hml⟩ : ∃ ml, xs.length = ml := ⟨_, rfl⟩
          rw [hml] at HL4 hkl
          have HML := Lib.hid hml
          clear hml
          obtain ⟨mk, hmk⟩ : ∃ mk, mk = min ml 8 := ⟨_, rfl⟩
          have k8 : mk ≤ 8 := by omega
          have km : mk ≤ ml := by omega
          have HMK : Hid (∀ j : Nat, j = mk → ml ≤ j ∨ 8 ≤ j) := Lib.hid (by omega)
          clear hmk
          have HK0 : Hid (KMem w v4 p S r R N d nw la 0 #[.int .i64 xw, .int .i64 xk, .int .i64 xn, .slice xa ml xc] (.slice none 0 0) []) := Lib.hid ⟨HB4.out, World.ownsRow_nil _ _ _ _, HL4.out, rfl⟩
          clear HB4 HL4
          go_wp2_with fail
          go_loopg [9, 10] mk (fun q s9 s10 v5 => ∃ j : Nat, s10 = .int .i64 (j : Int) ∧ j ≤ mk ∧ q = mk - j ∧ Hid (∃ ys, KMem w v5 p S r R N d nw la j #[.int .i64 xw, .int .i64 xk, .int .i64 xn, .slice xa ml xc] s9 ys))
          case atStart => exact ⟨0, rfl, by omega, rfl, Lib.hid ⟨[], HK0.out⟩⟩
          case round =>
            obtain ⟨j, rfl, hj, rfl, HK⟩ := hrel
            clear HK0
            obtain ⟨ys, hk⟩ := HK.out
            have HKM := Lib.hid hk
            clear HK hk
            generalize wr = v5 at *
            have c3 : v5.cell? ⟨la, 3, none⟩ = some (.slice xa ml xc) := cell_of_block HKM.out.loc
            by_cases hlj : j < mk
            · have s1 : (j : Int) < (ml : Int) := by omega
              have s2 : (j : Int) < 8 := by omega
              obtain ⟨y, hy⟩ : ∃ y, xs[j]? = some y := ⟨_, List.getElem?_eq_getElem (by rw [HML.out]; omega)⟩
              obtain ⟨g3, o3, rfl, hg3, hc3⟩ := HX4.out v5 HKM.out.bm.below j y hy
              obtain ⟨q, lq, hq⟩ := rpickN y 12 (by omega) (by omega)
              have HQ := Lib.hid hq
              have zz := HKM.out.bm.below.size
              clear hq hg3 hy
              go_wp2_with fail
              refine (HQ.out _).mono ?_
              rintro e w' ⟨rfl, hw⟩
              obtain rfl := hw.symm
              clear hc3
              go_wp2_with (at_builtin; refine append_int _ rfl _ _ rfl w.heap.size u9 j ys rfl (HKM.out.own.alloc _) v5.heap.size ((q : Int) - 1) rfl (by simp [go_sem]) (by omega) (by simp; omega) ?_; intro g6 cap6 w6 o6 gr6 y6 _; have HK6 := Lib.hid (HKM.out.ap o6 gr6); clear o6 gr6 y6)
              go_roundg (mk - (j + 1))
              case measure => omega
              case rel => exact ⟨j + 1, by go_num, by omega, rfl, Lib.hid ⟨_, HK6.out⟩⟩
            · obtain rfl : j = mk := by omega
              obtain ⟨A9, c9, rfl, ha9⟩ := own_form HKM.out.own
              have HI9 : Hid (∀ g o, A9 = some ⟨g, o, none⟩ → ¬ (g ∈ S ∨ g = r)) := Lib.hid (fun g o e hm => by
                subst e
                obtain ⟨cs, hc⟩ := own_mem HKM.out.own (k := g) (by simp [pb])
                rcases hm with hm | rfl
                · exact HKM.out.bm.plt.notMem hc (by decide) (by decide) (by decide) hm
                · exact HKM.out.bm.rplt.notMem hc (by decide) (by decide) (by decide) (by obtain ⟨dv, pv, _, e⟩ := HKM.out.bm.rplt; rw [e]; simp))
              have hyl := HKM.out.len
              subst hyl
              have HCR := Lib.hid (dcrash A9 ys c9 HKM.out.bm.plt (own_nums HKM.out.own).1 (by omega) (by omega))
              clear ha9 hlj
              rcases HMK.out _ rfl with hx | hx
              · have s1 : ¬ (ys.length : Int) < (ml : Int) := by omega
                have s2 : decide (ys.length < ml) = false := decide_eq_false (by omega)
                clear hx
                go_wp2_with fail
                refine HCR.out.mono ?_
                rintro e w5 ⟨S5, rfl, p5, t5⟩
                try dsimp only
                have HB5 := Lib.hid (HKM.out.bm.step1 p5 t5)
                have HN5 : Hid (Nums w5 A9 ys ∧ ∀ g o, A9 = some ⟨g, o, none⟩ → g ∉ [r]) := Lib.hid ⟨(own_nums HKM.out.own).1.turn t5.turn (fun g o e hm => HI9.out g o e (Or.inl hm)), fun g o e hm => HI9.out g o e (Or.inr (by simpa using hm))⟩
                clear p5 t5
                go_wp2_with fail
                refine (rcrash A9 ys c9 HB5.out.rplt HN5.out.1 (by omega) HN5.out.2 (by omega)).mono ?_
                rintro e w6 ⟨R6, rfl, p6, t6⟩
                try dsimp only
                have HE : Hid (ActMid w p r N (i + 1) w6) := Lib.hid ⟨_, _, _, _, HB5.out.step2 p6 t6, by omega⟩
                clear p6 t6 HB5
                go_wp2_with fail
                go_meet
                case rel => exact HE
              · by_cases hx2 : ml ≤ ys.length
                · have s1 : ¬ (ys.length : Int) < (ml : Int) := by omega
                  have s2 : decide (ys.length < ml) = false := decide_eq_false (by omega)
                  clear hx hx2
                  go_wp2_with fail
                  refine HCR.out.mono ?_
                  rintro e w5 ⟨S5, rfl, p5, t5⟩
                  try dsimp only
                  have HB5 := Lib.hid (HKM.out.bm.step1 p5 t5)
                  have HN5 : Hid (Nums w5 A9 ys ∧ ∀ g o, A9 = some ⟨g, o, none⟩ → g ∉ [r]) := Lib.hid ⟨(own_nums HKM.out.own).1.turn t5.turn (fun g o e hm => HI9.out g o e (Or.inl hm)), fun g o e hm => HI9.out g o e (Or.inr (by simpa using hm))⟩
                  clear p5 t5
                  go_wp2_with fail
                  refine (rcrash A9 ys c9 HB5.out.rplt HN5.out.1 (by omega) HN5.out.2 (by omega)).mono ?_
                  rintro e w6 ⟨R6, rfl, p6, t6⟩
                  try dsimp only
                  have HE : Hid (ActMid w p r N (i + 1) w6) := Lib.hid ⟨_, _, _, _, HB5.out.step2 p6 t6, by omega⟩
                  clear p6 t6 HB5
                  go_wp2_with fail
                  go_meet
                  case rel => exact HE
                · have s1 : (ys.length : Int) < (ml : Int) := by omega
                  have s2 : ¬ (ys.length : Int) < 8 := by omega
                  clear hx hx2
                  go_wp2_with fail
                  refine HCR.out.mono ?_
                  rintro e w5 ⟨S5, rfl, p5, t5⟩
                  try dsimp only
                  have HB5 := Lib.hid (HKM.out.bm.step1 p5 t5)
                  have HN5 : Hid (Nums w5 A9 ys ∧ ∀ g o, A9 = some ⟨g, o, none⟩ → g ∉ [r]) := Lib.hid ⟨(own_nums HKM.out.own).1.turn t5.turn (fun g o e hm => HI9.out g o e (Or.inl hm)), fun g o e hm => HI9.out g o e (Or.inr (by simpa using hm))⟩
                  clear p5 t5
                  go_wp2_with fail
                  refine (rcrash A9 ys c9 HB5.out.rplt HN5.out.1 (by omega) HN5.out.2 (by omega)).mono ?_
                  rintro e w6 ⟨R6, rfl, p6, t6⟩
                  try dsimp only
                  have HE : Hid (ActMid w p r N (i + 1) w6) := Lib.hid ⟨_, _, _, _, HB5.out.step2 p6 t6, by omega⟩
                  clear p6 t6 HB5
                  go_wp2_with fail
                  go_meet
                  case rel => exact HE
        · have c2 : v4.cell? ⟨la, 2, none⟩ = some (.int .i64 xn) := cell_of_block HL4.out
          by_cases h5 : xn.tmod 5 = 0
          · have t5 : (xn.tmod 5 == 0) = true := by rw [beq_iff_eq]; exact h5
            clear h5
            go_wp2_with fail
            refine (dwipe HB4.out.plt (by omega)).mono ?_
            rintro e w5 ⟨S5, rfl, p5, t5⟩
            try dsimp only
            have HB5 := Lib.hid (HB4.out.step1 p5 t5)
            clear p5 t5 HB4
            go_wp2_with fail
            refine (rwipe HB5.out.rplt).mono ?_
            rintro e w6 ⟨R6, rfl, p6, t6⟩
            try dsimp only
            have HE : Hid (ActMid w p r N (i + 1) w6) := Lib.hid ⟨_, _, _, _, HB5.out.step2 p6 t6, by omega⟩
            clear p6 t6 HB5
            go_wp2_with fail
            go_meet
            case rel => exact HE
          · have t5 : (xn.tmod 5 == 0) = false := by rw [beq_eq_false_iff_ne]; exact h5
            have HE : Hid (ActMid w p r N (i + 1) v4) := Lib.hid ⟨_, _, _, _, HB4.out, by omega⟩
            clear h5
            go_wp2_with fail
            go_meet
            case rel => exact HE
        · obtain ⟨M, hM⟩ : ∃ M, N + 2 = M := ⟨_, rfl⟩
          have e2 : (N : Int) + 2 = (M : Int) := by omega
          obtain ⟨kk, lkk, hkk⟩ := rpickN xk M (by omega) (by omega)
          have HKK := Lib.hid hkk
          have q6 : ((ty : Int) == 6) = false := by rw [beq_eq_false_iff_ne]; omega
          have q7 : ((ty : Int) == 7) = false := by rw [beq_eq_false_iff_ne]; omega
          have q8 : ((ty : Int) == 8) = false := by rw [beq_eq_false_iff_ne]; omega
          have c1 : v4.cell? ⟨la, 1, none⟩ = some (.int .i64 xk) := cell_of_block HL4.out
          have c2 : v4.drew.cell? ⟨la, 2, none⟩ = some (.int .i64 xn) := cell_of_block HL4.out
          have HB4d : Hid (BMem w v4.drew p S r R N d nw d nw) := Lib.hid (HB4.out.more (below_drewN 1 v4))
          by_cases hv : 1 ≤ kk ∧ kk ≤ N
          · obtain ⟨j, rfl⟩ : ∃ j, kk = j + 1 := ⟨kk - 1, by omega⟩
            have lj : j < N := by omega
            obtain ⟨K1, hK1⟩ : ∃ K1 : Nat, j + 1 = K1 := ⟨_, rfl⟩
            rw [hK1] at HKK
            have e3 : (K1 : Int) - 1 = (j : Int) := by omega
            clear hkk hM hv lkk hK1
            go_wp2_with fail
            refine (HKK.out _).mono ?_
            rintro e w' ⟨rfl, hw⟩
            obtain rfl := hw.symm
            go_wp2_with fail
            clear e2 e3
            go_region_with (first | (go_at_call 10; refine (show Calls Try.prog _ _ _ (AllRet xn _) from (have _ := HB6; lall xn w6)).mono ?_; rintro e w7 ⟨g7, rfl, k7, b7, _⟩; (try dsimp only); have HB7 := Lib.hid (HB6.out.more b7); have K7 := Lib.hid k7; clear k7 b7) | (go_at_call 10; refine (lall xn v4.drew).mono ?_; rintro e w5 ⟨g5, rfl, k5, b5, _⟩; (try dsimp only); have HB5 := Lib.hid (HB4d.out.more b5); have K5 := Lib.hid k5; have HL5 : Hid (w5.heap[la]? = _) := Lib.hid ((b5.block la (heap_lt HL4.out)).trans HL4.out); have l5 : w5.cell? ⟨la, 2, none⟩ = some (.int .i64 xn) := cell_of_block HL5.out; clear k5 b5) | (go_at_call 9; refine (dwrite j (some ⟨g5, 0, none⟩) 160 _ HB5.out.plt lj K5.out.rd (by omega)).mono ?_; rintro e w6 ⟨S6, rfl, p6, t6⟩; (try dsimp only); have HB6 := Lib.hid (HB5.out.step1 p6 t6); have HL6 : Hid (w6.heap[la]? = _) := Lib.hid (HB5.out.blk1 t6 HL5.out (by decide) (by decide) (by decide)); have l6 : w6.cell? ⟨la, 2, none⟩ = some (.int .i64 xn) := cell_of_block HL6.out; clear p6 t6) | (go_at_call 24; refine (rwrite j (some ⟨g7, 0, none⟩) 160 _ HB7.out.rplt lj K7.out.rd (by omega)).mono ?_; rintro e w8 ⟨R8, rfl, p8', t8⟩; (try dsimp only); have HE : Hid (ActMid w p r N (i + 1) w8) := Lib.hid ⟨_, _, _, _, HB7.out.step2 p8' t8, by omega⟩; clear p8' t8) | fail)
            all_goals
              go_wp2_with fail
              go_meet
              case rel => exact HE
          · obtain ⟨K, hK⟩ : ∃ K : Int, (kk : Int) - 1 = K := ⟨_, rfl⟩
            have HKV : Hid (¬ (0 ≤ K ∧ K < (N : Int))) := Lib.hid (by omega)
            have e3 := hK
            clear hkk hM hv hK
            go_wp2_with fail
            refine (HKK.out _).mono ?_
            rintro e w' ⟨rfl, hw⟩
            obtain rfl := hw.symm
            go_wp2_with fail
            clear e2 e3
            go_region_with (first | (go_at_call 10; refine (show Calls Try.prog _ _ _ (AllRet xn _) from (have _ := HB6; lall xn w5)).mono ?_; rintro e w7 ⟨g7, rfl, k7, b7, _⟩; (try dsimp only); have HB7 := Lib.hid (HB6.out.more b7); have K7 := Lib.hid k7; clear k7 b7) | (go_at_call 10; refine (lall xn v4.drew).mono ?_; rintro e w5 ⟨g5, rfl, k5, b5, _⟩; (try dsimp only); have HB5 := Lib.hid (HB4d.out.more b5); have K5 := Lib.hid k5; have HL5 : Hid (w5.heap[la]? = _) := Lib.hid ((b5.block la (heap_lt HL4.out)).trans HL4.out); have l5 : w5.cell? ⟨la, 2, none⟩ = some (.int .i64 xn) := cell_of_block HL5.out; clear k5 b5) | (go_at_call 9; refine (dwrite_no K (some ⟨g5, 0, none⟩) 160 160 HB5.out.plt (fun h => HKV.out ⟨h.1, h.2.1⟩)).mono ?_; rintro e w6 ⟨rfl, hw6⟩; obtain rfl := hw6.symm; (try dsimp only); have HB6 := HB5) | (go_at_call 24; refine (rwrite_no K (some ⟨g7, 0, none⟩) 160 160 HB7.out.rplt (fun h => HKV.out ⟨h.1, h.2.1⟩)).mono ?_; rintro e w8 ⟨rfl, hw8⟩; obtain rfl := hw8.symm; (try dsimp only); have HE : Hid (ActMid w p r N (i + 1) w7) := Lib.hid ⟨_, _, _, _, HB7.out, by omega⟩) | fail)
            all_goals
              go_wp2_with fail
              go_meet
              case rel => exact HE
      case rest =>
        clear HB4 HL4 HTY HKS hla hkl hnb
        obtain ⟨S2, R2, d2, nw2, hb, hnw2⟩ := hcut.out
        clear hcut
        have HB := Lib.hid hb
        obtain ⟨ks, hks⟩ : ∃ ks, ksOf d2.pend = ks := ⟨_, rfl⟩
        have hlen : d2.pend.length = ks.length := by rw [← hks]; simp [ksOf]
        obtain ⟨dv, pv, hv, _⟩ := hb.rplt
        have hpl := hv.len
        have hf := hv.form
        rw [hlen] at hf hpl
        obtain ⟨a, cap, rfl, ha⟩ := hf
        have c1 := hv.c1
        have kl : ks.length ≤ 61 := by omega
        have HKS := Lib.hid hks
        have HLN := Lib.hid hlen
        have HPM : Hid (PMem w wc p S2 r R2 N d2 nw2 0 (.slice none 0 0)) := Lib.hid ⟨hb, World.ownsRow_nil _ _ _ _⟩
        clear hb hv ha hks hlen
        go_wp2_with fail
        clear c1
        go_loopg [12, 13, 116] ks.length (fun q s12 s13 s116 v5 => ∃ j : Nat, s116 = .int .i64 (j : Int) ∧ j ≤ ks.length ∧ q = ks.length - j ∧ Hid (PMem w v5 p S2 r R2 N d2 nw2 j s12))
        case atStart => exact ⟨0, rfl, by omega, rfl, HPM⟩
        case round =>
          obtain ⟨j, rfl, hj, rfl, HP⟩ := hrel
          clear HPM HB
          generalize wr = v5 at *
          by_cases hlj : j < ks.length
          · have s1 : (j : Int) < (ks.length : Int) := by omega
            obtain ⟨⟨k, F⟩, hx⟩ : ∃ x, d2.pend[j]? = some x := ⟨_, List.getElem?_eq_getElem (by rw [HLN.out]; exact hlj)⟩
            obtain ⟨dv', pv', hv, _⟩ := HP.out.bm.rplt
            have hf := hv.form
            rw [HLN.out] at hf
            obtain ⟨a', cap', rfl, ha⟩ := hf
            obtain ⟨q, rfl⟩ := ha (by omega)
            obtain ⟨_, d1, _⟩ := hv.at hx
            have c1 := hv.c1
            have HX := Lib.hid hx
            have zz := HP.out.bm.below.size
            clear hv ha hx
            go_wp2_with (at_builtin; refine append_int _ rfl _ _ rfl w.heap.size u12 j (ksOf (d2.pend.take j)) rfl (HP.out.own.alloc _) v5.heap.size (k : Int) rfl (by simp [go_sem]) (by omega) (by simp; omega) ?_; intro g6 cap6 w6 o6 gr6 y6 _; have HP6 := Lib.hid (HP.out.ap HX.out o6 gr6); clear o6 gr6 y6)
            go_roundg (ks.length - (j + 1))
            case measure => omega
            case rel => exact ⟨j + 1, by go_num, by omega, rfl, HP6⟩
          · obtain rfl : j = ks.length := by omega
            have s1 : ¬ (ks.length : Int) < (ks.length : Int) := by omega
            have ho := HP.out.own
            rw [List.take_of_length_le (by rw [HLN.out]; exact Nat.le_refl _), HKS.out] at ho
            obtain ⟨A12, c12, rfl, _⟩ := own_form ho
            have HO := Lib.hid ho
            have HB5 := Lib.hid (HP.out.bm.more (below_drewN 1 v5))
            have HPE := Lib.hid (dpending HB5.out.plt (by omega))
            rw [HKS.out] at HPE
            have e1 : ((nw2 : Int) != (nw2 : Int)) = false := by simp
            clear ho hlj
            go_upto_region 35 with fail
            go_cut [144] from 131 to 144 (fun s144 wx => s144 = .bool false ∧ Hid (BMem w wx p S2 r R2 N d2 nw2 d2 nw2))
            case first =>
              go_region_with (first | (go_at_call 11; refine HPE.out.mono ?_; rintro e w6 ⟨A6, c6, rfl, o6, b6⟩; (try dsimp only); have HB6 := Lib.hid (HB5.out.more b6); have HN6 := Lib.hid (own_nums o6); have HO6 := Lib.hid (own_nums (own_keep HO.out ((below_drewN 1 v5).trans b6))); clear o6 b6) | (go_at_call 17; refine (lsame A6 A12 ks ks c6 c12 w6 HN6.out.1 HO6.out.1 (by omega) true ⟨fun _ => rfl, fun _ => rfl⟩).mono ?_; rintro e w7 ⟨rfl, b7⟩; (try dsimp only); have HB7 := Lib.hid (HB6.out.more b7); have y2 : w7.cell? ⟨r, 2, none⟩ = some (.int .i64 (nw2 : Int)) := (by obtain ⟨dv', pv', hv, _⟩ := HB7.out.rplt; exact hv.c2); clear b7) | (go_at_call 15; refine (dwrites HB7.out.plt).mono ?_; rintro e w8 ⟨rfl, hw8⟩; obtain rfl := hw8.symm) | fail)
              all_goals
                have HM7 : Hid (BMem w w7 p S2 r R2 N d2 nw2 d2 nw2) := HB7
                clear HB5 HPE HN6 HO6 HB6 HB7 HO HP y2
                go_wp2_with fail
                go_meet
                case rel => exact ⟨by simp, HM7⟩
            case rest =>
              obtain ⟨rfl, HM7⟩ := hcut
              clear HB5 HPE HO HP e1
              go_wp2_with fail
              go_loopg [14, 15, 16] N (fun q s14 s15 s16 v6 => ∃ k : Nat, s14 = .int .i64 (k : Int) ∧ k ≤ N ∧ q = N - k ∧ Hid (BMem w v6 p S2 r R2 N d2 nw2 d2 nw2))
              case atStart => exact ⟨0, rfl, by omega, rfl, HM7⟩
              case round =>
                obtain ⟨k, rfl, hk, rfl, HQ⟩ := hrel
                clear HM7
                generalize wr = v6 at *
                by_cases hlk : k < N
                · have s3 : (k : Int) < (N : Int) := by omega
                  have HRD := Lib.hid (dread k HQ.out.plt hlk)
                  go_wp2_with fail
                  refine HRD.out.mono ?_
                  rintro e w8 ⟨g8, c8, rfl, k8, b8, hg8, hc8⟩
                  try dsimp only
                  have HK8 := Lib.hid k8
                  have HB8 := Lib.hid b8
                  have v8 : ∀ q, Sem.run Try.prog (convert 26 9 (.slice (some ⟨g8, 0, none⟩) 160 c8)) (w8.drewN q) = .ok (.string (bstr (d2.now k))) (w8.drewN q) := fun q => conv_rd (w := w8.drewN q) k8.rd
                  have HR9 := Lib.hid (fun q => rread k ((HQ.out.more b8).more (below_drewN q w8)).rplt hlk (by omega))
                  have HG8 := Lib.hid hg8
                  clear k8 b8 hg8 HRD
                  generalize bstr (d2.now k) = str at *
                  go_wp2_with fail
                  go_big_quiet ((go_at_call 25; exact Calls.quiet_of_same (HR9.out _)))
                  have x8 : (w8.drewN nq).cell? ⟨g8, 0, none⟩ = some (.int .u8 ((d2.now k 0 : Nat) : Int)) := HK8.out.row8.cell 0 (by omega)
                  have f8 : (w8.drewN nq).frozen? ⟨g8, 0, none⟩ = false := HK8.out.row8.free 0
                  generalize d2.now k 0 = by0 at x8
                  have HX8 : Hid (∀ u, BMem w ((w8.drewN nq).setCell ⟨g8, 0, none⟩ u) p S2 r R2 N d2 nw2 d2 nw2) := Lib.hid (fun u => HQ.out.more ((HB8.out.trans ((below_drewN nq w8).mono HB8.out.size)).setCell (p := ⟨g8, 0, none⟩) HG8.out u))
                  generalize w8.drewN nq = w9 at *
                  clear v8 HR9
                  go_wp2_with fail
                  go_roundg (N - (k + 1))
                  case measure => omega
                  case rel => exact ⟨k + 1, by go_num, by omega, rfl, Lib.hid (HX8.out _)⟩
                · obtain rfl : k = N := by omega
                  have s3 : ¬ (k : Int) < (k : Int) := by omega
                  have HE : Hid (ActMid w p r k (i + 1) v6) := Lib.hid ⟨_, _, _, _, HQ.out, hnw2⟩
                  clear hlk
                  go_wp2_with fail
                  go_roundg (n - (i + 1))
                  case measure => omega
                  case rel => exact ⟨i + 1, by go_num, by omega, rfl, HE⟩
    · obtain rfl : i = n := by omega
      have HE : Hid (Below w.heap.size w v) := Lib.hid HB.out.below
      clear hlt HB
      by_cases hm : m ≤ i
      · have t1 : ¬ (i : Int) < (m : Int) := by omega
        have t2 : decide (i < m) = false := decide_eq_false (by omega)
        go_wp2_with fail
        go_ret
        exact ⟨rfl, HE.out⟩
      · have t1 : (i : Int) < (m : Int) := by omega
        have t2 : ¬ (i : Int) < 60 := by have := HNN.out i rfl; omega
        go_wp2_with fail
        go_ret
        exact ⟨rfl, HE.out⟩
end Go.Proofs.Ytohmoakahfpjpaa
