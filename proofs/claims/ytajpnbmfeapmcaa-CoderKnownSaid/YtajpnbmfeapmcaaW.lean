import Derived.Test.YtajpnbmfeapmcaaV
namespace Go.Proofs.Ytajpnbmfeapmcaa
open Go.RowKit Go.Sort
set_option maxRecDepth 100000
set_option maxHeartbeats 1000000

/-- What the statements' rows are: the numbers n and c of a right one. -/
theorem RightP.at {xss : List (List Nat)} (h : RightP xss) : ∃ c, 1 ≤ c ∧ c ≤ 64 ∧ ∀ (i : Nat) (xs : List Nat), xss[i]? = some xs → xs.length = c := h.2.2

theorem mmul (f : Nat) (a b : Option Addr) (xss yss : List (List Nat)) (ca cb c : Nat) (w : World) (hf : Fld w f) (hx : RawIn w a xss) (hy : RawIn w b yss) (px : RightP xss) (py : RightP yss) (bx : Bytes xss) (bY : Bytes yss)
    (hm : ∀ (i : Nat) (xs : List Nat), xss[i]? = some xs → xs.length = yss.length) (hc : ∀ (i : Nat) (ys : List Nat), yss[i]? = some ys → ys.length = c) :
    Calls Try.prog 27 #[.pointer (some ⟨f, 0, none⟩), .slice a xss.length ca, .slice b yss.length cb] w fun e w' => e = .returned (.slice (some ⟨w.heap.size, 0, none⟩) xss.length xss.length) ∧
      Own w' w.heap.size xss.length c (fun i => w.heap.size + 1 + i) (fun _ => c) (mm yss.length (ent xss) (ent yss)) ∧ Below w.heap.size w w' := by
  have hr := And.intro px.1 px.2.1
  have hn := And.intro py.1 py.2.1
  have hc1 : 1 ≤ c ∧ c ≤ 64 := by
    obtain ⟨_, _, c', h1, h2, h3⟩ := py
    obtain ⟨y0, hy0⟩ : ∃ y0, yss[0]? = some y0 := ⟨_, List.getElem?_eq_getElem (by omega)⟩
    have := h3 0 y0 hy0
    have := hc 0 y0 hy0
    omega
  have HX := Lib.hid hx
  have HY := Lib.hid hy
  have HF := Lib.hid hf
  have PX := Lib.hid px
  have PY := Lib.hid py
  have BX := Lib.hid (ent_lt bx)
  have BY := Lib.hid (ent_lt bY)
  have HM := Lib.hid (fun i xs => hm i xs)
  have HC := Lib.hid (fun i ys => hc i ys)
  obtain ⟨ab, ao, ag, aq, acap, rfl, hab, hag, a0, _⟩ := hx.at (i := 0) (j := 0) (by omega) (fun xs h => hm 0 xs h) (by omega)
  obtain ⟨bb, bo, bg, bq, bcap, rfl, hbb, hbg, b0, _⟩ := hy.at (i := 0) (j := 0) (by omega) (fun ys h => hc 0 ys h) (by omega)
  rw [Nat.add_zero] at a0 b0
  have R1 := Lib.hid (mright (some ⟨ab, ao, none⟩) xss ca w hx (by omega) true ⟨fun _ => px, fun _ => rfl⟩)
  have R2 := Lib.hid (mright (some ⟨bb, bo, none⟩) yss cb w hy (by omega) true ⟨fun _ => py, fun _ => rfl⟩)
  have R3 := Lib.hid (mzeros xss.length c w (by omega) (by omega))
  clear hx hy hf px py bx bY hm hc
  obtain ⟨r, hrl⟩ : ∃ r, xss.length = r := ⟨_, rfl⟩
  obtain ⟨n, hnl⟩ : ∃ n, yss.length = n := ⟨_, rfl⟩
  have HRL := Lib.hid hrl
  have HNL := Lib.hid hnl
  obtain ⟨H, hH⟩ : ∃ H, w.heap.size = H := ⟨_, rfl⟩
  have HH := Lib.hid hH
  rw [hH] at hab hbb hag hbg
  rw [hrl] at hr R1
  rw [hnl] at hn a0 R2
  rw [hrl, hH] at R3
  rw [hrl, hnl, hH]
  clear hH hrl hnl
  obtain ⟨P, hP⟩ : ∃ P, P = mm n (ent xss) (ent yss) := ⟨_, rfl⟩
  rw [← hP]
  have HP := Lib.hid hP
  clear hP
  have hr0 : (0 : Int) < (r : Int) := by omega
  have hn0 : (0 : Int) < (n : Int) := by omega
  go_enter Try.func27, Try.ntmps27
  go_wp2_with fail
  refine R1.out.mono ?_
  rintro e w' ⟨rfl, hw⟩
  obtain rfl := hw.symm
  go_wp2_with fail
  refine R2.out.mono ?_
  rintro e w' ⟨rfl, hw⟩
  obtain rfl := hw.symm
  go_wp2_with fail
  refine R3.out.mono ?_
  rintro e w3 ⟨rfl, o3, b3⟩
  have H0 : Hid (Own w3 H r c (fun i => H + 1 + i) (fun _ => c) (fun i k => if i < 0 then P i k else 0) ∧ Below H w w3) := Lib.hid ⟨o3.congr (fun i _ j _ => by rw [if_neg (by omega)]), b3⟩
  clear o3 b3 R1 R2 R3
  go_wp2_with fail
  go_loopg [8, 9, 10, 11, 42] r (fun q s8 s9 s10 s11 s42 v => ∃ i : Nat, s42 = .int .i64 (i : Int) ∧ i ≤ r ∧ q = r - i ∧ Hid (Own v H r c (fun i => H + 1 + i) (fun _ => c) (fun i' k => if i' < i then P i' k else 0) ∧ Below H w v))
  case atStart => exact ⟨0, rfl, by omega, rfl, H0⟩
  case round =>
    obtain ⟨i, rfl, hi, rfl, HS⟩ := hrel
    clear H0
    by_cases hlt : i < r
    · have hl : (i : Int) < (r : Int) := by omega
      obtain ⟨wr0, rfl⟩ : ∃ wr0 : World, wr0 = wr := ⟨wr, rfl⟩
      obtain ⟨ab', ao', g1, q1, cp1, e, _, hg1, x1, _⟩ := HX.out.at (i := i) (j := 0) (c := n) (by rw [HRL.out]; exact hlt) (fun xs h => (HM.out i xs h).trans HNL.out) (by omega)
      cases e
      rw [HH.out] at hg1
      have x1' := (HS.out.2.cell (p := ⟨ab, ao + i, none⟩) hab).trans x1
      clear x1
      go_wp2_with fail
      go_loopg [10, 11, 49] n (fun q s10 s11 s49 v => ∃ j : Nat, s49 = .int .i64 (j : Int) ∧ j ≤ n ∧ q = n - j ∧ Hid (Own v H r c (fun i => H + 1 + i) (fun _ => c) (fun i' k => if i' < i then P i' k else if i' = i then sx j (fun t => mul (ent xss i t) (ent yss t k)) else 0) ∧ Below H w v))
      case atStart => exact ⟨0, rfl, by omega, rfl, Lib.hid ⟨HS.out.1.congr (fun i' _ k _ => by
        dsimp only
        by_cases h : i' < i
        · rw [if_pos h, if_pos h]
        · rw [if_neg h, if_neg h]
          split <;> rfl), HS.out.2⟩⟩
      case round =>
        obtain ⟨j, rfl, hj, rfl, HJ⟩ := hrel
        by_cases hlj : j < n
        · have hlj' : (j : Int) < (n : Int) := by omega
          obtain ⟨ab', ao', g1', q1', cp1', e, _, hg1', y1, y2⟩ := HX.out.at (i := i) (j := j) (c := n) (by rw [HRL.out]; exact hlt) (fun xs h => (HM.out i xs h).trans HNL.out) hlj
          cases e
          rw [HH.out] at hg1'
          have y1' := (HS.out.2.cell (p := ⟨ab, ao + i, none⟩) hab).trans y1
          have e3 := x1'.symm.trans y1'
          have eg : g1' = g1 ∧ q1' = q1 := by injection e3 with e3; injection e3 with e3; injection e3 with e3; injection e3 with e3 e4; exact ⟨e3.symm, e4.symm⟩
          obtain ⟨rfl, rfl⟩ := eg
          have y2' := (HJ.out.2.cell (p := ⟨g1', q1' + j, none⟩) hg1).trans y2
          obtain ⟨bb', bo', g2, q2, cp2, e, _, hg2, z1, _⟩ := HY.out.at (i := j) (j := 0) (c := c) (by rw [HNL.out]; exact hlj) (fun ys h => HC.out j ys h) (by omega)
          cases e
          rw [HH.out] at hg2
          have z1' := (HJ.out.2.cell (p := ⟨bb, bo + j, none⟩) hbb).trans z1
          have HZ2 : Hid (∀ k, k < c → wr.cell? ⟨g2, q2 + k, none⟩ = some (.int .u8 (ent yss j k : Nat))) := Lib.hid (fun k hk => by
            obtain ⟨bb', bo', g3, q3, cp3, e, _, hg3, u1, u2⟩ := HY.out.at (i := j) (j := k) (c := c) (by rw [HNL.out]; exact hlj) (fun ys h => HC.out j ys h) hk
            cases e
            have e3 := z1.symm.trans u1
            have eg : g3 = g2 ∧ q3 = q2 := by injection e3 with e3; injection e3 with e3; injection e3 with e3; injection e3 with e3 e4; exact ⟨e3.symm, e4.symm⟩
            obtain ⟨rfl, rfl⟩ := eg
            exact (HJ.out.2.cell (p := ⟨g3, q3 + k, none⟩) hg2).trans u2)
          have o1 := HJ.out.1.outer i hlt
          have HR8 := Lib.hid (HJ.out.1.row8 hlt)
          have HFv : Hid (Fld wr f) := Lib.hid (HF.out.keep (by rw [HH.out]; exact HJ.out.2))
          have HAT := Lib.hid (maddTimes f (H + 1 + i) c (ent xss i j) c cp2 g2 q2 _ (fun k => ent yss j k) wr.drew (HFv.out.keep (Below.refl _ _).drew) (by have := HFv.out.lt; have := HF.out.lt; have := HH.out; omega) (BX.out i j)
            (fun k _ => by
              split
              · rw [HP.out]; exact sx_lt (fun _ _ => mul_lt _ _)
              · split
                · exact sx_lt (fun _ _ => mul_lt _ _)
                · decide) (fun k _ => BY.out j k) (HR8.out.keep rfl) HZ2.out (by omega) (by omega) (by omega))
          clear y1 y1' z1 e3
          generalize hxv : ent xss i j = xv at HAT y2'
          have HXV := Lib.hid hxv
          clear hxv
          go_wp2_with fail
          go_still_tail 10, (by kernel_rfl)
          change wpList _ _ _ _ _ wr.drew
          go_wp2_with fail
          refine HAT.out.mono ?_
          rintro e w5 ⟨rfl, r5, g5⟩
          have HN : Hid (Own w5 H r c (fun i => H + 1 + i) (fun _ => c) (fun i' k => if i' < i then P i' k else if i' = i then sx (j + 1) (fun t => mul (ent xss i t) (ent yss t k)) else 0)) :=
            Lib.hid ((HJ.out.1.drew.row_put hlt (by omega) r5 g5).congr (fun i' _ k _ => by
              dsimp only
              by_cases e : i' = i
              · subst e
                rw [if_pos rfl, if_neg (Nat.lt_irrefl _), if_neg (Nat.lt_irrefl _), if_pos rfl, sx_succ, HXV.out]
                first | rfl | (rw [if_pos trivial]) | (rw [if_pos rfl])
              · rw [if_neg e]
                by_cases h : i' < i
                · rw [if_pos h, if_pos h]
                · rw [if_neg h, if_neg h, if_neg e, if_neg e]))
          have HB : Hid (Below H w w5) := Lib.hid (Below.of_only HJ.out.2.drew g5 (by omega) (by rw [← HH.out]; exact HJ.out.2.drew.size))
          clear r5 g5
          go_wp2_with fail
          go_roundg (n - (j + 1))
          case measure => omega
          case rel => exact ⟨j + 1, by go_num, by omega, rfl, Lib.hid ⟨HN.out, HB.out⟩⟩
        · have hge : ¬ (j : Int) < (n : Int) := by omega
          have e : j = n := by omega
          subst e
          go_wp2_with fail
          go_roundg (r - (i + 1))
          case measure => omega
          case rel => exact ⟨i + 1, by go_num, by omega, rfl, Lib.hid ⟨HJ.out.1.congr (fun i' _ k _ => by
            dsimp only
            by_cases h : i' < i
            · rw [if_pos h, if_pos (by omega)]
            · rw [if_neg h]
              by_cases e : i' = i
              · subst e
                rw [if_pos rfl, if_pos (by omega), HP.out]; rfl
              · rw [if_neg e, if_neg (by omega)]), HJ.out.2⟩⟩
    · have hge : ¬ (i : Int) < (r : Int) := by omega
      have e : i = r := by omega
      subst e
      go_wp2_with fail
      go_ret
      exact ⟨rfl, HS.out.1.congr (fun i hi j _ => by dsimp only; rw [if_pos hi]), HS.out.2⟩
end Go.Proofs.Ytajpnbmfeapmcaa
