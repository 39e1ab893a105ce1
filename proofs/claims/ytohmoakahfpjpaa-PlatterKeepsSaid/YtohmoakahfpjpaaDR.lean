import Derived.Test.YtohmoakahfpjpaaDQ
import Derived.Test.YtohmoakahfpjpaaDKb
import Derived.Deep.RegionHeld
namespace Go.Proofs.Ytohmoakahfpjpaa
open Go.RowKit Go.Sort
set_option maxRecDepth 100000
set_option maxHeartbeats 8000000

theorem platterKeeps (A : Option Addr) (L : List AI) (c0 : Nat) (x1 : Int) (A2 : Option Addr) (xs : List Int) (c2 : Nat) (w : World) (hL : ActsIn w A L) (hl : L.length ≤ 9223372036854775807) (hxs : Nums w A2 xs) (hxl : xs.length ≤ 9223372036854775807) :
    Calls Try.prog 5 #[.slice A L.length c0, .int .i64 x1, .slice A2 xs.length c2] w fun e w' => e = .returned (.bool true) ∧ Below w.heap.size w w' := by
  have HLL := Lib.hid hL
  have HXS := Lib.hid hxs
  obtain ⟨m, hm⟩ : ∃ m, L.length = m := ⟨_, rfl⟩
  rw [hm] at hl ⊢
  have HM := Lib.hid hm
  obtain ⟨n, hn⟩ : ∃ n, n = min m 30 := ⟨_, rfl⟩
  have n30 : n ≤ 30 := by omega
  have nm : n ≤ m := by omega
  have HNN : Hid (n = min m 30) := Lib.hid hn
  obtain ⟨n1, hn1⟩ : ∃ n1, n + 1 = n1 := ⟨_, rfl⟩
  obtain ⟨fl, lfl, hfl⟩ := rpickN x1 n1 (by omega) (by omega)
  have HFL := Lib.hid hfl
  have e1 : (n : Int) + 1 = (n1 : Int) := by omega
  have HN := Lib.hid (dnew_of w 6 6 (by omega) (by rfl))
  clear hfl hL hxs hm hn hn1
  go_enter Try.func5, Try.ntmps5
  go_wp2_with fail
  refine HN.out.mono ?_
  rintro e w1 ⟨p, S1, rfl, P1, B1, E1⟩
  try dsimp only
  have HP1 := Lib.hid P1
  have HB1 : Hid (Below w.heap.size w w1 ∧ ∀ k ∈ S1, w.heap.size ≤ k) := Lib.hid ⟨B1, E1⟩
  clear P1 B1 E1 HN
  go_wp2_with fail
  refine (dknown w1).mono ?_
  rintro e w2 ⟨rfl, B2⟩
  try dsimp only
  have HP2 := Lib.hid (HP1.out.below B2)
  have HB2 : Hid (Below w.heap.size w w2 ∧ ∀ k ∈ S1, w.heap.size ≤ k) := Lib.hid ⟨HB1.out.1.trans (B2.mono HB1.out.1.size), HB1.out.2⟩
  clear B2 HP1 HB1
  go_wp2_with fail
  have HQ0 : Hid (QRel1 w p S1 w2.heap.size 0 (w2.alloc (.cells #[.map none, .map none, .map none, .map none, .map none, .map none] 50))) := Lib.hid ⟨fun _ => none, fun _ _ => false, ⟨HP2.out.below ((Below.refl _ _).alloc (Nat.le_refl _) _), HB2.out.2, HB2.out.1.alloc HB2.out.1.size _, ⟨_, alloc_block _ _, Nat.le_refl _, fun j hj => by
    match j, hj with
    | 0, _ => rfl
    | 1, _ => rfl
    | 2, _ => rfl
    | 3, _ => rfl
    | 4, _ => rfl
    | 5, _ => rfl⟩, HB2.out.1.size, fun j m _ hm => by simp at hm, fun i j m _ _ _ hm => by simp at hm⟩, fun k hk => absurd hk (Nat.not_lt_zero _)⟩
  have hmm := @run_makeMap Try.prog
  clear HP2 HB2
  generalize w2.alloc (.cells #[.map none, .map none, .map none, .map none, .map none, .map none] 50) = w3 at *
  generalize w2.heap.size = ma at *
  go_loopg [9, 27] 6 (fun q s9 s27 v => ∃ i : Nat, s27 = .int .i64 (i : Int) ∧ i ≤ 6 ∧ q = 6 - i ∧ Hid (QRel1 w p S1 ma i v))
  case atStart => exact ⟨0, rfl, by omega, rfl, HQ0⟩
  case round =>
    obtain ⟨i, rfl, hi, rfl, HS⟩ := hrel
    clear HQ0
    obtain ⟨mo, fs, hq, hf⟩ := HS.out
    have HQ := Lib.hid hq
    have HF := Lib.hid hf
    clear HS hq hf
    generalize wr = v at *
    by_cases hlt : i < 6
    · have t1 : (i : Int) < 6 := by omega
      go_wp2_with (refine map_put _ rfl (.tmp 31) (.const (.int .u8 0)) (.const (.bool true)) (Or.inr rfl) v.heap.size 0 0 true (fun _ => false) rfl rfl rfl (MB.made v) (by omega) (by omega) ?_; intro w4 mb4 gr4; have HQ4 := Lib.hid (HQ.out.more (Below.grown ((Below.refl _ _).alloc (Nat.le_refl _) _) gr4 (by simp) (fun i hi => by cases hi; exact Nat.le_refl _))); have HM4 := Lib.hid mb4; have HG4 := Lib.hid gr4; have y0 := HQ4.out.may.cell hlt; have y1 := HQ4.out.may.free i; clear mb4 gr4)
      go_roundg (6 - (i + 1))
      case measure => omega
      case rel => exact ⟨i + 1, by go_num, by omega, rfl, Lib.hid ⟨_, _, HQ.out.newMap hlt (by omega) HM4.out HG4.out, fun k hk => by
        try dsimp only
        by_cases e : k = i
        · subst e
          rw [if_pos rfl]
          exact ⟨rfl, v.heap.size, if_pos rfl⟩
        · rw [if_neg e, if_neg e]
          exact HF.out k (by omega)⟩⟩
    · obtain rfl : i = 6 := by omega
      have t1 : ¬ ((6 : Nat) : Int) < 6 := by omega
      clear hlt
      generalize v = v0 at *
      go_upto_region 10 with fail
      go_cut [10] from 35 to 37 (fun s10 wx => s10 = .int .i64 (n : Int) ∧ v0 = wx)
      case first =>
        have hnn := HNN.out
        go_wp2_with fail
        all_goals
          go_meet
          case rel => exact ⟨congrArg (Value.int .i64) (by omega), rfl⟩
      case rest =>
        obtain ⟨rfl, rfl⟩ := hcut
        go_wp2_with fail
        refine (HFL.out _).mono ?_
        rintro e w' ⟨rfl, hw⟩
        obtain rfl := hw.symm
        clear e1
        go_wp2_with fail
        have HQ0 : Hid (QRel2 w p ma v0.heap.size 0 (v0.alloc (.cells #[.int .u8 0, .int .u8 0, .int .u8 0, .int .u8 0, .int .u8 0, .int .u8 0] 51))) := Lib.hid ⟨S1, Disk.blank, mo, fs, fun _ => 0, ⟨HQ.out.more ((Below.refl _ _).alloc (Nat.le_refl _) _), ⟨_, alloc_block _ _, Nat.le_refl _, fun j hj => by
          match j, hj with
          | 0, _ => rfl
          | 1, _ => rfl
          | 2, _ => rfl
          | 3, _ => rfl
          | 4, _ => rfl
          | 5, _ => rfl⟩, HQ.out.below.size, fun k hk => (HF.out k hk).2⟩, kInv_start fs (fun k hk => (HF.out k hk).1)⟩
        clear HQ HF
        generalize v0.alloc (.cells #[.int .u8 0, .int .u8 0, .int .u8 0, .int .u8 0, .int .u8 0, .int .u8 0] 51) = w5 at *
        generalize v0.heap.size = la at *
        go_loopg [12, 13, 14, 15, 81] n (fun q s12 s13 s14 s15 s81 v => ∃ i : Nat, s12 = .int .i64 (i : Int) ∧ i ≤ n ∧ q = n - i ∧ Hid (QRel2 w p ma la i v))
        case atStart => exact ⟨0, rfl, by omega, rfl, HQ0⟩
        case round =>
          obtain ⟨i, rfl, hi, rfl, HS⟩ := hrel
          clear HQ0
          obtain ⟨S, d, mo, fs, last, hq, hk⟩ := HS.out
          have HQ := Lib.hid hq
          have HKI := Lib.hid hk
          clear HS hq hk
          generalize wr = v at *
          by_cases hlt : i < n
          · have t1 : (i : Int) < (n : Int) := by omega
            obtain ⟨x, hx⟩ : ∃ x, L[i]? = some x := ⟨_, List.getElem?_eq_getElem (by rw [HM.out]; omega)⟩
            obtain ⟨xw, xk, xn, xa, xsk, xc⟩ := x
            obtain ⟨g, o, rfl, hg, _, c1', c2', _, _, _, _⟩ := HLL.out i _ hx
            dsimp only at c1' c2'
            have HC : Hid (∀ W, Below w.heap.size w W → W.cell? ⟨g, o + i * 4 + 1, none⟩ = some (.int .i64 xk) ∧ W.cell? ⟨g, o + i * 4 + 2, none⟩ = some (.int .i64 xn)) := Lib.hid (fun W hW => ⟨(hW.cell (p := ⟨g, o + i * 4 + 1, none⟩) hg).trans c1', (hW.cell (p := ⟨g, o + i * 4 + 2, none⟩) hg).trans c2'⟩)
            have e1 := (HC.out v HQ.out.qm.below).1
            have e2 := (HC.out v HQ.out.qm.below).2
            obtain ⟨k, lk, hk⟩ := rpickN xk 6 (by omega) (by omega)
            obtain ⟨q, lq, hq⟩ := rpickN xn 250 (by omega) (by omega)
            have HK := Lib.hid hk
            have HQQ := Lib.hid hq
            obtain ⟨c, hc⟩ : ∃ c, 1 + q = c := ⟨_, rfl⟩
            have lc : c < 256 := by omega
            have e3 : (1 : Int) + (q : Int) = (c : Int) := by omega
            have e4 : (c : Int) % 256 = (c : Int) := by omega
            have HBC : Hid (byteOf (c : Int) = c) := Lib.hid (by unfold byteOf; omega)
            clear hk hq hx c1' c2' hg hc
            go_wp2_with fail
            refine (HK.out _).mono ?_
            rintro e w' ⟨rfl, hw⟩
            obtain rfl := hw.symm
            go_wp2_with fail
            refine (HQQ.out _).mono ?_
            rintro e w' ⟨rfl, hw⟩
            obtain rfl := hw.symm
            go_wp2_with fail
            refine (lall (c : Int) v).mono ?_
            rintro e w6 ⟨g6, rfl, k6, b6, _⟩
            try dsimp only
            rw [HBC.out] at k6
            have HA6 := Lib.hid k6
            have HQ6 := Lib.hid (HQ.out.more b6)
            clear k6 b6 HQ e1 e2 e3 e4
            go_wp2_with fail
            refine (dwrite k (some ⟨g6, 0, none⟩) 160 _ HQ6.out.qm.plt lk HA6.out.rd (by omega)).mono ?_
            rintro e w7 ⟨S7, rfl, p7, t7⟩
            try dsimp only
            have HQ7 := Lib.hid (HQ6.out.step p7 t7)
            clear p7 t7 HQ6 HA6
            obtain ⟨mb, hmb⟩ := HQ7.out.all k lk
            obtain ⟨_, q7, hq7, m7⟩ := HQ7.out.qm.maps k mb lk hmb
            have y0 := HQ7.out.qm.may.cell lk
            rw [hmb] at y0
            have HMB := Lib.hid m7
            have HHM := Lib.hid hmb
            clear m7 hmb
            by_cases hfl : i + 1 = fl
            · have t5 : ((i : Int) + 1 == (fl : Int)) = true := by rw [beq_iff_eq]; omega
              go_wp2_with (refine map_put _ rfl (.tmp 70) (.tmp 71) (.const (.bool true)) (Or.inl rfl) mb q7 c true (fs k) rfl rfl rfl HMB.out (by omega) lc ?_; intro w8 mb8 gr8; have HQ8 := Lib.hid (HQ7.out.putMap lk HHM.out (by omega) mb8 gr8); have z0 := HQ8.out.last.cell lk; have z1 := HQ8.out.last.free k; clear mb8 gr8)
              have HQ9 : Hid (QL w (w8.setCell ⟨la, k, none⟩ (.int .u8 (c : Int))) p S7 (d.write k (fun _ => c)) (i + 1) ma la (1 + i + 1) mo (fun j => if j = k then (fun x => if x = c then true else fs k x) else fs j) (fun j => if j = k then c else last j)) := Lib.hid (HQ8.out.putLast lk)
              have HK9 := Lib.hid (HKI.out.write k c lc)
              clear HQ8 HKI z0 z1 HMB HHM y0 hfl t5
              generalize w8.setCell ⟨la, k, none⟩ (.int .u8 (c : Int)) = w9 at *
              generalize (fun j => if j = k then (fun x => if x = c then true else fs k x) else fs j) = fs9 at *
              obtain ⟨ls, hls⟩ : ∃ ls : Nat → Nat, ls = (fun j => if j = k then c else last j) := ⟨_, rfl⟩
              rw [← hls] at HQ9 HK9
              clear hls
              refine (dflush HQ9.out.qm.plt).mono ?_
              rintro e w10 ⟨S10, rfl, p10, t10⟩
              try dsimp only
              have HQ10 : Hid (QRel3 w p S10 (d.write k (fun _ => c)).flush (i + 1) ma la (1 + i + 1) ls 0 w10) := Lib.hid ⟨mo, fs9, HQ9.out.step p10 t10, fun k hk => absurd hk (Nat.not_lt_zero _)⟩
              clear p10 t10 HQ9
              go_wp2_with fail
              go_loopg [15, 81] 6 (fun q s15 s81 v2 => ∃ j : Nat, s81 = .int .i64 (j : Int) ∧ j ≤ 6 ∧ q = 6 - j ∧ Hid (QRel3 w p S10 (d.write k (fun _ => c)).flush (i + 1) ma la (1 + i + 1) ls j v2))
              case atStart => exact ⟨0, rfl, by omega, rfl, HQ10⟩
              case round =>
                obtain ⟨j, rfl, hj, rfl, HR⟩ := hrel
                clear HQ10
                obtain ⟨mo3, fs3, hq3, hf3⟩ := HR.out
                have HQ3 := Lib.hid hq3
                have HF3 := Lib.hid hf3
                clear HR hq3 hf3
                generalize wr = v2 at *
                by_cases hlj : j < 6
                · have s1 : (j : Int) < 6 := by omega
                  have x0 := HQ3.out.last.cell hlj
                  have zla := HQ3.out.last.lt
                  have hlc : ls j < 256 := (HK9.out.now j hlj).2
                  have HLC := Lib.hid hlc
                  clear hlc
                  go_wp2_with (refine map_put _ rfl (.tmp 85) (.tmp 88) (.const (.bool true)) (Or.inr rfl) v2.heap.size 0 (ls j) true (fun _ => false) rfl rfl rfl (MB.made v2) (by omega) HLC.out ?_; intro w4 mb4 gr4; have HQ4 := Lib.hid (HQ3.out.more (Below.grown ((Below.refl _ _).alloc (Nat.le_refl _) _) gr4 (by simp) (fun i hi => by cases hi; exact Nat.le_refl _))); have HM4 := Lib.hid mb4; have HG4 := Lib.hid gr4; have y0 := HQ4.out.qm.may.cell hlj; have y1 := HQ4.out.qm.may.free j; clear mb4 gr4)
                  go_roundg (6 - (j + 1))
                  case measure => omega
                  case rel => exact ⟨j + 1, by go_num, by omega, rfl, Lib.hid ⟨_, _, HQ3.out.newMap hlj (by omega) HM4.out HG4.out, fun k' hk' => by
                    try dsimp only
                    by_cases e : k' = j
                    · subst e
                      simp
                    · rw [if_neg e]
                      exact HF3.out k' (by omega)⟩⟩
                · obtain rfl : j = 6 := by omega
                  have s1 : ¬ ((6 : Nat) : Int) < 6 := by omega
                  have HE : Hid (QRel2 w p ma la (i + 1) v2) := Lib.hid ⟨_, _, _, _, _, HQ3.out, HK9.out.flush HF3.out⟩
                  clear hlj
                  go_wp2_with fail
                  go_roundg (n - (i + 1))
                  case measure => omega
                  case rel => exact ⟨i + 1, by go_num, by omega, rfl, HE⟩
            · have t5 : ((i : Int) + 1 == (fl : Int)) = false := by rw [beq_eq_false_iff_ne]; omega
              go_wp2_with (refine map_put _ rfl (.tmp 70) (.tmp 71) (.const (.bool true)) (Or.inl rfl) mb q7 c true (fs k) rfl rfl rfl HMB.out (by omega) lc ?_; intro w8 mb8 gr8; have HQ8 := Lib.hid (HQ7.out.putMap lk HHM.out (by omega) mb8 gr8); have z0 := HQ8.out.last.cell lk; have z1 := HQ8.out.last.free k; clear mb8 gr8)
              have HQ9 : Hid (QRel2 w p ma la (i + 1) (w8.setCell ⟨la, k, none⟩ (.int .u8 (c : Int)))) := Lib.hid ⟨_, _, _, _, _, HQ8.out.putLast lk, HKI.out.write k c lc⟩
              go_roundg (n - (i + 1))
              case measure => omega
              case rel => exact ⟨i + 1, by go_num, by omega, rfl, HQ9⟩
          · obtain rfl : i = n := by omega
            have t1 : ¬ (i : Int) < (i : Int) := by omega
            have HKE : Hid (∀ k, k < 6 → ∃ c, c < 256 ∧ (d.crash (keepF xs)).now k = (fun _ => c) ∧ fs k c = true) := Lib.hid (fun k hk => HKI.out.crash _ k hk)
            have HCR := Lib.hid (dcrash A2 xs c2 HQ.out.qm.plt (HXS.out.keep HQ.out.qm.below) hxl (by omega))
            clear hlt HKI
            go_wp2_with fail
            refine HCR.out.mono ?_
            rintro e w6 ⟨S6, rfl, p6, t6⟩
            try dsimp only
            have HQ6 := Lib.hid (HQ.out.step p6 t6)
            clear p6 t6 HQ HCR
            go_wp2_with fail
            go_loopg [16, 17, 18, 95] 6 (fun q s16 s17 s18 s95 v2 => ∃ j : Nat, s95 = .int .i64 (j : Int) ∧ j ≤ 6 ∧ q = 6 - j ∧ Hid (QL w v2 p S6 (d.crash (keepF xs)) i ma la (1 + i) mo fs last))
            case atStart => exact ⟨0, rfl, by omega, rfl, HQ6⟩
            case round =>
              obtain ⟨j, rfl, hj, rfl, HV⟩ := hrel
              clear HQ6
              generalize wr = v2 at *
              by_cases hlj : j < 6
              · have s1 : (j : Int) < 6 := by omega
                obtain ⟨c, lc, hc, hfc⟩ := HKE.out j hlj
                have HRD := Lib.hid (dread j HV.out.qm.plt hlj)
                rw [hc] at HRD
                obtain ⟨mb, hmb⟩ := HV.out.all j hlj
                obtain ⟨_, q7, hq7, m7⟩ := HV.out.qm.maps j mb hlj hmb
                have HMM := Lib.hid m7
                have HFC := Lib.hid hfc
                have HMB := Lib.hid hmb
                have HBC : Hid (byteOf (c : Int) = c) := Lib.hid (by unfold byteOf; omega)
                clear hc m7 hfc hmb
                go_wp2_with fail
                refine HRD.out.mono ?_
                rintro e w8 ⟨g8, c8, rfl, k8, b8, _, hc8⟩
                try dsimp only
                have HK8 := Lib.hid k8
                have HV8 := Lib.hid (HV.out.more b8)
                have HM8 := Lib.hid (HMM.out.keep (b8.block mb HMM.out.lt))
                clear k8 b8 HRD HV HMM
                have y0 : w8.drew.cell? ⟨ma, j, none⟩ = some (.map (some mb)) := by have := HV8.out.qm.may.cell hlj; rw [HMB.out] at this; exact this
                have y1 : w8.drew.cell? ⟨g8, 0, none⟩ = some (.int .u8 (c : Int)) := HK8.out.row8.cell 0 (by omega)
                have y2 : Sem.run Try.prog (Instr.lookup 49 (.map (some mb)) (.int .u8 (c : Int)) false) w8.drew = .ok (.bool true) w8.drew := by have := (HM8.out.keep (w' := w8.drew) rfl).look lc; rw [HFC.out] at this; exact this
                have HS : Hid (∀ W, Below w8.heap.size w8 W → W.cell? ⟨ma, j, none⟩ = some (.map (some mb)) ∧ W.cell? ⟨g8, 0, none⟩ = some (.int .u8 (c : Int)) ∧ Sem.run Try.prog (convert 26 9 (.slice (some ⟨g8, 0, none⟩) 160 c8)) W = .ok (.string (sb (c : Int))) W) := Lib.hid (fun W hW => ⟨(hW.cell (p := ⟨ma, j, none⟩) HV8.out.qm.may.lt).trans y0, (hW.cell (p := ⟨g8, 0, none⟩) HK8.out.lt).trans y1, blk_conv (HK8.out.below hW) (by rw [HBC.out])⟩)
                have hS0 := HS.out w8.drew (below_drewN 1 w8)
                have HAL : Hid (Calls Try.prog 10 #[.int .i64 (c : Int)] w8.drew (AllK w8 (c : Int))) := Lib.hid (allK _ (below_drewN 1 w8))
                have m1 : IntKind.i64.wrap (c : Int) = (c : Int) := IntWalk.i64_in _ (by omega)
                clear y0 y1
                go_wp2_with fail
                go_region_held (fun W => W.cell? ⟨ma, j, none⟩ = some (.map (some mb)) ∧ W.cell? ⟨g8, 0, none⟩ = some (.int .u8 (c : Int)) ∧ Sem.run Try.prog (convert 26 9 (.slice (some ⟨g8, 0, none⟩) 160 c8)) W = .ok (.string (sb (c : Int))) W)
                  (first | assumption | exact HS.out _ hbW)
                  (first | (go_at_call 10; (with_reducible refine HAL.out.mono ?_); rintro e w9 ⟨g9, rfl, v9, hbW⟩; (try dsimp only); have HV9 := Lib.hid (HV8.out.more hbW)) | fail)
                all_goals
                  clear hS0 y2 HS HAL
                  go_wp2_with fail
                  go_roundg (6 - (j + 1))
                  case measure => omega
                  case rel => exact ⟨j + 1, by go_num, by omega, rfl, HV9⟩
              · obtain rfl : j = 6 := by omega
                have s1 : ¬ ((6 : Nat) : Int) < 6 := by omega
                have HPE := Lib.hid (show Calls Try.prog _ _ _ (DPendRet [] v2) from dpending HV.out.qm.plt (by omega))
                clear hlj
                go_wp2_with fail
                refine HPE.out.mono ?_
                rintro e w9 ⟨A9, c9, rfl, _, b9⟩
                try dsimp only
                have HE : Hid (Below w.heap.size w w9) := Lib.hid (HV.out.qm.below.trans (b9.mono HV.out.qm.below.size))
                clear b9 HV HPE
                go_wp2_with fail
                go_ret
                exact ⟨rfl, HE.out⟩
end Go.Proofs.Ytohmoakahfpjpaa
