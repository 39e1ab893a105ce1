import Derived.Test.YtjbicpekpgaokaaChL1
namespace Go.Proofs.Ytjbicpekpgaokaa
open Go.RowKit Go.Sort
set_option maxRecDepth 100000
set_option maxHeartbeats 4000000

theorem chunkLaysOk (y0 : Pc) (hy0 : y0.Ok) (x0 x1 x2 x3 x4 : Int) (a5 a7 : Option Addr) (n5 c5 c7 y : Nat) (F5 : Nat → Nat) (x6 : Int) (xs : List Int) (w : World) (hcy : ∀ w, Calls Try.prog 22 #[.int .i64 x0, .int .i64 x1, .int .i64 x2, .int .i64 x3, .int .i64 x4] w fun e w' => ∃ b, e = .returned (pv (y0.s : Int) (y0.g : Int) (y0.i : Int) (some ⟨b, 0, none⟩) 32 32) ∧ Blk8 w' b 32 y0.D ∧ Below w.heap.size w w' ∧ w.heap.size ≤ b)
    (h5 : Rd w a5 n5 F5) (b5 : ∀ j, j < n5 → F5 j < 256) (l5 : n5 ≤ c5) (m5 : n5 ≤ 140737488355328) (h7 : Nums w a7 xs) (hy : y < 256) :
    Calls Try.prog 8 #[.int .i64 x0, .int .i64 x1, .int .i64 x2, .int .i64 x3, .int .i64 x4, .slice a5 n5 c5, .int .i64 x6, .slice a7 xs.length c7, .int .u8 (y : Int)] w fun e w' => e = .returned (.bool true) ∧ Below w.heap.size w w' := by
  have HCY := Lib.hid hcy
  have H5 := Lib.hid h5
  have B5 := Lib.hid b5
  have H7 := Lib.hid h7
  obtain ⟨p40, l40, hp40⟩ := rpickN x0 40 (by omega) (by omega)
  obtain ⟨p1000, l1000, hp1000⟩ := rpickN x1 1000 (by omega) (by omega)
  have HP40 : Hid (∀ w : World, Calls Try.prog 15 #[.int .i64 x0, .int .i64 40] w fun e w' => e = .returned (.int .i64 (p40 : Int)) ∧ w' = w) := Lib.hid hp40
  have HP1000 : Hid (∀ w : World, Calls Try.prog 15 #[.int .i64 x1, .int .i64 1000] w fun e w' => e = .returned (.int .i64 (p1000 : Int)) ∧ w' = w) := Lib.hid hp1000
  obtain ⟨n7, hn7⟩ : ∃ n7, xs.length = n7 := ⟨_, rfl⟩
  have N7 := Lib.hid hn7
  rw [hn7]
  clear hcy h5 b5 h7 hp40 hp1000 hn7
  have HY0 := Lib.hid hy0
  clear hy0
  go_enter Try.func8, Try.ntmps8
  go_wp2_with fail
  refine (HCY.out w).mono ?_
  rintro e w1 ⟨b1, rfl, hk1, hbl1, hb1⟩
  try dsimp only
  obtain ⟨v1, hv1⟩ : ∃ v1, w1.alloc (.cells #[.int .i64 (y0.s : Int), .int .i64 (y0.g : Int), .int .i64 (y0.i : Int), .slice (some ⟨b1, 0, none⟩) 32 32] 42) = v1 := ⟨_, rfl⟩
  obtain ⟨bp, hbp⟩ : ∃ bp, w1.heap.size = bp := ⟨_, rfl⟩
  have HV1E := Lib.hid hv1
  have HBPE := Lib.hid hbp
  have KP1 : Hid (PV v1 bp (y0.s : Int) (y0.g : Int) (y0.i : Int) (some ⟨b1, 0, none⟩) 32 32) := Lib.hid (by rw [← hv1, ← hbp]; exact PV.new w1 _ _ _ _ _ _)
  have bv1 : Below w1.heap.size w1 v1 := by rw [← hv1]; exact (Below.refl _ _).alloc (Nat.le_refl _) _
  have HW1 : Hid (Below w.heap.size w v1) := Lib.hid (hbl1.trans (bv1.mono hbl1.size))
  have HD1 : Hid (Blk8 v1 b1 32 y0.D) := Lib.hid (hk1.below bv1)
  clear hv1 hbp hk1 hbl1 hb1 bv1
  have HCL := Lib.hid (clay y0 (some ⟨b1, 0, none⟩) 32 v1 HY0.out HD1.out.rd)
  unfold pv at HCL
  go_wp2_with fail
  rw [HV1E.out, HBPE.out]
  refine HCL.out.mono ?_
  rintro e w2 ⟨ga, rfl, ka, hb2, _⟩
  try dsimp only
  have KP2 := Lib.hid (KP1.out.below hb2)
  have HW2 : Hid (Below w.heap.size w w2) := Lib.hid (HW1.out.trans (hb2.mono HW1.out.size))
  have HD2 := Lib.hid (HD1.out.below hb2)
  have c0 := KP2.out.c0
  have c1 := KP2.out.c1
  have c2 := KP2.out.c2
  have c3 := KP2.out.c3
  have KA2 := Lib.hid ka
  have HRL := Lib.hid (rlayB y0 (some ⟨b1, 0, none⟩) 32 w2 HY0.out HD2.out.rd)
  clear ka hb2 HCL KP1 HW1 HD1
  unfold pv at HRL
  go_wp2_with fail
  refine HRL.out.mono ?_
  rintro e w3 ⟨gb, cb, rfl, kb, hb3, hcb, _⟩
  try dsimp only
  have KP3 := Lib.hid (KP2.out.below hb3)
  have HW3 : Hid (Below w.heap.size w w3) := Lib.hid (HW2.out.trans (hb3.mono HW2.out.size))
  have HD3 := Lib.hid (HD2.out.below hb3)
  have KA3 := Lib.hid (KA2.out.below hb3)
  have KB3 := Lib.hid kb
  obtain ⟨s1, hs1⟩ : ∃ s1, strOf ((List.range 160).map (pcS y0)) = s1 := ⟨_, rfl⟩
  have HS1 := Lib.hid hs1
  clear kb hb3 HRL KP2 HW2 HD2 KA2 c0 c1 c2 c3 hs1
  have HC4 : Hid (∀ W, Below w3.heap.size w3 W → (W.cell? ⟨bp, 0, none⟩ = some (.int .i64 (y0.s : Int)) ∧ W.cell? ⟨bp, 1, none⟩ = some (.int .i64 (y0.g : Int)) ∧ W.cell? ⟨bp, 2, none⟩ = some (.int .i64 (y0.i : Int)) ∧ W.cell? ⟨bp, 3, none⟩ = some (.slice (some ⟨b1, 0, none⟩) 32 32) ∧ Sem.run Try.prog (convert 22 9 (.slice (some ⟨ga, 0, none⟩) 160 160)) W = .ok (.string s1) W ∧ Sem.run Try.prog (convert 22 9 (.slice (some ⟨gb, 0, none⟩) 160 cb)) W = .ok (.string s1) W)) := Lib.hid (fun W hW => by
    obtain ⟨e0, e1, e2, e3⟩ := pv_cells KP3.out hW
    exact ⟨e0, e1, e2, e3, by rw [← HS1.out]; exact conv_rd (cap := 160) (KA3.out.below hW).rd, by rw [← HS1.out]; exact conv_rd (cap := cb) (KB3.out.below hW).rd⟩)
  have b0w : Below w3.heap.size w3 w3.drew := below_drewN 1 w3
  have HRT0 : Hid (OkI (y0.s : Int) (y0.g : Int) (y0.i : Int) 32) := Lib.hid ⟨by omega, by have := HY0.out.1; omega, by have := HY0.out.2.1; omega, by have := HY0.out.2.2.1; omega, by omega, by have := HY0.out.2.2.2.1; omega, rfl⟩
  go_upto_region 4 with fail
  go_cut [64] from 47 to 64 (fun s64 wx => s64 = .bool false ∧ Hid (Below w3.heap.size w3 wx))
  case first =>
    go_wp2_with fail
    go_region_held (fun W => W.cell? ⟨bp, 0, none⟩ = some (.int .i64 (y0.s : Int)) ∧ W.cell? ⟨bp, 1, none⟩ = some (.int .i64 (y0.g : Int)) ∧ W.cell? ⟨bp, 2, none⟩ = some (.int .i64 (y0.i : Int)) ∧ W.cell? ⟨bp, 3, none⟩ = some (.slice (some ⟨b1, 0, none⟩) 32 32) ∧ Sem.run Try.prog (convert 22 9 (.slice (some ⟨ga, 0, none⟩) 160 160)) W = .ok (.string s1) W ∧ Sem.run Try.prog (convert 22 9 (.slice (some ⟨gb, 0, none⟩) 160 cb)) W = .ok (.string s1) W)
      (first | (with_reducible assumption) | (with_reducible exact HC4.out _ b0w) | (with_reducible exact HC4.out _ hbW))
      (first
        | (go_at_call 25; (with_reducible refine (cright (y0.s : Int) (y0.g : Int) (y0.i : Int) (some ⟨b1, 0, none⟩) 32 32 _ true (tt_iff HRT0.out)).mono ?_); rintro e w9 ⟨rfl, hb9⟩; (try dsimp only); have hbW := b0w.trans (hb9.mono b0w.size); clear hb9)
        | (go_at_call 26; (with_reducible refine (rright (y0.s : Int) (y0.g : Int) (y0.i : Int) (some ⟨b1, 0, none⟩) 32 32 _ true (tt_iff HRT0.out)).mono ?_); rintro e w9 ⟨rfl, hb9⟩; (try dsimp only); have hbX := hbW.trans (hb9.mono hbW.size); clear hb9 hbW; have hbW := hbX; clear hbX)
        | fail)
    all_goals
      go_wp2_with fail
      go_meet
      exact ⟨rfl, Lib.hid hbW⟩
  case rest =>
    obtain ⟨rfl, HWC⟩ := hcut
    have KP4 := Lib.hid (KP3.out.below HWC.out)
    have HW4 : Hid (Below w.heap.size w wc) := Lib.hid (HW3.out.trans (HWC.out.mono HW3.out.size))
    have HD4 := Lib.hid (HD3.out.below HWC.out)
    have KB4 := Lib.hid (KB3.out.below HWC.out)
    clear KA3 KB3
    clear KP3 HW3 HD3 HWC HC4 HS1 b0w
    obtain ⟨hw0, hhw0⟩ : ∃ bb, decide (0 < x6.tmod 4) = bb := ⟨_, rfl⟩
    have HFR := Lib.hid (rfew a5 n5 c5 n5 n5 F5 wc (H5.out.keep HW4.out) l5 (by omega) (by omega) (by omega))
    go_wp2_with fail
    refine HFR.out.mono ?_
    rintro e w5 ⟨gz0, cz0, rfl, oz, hb5, _, _, hcz0⟩
    try dsimp only
    have KP5 := Lib.hid (KP4.out.below hb5)
    have HW5 : Hid (Below w.heap.size w w5) := Lib.hid (HW4.out.trans (hb5.mono HW4.out.size))
    have HD5 := Lib.hid (HD4.out.below hb5)
    have RZ5 := Lib.hid (own_rd oz)
    have H75 : Hid (Nums w5 a7 xs) := Lib.hid (H7.out.keep HW5.out)
    have KB5 := Lib.hid (KB4.out.below hb5)
    clear KB4
    clear oz hb5 HFR KP4 HW4 HD4
    have HB5R := Lib.hid KB5.out.rd
    go_upto_if 74 with fail
    go_cut [24, 25, 26] from 75 to 122 (fun s24 s25 s26 wx => ∃ gz nz cz FZ, s24 = .slice (some ⟨gz, 0, none⟩) nz cz ∧ nz ≤ cz ∧ Hid (Rd wx (some ⟨gz, 0, none⟩) nz FZ ∧ (∀ j, j < nz → FZ j < 256) ∧ Below w5.heap.size w5 wx))
    case first =>
      rcases hw0 with _ | _
      · go_wp2_with fail
        go_meet
        case rel => exact ⟨gz0, n5, cz0, F5, rfl, hcz0, Lib.hid ⟨RZ5.out, B5.out, Below.refl _ _⟩⟩
      · have HFB := Lib.hid (rfew (some ⟨gb, 0, none⟩) 160 cb 160 160 (pcS y0) w5 HB5R.out hcb (by omega) (by omega) (by omega))
        go_wp2_with fail
        refine HFB.out.mono ?_
        rintro e w4 ⟨gy, cy, rfl, oy, hb4, hgy, _, hcy⟩
        try dsimp only
        have W4 : Hid (Below w5.heap.size w5 w4) := Lib.hid hb4
        have HGY : Hid (w5.heap.size ≤ gy) := Lib.hid hgy
        have OY := Lib.hid oy
        have HY := Lib.hid hy
        clear hb4 oy HFB hgy
        obtain ⟨b0, hb0⟩ : ∃ b0, b0 = w5.heap.size := ⟨_, rfl⟩
        rw [← hb0] at OY
        have HBB : Hid (b0 ≤ w4.heap.size) := Lib.hid (by
          rcases OY.out.2 with ⟨h0, _⟩ | ⟨g', cap', cur, e, hg, hbk, _⟩
          · cases h0
          · have := heap_lt hbk; omega)
        clear hb0
        go_wp2_with fail
        go_loopg [25] 2 (fun q s25 v => ∃ (i : Nat) (F : Nat → Nat), s25 = .int .i64 (i : Int) ∧ i ≤ 2 ∧ q = 2 - i ∧ Hid (v.ownsRow b0 5 1 (.slice (some ⟨gy, 0, none⟩) 160 cy) 160 (rowL 160 F) ∧ (∀ j, j < 160 → F j < 256) ∧ Below w5.heap.size w5 v ∧ b0 ≤ v.heap.size))
        case atStart => exact ⟨0, _, rfl, by omega, rfl, Lib.hid ⟨OY.out, fun j _ => pcS_lt HY0.out j, W4.out, HBB.out⟩⟩
        case round =>
          obtain ⟨i, F, rfl, hi, rfl, HS⟩ := hrel
          clear OY W4 HBB
          obtain ⟨wr0, rfl⟩ : ∃ wr0 : World, wr0 = wr := ⟨wr, rfl⟩
          by_cases hgo : i < n7 ∧ i < 2
          · obtain ⟨hi1, hi2⟩ := hgo
            have g1 : (i : Int) < (n7 : Int) := by omega
            have g2 : (i : Int) < 2 := by omega
            have g3 : (0 : Int) ≤ (i : Int) := by omega
            obtain ⟨z, hz⟩ : ∃ z, xs[i]? = some z := ⟨_, List.getElem?_eq_getElem (by rw [N7.out]; exact hi1)⟩
            obtain ⟨ag, ao, rfl, hag, hac⟩ := H75.out i z hz
            have c1 := (HS.out.2.2.1.cell (p := ⟨ag, ao + i, none⟩) hag).trans hac
            obtain ⟨p, lp, hp⟩ := rpickN z 160 (by omega) (by omega)
            have PZ := Lib.hid hp
            have gp : (p : Int) < 160 := by omega
            have np : (0 : Int) ≤ (p : Int) := by omega
            obtain ⟨fp, hfp⟩ : ∃ fp, F p = fp := ⟨_, rfl⟩
            have c2 := (own_blk HS.out.1).row8.cell p lp
            have f2 := (own_blk HS.out.1).row8.free p
            rw [hfp] at c2
            have hfl : fp < 256 := by rw [← hfp]; exact HS.out.2.1 p lp
            have hxor := bits_xor_u8 fp y hfl HY.out
            clear hfp hac hag hz hp
            go_wp2_with fail
            refine (PZ.out _).mono ?_
            rintro e w' ⟨rfl, hw⟩
            obtain rfl := hw.symm
            go_wp2_with fail
            go_roundg (2 - (i + 1))
            case measure => omega
            case rel => exact ⟨i + 1, _, by go_num, by omega, rfl, Lib.hid ⟨own_put8 HS.out.1 lp, fun j hj => by
              try dsimp only
              split
              · exact xor_lt hfl HY.out
              · exact HS.out.2.1 j hj, HS.out.2.2.1.setCell (p := ⟨gy, p, none⟩) HGY.out _, by simpa [World.setCell] using HS.out.2.2.2⟩⟩
          · have hnb : ((decide ((i : Int) < (n7 : Int))) && (decide ((i : Int) < 2))) = false := by
              rw [Bool.and_eq_false_iff, decide_eq_false_iff_not, decide_eq_false_iff_not]; omega
            have HSD := HS.out
            by_cases hw1 : 1 < x6.tmod 4
            · have RS := Lib.hid (rsum (some ⟨gy, 0, none⟩) 156 cy F wr0 ((own_rd HS.out.1).less (by omega)) (fun j hj => HS.out.2.1 j (by omega)) (by omega))
              have hcy' : (156 : Int) ≤ (cy : Int) := by omega
              have hls := sumF_lt F 156
              obtain ⟨S, hS⟩ : ∃ S, sumF F 156 = S := ⟨_, rfl⟩
              rw [hS] at RS hls
              clear hS HSD
              have GR : Hid (∀ (d : Nat), Rd ((wr0.drewN d).alloc (.cells #[.int .u8 ((S : Int) / 16777216), .int .u8 ((S : Int) / 65536 % 256), .int .u8 ((S : Int) / 256 % 256), .int .u8 ((S : Int) % 256)] 5)) (some ⟨(wr0.drewN d).heap.size, 0, none⟩) 4 (byteAt S 4) ∧ Below (wr0.drewN d).heap.size (wr0.drewN d) ((wr0.drewN d).alloc (.cells #[.int .u8 ((S : Int) / 16777216), .int .u8 ((S : Int) / 65536 % 256), .int .u8 ((S : Int) / 256 % 256), .int .u8 ((S : Int) % 256)] 5))) := Lib.hid (fun d => ⟨lit_rd (by omega) (byte4_lit S hls), (Below.refl _ _).alloc (Nat.le_refl _) _⟩)
              have OL := Lib.hid (own_less8 HS.out.1 (show 156 ≤ 160 by omega))
              have FB := Lib.hid HS.out.2.1
              have WV := Lib.hid HS.out.2.2.1
              have BV := Lib.hid HS.out.2.2.2
              clear HS
              go_wp2_with fail
              all_goals
                refine RS.out.mono ?_
                rintro e w8 ⟨rfl, d, rfl⟩
                try dsimp only
                obtain ⟨hgr, hgb⟩ := GR.out d
                have HGR := Lib.hid hgr
                have HGB := Lib.hid hgb
                have OL8 := Lib.hid (own_keep (w := wr0.drewN d) OL.out hgb)
                have WV8 : Hid (Below w5.heap.size w5 (wr0.drewN d)) := Lib.hid (WV.out.trans ((below_drewN d wr0).mono WV.out.size))
                have HB8 : Hid (b0 ≤ (wr0.drewN d).heap.size) := Lib.hid BV.out
                clear hgr hgb RS GR OL WV BV
                go_wp2_with (at_builtin; refine append_rd _ rfl (.tmp 109) (.tmp 121) 22 rfl Try.underlying22 b0 (.slice (some ⟨gy, 0, none⟩) 156 cy) 156 F rfl OL8.out (some ⟨(wr0.drewN d).heap.size, 0, none⟩) 4 4 (byteAt S 4) rfl HGR.out (by omega) (Nat.le_trans HB8.out HGB.out.size) ?_; intro v1 w9 own0 gr _ hne; have own : w9.ownsRow b0 5 1 v1 160 (rowL 160 (fun j => if j < 156 then F j else byteAt S 4 (j - 156))) := own0; have OZ := Lib.hid own; have W9 : Hid (Below w5.heap.size w5 w9) := Lib.hid (Below.grown (WV8.out.trans (HGB.out.mono WV8.out.size)) gr (Nat.le_trans WV8.out.size HGB.out.size) (fun k hk => by cases hk; exact HGY.out)); obtain ⟨gz, cz, hv, _, _, hcz⟩ := own_some own (hne (by simp)); have HV := Lib.hid hv; clear own0 own gr hne hv)
                obtain rfl := HV.out
                have RZ := Lib.hid (own_rd OZ.out)
                have BZ : Hid (∀ j, j < 160 → (if j < 156 then F j else byteAt S 4 (j - 156)) < 256) := Lib.hid (fun j hj => by
                  split
                  · exact FB.out j hj
                  · exact byteAt_lt _ _ _)
                have WZ := W9
                obtain ⟨FZ, hFZ⟩ : ∃ FZ : Nat → Nat, FZ = fun j => if j < 156 then F j else byteAt S 4 (j - 156) := ⟨_, rfl⟩
                have RZ9 : Hid (Rd w9 (some ⟨gz, 0, none⟩) 160 FZ) := Lib.hid (by rw [hFZ]; exact RZ.out)
                have BZ9 : Hid (∀ j, j < 160 → FZ j < 256) := Lib.hid (by rw [hFZ]; exact BZ.out)
                clear hFZ RZ BZ OZ HV OL8 HGR HGB WV8 W9
                go_wp2_with fail
                go_meet
                case rel => exact ⟨gz, 160, cz, FZ, rfl, hcz, Lib.hid ⟨RZ9.out, BZ9.out, WZ.out⟩⟩
            · have BZ := Lib.hid HS.out.2.1
              have RZ := Lib.hid (own_rd HS.out.1)
              have WZ := Lib.hid HS.out.2.2.1
              have RS := Lib.hid (rsum (some ⟨gy, 0, none⟩) 156 cy F wr0 (RZ.out.less (by omega)) (fun j hj => BZ.out j (by omega)) (by omega))
              have hcy' : (156 : Int) ≤ (cy : Int) := by omega
              clear HS HSD
              go_wp2_with fail
              all_goals
                refine RS.out.mono ?_
                rintro e w8 ⟨rfl, d, rfl⟩
                try dsimp only
                go_wp2_with fail
                go_meet
                case rel => exact ⟨gy, 160, cy, F, rfl, hcy, Lib.hid ⟨RZ.out.drewN d, BZ.out, WZ.out.trans ((below_drewN d wr0).mono WZ.out.size)⟩⟩
    case rest =>
      obtain ⟨gz, nz, cz, FZ, rfl, hcz, HZ⟩ := hcut
      have HW6 : Hid (Below w.heap.size w wc) := Lib.hid (HW5.out.trans (HZ.out.2.2.mono HW5.out.size))
      have KP6 := Lib.hid (KP5.out.below HZ.out.2.2)
      have HD6 := Lib.hid (HD5.out.below HZ.out.2.2)
      obtain ⟨rs, rg, ri, rm, rD, rt, hrD, hrp⟩ := both_readp gz nz cz FZ hcz HZ.out.2.1
      have HRP := Lib.hid hrp
      have HRD := Lib.hid hrD
      have HR6 := Lib.hid HZ.out.1
      clear hrp hrD HZ KP5 HW5 HD5 RZ5 H75 KB5
      go_wp2_with fail
      refine (HRP.out _ HR6.out).1.mono ?_
      rintro e u1 ⟨A1, q1, rfl, r1, hb1⟩
      try dsimp only
      obtain ⟨t1, ht1⟩ : ∃ t1, u1.alloc (.cells #[.int .i64 rs, .int .i64 rg, .int .i64 ri, .slice A1 rm q1] 42) = t1 := ⟨_, rfl⟩
      obtain ⟨bx, hbx⟩ : ∃ bx, u1.heap.size = bx := ⟨_, rfl⟩
      have HT1E := Lib.hid ht1
      have HBXE := Lib.hid hbx
      have bt1 : Below u1.heap.size u1 t1 := by rw [← ht1]; exact (Below.refl _ _).alloc (Nat.le_refl _) _
      have hbt := hb1.trans (bt1.mono hb1.size)
      have KX7 : Hid (PV t1 bx rs rg ri A1 rm q1) := Lib.hid (by rw [← ht1, ← hbx]; exact PV.new u1 _ _ _ _ _ _)
      have RX7 := Lib.hid (r1.keep bt1)
      have HW7 : Hid (Below w.heap.size w t1) := Lib.hid (HW6.out.trans (hbt.mono HW6.out.size))
      have KP7 := Lib.hid (KP6.out.below hbt)
      have HD7 := Lib.hid (HD6.out.below hbt)
      have HR7 := Lib.hid (HR6.out.keep hbt)
      clear ht1 hbx bt1 hbt r1 hb1 HW6 KP6 HD6 HR6
      go_wp2_with fail
      rw [HT1E.out, HBXE.out]
      refine (HRP.out t1 HR7.out).2.mono ?_
      rintro e u2 ⟨A2, q2, rfl, r2, hb2⟩
      try dsimp only
      obtain ⟨t2, ht2⟩ : ∃ t2, u2.alloc (.cells #[.int .i64 rs, .int .i64 rg, .int .i64 ri, .slice A2 rm q2] 42) = t2 := ⟨_, rfl⟩
      obtain ⟨by_, hby⟩ : ∃ by_, u2.heap.size = by_ := ⟨_, rfl⟩
      have HT2E := Lib.hid ht2
      have HBYE := Lib.hid hby
      have bt2 : Below u2.heap.size u2 t2 := by rw [← ht2]; exact (Below.refl _ _).alloc (Nat.le_refl _) _
      have hbt := hb2.trans (bt2.mono hb2.size)
      have KY8 : Hid (PV t2 by_ rs rg ri A2 rm q2) := Lib.hid (by rw [← ht2, ← hby]; exact PV.new u2 _ _ _ _ _ _)
      have RY8 := Lib.hid (r2.keep bt2)
      have KX8 := Lib.hid (KX7.out.below hbt)
      have RX8 := Lib.hid (RX7.out.keep hbt)
      have HW8 : Hid (Below w.heap.size w t2) := Lib.hid (HW7.out.trans (hbt.mono HW7.out.size))
      have KP8 := Lib.hid (KP7.out.below hbt)
      have HD8 := Lib.hid (HD7.out.below hbt).rd
      clear ht2 hby bt2 hbt r2 hb2 HW7 KP7 HD7 HR7 KX7 RX7 HRP
      have HC9 : Hid (∀ W, Below t2.heap.size t2 W → (W.cell? ⟨bp, 0, none⟩ = some (.int .i64 (y0.s : Int)) ∧ W.cell? ⟨bp, 1, none⟩ = some (.int .i64 (y0.g : Int)) ∧ W.cell? ⟨bp, 2, none⟩ = some (.int .i64 (y0.i : Int)) ∧ W.cell? ⟨bp, 3, none⟩ = some (.slice (some ⟨b1, 0, none⟩) 32 32) ∧ W.cell? ⟨bx, 0, none⟩ = some (.int .i64 rs) ∧ W.cell? ⟨bx, 1, none⟩ = some (.int .i64 rg) ∧ W.cell? ⟨bx, 2, none⟩ = some (.int .i64 ri) ∧ W.cell? ⟨bx, 3, none⟩ = some (.slice A1 rm q1) ∧ W.cell? ⟨by_, 0, none⟩ = some (.int .i64 rs) ∧ W.cell? ⟨by_, 1, none⟩ = some (.int .i64 rg) ∧ W.cell? ⟨by_, 2, none⟩ = some (.int .i64 ri) ∧ W.cell? ⟨by_, 3, none⟩ = some (.slice A2 rm q2))) := Lib.hid (fun W hW => by
        obtain ⟨e0, e1, e2, e3⟩ := pv_cells KP8.out hW
        obtain ⟨f0, f1, f2, f3⟩ := pv_cells KX8.out hW
        obtain ⟨g0, g1, g2, g3⟩ := pv_cells KY8.out hW
        exact ⟨e0, e1, e2, e3, f0, f1, f2, f3, g0, g1, g2, g3⟩)
      obtain ⟨tt, htt⟩ : ∃ tt : Bool, tt = true ↔ (y0.s : Int) = rs ∧ (y0.g : Int) = rg ∧ (y0.i : Int) = ri ∧ 32 = rm ∧ ∀ j, j < 32 → y0.D j = rD j := ex_bool _
      have HTT := Lib.hid htt
      have HBD : Hid (∀ j, j < 32 → y0.D j < 256) := Lib.hid (fun j hj => HY0.out.2.2.2.2 j hj)
      have b0w : Below t2.heap.size t2 t2.drew := below_drewN 1 t2
      clear htt
      go_upto_region 18 with fail
      rw [HT2E.out, HBYE.out]
      go_wp2_with fail
      go_region_held (fun W => W.cell? ⟨bp, 0, none⟩ = some (.int .i64 (y0.s : Int)) ∧ W.cell? ⟨bp, 1, none⟩ = some (.int .i64 (y0.g : Int)) ∧ W.cell? ⟨bp, 2, none⟩ = some (.int .i64 (y0.i : Int)) ∧ W.cell? ⟨bp, 3, none⟩ = some (.slice (some ⟨b1, 0, none⟩) 32 32) ∧ W.cell? ⟨bx, 0, none⟩ = some (.int .i64 rs) ∧ W.cell? ⟨bx, 1, none⟩ = some (.int .i64 rg) ∧ W.cell? ⟨bx, 2, none⟩ = some (.int .i64 ri) ∧ W.cell? ⟨bx, 3, none⟩ = some (.slice A1 rm q1) ∧ W.cell? ⟨by_, 0, none⟩ = some (.int .i64 rs) ∧ W.cell? ⟨by_, 1, none⟩ = some (.int .i64 rg) ∧ W.cell? ⟨by_, 2, none⟩ = some (.int .i64 ri) ∧ W.cell? ⟨by_, 3, none⟩ = some (.slice A2 rm q2))
        (first | (with_reducible assumption) | (with_reducible exact HC9.out _ b0w) | (with_reducible exact HC9.out _ hbW))
        (first
          | (go_at_call 29; (with_reducible refine (lknown8 _).mono ?_); rintro e w9 ⟨rfl, hb9⟩; (try dsimp only); have hbW := b0w.trans (hb9.mono b0w.size); clear hb9)
          | (go_at_call 30; have hc := rsame rs rg ri rs rg ri A1 A2 rm q1 rm q2 rD rD _ (RX8.out.keep hbW) (RY8.out.keep hbW) HRD.out HRD.out true ⟨fun _ => ⟨rfl, rfl, rfl, rfl, fun _ _ => rfl⟩, fun _ => rfl⟩; unfold pv at hc; (with_reducible refine hc.mono ?_); clear hc; rintro e w9 ⟨rfl, hb9⟩; (try dsimp only); have hbX := hbW.trans (hb9.mono hbW.size); clear hb9 hbW; have hbW := hbX; clear hbX)
          | (go_at_call 31; have hc := csame (y0.s : Int) (y0.g : Int) (y0.i : Int) rs rg ri (some ⟨b1, 0, none⟩) A1 32 32 rm q1 y0.D rD _ (HD8.out.keep hbW) (RX8.out.keep hbW) HBD.out HRD.out tt HTT.out; unfold pv at hc; (with_reducible refine hc.mono ?_); clear hc; rintro e w9 ⟨rfl, hb9⟩; (try dsimp only); have hbX := hbW.trans (hb9.mono hbW.size); clear hb9 hbW; have hbW := hbX; clear hbX)
          | (go_at_call 30; have hc := rsame (y0.s : Int) (y0.g : Int) (y0.i : Int) rs rg ri (some ⟨b1, 0, none⟩) A2 32 32 rm q2 y0.D rD _ (HD8.out.keep hbW) (RY8.out.keep hbW) HBD.out HRD.out tt HTT.out; unfold pv at hc; (with_reducible refine hc.mono ?_); clear hc; rintro e w9 ⟨rfl, hb9⟩; (try dsimp only); have hbX := hbW.trans (hb9.mono hbW.size); clear hb9 hbW; have hbW := hbX; clear hbX)
          | (go_at_call 15; (with_reducible refine (HP40.out _).mono ?_); rintro e w9 ⟨rfl, hw9⟩; obtain rfl := hw9.symm; (try dsimp only))
          | (go_at_call 15; (with_reducible refine (HP1000.out _).mono ?_); rintro e w9 ⟨rfl, hw9⟩; obtain rfl := hw9.symm; (try dsimp only))
          | (go_at_call 32; (with_reducible refine (cplace (p40 : Int) (p1000 : Int) _ (by omega) (by omega) (by omega) (by omega)).mono ?_); rintro e w9 ⟨rfl, hw9⟩; obtain rfl := hw9.symm; (try dsimp only))
          | (go_at_call 33; (with_reducible refine (rplace (p40 : Int) (p1000 : Int) _ (by omega) (by omega) (by omega)).mono ?_); rintro e w9 ⟨rfl, hw9⟩; obtain rfl := hw9.symm; (try dsimp only))
          | fail)
      all_goals
        go_wp2_with fail
        go_ret
        exact ⟨rfl, HW8.out.trans (hbW.mono HW8.out.size)⟩
end Go.Proofs.Ytjbicpekpgaokaa
