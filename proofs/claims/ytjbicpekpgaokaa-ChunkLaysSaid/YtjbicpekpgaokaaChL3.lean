import Derived.Test.YtjbicpekpgaokaaChL1
namespace Go.Proofs.Ytjbicpekpgaokaa
open Go.RowKit Go.Sort
set_option maxRecDepth 100000
set_option maxHeartbeats 4000000

theorem chunkLaysNo (s g ii : Int) (nn : Nat) (_hnn : nn ≤ 40) (hno : ¬ OkI s g ii nn) (x0 x1 x2 x3 x4 : Int) (a5 a7 : Option Addr) (n5 c5 c7 y : Nat) (F5 : Nat → Nat) (x6 : Int) (xs : List Int) (w : World) (hcy : ∀ w, Calls Try.prog 22 #[.int .i64 x0, .int .i64 x1, .int .i64 x2, .int .i64 x3, .int .i64 x4] w fun e w' => ∃ b, e = .returned (pv s g ii (some ⟨b, 0, none⟩) nn nn) ∧ Blk8 w' b nn (bytesF x3) ∧ Below w.heap.size w w' ∧ w.heap.size ≤ b)
    (h5 : Rd w a5 n5 F5) (b5 : ∀ j, j < n5 → F5 j < 256) (l5 : n5 ≤ c5) (m5 : n5 ≤ 140737488355328) (h7 : Nums w a7 xs) (_hy : y < 256) :
    Calls Try.prog 8 #[.int .i64 x0, .int .i64 x1, .int .i64 x2, .int .i64 x3, .int .i64 x4, .slice a5 n5 c5, .int .i64 x6, .slice a7 xs.length c7, .int .u8 (y : Int)] w fun e w' => e = .returned (.bool true) ∧ Below w.heap.size w w' := by
  have HCY := Lib.hid hcy
  have H5 := Lib.hid h5
  have B5 := Lib.hid b5
  have H7 := Lib.hid h7
  obtain ⟨p40, l40, hp40⟩ := rpickN x0 40 (by omega) (by omega)
  obtain ⟨p1000, l1000, hp1000⟩ := rpickN x1 1000 (by omega) (by omega)
  have HP40 : Hid (∀ w : World, Calls Try.prog 15 #[.int .i64 x0, .int .i64 40] w fun e w' => e = .returned (.int .i64 (p40 : Int)) ∧ w' = w) := Lib.hid hp40
  have HP1000 : Hid (∀ w : World, Calls Try.prog 15 #[.int .i64 x1, .int .i64 1000] w fun e w' => e = .returned (.int .i64 (p1000 : Int)) ∧ w' = w) := Lib.hid hp1000
  obtain ⟨n7, hn7⟩ : ∃ n7, xs.length = n7 := ⟨_, rfl⟩
  have N7 := Lib.hid hn7
  rw [hn7]
  clear hcy h5 b5 h7 hp40 hp1000 hn7
  have HNO := Lib.hid hno
  clear hno
  go_enter Try.func8, Try.ntmps8
  go_wp2_with fail
  refine (HCY.out w).mono ?_
  rintro e w1 ⟨b1, rfl, hk1, hbl1, hb1⟩
  try dsimp only
  obtain ⟨v1, hv1⟩ : ∃ v1, w1.alloc (.cells #[.int .i64 s, .int .i64 g, .int .i64 ii, .slice (some ⟨b1, 0, none⟩) nn nn] 42) = v1 := ⟨_, rfl⟩
  obtain ⟨bp, hbp⟩ : ∃ bp, w1.heap.size = bp := ⟨_, rfl⟩
  have HV1E := Lib.hid hv1
  have HBPE := Lib.hid hbp
  have KP1 : Hid (PV v1 bp s g ii (some ⟨b1, 0, none⟩) nn nn) := Lib.hid (by rw [← hv1, ← hbp]; exact PV.new w1 _ _ _ _ _ _)
  have bv1 : Below w1.heap.size w1 v1 := by rw [← hv1]; exact (Below.refl _ _).alloc (Nat.le_refl _) _
  have HW1 : Hid (Below w.heap.size w v1) := Lib.hid (hbl1.trans (bv1.mono hbl1.size))
  have HD1 : Hid (Blk8 v1 b1 nn (bytesF x3)) := Lib.hid (hk1.below bv1)
  clear hv1 hbp hk1 hbl1 hb1 bv1
  have HCL := Lib.hid (clay_no s g ii (some ⟨b1, 0, none⟩) nn nn v1 HNO.out)
  unfold pv at HCL
  go_wp2_with fail
  rw [HV1E.out, HBPE.out]
  refine HCL.out.mono ?_
  rintro e w2 ⟨rfl, hb2⟩
  try dsimp only
  have KP2 := Lib.hid (KP1.out.below hb2)
  have HW2 : Hid (Below w.heap.size w w2) := Lib.hid (HW1.out.trans (hb2.mono HW1.out.size))
  have HD2 := Lib.hid (HD1.out.below hb2)
  have c0 := KP2.out.c0
  have c1 := KP2.out.c1
  have c2 := KP2.out.c2
  have c3 := KP2.out.c3
  have HRL := Lib.hid (rlay_no s g ii (some ⟨b1, 0, none⟩) nn nn w2 HNO.out)
  clear hb2 HCL KP1 HW1 HD1
  unfold pv at HRL
  go_wp2_with fail
  refine HRL.out.mono ?_
  rintro e w3 ⟨rfl, hb3⟩
  try dsimp only
  have KP3 := Lib.hid (KP2.out.below hb3)
  have HW3 : Hid (Below w.heap.size w w3) := Lib.hid (HW2.out.trans (hb3.mono HW2.out.size))
  have HD3 := Lib.hid (HD2.out.below hb3)
  obtain ⟨s1, hs1⟩ : ∃ s1, strOf [] = s1 := ⟨_, rfl⟩
  have HS1 := Lib.hid hs1
  clear hb3 HRL KP2 HW2 HD2 c0 c1 c2 c3 hs1
  have HC4 : Hid (∀ W, Below w3.heap.size w3 W → (W.cell? ⟨bp, 0, none⟩ = some (.int .i64 s) ∧ W.cell? ⟨bp, 1, none⟩ = some (.int .i64 g) ∧ W.cell? ⟨bp, 2, none⟩ = some (.int .i64 ii) ∧ W.cell? ⟨bp, 3, none⟩ = some (.slice (some ⟨b1, 0, none⟩) nn nn) ∧ Sem.run Try.prog (convert 22 9 (.slice none 0 0)) W = .ok (.string s1) W ∧ Sem.run Try.prog (convert 22 9 (.slice none 0 0)) W = .ok (.string s1) W)) := Lib.hid (fun W hW => by
    obtain ⟨e0, e1, e2, e3⟩ := pv_cells KP3.out hW
    exact ⟨e0, e1, e2, e3, by rw [← HS1.out]; exact conv_empty _ _ _, by rw [← HS1.out]; exact conv_empty _ _ _⟩)
  have b0w : Below w3.heap.size w3 w3.drew := below_drewN 1 w3
  have HRT0 : Hid (¬ OkI s g ii nn) := Lib.hid HNO.out
  go_upto_region 4 with fail
  go_cut [64] from 47 to 64 (fun s64 wx => s64 = .bool false ∧ Hid (Below w3.heap.size w3 wx))
  case first =>
    go_wp2_with fail
    go_region_held (fun W => W.cell? ⟨bp, 0, none⟩ = some (.int .i64 s) ∧ W.cell? ⟨bp, 1, none⟩ = some (.int .i64 g) ∧ W.cell? ⟨bp, 2, none⟩ = some (.int .i64 ii) ∧ W.cell? ⟨bp, 3, none⟩ = some (.slice (some ⟨b1, 0, none⟩) nn nn) ∧ Sem.run Try.prog (convert 22 9 (.slice none 0 0)) W = .ok (.string s1) W ∧ Sem.run Try.prog (convert 22 9 (.slice none 0 0)) W = .ok (.string s1) W)
      (first | (with_reducible assumption) | (with_reducible exact HC4.out _ b0w) | (with_reducible exact HC4.out _ hbW))
      (first
        | (go_at_call 25; (with_reducible refine (cright s g ii (some ⟨b1, 0, none⟩) nn nn _ false (ff_iff HRT0.out)).mono ?_); rintro e w9 ⟨rfl, hb9⟩; (try dsimp only); have hbW := b0w.trans (hb9.mono b0w.size); clear hb9)
        | (go_at_call 26; (with_reducible refine (rright s g ii (some ⟨b1, 0, none⟩) nn nn _ false (ff_iff HRT0.out)).mono ?_); rintro e w9 ⟨rfl, hb9⟩; (try dsimp only); have hbX := hbW.trans (hb9.mono hbW.size); clear hb9 hbW; have hbW := hbX; clear hbX)
        | fail)
    all_goals
      go_wp2_with fail
      go_meet
      exact ⟨rfl, Lib.hid hbW⟩
  case rest =>
    obtain ⟨rfl, HWC⟩ := hcut
    have KP4 := Lib.hid (KP3.out.below HWC.out)
    have HW4 : Hid (Below w.heap.size w wc) := Lib.hid (HW3.out.trans (HWC.out.mono HW3.out.size))
    have HD4 := Lib.hid (HD3.out.below HWC.out)
    clear KP3 HW3 HD3 HWC HC4 HS1 b0w
    obtain ⟨hw0, hhw0⟩ : ∃ bb, decide (0 < x6.tmod 4) = bb := ⟨_, rfl⟩
    have HFR := Lib.hid (rfew a5 n5 c5 n5 n5 F5 wc (H5.out.keep HW4.out) l5 (by omega) (by omega) (by omega))
    go_wp2_with fail
    refine HFR.out.mono ?_
    rintro e w5 ⟨gz0, cz0, rfl, oz, hb5, _, _, hcz0⟩
    try dsimp only
    have KP5 := Lib.hid (KP4.out.below hb5)
    have HW5 : Hid (Below w.heap.size w w5) := Lib.hid (HW4.out.trans (hb5.mono HW4.out.size))
    have HD5 := Lib.hid (HD4.out.below hb5)
    have RZ5 := Lib.hid (own_rd oz)
    have H75 : Hid (Nums w5 a7 xs) := Lib.hid (H7.out.keep HW5.out)
    clear oz hb5 HFR KP4 HW4 HD4
    obtain ⟨gz, hgz⟩ : ∃ gz, gz = gz0 := ⟨_, rfl⟩
    obtain ⟨nz, hnz⟩ : ∃ nz, nz = n5 := ⟨_, rfl⟩
    obtain ⟨cz, hcz'⟩ : ∃ cz, cz = cz0 := ⟨_, rfl⟩
    obtain ⟨wc, hwc⟩ : ∃ wc, wc = w5 := ⟨_, rfl⟩
    obtain ⟨FZ, hFZ⟩ : ∃ FZ, FZ = F5 := ⟨_, rfl⟩
    have HZ : Hid (Rd wc (some ⟨gz, 0, none⟩) nz FZ ∧ (∀ j, j < nz → FZ j < 256) ∧ Below w5.heap.size w5 wc) := Lib.hid (by rw [hgz, hnz, hwc, hFZ]; exact ⟨RZ5.out, B5.out, Below.refl _ _⟩)
    have hcz : nz ≤ cz := by omega
    rw [← hgz, ← hnz, ← hcz', ← hwc]
    clear hgz hnz hcz' hwc hFZ hcz0
    have HW6 : Hid (Below w.heap.size w wc) := Lib.hid (HW5.out.trans (HZ.out.2.2.mono HW5.out.size))
    have KP6 := Lib.hid (KP5.out.below HZ.out.2.2)
    have HD6 := Lib.hid (HD5.out.below HZ.out.2.2)
    obtain ⟨rs, rg, ri, rm, rD, rt, hrD, hrp⟩ := both_readp gz nz cz FZ hcz HZ.out.2.1
    have HRP := Lib.hid hrp
    have HRD := Lib.hid hrD
    have HR6 := Lib.hid HZ.out.1
    clear hrp hrD HZ KP5 HW5 HD5 RZ5 H75
    go_wp2_with fail
    refine (HRP.out _ HR6.out).1.mono ?_
    rintro e u1 ⟨A1, q1, rfl, r1, hb1⟩
    try dsimp only
    obtain ⟨t1, ht1⟩ : ∃ t1, u1.alloc (.cells #[.int .i64 rs, .int .i64 rg, .int .i64 ri, .slice A1 rm q1] 42) = t1 := ⟨_, rfl⟩
    obtain ⟨bx, hbx⟩ : ∃ bx, u1.heap.size = bx := ⟨_, rfl⟩
    have HT1E := Lib.hid ht1
    have HBXE := Lib.hid hbx
    have bt1 : Below u1.heap.size u1 t1 := by rw [← ht1]; exact (Below.refl _ _).alloc (Nat.le_refl _) _
    have hbt := hb1.trans (bt1.mono hb1.size)
    have KX7 : Hid (PV t1 bx rs rg ri A1 rm q1) := Lib.hid (by rw [← ht1, ← hbx]; exact PV.new u1 _ _ _ _ _ _)
    have RX7 := Lib.hid (r1.keep bt1)
    have HW7 : Hid (Below w.heap.size w t1) := Lib.hid (HW6.out.trans (hbt.mono HW6.out.size))
    have KP7 := Lib.hid (KP6.out.below hbt)
    have HD7 := Lib.hid (HD6.out.below hbt)
    have HR7 := Lib.hid (HR6.out.keep hbt)
    clear ht1 hbx bt1 hbt r1 hb1 HW6 KP6 HD6 HR6
    go_wp2_with fail
    rw [HT1E.out, HBXE.out]
    refine (HRP.out t1 HR7.out).2.mono ?_
    rintro e u2 ⟨A2, q2, rfl, r2, hb2⟩
    try dsimp only
    obtain ⟨t2, ht2⟩ : ∃ t2, u2.alloc (.cells #[.int .i64 rs, .int .i64 rg, .int .i64 ri, .slice A2 rm q2] 42) = t2 := ⟨_, rfl⟩
    obtain ⟨by_, hby⟩ : ∃ by_, u2.heap.size = by_ := ⟨_, rfl⟩
    have HT2E := Lib.hid ht2
    have HBYE := Lib.hid hby
    have bt2 : Below u2.heap.size u2 t2 := by rw [← ht2]; exact (Below.refl _ _).alloc (Nat.le_refl _) _
    have hbt := hb2.trans (bt2.mono hb2.size)
    have KY8 : Hid (PV t2 by_ rs rg ri A2 rm q2) := Lib.hid (by rw [← ht2, ← hby]; exact PV.new u2 _ _ _ _ _ _)
    have RY8 := Lib.hid (r2.keep bt2)
    have KX8 := Lib.hid (KX7.out.below hbt)
    have RX8 := Lib.hid (RX7.out.keep hbt)
    have HW8 : Hid (Below w.heap.size w t2) := Lib.hid (HW7.out.trans (hbt.mono HW7.out.size))
    have KP8 := Lib.hid (KP7.out.below hbt)
    have HD8 := Lib.hid (HD7.out.below hbt).rd
    clear ht2 hby bt2 hbt r2 hb2 HW7 KP7 HD7 HR7 KX7 RX7 HRP
    have HC9 : Hid (∀ W, Below t2.heap.size t2 W → (W.cell? ⟨bp, 0, none⟩ = some (.int .i64 s) ∧ W.cell? ⟨bp, 1, none⟩ = some (.int .i64 g) ∧ W.cell? ⟨bp, 2, none⟩ = some (.int .i64 ii) ∧ W.cell? ⟨bp, 3, none⟩ = some (.slice (some ⟨b1, 0, none⟩) nn nn) ∧ W.cell? ⟨bx, 0, none⟩ = some (.int .i64 rs) ∧ W.cell? ⟨bx, 1, none⟩ = some (.int .i64 rg) ∧ W.cell? ⟨bx, 2, none⟩ = some (.int .i64 ri) ∧ W.cell? ⟨bx, 3, none⟩ = some (.slice A1 rm q1) ∧ W.cell? ⟨by_, 0, none⟩ = some (.int .i64 rs) ∧ W.cell? ⟨by_, 1, none⟩ = some (.int .i64 rg) ∧ W.cell? ⟨by_, 2, none⟩ = some (.int .i64 ri) ∧ W.cell? ⟨by_, 3, none⟩ = some (.slice A2 rm q2))) := Lib.hid (fun W hW => by
      obtain ⟨e0, e1, e2, e3⟩ := pv_cells KP8.out hW
      obtain ⟨f0, f1, f2, f3⟩ := pv_cells KX8.out hW
      obtain ⟨g0, g1, g2, g3⟩ := pv_cells KY8.out hW
      exact ⟨e0, e1, e2, e3, f0, f1, f2, f3, g0, g1, g2, g3⟩)
    obtain ⟨tt, htt⟩ : ∃ tt : Bool, tt = true ↔ s = rs ∧ g = rg ∧ ii = ri ∧ nn = rm ∧ ∀ j, j < nn → (bytesF x3) j = rD j := ex_bool _
    have HTT := Lib.hid htt
    have HBD : Hid (∀ j, j < nn → (bytesF x3) j < 256) := Lib.hid (fun j _ => bytesF_lt x3 j)
    have b0w : Below t2.heap.size t2 t2.drew := below_drewN 1 t2
    clear htt
    go_upto_region 18 with fail
    rw [HT2E.out, HBYE.out]
    go_wp2_with fail
    go_region_held (fun W => W.cell? ⟨bp, 0, none⟩ = some (.int .i64 s) ∧ W.cell? ⟨bp, 1, none⟩ = some (.int .i64 g) ∧ W.cell? ⟨bp, 2, none⟩ = some (.int .i64 ii) ∧ W.cell? ⟨bp, 3, none⟩ = some (.slice (some ⟨b1, 0, none⟩) nn nn) ∧ W.cell? ⟨bx, 0, none⟩ = some (.int .i64 rs) ∧ W.cell? ⟨bx, 1, none⟩ = some (.int .i64 rg) ∧ W.cell? ⟨bx, 2, none⟩ = some (.int .i64 ri) ∧ W.cell? ⟨bx, 3, none⟩ = some (.slice A1 rm q1) ∧ W.cell? ⟨by_, 0, none⟩ = some (.int .i64 rs) ∧ W.cell? ⟨by_, 1, none⟩ = some (.int .i64 rg) ∧ W.cell? ⟨by_, 2, none⟩ = some (.int .i64 ri) ∧ W.cell? ⟨by_, 3, none⟩ = some (.slice A2 rm q2))
      (first | (with_reducible assumption) | (with_reducible exact HC9.out _ b0w) | (with_reducible exact HC9.out _ hbW))
      (first
        | (go_at_call 29; (with_reducible refine (lknown8 _).mono ?_); rintro e w9 ⟨rfl, hb9⟩; (try dsimp only); have hbW := b0w.trans (hb9.mono b0w.size); clear hb9)
        | (go_at_call 30; have hc := rsame rs rg ri rs rg ri A1 A2 rm q1 rm q2 rD rD _ (RX8.out.keep hbW) (RY8.out.keep hbW) HRD.out HRD.out true ⟨fun _ => ⟨rfl, rfl, rfl, rfl, fun _ _ => rfl⟩, fun _ => rfl⟩; unfold pv at hc; (with_reducible refine hc.mono ?_); clear hc; rintro e w9 ⟨rfl, hb9⟩; (try dsimp only); have hbX := hbW.trans (hb9.mono hbW.size); clear hb9 hbW; have hbW := hbX; clear hbX)
        | (go_at_call 31; have hc := csame s g ii rs rg ri (some ⟨b1, 0, none⟩) A1 nn nn rm q1 (bytesF x3) rD _ (HD8.out.keep hbW) (RX8.out.keep hbW) HBD.out HRD.out tt HTT.out; unfold pv at hc; (with_reducible refine hc.mono ?_); clear hc; rintro e w9 ⟨rfl, hb9⟩; (try dsimp only); have hbX := hbW.trans (hb9.mono hbW.size); clear hb9 hbW; have hbW := hbX; clear hbX)
        | (go_at_call 30; have hc := rsame s g ii rs rg ri (some ⟨b1, 0, none⟩) A2 nn nn rm q2 (bytesF x3) rD _ (HD8.out.keep hbW) (RY8.out.keep hbW) HBD.out HRD.out tt HTT.out; unfold pv at hc; (with_reducible refine hc.mono ?_); clear hc; rintro e w9 ⟨rfl, hb9⟩; (try dsimp only); have hbX := hbW.trans (hb9.mono hbW.size); clear hb9 hbW; have hbW := hbX; clear hbX)
        | (go_at_call 15; (with_reducible refine (HP40.out _).mono ?_); rintro e w9 ⟨rfl, hw9⟩; obtain rfl := hw9.symm; (try dsimp only))
        | (go_at_call 15; (with_reducible refine (HP1000.out _).mono ?_); rintro e w9 ⟨rfl, hw9⟩; obtain rfl := hw9.symm; (try dsimp only))
        | (go_at_call 32; (with_reducible refine (cplace (p40 : Int) (p1000 : Int) _ (by omega) (by omega) (by omega) (by omega)).mono ?_); rintro e w9 ⟨rfl, hw9⟩; obtain rfl := hw9.symm; (try dsimp only))
        | (go_at_call 33; (with_reducible refine (rplace (p40 : Int) (p1000 : Int) _ (by omega) (by omega) (by omega)).mono ?_); rintro e w9 ⟨rfl, hw9⟩; obtain rfl := hw9.symm; (try dsimp only))
        | fail)
    all_goals
      go_wp2_with fail
      go_ret
      exact ⟨rfl, HW8.out.trans (hbW.mono HW8.out.size)⟩
end Go.Proofs.Ytjbicpekpgaokaa
