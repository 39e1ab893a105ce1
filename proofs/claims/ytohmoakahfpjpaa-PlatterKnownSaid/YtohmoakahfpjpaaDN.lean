import Derived.Test.YtohmoakahfpjpaaDO
import Derived.Test.YtohmoakahfpjpaaDKb
import Derived.Deep.RegionHeld
namespace Go.Proofs.Ytohmoakahfpjpaa
open Go.RowKit Go.Sort
set_option maxRecDepth 100000
set_option maxHeartbeats 8000000

theorem nums_three {w : World} {g : Nat} {x y z : Int} (h0 : w.cell? ⟨g, 0, none⟩ = some (.int .i64 x)) (h1 : w.cell? ⟨g, 1, none⟩ = some (.int .i64 y)) (h2 : w.cell? ⟨g, 2, none⟩ = some (.int .i64 z)) : Nums w (some ⟨g, 0, none⟩) [x, y, z] := fun i u hi => by
  match i, hi with
  | 0, hi => simp at hi; subst hi; exact ⟨g, 0, rfl, cell?_lt h0, h0⟩
  | 1, hi => simp at hi; subst hi; exact ⟨g, 0, rfl, cell?_lt h1, h1⟩
  | 2, hi => simp at hi; subst hi; exact ⟨g, 0, rfl, cell?_lt h2, h2⟩
theorem nums_two {w : World} {g : Nat} {x y : Int} (h0 : w.cell? ⟨g, 0, none⟩ = some (.int .i64 x)) (h1 : w.cell? ⟨g, 1, none⟩ = some (.int .i64 y)) : Nums w (some ⟨g, 0, none⟩) [x, y] := fun i u hi => by
  match i, hi with
  | 0, hi => simp at hi; subst hi; exact ⟨g, 0, rfl, cell?_lt h0, h0⟩
  | 1, hi => simp at hi; subst hi; exact ⟨g, 0, rfl, cell?_lt h1, h1⟩
def dA : Disk := (((Disk.blank.write 1 (fun _ => byteOf 5)).write 2 (fun _ => byteOf 6)).crash (keepF [1, 9, -1]))
def dB : Disk := ((dA.write 1 (fun _ => byteOf 7)).flush).crash (keepF [])
theorem dA_eq : dA = (((Disk.blank.write 1 (fun _ => byteOf 5)).write 2 (fun _ => byteOf 6)).crash (keepF [1, 9, -1])) := rfl
theorem dB_eq : dB = ((dA.write 1 (fun _ => byteOf 7)).flush).crash (keepF []) := rfl
theorem dA1 : dA.now 1 = fun _ => byteOf 0 := by
  unfold dA
  simp [Disk.blank, Disk.write, Disk.crash, Disk.now, keptAt, keepF, upd]
  rfl
theorem dA2 : dA.now 2 = fun _ => byteOf 6 := by
  unfold dA
  simp [Disk.blank, Disk.write, Disk.crash, Disk.now, keptAt, keepF, upd]
theorem dB1 : dB.now 1 = fun _ => byteOf 7 := by
  unfold dB dA
  simp [Disk.blank, Disk.write, Disk.crash, Disk.flush, Disk.now, keptAt, keepF, upd]
theorem dZ1 : Disk.blank.now 1 = fun _ => byteOf 0 := rfl
def KS (w0 : World) (ga ca gb cb gc cc gd cd : Nat) (W : World) : Prop := Below w0.heap.size w0 W ∧ Sem.run Try.prog (convert 26 9 (.slice (some ⟨ga, 0, none⟩) 160 ca)) W = .ok (.string (sb 0)) W ∧ Sem.run Try.prog (convert 26 9 (.slice (some ⟨gb, 0, none⟩) 160 cb)) W = .ok (.string (sb 6)) W ∧ Sem.run Try.prog (convert 26 9 (.slice (some ⟨gc, 0, none⟩) 160 cc)) W = .ok (.string (sb 7)) W ∧ Sem.run Try.prog (convert 26 9 (.slice (some ⟨gd, 0, none⟩) 160 cd)) W = .ok (.string (sb 0)) W
def NewK (w0 : World) (N : Nat) (e : Ending) (w' : World) : Prop := ∃ p S, e = .returned (.pointer (some ⟨p, 0, none⟩)) ∧ Hid (Plt w' p S N Disk.blank 0) ∧ Below w0.heap.size w0 w'
theorem newK_low {w0 W : World} (h : Below w0.heap.size w0 W) : Calls Try.prog 7 #[.int .i64 0] W (NewK w0 1) := by
  refine (dnew_low W 0 (by omega)).mono ?_
  rintro e w' ⟨p, S, rfl, k, hb, _⟩
  exact ⟨p, S, rfl, Lib.hid k, h.trans (hb.mono h.size)⟩
theorem newK_high {w0 W : World} (h : Below w0.heap.size w0 W) : Calls Try.prog 7 #[.int .i64 5000] W (NewK w0 1000) := by
  refine (dnew_high W 5000 (by omega)).mono ?_
  rintro e w' ⟨p, S, rfl, k, hb, _⟩
  exact ⟨p, S, rfl, Lib.hid k, h.trans (hb.mono h.size)⟩
attribute [irreducible] dA dB
theorem platterKnown (w : World) : Calls Try.prog 3 #[] w fun e w' => e = .returned (.bool true) ∧ Below w.heap.size w w' := by
  have HN := Lib.hid (dnew_of w 3 3 (by omega) (by rfl))
  go_enter Try.func3, Try.ntmps3
  go_wp2_with fail
  refine HN.out.mono ?_
  rintro e w1 ⟨p, S1, rfl, P1, B1, E1⟩
  try dsimp only
  have HP1 := Lib.hid P1
  have HB1 : Hid (Below w.heap.size w w1 ∧ ∀ k ∈ S1, w.heap.size ≤ k) := Lib.hid ⟨B1, E1⟩
  clear P1 B1 E1 HN
  go_wp2_with fail
  refine (dknown w1).mono ?_
  rintro e w2 ⟨rfl, B2⟩
  try dsimp only
  have HP2 := Lib.hid (HP1.out.below B2)
  have HB2 : Hid (Below w.heap.size w w2 ∧ ∀ k ∈ S1, w.heap.size ≤ k) := Lib.hid ⟨HB1.out.1.trans (B2.mono HB1.out.1.size), HB1.out.2⟩
  clear B2 HP1 HB1
  go_wp2_with fail
  refine (lall 1 w2).mono ?_
  rintro e w3 ⟨g3, rfl, k3, B3, _⟩
  try dsimp only
  have HK3 := Lib.hid k3
  have HP3 := Lib.hid (HP2.out.below B3)
  have HB3 : Hid (Below w.heap.size w w3 ∧ ∀ k ∈ S1, w.heap.size ≤ k) := Lib.hid ⟨HB2.out.1.trans (B3.mono HB2.out.1.size), HB2.out.2⟩
  clear B3 HP2 HB2
  clear k3
  go_wp2_with fail
  refine (dwrite_no 3 (some ⟨g3, 0, none⟩) 160 160 HP3.out (by omega)).mono ?_
  rintro e w' ⟨rfl, hw⟩
  obtain rfl := hw.symm
  go_wp2_with fail
  refine (lall 1 w3).mono ?_
  rintro e w4 ⟨g4, rfl, k4, B4, _⟩
  try dsimp only
  have HK4 := Lib.hid k4
  have HP4 := Lib.hid (HP3.out.below B4)
  have HB4 : Hid (Below w.heap.size w w4 ∧ ∀ k ∈ S1, w.heap.size ≤ k) := Lib.hid ⟨HB3.out.1.trans (B4.mono HB3.out.1.size), HB3.out.2⟩
  clear B4 HP3 HB3
  clear k4
  go_wp2_with fail
  refine (dwrite_no 0 (some ⟨g4, 1, none⟩) 159 159 HP4.out (by omega)).mono ?_
  rintro e w' ⟨rfl, hw⟩
  obtain rfl := hw.symm
  go_wp2_with fail
  refine (lall 5 w4).mono ?_
  rintro e w5 ⟨g5, rfl, k5, B5, _⟩
  try dsimp only
  have HK5 := Lib.hid k5
  have HP5 := Lib.hid (HP4.out.below B5)
  have HB5 : Hid (Below w.heap.size w w5 ∧ ∀ k ∈ S1, w.heap.size ≤ k) := Lib.hid ⟨HB4.out.1.trans (B5.mono HB4.out.1.size), HB4.out.2⟩
  clear B5 HP4 HB4
  clear k5
  go_wp2_with fail
  refine (dwrite 1 (some ⟨g5, 0, none⟩) 160 _ HP5.out (by omega) HK5.out.rd (by omega)).mono ?_
  rintro e w6 ⟨S6, rfl, P6, T6⟩
  try dsimp only
  have HP6 := Lib.hid P6
  have HB6 := Lib.hid (Below.step HB5.out.1 T6 HB5.out.2 HB5.out.1.size)
  clear P6 T6 HP5 HB5
  go_wp2_with fail
  refine (lall 6 w6).mono ?_
  rintro e w7 ⟨g7, rfl, k7, B7, _⟩
  try dsimp only
  have HK7 := Lib.hid k7
  have HP7 := Lib.hid (HP6.out.below B7)
  have HB7 : Hid (Below w.heap.size w w7 ∧ ∀ k ∈ S6, w.heap.size ≤ k) := Lib.hid ⟨HB6.out.1.trans (B7.mono HB6.out.1.size), HB6.out.2⟩
  clear B7 HP6 HB6
  clear k7
  go_wp2_with fail
  refine (dwrite 2 (some ⟨g7, 0, none⟩) 160 _ HP7.out (by omega) HK7.out.rd (by omega)).mono ?_
  rintro e w8 ⟨S8, rfl, P8, T8⟩
  try dsimp only
  have HP8 := Lib.hid P8
  have HB8 := Lib.hid (Below.step HB7.out.1 T8 HB7.out.2 HB7.out.1.size)
  clear P8 T8 HP7 HB7
  go_wp2_with fail
  refine (show Calls Try.prog _ _ _ (DPendRet [1, 2] w8) from dpending HP8.out (by omega)).mono ?_
  rintro e w9 ⟨A9, c9, rfl, o9, B9⟩
  try dsimp only
  have HL_9 := Lib.hid o9
  clear o9
  have HP9 := Lib.hid (HP8.out.below B9)
  have HB9 : Hid (Below w.heap.size w w9 ∧ ∀ k ∈ S8, w.heap.size ≤ k) := Lib.hid ⟨HB8.out.1.trans (B9.mono HB8.out.1.size), HB8.out.2⟩
  clear B9 HP8 HB8
  go_wp2_with fail
  refine (dread_no (-1) HP9.out (by omega)).mono ?_
  rintro e w' ⟨rfl, hw⟩
  obtain rfl := hw.symm
  have HP10 := Lib.hid (HP9.out.below ((Below.refl _ _).alloc (Nat.le_refl _) (.cells #[.int .i64 1, .int .i64 9, .int .i64 (-1)] 3)))
  have HL_10 := Lib.hid (HL_9.out.alloc (.cells #[.int .i64 1, .int .i64 9, .int .i64 (-1)] 3))
  have HB10 : Hid (Below w.heap.size w (w9.alloc (.cells #[.int .i64 1, .int .i64 9, .int .i64 (-1)] 3)) ∧ ∀ k ∈ S8, w.heap.size ≤ k) := Lib.hid ⟨HB9.out.1.alloc HB9.out.1.size _, HB9.out.2⟩
  have HC := Lib.hid (dcrash (some ⟨w9.heap.size, 0, none⟩) [1, 9, -1] 3 HP10.out (nums_three (cell_of_block (alloc_block _ _)) (cell_of_block (alloc_block _ _)) (cell_of_block (alloc_block _ _))) (by simp) (by omega))
  clear HP9 HB9 HL_9
  go_wp2_with fail
  refine (show Calls Try.prog _ _ _ _ from HC.out).mono ?_
  rintro e w11 ⟨S11, rfl, P11, T11⟩
  try dsimp only
  have HP11 : Hid (Plt w11 p S11 3 dA (0 + 1 + 1)) := Lib.hid (by rw [dA_eq]; exact P11)
  have HB11 := Lib.hid (Below.step HB10.out.1 T11 HB10.out.2 HB10.out.1.size)
  have HL_11 := Lib.hid (own_turn HL_10.out (fun k cs _ hk => T11.turn.block k (heap_lt hk) (HP10.out.notMem hk (by decide) (by decide) (by decide))))
  clear P11 T11 HP10 HB10 HL_10 HC
  go_wp2_with fail
  refine (dread 1 HP11.out (by omega)).mono ?_
  rintro e w12 ⟨g12, c12, rfl, k12, B12, _, _⟩
  try dsimp only
  have HA_12 := Lib.hid k12
  clear k12
  have HP12 := Lib.hid (HP11.out.below B12)
  have HB12 : Hid (Below w.heap.size w w12 ∧ ∀ k ∈ S11, w.heap.size ≤ k) := Lib.hid ⟨HB11.out.1.trans (B12.mono HB11.out.1.size), HB11.out.2⟩
  have HL_12 := Lib.hid (own_keep HL_11.out B12)
  clear B12 HP11 HB11 HL_11
  go_wp2_with fail
  refine (dread 2 HP12.out (by omega)).mono ?_
  rintro e w13 ⟨g13, c13, rfl, k13, B13, _, _⟩
  try dsimp only
  have HBB_13 := Lib.hid k13
  clear k13
  have HP13 := Lib.hid (HP12.out.below B13)
  have HB13 : Hid (Below w.heap.size w w13 ∧ ∀ k ∈ S11, w.heap.size ≤ k) := Lib.hid ⟨HB12.out.1.trans (B13.mono HB12.out.1.size), HB12.out.2⟩
  have HL_13 := Lib.hid (own_keep HL_12.out B13)
  have HA_13 := Lib.hid (HA_12.out.below B13)
  clear B13 HP12 HB12 HL_12 HA_12
  go_wp2_with fail
  refine (lall 7 w13).mono ?_
  rintro e w14 ⟨g14, rfl, k14, B14, _⟩
  try dsimp only
  have HK14 := Lib.hid k14
  have HP14 := Lib.hid (HP13.out.below B14)
  have HB14 : Hid (Below w.heap.size w w14 ∧ ∀ k ∈ S11, w.heap.size ≤ k) := Lib.hid ⟨HB13.out.1.trans (B14.mono HB13.out.1.size), HB13.out.2⟩
  have HL_14 := Lib.hid (own_keep HL_13.out B14)
  have HA_14 := Lib.hid (HA_13.out.below B14)
  have HBB_14 := Lib.hid (HBB_13.out.below B14)
  clear B14 HP13 HB13 HL_13 HA_13 HBB_13
  clear k14
  go_wp2_with fail
  refine (dwrite 1 (some ⟨g14, 0, none⟩) 160 _ HP14.out (by omega) HK14.out.rd (by omega)).mono ?_
  rintro e w15 ⟨S15, rfl, P15, T15⟩
  try dsimp only
  have HP15 := Lib.hid P15
  have HB15 := Lib.hid (Below.step HB14.out.1 T15 HB14.out.2 HB14.out.1.size)
  have HL_15 := Lib.hid (own_turn HL_14.out (fun k cs _ hk => T15.turn.block k (heap_lt hk) (HP14.out.notMem hk (by decide) (by decide) (by decide))))
  have HA_15 := Lib.hid (HP14.out.bytes T15.turn HA_14.out)
  have HBB_15 := Lib.hid (HP14.out.bytes T15.turn HBB_14.out)
  clear P15 T15 HP14 HB14 HL_14 HA_14 HBB_14
  go_wp2_with fail
  refine (dflush HP15.out).mono ?_
  rintro e w16 ⟨S16, rfl, P16, T16⟩
  try dsimp only
  have HP16 := Lib.hid P16
  have HB16 := Lib.hid (Below.step HB15.out.1 T16 HB15.out.2 HB15.out.1.size)
  have HL_16 := Lib.hid (own_turn HL_15.out (fun k cs _ hk => T16.turn.block k (heap_lt hk) (HP15.out.notMem hk (by decide) (by decide) (by decide))))
  have HA_16 := Lib.hid (HP15.out.bytes T16.turn HA_15.out)
  have HBB_16 := Lib.hid (HP15.out.bytes T16.turn HBB_15.out)
  clear P16 T16 HP15 HB15 HL_15 HA_15 HBB_15
  go_wp2_with fail
  refine (dcrash none [] 0 HP16.out (fun i x hx => by simp at hx) (by simp) (by omega)).mono ?_
  rintro e w17 ⟨S17, rfl, P17, T17⟩
  try dsimp only
  have HP17 := Lib.hid P17
  have HB17 := Lib.hid (Below.step HB16.out.1 T17 HB16.out.2 HB16.out.1.size)
  have HL_17 := Lib.hid (own_turn HL_16.out (fun k cs _ hk => T17.turn.block k (heap_lt hk) (HP16.out.notMem hk (by decide) (by decide) (by decide))))
  have HA_17 := Lib.hid (HP16.out.bytes T17.turn HA_16.out)
  have HBB_17 := Lib.hid (HP16.out.bytes T17.turn HBB_16.out)
  clear P17 T17 HP16 HB16 HL_16 HA_16 HBB_16
  have HP17b : Hid (Plt w17 p S17 3 dB (0 + 1 + 1 + 1)) := Lib.hid (by rw [dB_eq]; exact HP17.out)
  clear HP17
  have HP17 := HP17b
  clear HP17b
  go_wp2_with fail
  refine (dread 1 HP17.out (by omega)).mono ?_
  rintro e w18 ⟨g18, c18, rfl, k18, B18, _, _⟩
  try dsimp only
  have HCC_18 := Lib.hid k18
  clear k18
  have HP18 := Lib.hid (HP17.out.below B18)
  have HB18 : Hid (Below w.heap.size w w18 ∧ ∀ k ∈ S17, w.heap.size ≤ k) := Lib.hid ⟨HB17.out.1.trans (B18.mono HB17.out.1.size), HB17.out.2⟩
  have HL_18 := Lib.hid (own_keep HL_17.out B18)
  have HA_18 := Lib.hid (HA_17.out.below B18)
  have HBB_18 := Lib.hid (HBB_17.out.below B18)
  clear B18 HP17 HB17 HL_17 HA_17 HBB_17
  go_wp2_with fail
  refine (dwrites HP18.out).mono ?_
  rintro e w' ⟨rfl, hw⟩
  obtain rfl := hw.symm
  go_wp2_with fail
  refine (dwipe HP18.out (by omega)).mono ?_
  rintro e w19 ⟨S19, rfl, P19, T19⟩
  try dsimp only
  have HP19 := Lib.hid P19
  have HB19 := Lib.hid (Below.step HB18.out.1 T19 HB18.out.2 HB18.out.1.size)
  have HL_19 := Lib.hid (own_turn HL_18.out (fun k cs _ hk => T19.turn.block k (heap_lt hk) (HP18.out.notMem hk (by decide) (by decide) (by decide))))
  have HA_19 := Lib.hid (HP18.out.bytes T19.turn HA_18.out)
  have HBB_19 := Lib.hid (HP18.out.bytes T19.turn HBB_18.out)
  have HCC_19 := Lib.hid (HP18.out.bytes T19.turn HCC_18.out)
  clear P19 T19 HP18 HB18 HL_18 HA_18 HBB_18 HCC_18
  go_wp2_with fail
  refine (dread 1 HP19.out (by omega)).mono ?_
  rintro e w20 ⟨g20, c20, rfl, k20, B20, _, _⟩
  try dsimp only
  have HD_20 := Lib.hid k20
  clear k20
  have HP20 := Lib.hid (HP19.out.below B20)
  have HB20 : Hid (Below w.heap.size w w20 ∧ ∀ k ∈ S19, w.heap.size ≤ k) := Lib.hid ⟨HB19.out.1.trans (B20.mono HB19.out.1.size), HB19.out.2⟩
  have HL_20 := Lib.hid (own_keep HL_19.out B20)
  have HA_20 := Lib.hid (HA_19.out.below B20)
  have HBB_20 := Lib.hid (HBB_19.out.below B20)
  have HCC_20 := Lib.hid (HCC_19.out.below B20)
  clear B20 HP19 HB19 HL_19 HA_19 HBB_19 HCC_19
  have HS : Hid (∀ W, Below w20.heap.size w20 W → KS w20 g12 c12 g13 c13 g18 c18 g20 c20 W) := Lib.hid (fun W hW => ⟨hW, blk_conv (HA_20.out.below hW) dA1, blk_conv (HBB_20.out.below hW) dA2, blk_conv (HCC_20.out.below hW) dB1, blk_conv (HD_20.out.below hW) dZ1⟩)
  have HLN : Hid (∀ W, Below w20.heap.size w20 W → Nums W (some ⟨w20.heap.size, 0, none⟩) [1, 2] → Calls Try.prog 17 #[.slice A9 2 c9, .slice (some ⟨w20.heap.size, 0, none⟩) 2 2] W fun e w' => e = .returned (.bool true) ∧ Below w20.heap.size w20 w') := Lib.hid (fun W hW hn => by
    refine (lsame A9 (some ⟨w20.heap.size, 0, none⟩) [1, 2] [1, 2] c9 2 W ((own_nums HL_20.out).1.keep hW) hn (by simp) true ⟨fun _ => rfl, fun _ => rfl⟩).mono ?_
    rintro e w' ⟨rfl, hb⟩
    exact ⟨rfl, hW.trans (hb.mono hW.size)⟩)
  have hb0 : Below w20.heap.size w20 w20.drew := below_drewN 1 w20
  have HW : Hid (Below w.heap.size w w20) := Lib.hid HB20.out.1
  have hS0 := HS.out _ hb0
  clear HP20 HB20 HL_20 HA_20 HBB_20 HCC_20 HD_20
  have hb1 : Below w20.heap.size w20 ((w20.alloc (.cells #[.int .i64 1, .int .i64 2] 3)).drew) := ((Below.refl _ _).alloc (Nat.le_refl _) _).drew
  have HN1 : Hid (Nums ((w20.alloc (.cells #[.int .i64 1, .int .i64 2] 3)).drew) (some ⟨w20.heap.size, 0, none⟩) [1, 2]) := Lib.hid (nums_two (cell_of_block (w := (w20.alloc (.cells #[.int .i64 1, .int .i64 2] 3)).drew) (alloc_block _ _)) (cell_of_block (w := (w20.alloc (.cells #[.int .i64 1, .int .i64 2] 3)).drew) (alloc_block _ _)))
  generalize A9 = AP at *
  go_wp2_with fail
  go_region_held (fun W => Below w20.heap.size w20 W ∧ Sem.run Try.prog (convert 26 9 (.slice (some ⟨g12, 0, none⟩) 160 c12)) W = .ok (.string (sb 0)) W ∧ Sem.run Try.prog (convert 26 9 (.slice (some ⟨g13, 0, none⟩) 160 c13)) W = .ok (.string (sb 6)) W ∧ Sem.run Try.prog (convert 26 9 (.slice (some ⟨g18, 0, none⟩) 160 c18)) W = .ok (.string (sb 7)) W ∧ Sem.run Try.prog (convert 26 9 (.slice (some ⟨g20, 0, none⟩) 160 c20)) W = .ok (.string (sb 0)) W)
    (first | assumption | exact HS.out _ hb1 | exact HS.out _ hbW)
    (first | (go_at_call 17; (with_reducible refine (HLN.out _ hb1 HN1.out).mono ?_); rintro e w21 ⟨rfl, hbW⟩; (try dsimp only)) | (go_at_call 10; (with_reducible refine (allK _ hbW).mono ?_); rintro e w22 ⟨g22, rfl, v22, hbW⟩; (try dsimp only)) | (go_at_call 7; (with_reducible refine (newK_low hbW).mono ?_); rintro e w23 ⟨pN, SN, rfl, HPN, hbW⟩; (try dsimp only)) | (go_at_call 7; (with_reducible refine (newK_high hbW).mono ?_); rintro e w24 ⟨pN, SN, rfl, HPN, hbW⟩; (try dsimp only)) | (go_at_call 18; (with_reducible refine (dblocks HPN.out).mono ?_); rintro e w25 ⟨rfl, hw25⟩; obtain rfl := hw25.symm; (try dsimp only)) | fail)
  all_goals
    go_wp2_with fail
    go_ret
    exact ⟨rfl, HW.out.trans (hbW.mono HW.out.size)⟩
end Go.Proofs.Ytohmoakahfpjpaa
