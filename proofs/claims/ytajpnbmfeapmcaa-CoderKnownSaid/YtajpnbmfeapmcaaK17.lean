import Derived.Test.YtajpnbmfeapmcaaK16
import Derived.StillTailTactics
import Derived.Lib.SliceRun
namespace Go.Proofs.Ytajpnbmfeapmcaa
open Go.RowKit Go.Sort
set_option maxRecDepth 100000
set_option maxHeartbeats 2000000

/-- A row's copy. -/
def CloneRet (n : Nat) (F : Nat → Nat) (w : World) (e : Ending) (w' : World) : Prop := ∃ g cap, e = .returned (.slice (some ⟨g, 0, none⟩) n cap) ∧ Row8 w' g n F ∧ Below w.heap.size w w'
theorem mclone (h q n cap : Nat) (F : Nat → Nat) (w : World) (h1 : 1 ≤ n) (h2 : n ≤ 64) (hr : ∀ j, j < n → w.cell? ⟨h, q + j, none⟩ = some (.int .u8 (F j : Nat))) :
    Calls Try.prog 34 #[.slice (some ⟨h, q, none⟩) n cap] w (CloneRet n F w) := by
  obtain ⟨i0, hi0, hz0, hz1, hz2⟩ := info_parts infoByte
  have hh := cell?_lt (hr 0 (by omega))
  have hE := own_empty (t := 5) (base := w.heap.size) (alloc_block w (.cells #[] 5)) (Nat.le_refl _)
  have hb0 : Below w.heap.size w (w.alloc (.cells #[] 5)) := (Below.refl _ _).alloc (Nat.le_refl _) _
  have HR : Hid (∀ j, j < n → (w.alloc (.cells #[] 5)).cell? ⟨h, q + j, none⟩ = some (.int .u8 (F j : Nat))) := Lib.hid (fun j hj => (hb0.cell (p := ⟨h, q + j, none⟩) hh).trans (hr j hj))
  have HE := Lib.hid hE
  have HB := Lib.hid hb0
  have heq : Sem.run Try.prog (binOp .eql 29 (.slice (some ⟨h, q, none⟩) n cap) (.slice none 0 0)) w = .ok (.bool false) w := Lib.run_eql_slice_nil w 29 5 (some ⟨h, q, none⟩) n cap 0 0 Try.underlying29
  clear hr hE hb0
  go_enter Try.func34, Try.ntmps34
  go_wp2_with (at_builtin; refine append_mine _ rfl _ _ 29 rfl w.heap.size 5 i0 (.int .u8 0) 1 1 Try.underlying29 hi0 hz0 hz1 hz2 rfl (by decide) _ 0 [] rfl HE.out ⟨h, q, none⟩ n cap (rowL n F) rfl (by rw [rowL_len]; omega) (rowL_cells HR.out) rowL_one (by unfold maxLen; omega) (by omega) HB.out.size (by omega) ?_; intro v' w1 ho hg hv; rw [Nat.zero_add, List.nil_append] at ho; have HO := Lib.hid ho; have HG := Lib.hid hg; clear ho hg hv)
  go_ret
  rcases HO.out.2 with ⟨_, h0⟩ | ⟨g, cp, cur, rfl, _⟩
  · omega
  · exact ⟨g, cp, rfl, own_row8 HO.out (fun j hj => rowL_get hj), Below.grown HB.out HG.out HB.out.size (fun k hk => by cases hk; exact Nat.le_refl _)⟩

theorem crow (c f o cap0 i : Nat) (w : World) (hc : Cdr w c f o cap0) (hi : i < 6) : Calls Try.prog 16 #[.pointer (some ⟨c, 0, none⟩), .int .i64 (i : Int)] w (CloneRet 4 (gr i) w) := by
  have HM := Lib.hid (cmade c f o cap0 w hc)
  have h1 := hc.rows
  obtain ⟨U, hU⟩ := row_vals (by omega) hc.raw
  obtain ⟨hu, g, q, cp, e, _, hx⟩ := hU i hi
  rw [e] at hu
  have HCL := Lib.hid (mclone g q 4 cp (gr i) w (by omega) (by omega) hx)
  have e1 : ¬ (i : Int) < 0 := by omega
  have e2 : ¬ (6 : Int) ≤ (i : Int) := by omega
  have e3 : (0 : Int) ≤ (i : Int) := by omega
  have e4 : (i : Int) < 6 := by omega
  clear hc hU e hx
  go_enter Try.func16, Try.ntmps16
  go_wp2_with fail
  refine HM.out.mono ?_
  rintro e w' ⟨rfl, hw⟩
  obtain rfl := hw.symm
  go_wp2_with fail
  refine HCL.out.mono ?_
  rintro e w2 ⟨g2, c2, rfl, hr, hb⟩
  have HR := Lib.hid (And.intro hr hb)
  clear hr hb
  go_wp2_with fail
  go_ret
  exact ⟨g2, c2, rfl, HR.out.1, HR.out.2⟩
theorem crow_none (c f o cap0 : Nat) (i : Int) (w : World) (hc : Cdr w c f o cap0) (hi : ¬ (0 ≤ i ∧ i < 6)) : Calls Try.prog 16 #[.pointer (some ⟨c, 0, none⟩), .int .i64 i] w fun e w' => e = .returned (.slice none 0 0) ∧ w' = w := by
  have HM := Lib.hid (cmade c f o cap0 w hc)
  clear hc
  by_cases h0 : i < 0
  · clear hi
    go_enter Try.func16, Try.ntmps16
    go_wp2_with fail
    refine HM.out.mono ?_
    rintro e w' ⟨rfl, hw⟩
    obtain rfl := hw.symm
    go_wp2_with fail
    go_ret
    exact ⟨rfl, rfl⟩
  · have h6 : 6 ≤ i := by omega
    clear hi
    go_enter Try.func16, Try.ntmps16
    go_wp2_with fail
    refine HM.out.mono ?_
    rintro e w' ⟨rfl, hw⟩
    obtain rfl := hw.symm
    go_wp2_with fail
    go_ret
    exact ⟨rfl, rfl⟩

theorem lit_row {w : World} {g x : Nat} (h : w.heap[g]? = some (.cells #[.int .u8 (x : Nat)] 5 (0, 0))) : ∀ j, j < 1 → w.cell? ⟨g, 0 + j, none⟩ = some (.int .u8 (x : Nat)) := fun j hj => by
  obtain rfl : j = 0 := by omega
  rw [Nat.zero_add, cell_of_block h]; rfl

/-- What the last two chunks are to be Added to. -/
def dlt (i : Nat) (X Y : Nat → Nat) : Mx := fun l k => mul (gr (4 + l) i) (X k ^^^ Y k)
theorem cdelta (c f o cap0 i h1 q1 c1 h2 q2 c2 : Nat) (X Y : Nat → Nat) (w : World) (hc : Cdr w c f o cap0) (hi : i < 4) (hx : ∀ j, j < 32 → w.cell? ⟨h1, q1 + j, none⟩ = some (.int .u8 (X j : Nat))) (hy : ∀ j, j < 32 → w.cell? ⟨h2, q2 + j, none⟩ = some (.int .u8 (Y j : Nat)))
    (bx : ∀ j, j < 32 → X j < 256) (bY : ∀ j, j < 32 → Y j < 256) :
    Calls Try.prog 14 #[.pointer (some ⟨c, 0, none⟩), .int .i64 (i : Int), .slice (some ⟨h1, q1, none⟩) 32 c1, .slice (some ⟨h2, q2, none⟩) 32 c2] w (EncRet w (dlt i X Y) 2) := by
  obtain ⟨i0, hi0, hz0, hz1, hz2⟩ := info_parts infoRow
  obtain ⟨zs, z1, z2⟩ := make8 32 (by omega)
  have mk2 : ∀ W : World, Sem.run Try.prog (Instr.makeSlice 29 (.int .i64 32) (.int .i64 32)) W = .ok (.slice (some ⟨W.heap.size, 0, none⟩) 32 32) (W.alloc (.cells zs 5)) := z2
  have HZ := Lib.hid z1
  have HM := Lib.hid (cmade c f o cap0 w hc)
  have HC := Lib.hid hc
  have HX := Lib.hid hx
  have HY := Lib.hid hy
  have BX := Lib.hid bx
  have BY := Lib.hid bY
  have l1 := cell?_lt (hx 0 (by omega))
  have l2 := cell?_lt (hy 0 (by omega))
  have i1 : ¬ (i : Int) < 0 := by omega
  have i2 : ¬ (4 : Int) ≤ (i : Int) := by omega
  have i3 : (0 : Int) ≤ (i : Int) := by omega
  have i4 : (i : Int) < 4 := by omega
  have HB0 : Hid (Below w.heap.size w (w.alloc (.cells zs 5))) := Lib.hid ((Below.refl _ _).alloc (Nat.le_refl _) _)
  have HR0 : Hid (Row8 (w.alloc (.cells zs 5)) w.heap.size 32 (fun j => if j < 0 then X j ^^^ Y j else 0)) := Lib.hid ⟨fun j hj => by
    rw [cell_of_block (alloc_block w _), HZ.out j hj, if_neg (Nat.not_lt_zero _)]; rfl, fun j => free_of_block (alloc_block w _)⟩
  clear z1 z2 hc hx hy bx bY
  obtain ⟨B, hB⟩ : ∃ B, w.heap.size = B := ⟨_, rfl⟩
  have HB := Lib.hid hB
  rw [hB] at HB0 HR0 l1 l2
  go_enter Try.func14, Try.ntmps14
  go_wp2_with fail
  refine HM.out.mono ?_
  rintro e w' ⟨rfl, hw⟩
  obtain rfl := hw.symm
  go_wp2_with fail
  go_loopg [39] 32 (fun q s39 v => ∃ k : Nat, s39 = .int .i64 (k : Int) ∧ k ≤ 32 ∧ q = 32 - k ∧ Hid (Row8 v B 32 (fun j => if j < k then X j ^^^ Y j else 0) ∧ Below B w v))
  case atStart => exact ⟨0, rfl, by omega, rfl, Lib.hid ⟨HR0.out, HB0.out⟩⟩
  case round =>
    obtain ⟨k, rfl, hk, rfl, HK⟩ := hrel
    clear HR0 HB0
    have hcw : Cdr wr c f o cap0 := HC.out.keep (by rw [HB.out]; exact HK.out.2)
    have p1 := hcw.ptr
    by_cases hlk : k < 32
    · have hlk' : (k : Int) < 32 := by omega
      have hk0 : (0 : Int) ≤ (k : Int) := by omega
      have x1 := (HK.out.2.cell (p := ⟨h1, q1 + k, none⟩) l1).trans (HX.out k hlk)
      have y1 := (HK.out.2.cell (p := ⟨h2, q2 + k, none⟩) l2).trans (HY.out k hlk)
      have e1 := HK.out.1.cell k hlk
      have f1 := HK.out.1.free k
      rw [if_neg (Nat.lt_irrefl k)] at e1
      have hfd : Fld wr.drew f := hcw.fld.keep (Below.refl _ _).drew
      have hX := BX.out k hlk
      have hY := BY.out k hlk
      obtain ⟨xv, hxv⟩ : ∃ xv, xv = X k := ⟨_, rfl⟩
      obtain ⟨yv, hyv⟩ : ∃ yv, yv = Y k := ⟨_, rfl⟩
      have HXV := Lib.hid hxv
      have HYV := Lib.hid hyv
      rw [← hxv] at x1 hX
      rw [← hyv] at y1 hY
      have HA := Lib.hid (fadd f xv yv wr.drew hfd hX hY)
      clear hxv hyv hcw hfd
      go_wp2_with fail
      refine wp_region_still_tail 16 (by kernel_rfl) (by kernel_rfl) ?_
      simp only [List.take_succ_cons, List.take_zero, List.drop_succ_cons, List.drop_zero]
      repeat still_step
      still_call HA.out
      repeat still_step
      refine wpStill_nil ?_
      change wpList _ _ _ _ _ wr.drew
      have e1d : wr.drew.cell? ⟨B, k, none⟩ = some (.int .u8 ((0 : Nat) : Int)) := e1
      have f1d : wr.drew.frozen? ⟨B, k, none⟩ = false := f1
      go_wp2_with fail
      go_roundg (32 - (k + 1))
      case measure => omega
      case rel => exact ⟨k + 1, by go_num, by omega, rfl, Lib.hid ⟨(Row8.put (x := xv ^^^ yv) (w := wr.drew) (HK.out.1.keep rfl) hlk).congr (fun j _ => by
        try dsimp only
        by_cases e : j = k
        · subst e; rw [if_pos rfl, if_pos (by omega), HXV.out, HYV.out]
        · rw [if_neg e]
          by_cases h : j < k
          · rw [if_pos h, if_pos (by omega)]
          · rw [if_neg h, if_neg (by omega)]), HK.out.2.drew.setCell (p := ⟨B, k, none⟩) (Nat.le_refl _) _⟩⟩
    · obtain rfl : k = 32 := by omega
      have p2 := hcw.rows
      have HCW := Lib.hid hcw
      have p6 := hcw.cap6
      obtain ⟨U, hU⟩ := row_vals (by omega) hcw.raw
      have HU := Lib.hid hU
      have hol : o < wr.heap.size := cell?_lt (hU 0 (by omega)).1
      clear hU hcw
      obtain ⟨w1, hw1⟩ : ∃ w1, wr = w1 := ⟨_, rfl⟩
      rw [hw1] at HK HCW HU p1 p2 hol ⊢
      clear hw1
      obtain ⟨B1, hB1⟩ : ∃ B1, w1.heap.size = B1 := ⟨_, rfl⟩
      have HB1 := Lib.hid hB1
      rw [hB1] at hol
      clear hB1
      have H0 : Hid (Rows8 w1 B1 (.slice none 0 0) 0 1 (fun _ => 0) (fun l _ => gr (4 + l) i) ∧ Below B1 w1 w1) := Lib.hid ⟨Rows8.start _ _ _ _ _, Below.refl _ _⟩
      go_wp2_with fail
      go_loopg [12, 65] 2 (fun q s12 s65 v => ∃ (k : Nat) (G : Nat → Nat), s65 = .int .i64 (k : Int) ∧ k ≤ 2 ∧ q = 2 - k ∧ Hid (Rows8 v B1 s12 k 1 G (fun l _ => gr (4 + l) i) ∧ Below B1 w1 v))
      case atStart => exact ⟨0, _, rfl, by omega, rfl, H0⟩
      case round =>
        obtain ⟨k, G, rfl, hk, rfl, HS⟩ := hrel
        clear H0
        by_cases hl2 : k < 2
        · have hl2' : (k : Int) < 2 := by omega
          have hk0 : (0 : Int) ≤ (k : Int) := by omega
          obtain ⟨hu, g, q, cp, eU, hgl, hx⟩ := HU.out (4 + k) (by omega)
          rw [eU] at hu
          have d1 := (HS.out.2.cell (p := ⟨o, 4 + k, none⟩) hol).trans hu
          have d2 := (HS.out.2.cell (p := ⟨g, q + i, none⟩) (by rw [← HB1.out]; exact hgl)).trans (hx i hi)
          obtain ⟨xs, hxs1, hxs2⟩ := HS.out.1.own
          have HX1 := Lib.hid hxs1
          have HX2 := Lib.hid hxs2
          obtain ⟨yv, hyv⟩ : ∃ yv, yv = gr (4 + k) i := ⟨_, rfl⟩
          have HYV := Lib.hid hyv
          rw [← hyv] at d2
          have hB1w : B1 ≤ wr.heap.size := by rw [← HB1.out]; exact HS.out.2.size
          have hb1 : Below wr.heap.size wr ((wr.alloc (.cells #[.int .u8 (yv : Nat)] 5)).alloc (.cells #[.slice (some ⟨wr.heap.size, 0, none⟩) 1 1] 29)) := ((Below.refl _ _).alloc (Nat.le_refl _) _).alloc (by simp) _
          have hg1 : Row8 ((wr.alloc (.cells #[.int .u8 (yv : Nat)] 5)).alloc (.cells #[.slice (some ⟨wr.heap.size, 0, none⟩) 1 1] 29)) wr.heap.size 1 (fun _ => yv) := by
            have hb := (alloc_old (wr.alloc (.cells #[.int .u8 (yv : Nat)] 5)) (.cells #[.slice (some ⟨wr.heap.size, 0, none⟩) 1 1] 29) (k := wr.heap.size) (by rw [alloc_size]; omega)).trans (alloc_block wr _)
            exact ⟨fun j hj => by
              obtain rfl : j = 0 := by omega
              rw [cell_of_block hb]; rfl, fun j => free_of_block hb⟩
          have HP := Lib.hid (And.intro (HS.out.1.keep hb1) (And.intro hg1 hb1))
          have HOW := Lib.hid (own_keep HX1.out hb1)
          have hsz : ((wr.alloc (.cells #[.int .u8 (yv : Nat)] 5)).alloc (.cells #[.slice (some ⟨wr.heap.size, 0, none⟩) 1 1] 29)).heap.size = wr.heap.size + 2 := by rw [alloc_size, alloc_size]
          have HSZ := Lib.hid hsz
          obtain ⟨p4, c4, e4⟩ := own_shape hxs1
          subst e4
          clear hxs1 hxs2 hyv hx hu hb1 hg1 hsz eU
          go_wp2_with (at_builtin; refine append_mine _ rfl (.tmp 69) (.tmp 75) 25 rfl B1 29 i0 (.slice none 0 0) 1 24 Try.underlying25 hi0 hz0 hz1 hz2 rfl (by decide) _ k xs rfl HOW.out ⟨wr.heap.size + 1, 0, none⟩ 1 1 [.slice (some ⟨wr.heap.size, 0, none⟩) 1 1] rfl rfl (fun j u hj => (by rw [addr_add, Nat.zero_add, ← alloc_size wr (.cells #[.int .u8 (yv : Nat)] 5), cell_of_block (alloc_block _ _)]; have : j < 1 := (List.getElem?_eq_some_iff.1 hj).1; (obtain rfl : j = 0 := by omega); exact hj)) (by intro u hu; simp at hu; subst hu; rfl) (by unfold maxLen; omega) (by omega) (Nat.le_trans hB1w HP.out.2.2.size) (by decide) ?_; intro v' w5 own5 gr5 hv5; have H5 := Lib.hid (And.intro own5 (And.intro gr5 hv5)); clear own5 gr5 hv5)
          have HN : Hid (Rows8 w5 B1 v' (k + 1) 1 (fun l => if l = k then wr.heap.size else G l) (fun l _ => gr (4 + l) i) ∧ Below B1 w1 w5) := by
            refine Lib.hid ⟨HP.out.1.add HOW.out HX2.out (by rw [← HYV.out]; exact HP.out.2.1) hB1w (by have := HSZ.out; omega) (fun e => by have := (HX1.out.lt _ e).2; omega) (fun l hl e => by have := (HS.out.1.base l hl).2; omega) H5.out.1 H5.out.2.1 H5.out.2.2, ?_⟩
            have hB1w1 : B1 ≤ w1.heap.size := by rw [HB1.out]; exact Nat.le_refl _
            exact Below.grown (HS.out.2.trans (HP.out.2.2.mono hB1w)) H5.out.2.1 (Nat.le_trans hB1w HP.out.2.2.size) (fun k hk => (HOW.out.lt k hk).1)
          clear H5 HP HOW
          go_roundg (2 - (k + 1))
          case measure => omega
          case rel => exact ⟨k + 1, _, by go_num, by omega, rfl, HN⟩
        · obtain rfl : k = 2 := by omega
          obtain ⟨o12, cc, e12, hraw⟩ := HS.out.1.mat (by omega)
          subst e12
          have hcw2 : Cdr wr c f o cap0 := HCW.out.keep (by rw [HB1.out]; exact HS.out.2)
          have p12 := hcw2.ptr
          have hb3 : Below wr.heap.size wr (wr.alloc (.cells #[.slice (some ⟨B, 0, none⟩) 32 32] 29)) := (Below.refl _ _).alloc (Nat.le_refl _) _
          have hBw1 : B < w1.heap.size := cell?_lt (HK.out.1.cell 0 (by omega))
          have hrow : Row8 wr B 32 (fun j => X j ^^^ Y j) := (HK.out.1.keep (HS.out.2.block B (by rw [← HB1.out]; exact hBw1))).congr (fun j hj => if_pos hj)
          have raw2 : RawIn (wr.alloc (.cells #[.slice (some ⟨B, 0, none⟩) 32 32] 29)) (some ⟨wr.heap.size, 0, none⟩) (rowsOf 1 32 (fun _ j => X j ^^^ Y j)) := rawIn_of fun l hl => by
            obtain rfl : l = 0 := by omega
            refine ⟨B, 0, 32, by rw [Nat.add_zero, cell_of_block (alloc_block _ _)]; rfl, fun j hj => ?_⟩
            rw [Nat.zero_add]
            exact (hrow.keep (alloc_old wr _ (cell?_lt (hrow.cell 0 (by omega))))).cell j hj
          have bT : Bd 1 32 (fun _ j => X j ^^^ Y j) := fun _ _ j hj => xor_lt (BX.out j hj) (BY.out j hj)
          have bA : Bd 2 1 (fun l _ => gr (4 + l) i) := fun l hl _ _ => gr_bd 6 4 (4 + l) (by omega) i hi
          have g1 := rowsOf_facts bA (by omega) (by omega) (by omega) (by omega)
          have g2 := rowsOf_facts bT (by omega) (by omega) (by omega) (by omega)
          have m4 := mmul f (some ⟨o12, 0, none⟩) (some ⟨wr.heap.size, 0, none⟩) (rowsOf 2 1 (fun l _ => gr (4 + l) i)) (rowsOf 1 32 (fun _ j => X j ^^^ Y j)) cc 1 32 _ (hcw2.fld.keep hb3) (hraw.keep hb3) raw2 g1.1 g2.1 g1.2.1 g2.2.1 (fun l xs hx => by rw [rowsOf_len]; exact g1.2.2 l xs hx) g2.2.2
          rw [rowsOf_len, rowsOf_len] at m4
          have HM4 := Lib.hid m4
          have HB3 : Hid (Below B w (wr.alloc (.cells #[.slice (some ⟨B, 0, none⟩) 32 32] 29)) ∧ B ≤ wr.heap.size) := Lib.hid (by
            have hBB1 : B ≤ B1 := by rw [← HB1.out]; omega
            have hB1r : B1 ≤ wr.heap.size := by rw [← HB1.out]; exact HS.out.2.size
            exact ⟨(HK.out.2.trans (HS.out.2.mono hBB1)).trans (hb3.mono (by omega)), by omega⟩)
          have HE : Hid (EqM 2 32 (mm 1 (ent (rowsOf 2 1 (fun l _ => gr (4 + l) i))) (ent (rowsOf 1 32 (fun _ j => X j ^^^ Y j)))) (dlt i X Y)) := Lib.hid ((mm_congr (rowsOf_ent _) (rowsOf_ent _)).trans (fun l hl j hj => by
            show sx 1 (fun t => mul (gr (4 + l) i) (X j ^^^ Y j)) = _
            rw [sx_one (c := 0) (by omega) (fun t ht hne => absurd ht (by omega))]
            rfl))
          clear HS hraw hcw2 hb3 hrow raw2 bT bA g1 g2 m4 HCW HU
          go_wp2_with fail
          refine HM4.out.mono ?_
          rintro e w6 ⟨rfl, o6, b6⟩
          rw [alloc_size] at o6 b6
          have HR : Hid (EncRet w (dlt i X Y) 2 (.returned (.tuple #[.slice (some ⟨wr.heap.size + 1, 0, none⟩) 2 2, .int .i64 0])) w6) := Lib.hid ⟨_, rfl, o6.congr HE.out, by rw [HB.out]; have := HB3.out.2; omega, by rw [HB.out]; exact HB3.out.1.trans (b6.mono (by have := HB3.out.2; omega))⟩
          clear o6 b6 HM4
          go_wp2_with fail
          go_ret2
          exact HR.out
end Go.Proofs.Ytajpnbmfeapmcaa
