import Derived.Test.YtoofgcdilgfclaaU40
import Derived.Test.YtoofgcdilgfclaaU47
namespace Go.Proofs.Ytoofgcdilgfclaa
open Go.RowKit Go.Sort
set_option maxRecDepth 100000
set_option maxHeartbeats 2000000

/-- pieceBytes of a piece that is right. -/
def PBRet (L : List Nat) (w : World) (e : Ending) (w' : World) : Prop := ∃ g cap, e = .returned (.slice (some ⟨g, 0, none⟩) L.length cap) ∧ BL w' (some ⟨g, 0, none⟩) L ∧ Below w.heap.size w w'
theorem rpieceBytes (s g i : Nat) (D : List Nat) (A : Option Addr) (c : Nat) (w : World) (hr : (⟨(s : Int), (g : Int), (i : Int), D⟩ : Px).Right) (hb : By D) (h : BL w A D) :
    Calls Try.prog 47 #[pv (s : Int) (g : Int) (i : Int) A 32 c] w (PBRet (⟨(s : Int), (g : Int), (i : Int), D⟩ : Px).lay w) := by
  obtain ⟨a1, a2, a3, a4, a5, a6, a7⟩ := hr
  dsimp only at a1 a2 a3 a4 a5 a6 a7
  have hrd := h.rd
  rw [a7] at hrd
  refine (rbytes40 ⟨s, g, i, gt D⟩ A c w ⟨by dsimp only; omega, by dsimp only; omega, by dsimp only; omega, by dsimp only; omega, fun j _ => hb.gt j⟩ hrd).mono ?_
  rintro e w' ⟨g0, cap, rfl, ho, hbl, _, _, _⟩
  have hl : (⟨(s : Int), (g : Int), (i : Int), D⟩ : Px).lay.length = 40 := Px.lay_len ⟨a1, a2, a3, a4, a5, a6, a7⟩
  refine ⟨g0, cap, by rw [hl], BL.own ho hl (fun j hj => ?_), hbl⟩
  have e1 := byteL_len s 1
  have e2 := byteL_len g 6
  have e3 := byteL_len i 1
  show pcF ⟨s, g, i, gt D⟩ j = gt (byteL s 1 ++ (byteL g 6 ++ (byteL i 1 ++ D))) j
  unfold pcF
  dsimp only
  by_cases h0 : j = 0
  · subst h0; rw [if_pos rfl, gt_app, if_pos (by omega), gt_byteL (by omega)]; exact (byte1 s (by omega)).symm
  · by_cases h1 : j < 7
    · rw [if_neg h0, if_pos h1, gt_app, if_neg (by omega), e1, gt_app, if_pos (by omega), gt_byteL (by omega)]
    · by_cases h2 : j = 7
      · subst h2; rw [if_neg h0, if_neg h1, if_pos rfl, gt_app, if_neg (by omega), e1, gt_app, if_neg (by omega), e2, gt_app, if_pos (by omega), gt_byteL (by omega)]; exact (byte1 i (by omega)).symm
      · rw [if_neg h0, if_neg h1, if_neg h2, gt_app, if_neg (by omega), e1, gt_app, if_neg (by omega), e2, gt_app, if_neg (by omega), e3]
        congr 1
theorem rlayRep {w : World} {v : Value} {p : Rx} (h : RVal w v p) (hp : p.Right) : Calls Try.prog 24 #[v] w (CatRet p.lay w) := by
  obtain ⟨A1, c1, A2, c2, rfl, h1, h2⟩ := h
  obtain ⟨code, boot, l, m⟩ := p
  obtain ⟨⟨e1, e2⟩, ⟨e3, e4⟩, e5, e6, e7, e8⟩ := hp
  dsimp only at h1 h2 e1 e2 e3 e4 e5 e6 e7 e8 ⊢
  obtain ⟨code, rfl⟩ := Int.eq_ofNat_of_zero_le e1
  obtain ⟨boot, rfl⟩ := Int.eq_ofNat_of_zero_le e3
  obtain ⟨H, hH⟩ : ∃ H, w.heap.size = H := ⟨_, rfl⟩
  have HH := Lib.hid hH
  obtain ⟨w1, hw1⟩ : ∃ w1, w.alloc (.cells #[.int .i64 (code : Int), .int .i64 (boot : Int), .slice A1 l.length c1, .slice A2 m.length c2] 39) = w1 := ⟨_, rfl⟩
  have HW1 := Lib.hid hw1
  have hb1 : Below H w w1 := by rw [← hw1, ← hH]; exact (Below.refl _ _).alloc (Nat.le_refl _) _
  have HB1 := Lib.hid hb1
  have HV1 : Hid (RV w1 H (code : Int) (boot : Int) (.slice A1 l.length c1) (.slice A2 m.length c2)) := Lib.hid (by rw [← hw1]; exact RV.of_new hH)
  have HP1 : Hid (PR w1 (.slice A1 l.length c1) l) := Lib.hid (h1.below (by rw [hH]; exact hb1))
  have HI1 : Hid (IR w1 (.slice A2 m.length c2) m) := Lib.hid (h2.below (by rw [hH]; exact hb1))
  have HRP : Hid (∀ x ∈ l, x.Right) := Lib.hid e7
  have HRI : Hid (∀ x ∈ m, x.Right) := Lib.hid e8
  obtain ⟨base, hbase⟩ : ∃ base, w1.heap.size = base := ⟨_, rfl⟩
  have HBS := Lib.hid hbase
  have HHB : Hid (H < base) := Lib.hid (by rw [← hbase]; exact HV1.out.lt)
  have BD : Hid (Below base w1 w1.drew) := Lib.hid (by rw [← hbase]; exact below_drewN 1 w1)
  have BZ : Hid (base ≤ w1.drew.heap.size) := Lib.hid (by rw [← hbase]; exact Nat.le_refl _)
  obtain ⟨n1, hn1⟩ : ∃ n, l.length = n := ⟨_, rfl⟩
  obtain ⟨n2, hn2⟩ : ∃ n, m.length = n := ⟨_, rfl⟩
  have HN1 := Lib.hid hn1
  have HN2 := Lib.hid hn2
  obtain ⟨T, hT⟩ : ∃ T, Rx.lay ⟨(code : Int), (boot : Int), l, m⟩ = T := ⟨_, rfl⟩
  have HT : Hid (T = byteL code 1 ++ byteL boot 4 ++ [n1] ++ layPs l ++ [n2] ++ layIs m) := Lib.hid (by
    rw [← hT, ← hn1, ← hn2]
    unfold Rx.lay
    simp only [Int.toNat_natCast, List.append_assoc]
    rw [byteL_1 (show l.length < 256 by omega), byteL_1 (show m.length < 256 by omega)])
  rw [hT]
  rw [hn1] at HW1 HV1 HP1 e5 ⊢
  rw [hn2] at HW1 HV1 HI1 e6 ⊢
  have HVW : Hid (∀ W, Below base w1 W → RV W H (code : Int) (boot : Int) (.slice A1 n1 c1) (.slice A2 n2 c2)) := Lib.hid (fun W hW => HV1.out.below (by rw [HBS.out]; exact hW))
  have HPW : Hid (∀ W, Below base w1 W → PR W (.slice A1 n1 c1) l ∧ IR W (.slice A2 n2 c2) m) := Lib.hid (fun W hW => ⟨HP1.out.below (by rw [HBS.out]; exact hW), HI1.out.below (by rw [HBS.out]; exact hW)⟩)
  have em1 : (n1 : Int) % 256 = (n1 : Int) := by omega
  have em2 : (n2 : Int) % 256 = (n2 : Int) := by omega
  clear hw1 hb1 h1 h2 hH e7 e8 hn1 hn2 hT e1 e2 e3 e4 hbase
  have z0 : w1.drew.cell? ⟨H, 0, none⟩ = some (.int .i64 (code : Int)) := HV1.out.c0
  have z1 : w1.drew.cell? ⟨H, 1, none⟩ = some (.int .i64 (boot : Int)) := HV1.out.c1
  unfold rpv
  go_enter Try.func24, Try.ntmps24
  go_wp2_with fail
  rw [HW1.out, HH.out]
  go_cut [3] from 6 to 12 (fun s3 wx => Hid (OwnL wx base s3 (byteL code 1 ++ byteL boot 4) ∧ s3 ≠ .slice none 0 0 ∧ Below base w1 wx ∧ base ≤ wx.heap.size))
  case first =>
    go_region_law (first
      | (refine step_append_L _ rfl (.tmp 8) (.tmp 11) 22 rfl Try.underlying22 (.slice (some ⟨g2, 0, none⟩) 1 k2) (byteL code 1) rfl HO2'.out (some ⟨g3, 0, none⟩) 4 k3 (byteL boot 4) rfl (byteL_len boot 4) HL3.out (by rw [byteL_len]; omega) HB3.out HZ3.out ?_; intro v4 w4 own4 hb4 hz4 hne4; have HO4 := Lib.hid own4; have HB4 := Lib.hid hb4; have HZ4 := Lib.hid hz4; have HN4 : Hid (v4 ≠ .slice none 0 0) := Lib.hid (hne4 (by simp)); clear own4 hb4 hz4 hne4)
      | (go_simp; go_at_call 43; (with_reducible refine (rbigL code 1 1 rfl _ (by omega) (by omega) BD.out BZ.out).mono ?_); rintro e w2 ⟨g2, k2, rfl, ho2, hl2, hb2, hh2, hz2⟩; (try dsimp only); have HO2 := Lib.hid ho2; have HB2 := Lib.hid hb2; have HZ2 := Lib.hid hz2; have d1 := (HVW.out _ hb2).c1; clear ho2 hl2 hb2 hh2 hz2)
      | (go_simp; go_at_call 43; (with_reducible refine (rbigL boot 4 4 rfl _ (by omega) (by omega) HB2.out HZ2.out).mono ?_); rintro e w3 ⟨g3, k3, rfl, ho3, hl3, hb3, hh3, hz3⟩; (try dsimp only); have HL3 := Lib.hid hl3; have HB3 := Lib.hid hb3; have HZ3 := Lib.hid hz3; have HO2' := Lib.hid (HO2.out.keep hh3); clear ho3 hl3 hb3 hh3 hz3))
    all_goals
      go_wp2_with fail
      go_meet
      exact Lib.hid ⟨HO4.out, HN4.out, HB4.out, HZ4.out⟩
  case rest =>
  have HO := Lib.hid hcut.out.1
  have HNb := Lib.hid hcut.out.2.1
  have HBb := Lib.hid hcut.out.2.2.1
  have HZb := Lib.hid hcut.out.2.2.2
  obtain ⟨vb, hvb⟩ : ∃ vb, vb = u3 := ⟨_, rfl⟩
  subst hvb
  clear hcut z0 z1
  have y2 := (HVW.out _ HBb.out).c2
  have HHd : Hid ((byteL code 1 ++ byteL boot 4).length = 5) := Lib.hid (by rw [List.length_append, byteL_len, byteL_len])
  have HO1 : Hid (∀ x : Nat, BL (wc.alloc (.cells #[.int .u8 (x : Int)] 5)) (some ⟨wc.heap.size, 0, none⟩) [x] ∧ OwnL (wc.alloc (.cells #[.int .u8 (x : Int)] 5)) base vb (byteL code 1 ++ byteL boot 4) ∧ Below base w1 (wc.alloc (.cells #[.int .u8 (x : Int)] 5)) ∧ base ≤ (wc.alloc (.cells #[.int .u8 (x : Int)] 5)).heap.size) := Lib.hid (fun x => by
    have hb : Below wc.heap.size wc (wc.alloc (.cells #[.int .u8 (x : Int)] 5)) := (Below.refl _ _).alloc (Nat.le_refl _) _
    exact ⟨BL.one wc x, HO.out.keep hb, HBb.out.trans (hb.mono HZb.out), Nat.le_trans HZb.out hb.size⟩)
  go_wp2_with (at_builtin; refine append_L _ rfl (.tmp 13) (.tmp 18) 22 rfl Try.underlying22 vb (byteL code 1 ++ byteL boot 4) rfl (HO1.out n1).2.1 (some ⟨wc.heap.size, 0, none⟩) 1 1 [n1] rfl rfl (HO1.out n1).1 (by rw [HHd.out]; omega) (HO1.out n1).2.2.1 (HO1.out n1).2.2.2 ?_; intro v7 w7 own7 hb7 hz7 hne7; have HO7 := Lib.hid own7; have HB7 := Lib.hid hb7; have HZ7 := Lib.hid hz7; have HN7 := Lib.hid (hne7 HNb.out); clear own7 hb7 hz7 hne7)
  have HHead : Hid ((byteL code 1 ++ byteL boot 4 ++ [n1]).length = 6) := Lib.hid (by rw [List.length_append, HHd.out]; rfl)
  obtain ⟨T2, hT2⟩ : ∃ T2, byteL code 1 ++ byteL boot 4 ++ [n1] = T2 := ⟨_, rfl⟩
  rw [hT2] at HHead HO7 HT
  clear hT2 HO HO1 HHd HNb HBb HZb y2
  go_loopg [3, 4] n1 (fun q s3 s4 v => ∃ (i : Nat) (vb : Value), vb = s3 ∧ s4 = .int .i64 (i : Int) ∧ i ≤ n1 ∧ q = n1 - i ∧ Hid (OwnL v base vb (T2 ++ layPs (l.take i)) ∧ vb ≠ .slice none 0 0 ∧ Below base w1 v ∧ base ≤ v.heap.size))
  case atStart => exact ⟨0, v7, rfl, rfl, by omega, rfl, Lib.hid ⟨by rw [show layPs (l.take 0) = [] from rfl, List.append_nil]; exact HO7.out, HN7.out, HB7.out, HZ7.out⟩⟩
  case round =>
    obtain ⟨i, vb', rfl, rfl, hi, rfl, HL⟩ := hrel
    clear HO7
    have y2 := (HVW.out _ HL.out.2.2.1).c2
    by_cases hlt : i < n1
    · have hlt' : (i : Int) < (n1 : Int) := by omega
      have hi0 : (0 : Int) ≤ (i : Int) := by omega
      obtain ⟨x, b, A', c', hx, rfl, hbl, a0, a1, a2, a3, hd, hy⟩ := (HPW.out _ HL.out.2.2.1).1.at hlt
      have hxr := HRP.out x (List.mem_of_getElem? hx)
      obtain ⟨s, g, k, D, rfl, hDl, _⟩ := Px.nats hxr
      dsimp only at a0 a1 a2 a3 hd hy hDl
      rw [hDl] at a3
      have HX := Lib.hid hx
      have HCL := Lib.hid (rpieceBytes s g k D A' c' wr hxr hy hd)
      have HL40 := Lib.hid (Px.lay_len hxr)
      have HLB : Hid ((T2 ++ layPs (l.take i)).length ≤ 100) := Lib.hid (by
        rw [List.length_append, HHead.out, layPs_take_len HRP.out (by rw [HN1.out]; omega)]; omega)
      obtain ⟨lx, hlx⟩ : ∃ lx, (⟨(s : Int), (g : Int), (k : Int), D⟩ : Px).lay = lx := ⟨_, rfl⟩
      have HLX := Lib.hid hlx
      rw [hlx] at HCL HL40
      unfold pv at HCL
      clear hx hxr hd hy hDl hlx
      go_wp2_with fail
      refine HCL.out.mono ?_
      rintro e w8 ⟨g8, c8, rfl, k8, b8⟩
      try dsimp only
      rw [HL40.out]
      have K8 := Lib.hid k8
      have HO8 := Lib.hid (HL.out.1.keep b8)
      have HB8 : Hid (Below base w1 w8) := Lib.hid (HL.out.2.2.1.trans (b8.mono HL.out.2.2.2))
      have HZ8 : Hid (base ≤ w8.heap.size) := Lib.hid (Nat.le_trans HL.out.2.2.2 b8.size)
      clear k8 b8 a0 a1 a2 a3 y2
      go_wp2_with (at_builtin; refine append_L _ rfl (.tmp 27) (.tmp 33) 22 rfl Try.underlying22 vb' _ rfl HO8.out (some ⟨g8, 0, none⟩) 40 c8 lx rfl HL40.out K8.out (by have := HLB.out; omega) HB8.out HZ8.out ?_; intro v9 w9 own9 hb9 hz9 hne9; have HO9 := Lib.hid own9; have HB9 := Lib.hid hb9; have HZ9 := Lib.hid hz9; have HN9 := Lib.hid (hne9 HL.out.2.1); clear own9 hb9 hz9 hne9)
      go_roundg (n1 - (i + 1))
      case measure => omega
      case rel => exact ⟨i + 1, v9, rfl, by go_num, by omega, rfl, Lib.hid ⟨by rw [layPs_take HX.out, HLX.out, ← List.append_assoc]; exact HO9.out, HN9.out, HB9.out, HZ9.out⟩⟩
    · obtain rfl : i = n1 := by omega
      have HO : Hid (OwnL wr base vb' (T2 ++ layPs l)) := Lib.hid (by have := HL.out.1; rwa [← HN1.out, List.take_length] at this)
      have HNb := Lib.hid HL.out.2.1
      have HBb := Lib.hid HL.out.2.2.1
      have HZb := Lib.hid HL.out.2.2.2
      have y3 := (HVW.out _ HBb.out).c3
      have HLB : Hid ((T2 ++ layPs l).length ≤ 100) := Lib.hid (by
        rw [List.length_append, HHead.out, layPs_len HRP.out, HN1.out]; omega)
      clear HL
      obtain ⟨ww, rfl⟩ : ∃ ww : World, ww = wr := ⟨wr, rfl⟩
      have HO1 : Hid (∀ x : Nat, BL (ww.alloc (.cells #[.int .u8 (x : Int)] 5)) (some ⟨ww.heap.size, 0, none⟩) [x] ∧ OwnL (ww.alloc (.cells #[.int .u8 (x : Int)] 5)) base vb' (T2 ++ layPs l) ∧ Below base w1 (ww.alloc (.cells #[.int .u8 (x : Int)] 5)) ∧ base ≤ (ww.alloc (.cells #[.int .u8 (x : Int)] 5)).heap.size) := Lib.hid (fun x => by
        have hb : Below ww.heap.size ww (ww.alloc (.cells #[.int .u8 (x : Int)] 5)) := (Below.refl _ _).alloc (Nat.le_refl _) _
        exact ⟨BL.one ww x, HO.out.keep hb, HBb.out.trans (hb.mono HZb.out), Nat.le_trans HZb.out hb.size⟩)
      go_wp2_with (at_builtin; refine append_L _ rfl (.tmp 35) (.tmp 40) 22 rfl Try.underlying22 vb' _ rfl (HO1.out n2).2.1 (some ⟨ww.heap.size, 0, none⟩) 1 1 [n2] rfl rfl (HO1.out n2).1 (by have := HLB.out; omega) (HO1.out n2).2.2.1 (HO1.out n2).2.2.2 ?_; intro v9 w9 own9 hb9 hz9 hne9; have HO9 := Lib.hid own9; have HB9 := Lib.hid hb9; have HZ9 := Lib.hid hz9; have HN9 := Lib.hid (hne9 HNb.out); clear own9 hb9 hz9 hne9)
      have HLC : Hid ((T2 ++ layPs l ++ [n2]).length ≤ 101) := Lib.hid (by rw [List.length_append]; have := HLB.out; simp only [List.length_cons, List.length_nil]; omega)
      obtain ⟨T3, hT3⟩ : ∃ T3, T2 ++ layPs l ++ [n2] = T3 := ⟨_, rfl⟩
      rw [hT3] at HO9 HT HLC
      clear hT3 HO1 HO HNb HBb HZb y2 y3
      go_loopg [3, 5] n2 (fun q s3 s5 v => ∃ (j : Nat) (vb : Value), vb = s3 ∧ s5 = .int .i64 (j : Int) ∧ j ≤ n2 ∧ q = n2 - j ∧ Hid (OwnL v base vb (T3 ++ layIs (m.take j)) ∧ vb ≠ .slice none 0 0 ∧ Below base w1 v ∧ base ≤ v.heap.size))
      case atStart => exact ⟨0, v9, rfl, rfl, by omega, rfl, Lib.hid ⟨by rw [show layIs (m.take 0) = [] from rfl, List.append_nil]; exact HO9.out, HN9.out, HB9.out, HZ9.out⟩⟩
      case round =>
        obtain ⟨j, vc, rfl, rfl, hj, rfl, HL⟩ := hrel
        clear HO9
        have y3 := (HVW.out _ HL.out.2.2.1).c3
        by_cases hlt2 : j < n2
        · have hlt' : (j : Int) < (n2 : Int) := by omega
          have hi0 : (0 : Int) ≤ (j : Int) := by omega
          obtain ⟨x, b, A', c', hx, rfl, hbl, a0, a1, a2, hd, hy⟩ := HI1.out.at hlt2
          rw [HBS.out] at hbl
          have hxr := HRI.out x (List.mem_of_getElem? hx)
          have HDL := Lib.hid (Ix.lay_len hxr)
          obtain ⟨s, g, D, rfl, hDl, hlay⟩ := Ix.nats hxr
          dsimp only at a0 a1 a2 hd hy hDl
          rw [hDl] at a2
          have HX := Lib.hid hx
          have HLX := Lib.hid hlay
          have HDD := Lib.hid hDl
          have HLD : Hid ((T3 ++ layIs (m.take j)).length ≤ 10000) := Lib.hid (by
            rw [List.length_append, layIs_take_len HRI.out (by rw [HN2.out]; omega)]; have := HLC.out; omega)
          obtain ⟨T4, hT4⟩ : ∃ T4, T3 ++ layIs (m.take j) = T4 := ⟨_, rfl⟩
          have HT4 := Lib.hid hT4
          have HCW : Hid (∀ W, Below base w1 W → W.cell? ⟨H, 3, none⟩ = some (.slice (some ⟨b, 0, none⟩) n2 c2) ∧ W.cell? ⟨b, j * 3, none⟩ = some (.int .i64 (s : Int)) ∧ W.cell? ⟨b, j * 3 + 1, none⟩ = some (.int .i64 (g : Int)) ∧ W.cell? ⟨b, j * 3 + 2, none⟩ = some (.slice A' 128 c') ∧ BL W A' D) := Lib.hid (fun W hW => ⟨(HVW.out _ hW).c3, (hW.cell (p := ⟨b, _, none⟩) hbl).trans a0, (hW.cell (p := ⟨b, _, none⟩) hbl).trans a1, (hW.cell (p := ⟨b, _, none⟩) hbl).trans a2, hd.below (by rw [HBS.out]; exact hW)⟩)
          have HV0 := Lib.hid HL.out.2.2.1
          have HZ0 := Lib.hid HL.out.2.2.2
          have HNc := Lib.hid HL.out.2.1
          have HO0 := HL.out.1
          rw [hT4] at HO0 HLD
          have HOx := Lib.hid HO0
          clear hx hxr hd hy hDl hlay hT4 HL HO0 a0 a1 a2 y3
          obtain ⟨f3, f0, f1, f2, _⟩ := HCW.out wr HV0.out
          go_wp2_with fail
          refine (rbigL s 1 1 rfl _ (by omega) (by omega) HV0.out HZ0.out).mono ?_
          rintro e w8 ⟨g8, k8, rfl, _, hl8, hb8, hh8, hz8⟩
          try dsimp only
          have HO8 := Lib.hid (HOx.out.keep hh8)
          have HL8 := Lib.hid hl8
          have HB8 := Lib.hid hb8
          have HZ8 := Lib.hid hz8
          clear f0 f1 f2 f3 hl8 hb8 hh8 hz8
          go_wp2_with (at_builtin; refine append_L _ rfl (.tmp 49) (.tmp 56) 22 rfl Try.underlying22 vc T4 rfl HO8.out (some ⟨g8, 0, none⟩) 1 k8 (byteL s 1) rfl (byteL_len s 1) HL8.out (by have := HLD.out; omega) HB8.out HZ8.out ?_; intro v9' w9' own9 hb9 hz9 hne9; have HO9 := Lib.hid own9; have HB9' := Lib.hid hb9; have HZ9' := Lib.hid hz9; have HN9' := Lib.hid (hne9 HNc.out); obtain ⟨f3, f0, f1, f2, _⟩ := HCW.out _ hb9; clear own9 hb9 hz9 hne9)
          refine (rbigL g 6 6 rfl _ (by omega) (by omega) HB9'.out HZ9'.out).mono ?_
          rintro e wa ⟨ga, ka, rfl, _, hla, hba, hha, hza⟩
          try dsimp only
          have HOa := Lib.hid (HO9.out.keep hha)
          have HLa := Lib.hid hla
          have HBa := Lib.hid hba
          have HZa := Lib.hid hza
          clear f0 f1 f2 f3 hla hba hha hza
          go_wp2_with (first
            | (at_builtin; refine append_L _ rfl (.tmp 58) (.tmp 65) 22 rfl Try.underlying22 v9' (T4 ++ byteL s 1) rfl HOa.out (some ⟨ga, 0, none⟩) 6 ka (byteL g 6) rfl (byteL_len g 6) HLa.out (by rw [List.length_append, byteL_len]; have := HLD.out; omega) HBa.out HZa.out ?_; intro vb2 wb own9 hb9 hz9 hne9; have HOb := Lib.hid own9; have HBb := Lib.hid hb9; have HZb := Lib.hid hz9; have HNb := Lib.hid (hne9 HN9'.out); obtain ⟨f3, f0, f1, f2, fd⟩ := HCW.out _ hb9; have HFD := Lib.hid fd; clear own9 hb9 hz9 hne9 fd)
            | (at_builtin; refine append_L _ rfl (.tmp 67) (.tmp 73) 22 rfl Try.underlying22 vb2 (T4 ++ byteL s 1 ++ byteL g 6) rfl HOb.out A' 128 c' D rfl HDD.out HFD.out (by simp only [List.length_append, byteL_len]; have := HLD.out; omega) HBb.out HZb.out ?_; intro vd wd own9 hb9 hz9 hne9; have HOd := Lib.hid own9; have HBd := Lib.hid hb9; have HZd := Lib.hid hz9; have HNd := Lib.hid (hne9 HNb.out); clear own9 hb9 hz9 hne9))
          go_roundg (n2 - (j + 1))
          case measure => omega
          case rel => exact ⟨j + 1, vd, rfl, by go_num, by omega, rfl, Lib.hid ⟨by
            have h := HOd.out
            rw [layIs_take HX.out, HLX.out, ← List.append_assoc, HT4.out]
            simpa only [List.append_assoc] using h, HNd.out, HBd.out, HZd.out⟩⟩
        · obtain rfl : j = n2 := by omega
          have HOf : Hid (OwnL wr base vc T) := Lib.hid (by have := HL.out.1; rw [← HN2.out, List.take_length] at this; rw [HT.out]; exact this)
          go_wp2_with fail
          go_ret
          obtain ⟨g0, c0, rfl, hk, hg, _, hcap⟩ := HOf.out.some_ HL.out.2.1
          exact ⟨g0, c0, rfl, hk, by rw [HH.out]; exact HB1.out.trans (HL.out.2.2.1.mono (Nat.le_of_lt HHB.out)), hcap, by rw [HH.out]; exact Nat.le_trans (Nat.le_of_lt HHB.out) hg⟩
end Go.Proofs.Ytoofgcdilgfclaa
