import Derived.Test.YthpkpmochkiipaaGreatDoorV49
import Derived.LaidEqlPtr
namespace Go.Proofs.YthpkpmochkiipaaGreatDoor
open Go.RowKit Go.Sort
set_option maxRecDepth 100000
set_option maxHeartbeats 20000000

theorem kw_peq (g : Nat) (W : World) : Sem.run Tryz.prog (binOp BinOp.eql 23 (.pointer (some ⟨g, 0, none⟩)) (.pointer (some ⟨g, 0, none⟩))) W = .ok (.bool true) W := by
  have hi : (Tryz.prog.info? 87).isSome = true := by kernel_rfl
  obtain ⟨j, hj⟩ := Option.isSome_iff_exists.1 hi
  exact run_eql_ptr_same W ⟨g, 0, none⟩ Tryz.underlying23 hj
/-- corbellaw14.EngineKnown. -/
theorem engineKnown (w : World) (hE : ErrType w) : Calls Tryz.prog 3 #[] w fun e w' => e = .returned (.bool true) ∧ Below w.heap.size w w' := by
  have q1 := we_eqlNil
  have q2 := we_neqNil
  have q3 := we_eqlNilNil
  have q4 := we_neqNilNil
  have HE := Lib.hid hE
  have HA1 : Hid (∀ j, j < 128 → bytesF 1 j < 256) := Lib.hid (fun j _ => bytesF_lt 1 j)
  have HA2 : Hid (∀ j, j < 128 → bytesF 2 j < 256) := Lib.hid (fun j _ => bytesF_lt 2 j)
  clear hE
  go_enter Tryz.func3, Tryz.ntmps3
  go_wp2_with fail
  refine (lbegin w).mono ?_
  rintro e w1 ⟨g, nd, p, rfl, L1, _⟩
  try dsimp only
  have HL1 := Lib.hid L1
  obtain ⟨lim, hlim⟩ : ∃ lim, w1.heap.size = lim := ⟨_, rfl⟩
  rw [hlim] at HL1
  clear L1 hlim
  go_wp2_with fail
  refine (le_blank_no w1).mono ?_
  rintro e w2 ⟨rfl, hw⟩
  obtain rfl := hw.symm
  try dsimp only
  go_wp2_with fail
  refine (lknown14 w1).mono ?_
  rintro e w3 ⟨rfl, b3⟩
  try dsimp only
  have HL3 := Lib.hid (HL1.out.below b3)
  clear b3 HL1
  go_wp2_with fail
  refine (cbytes 1 128 128 rfl w3 (by omega)).mono ?_
  rintro e w4 ⟨ba, rfl, BA, b4, _⟩
  try dsimp only
  have HL4 := Lib.hid (HL3.out.below b4)
  have HS4 := Lib.hid BA
  clear BA b4 HL3
  go_wp2_with fail
  refine (cbytes 2 128 128 rfl w4 (by omega)).mono ?_
  rintro e w5 ⟨bb, rfl, BB, b5, _⟩
  try dsimp only
  have HL5 := Lib.hid (HL4.out.below b5)
  have HS5 := Lib.hid (And.intro (HS4.out.below b5) BB)
  clear BB b5 HL4 HS4
  -- nothing was written
  have HR5 := Lib.hid (le_read HL5.out (m := 0) kw_fA (by omega) (fun _ => by show (1 : Nat) ≤ _; omega) (st := 7) (by omega))
  rw [kw_z] at HR5
  go_wp2_with fail
  refine HR5.out.mono ?_
  rintro e w6 ⟨r, u, rfl, L6, K6, ⟨l, hl, _⟩ | ⟨D, Pz, cz, hD, rfl, rfl, Rz, _, _⟩⟩
  · cases hl
  cases hD
  try dsimp only
  have HL6 : Hid (LE w w6 g nd p lim kwA) := Lib.hid L6
  have HS6 := Lib.hid (And.intro (HS5.out.1.keepE K6) (And.intro (HS5.out.2.keepE K6) Rz))
  clear L6 K6 Rz HL5 HS5 HR5
  -- a is written
  have HW6 := Lib.hid (le_write HL6.out (m := 0) kw_fA (by omega) (fun _ => by show (1 : Nat) ≤ _; omega) (st := 7) (by omega) (some ⟨ba, 0, none⟩) 128 (bytesF 1) HS6.out.1.dat HA1.out)
  go_wp2_with fail
  refine HW6.out.mono ?_
  rintro e w7 ⟨u, rfl, L7, K7, E7⟩
  rw [kw_first] at E7
  obtain rfl : u = .nilIface := E7
  try dsimp only
  have HL7 : Hid (LE w w7 g nd p lim (kwB encK (bytesF 1))) := Lib.hid L7
  have HS7 := Lib.hid (And.intro (HS6.out.1.keepE K7) (And.intro (HS6.out.2.1.keepE K7) (HS6.out.2.2.keepE K7)))
  clear L7 K7 HL6 HS6 HW6
  go_wp2_with fail
  go_loopg [10] 6 (fun kk s10 wr => ∃ i : Nat, s10 = .int .i64 (i : Int) ∧ i ≤ 6 ∧ kk = 6 - i ∧ Hid (LE w wr g nd p lim { kwB encK (bytesF 1) with w := (kwB encK (bytesF 1)).w.dnTo true i } ∧ KeepW w7 wr))
  case atStart => exact ⟨0, rfl, by omega, rfl, Lib.hid ⟨HL7.out, KeepW.refl _⟩⟩
  case round =>
    obtain ⟨i, rfl, hi, rfl, HI⟩ := hrel
    obtain ⟨wo, rfl⟩ : ∃ wo : World, wo = wr := ⟨wr, rfl⟩
    by_cases hlt : i < 6
    · have hlt' : (i : Int) < 6 := by omega
      have HDN := Lib.hid (wl_down HI.out.1.wl (n := i) (by omega) true)
      go_wp2_with fail
      refine HDN.out.mono ?_
      rintro e w8 ⟨rfl, W8, K8⟩
      try dsimp only
      have HZ8 : Hid (LE w w8 g nd p lim { kwB encK (bytesF 1) with w := (kwB encK (bytesF 1)).w.dnTo true (i + 1) } ∧ KeepW w7 w8) := Lib.hid ⟨HI.out.1.wire W8 (KeepF.of K8), HI.out.2.trans K8⟩
      clear W8 K8
      go_wp2_with fail
      go_roundg (6 - (i + 1))
      case measure => omega
      case rel => exact ⟨i + 1, by go_num, by omega, rfl, HZ8⟩
    · obtain rfl : i = 6 := by omega
      have HL8 : Hid (LE w wo g nd p lim (kwC encK (bytesF 1))) := Lib.hid HI.out.1
      have HS8 := Lib.hid (And.intro (HS7.out.1.keepE (KeepE.of lim HI.out.2)) (And.intro (HS7.out.2.1.keepE (KeepE.of lim HI.out.2)) (HS7.out.2.2.keepE (KeepE.of lim HI.out.2))))
      clear HL7 HS7 HI
      -- b is not
      have HW8 := Lib.hid (le_write HL8.out (m := 564) (kw_fC HA1.out) (by omega) (fun i => kw_bl _ _ i) (st := 7) (by omega) (some ⟨bb, 0, none⟩) 128 (bytesF 2) HS8.out.2.1.dat HA2.out)
      go_wp2_with fail
      refine HW8.out.mono ?_
      rintro e w9 ⟨uf, rfl, L9, K9, E9⟩
      rw [kw_fails] at E9
      have hE9 : EV w9 uf [4, 4, 4, 4, 4, 4] [4, 5, 0, 1, 2, 3] [7] := E9
      try dsimp only
      have HL9 : Hid (LE w w9 g nd p lim (kwD encK (bytesF 1) (bytesF 2))) := Lib.hid L9
      have HS9 := Lib.hid (And.intro (HS8.out.1.keepE K9) (And.intro (HS8.out.2.2.keepE K9) hE9))
      have HST := Lib.hid (en_stripe hE9 (HE.out.below L9.wl.blw HE.out.lt))
      rw [show Tr.stripeOf [7] = 7 from rfl, show Tr.stripeIs [7] = true from rfl] at HST
      obtain ⟨tu, xu, rfl⟩ := hE9.iface
      clear L9 K9 E9 hE9 HL8 HS8 HW8
      go_wp2_with fail
      refine HST.out.mono ?_
      rintro e wa ⟨rfl, ba'⟩
      try dsimp only
      have HLa := Lib.hid (HL9.out.below ba')
      have HSa := Lib.hid (And.intro (HS9.out.1.below ba') (And.intro (HS9.out.2.1.below ba') (HS9.out.2.2.below ba')))
      clear ba' HL9 HS9 HST
      have HDO := Lib.hid (le_doubtT HLa.out)
      rw [kw_doubt] at HDO
      go_wp2_with fail
      refine HDO.out.mono ?_
      rintro e wb ⟨Ad, cd, rfl, nb, bb'⟩
      try dsimp only
      have HLb := Lib.hid (HLa.out.below bb')
      have HNb : Hid (wb.ownsRow wa.heap.size 3 1 (.slice Ad [7].length cd) [7].length (intsV [7])) := Lib.hid nb
      have HSb := Lib.hid (And.intro (HSa.out.1.below bb') (And.intro (HSa.out.2.1.below bb') (HSa.out.2.2.below bb')))
      clear nb bb' HLa HSa HDO
      -- still in doubt
      have HRb := Lib.hid (le_read HLb.out (m := 1128) (kw_fD HA1.out HA2.out) (by omega) (fun i => kw_dl _ _ _ i) (st := 7) (by omega))
      go_wp2_with fail
      refine HRb.out.mono ?_
      rintro e wc ⟨r, us, rfl, Lc, Kc', hx⟩
      rw [kw_still] at hx
      obtain ⟨l, hl, rfl, hes⟩ | ⟨D, Pz, cz, hD, _⟩ := hx
      rotate_left
      · cases hD
      cases hl
      obtain ⟨ts, xs, rfl⟩ := hes.iface
      try dsimp only
      have HLc : Hid (LE w wc g nd p lim (kwE encK decK (bytesF 1) (bytesF 2))) := Lib.hid Lc
      have HSc := Lib.hid (And.intro (HSb.out.1.keepE Kc') (And.intro (HSb.out.2.1.keepE Kc') (HSb.out.2.2.keepE Kc')))
      have HNc := Lib.hid (own_keepE HNb.out Kc')
      clear Lc Kc' hes HLb HSb HNb HRb
      go_wp2_with fail
      go_loopg [17] 6 (fun kk s17 wr => ∃ i : Nat, s17 = .int .i64 (i : Int) ∧ i ≤ 6 ∧ kk = 6 - i ∧ Hid (LE w wr g nd p lim { kwE encK decK (bytesF 1) (bytesF 2) with w := (kwE encK decK (bytesF 1) (bytesF 2)).w.dnTo false i } ∧ KeepW wc wr))
      case atStart => exact ⟨0, rfl, by omega, rfl, Lib.hid ⟨HLc.out, KeepW.refl _⟩⟩
      case round =>
        obtain ⟨i, rfl, hi, rfl, HI⟩ := hrel
        obtain ⟨wp, rfl⟩ : ∃ wp : World, wp = wr := ⟨wr, rfl⟩
        by_cases hlt : i < 6
        · have hlt' : (i : Int) < 6 := by omega
          have HDN := Lib.hid (wl_down HI.out.1.wl (n := i) (by omega) false)
          go_wp2_with fail
          refine HDN.out.mono ?_
          rintro e w8 ⟨rfl, W8, K8⟩
          try dsimp only
          have HZ8 : Hid (LE w w8 g nd p lim { kwE encK decK (bytesF 1) (bytesF 2) with w := (kwE encK decK (bytesF 1) (bytesF 2)).w.dnTo false (i + 1) } ∧ KeepW wc w8) := Lib.hid ⟨HI.out.1.wire W8 (KeepF.of K8), HI.out.2.trans K8⟩
          clear W8 K8
          go_wp2_with fail
          go_roundg (6 - (i + 1))
          case measure => omega
          case rel => exact ⟨i + 1, by go_num, by omega, rfl, HZ8⟩
        · obtain rfl : i = 6 := by omega
          have HLd : Hid (LE w wp g nd p lim (kwF encK decK (bytesF 1) (bytesF 2))) := Lib.hid HI.out.1
          have HSd := Lib.hid (And.intro (HSc.out.1.keepE (KeepE.of lim HI.out.2)) (And.intro (HSc.out.2.1.keepE (KeepE.of lim HI.out.2)) (HSc.out.2.2.keepE (KeepE.of lim HI.out.2))))
          have HNd := Lib.hid (own_keepE HNc.out (KeepE.of lim HI.out.2))
          clear HLc HSc HNc HI
          have HRd := Lib.hid (le_read HLd.out (m := 1146) (kw_fF HA1.out HA2.out) (by omega) (fun i => by show (kwE encK decK (bytesF 1) (bytesF 2)).next i ≤ _; rw [kw_nE]; exact kw_dl _ _ _ i) (st := 7) (by omega))
          go_wp2_with fail
          refine HRd.out.mono ?_
          rintro e we ⟨r, u, rfl, Le, Ke, hx⟩
          rw [kw_fine] at hx
          obtain ⟨l, hl, _⟩ | ⟨D, Px, cx, hD, rfl, rfl, Rx, _, _⟩ := hx
          · cases hl
          cases hD
          try dsimp only
          have HLe : Hid (LE w we g nd p lim (kwG encK decK (bytesF 1) (bytesF 2))) := Lib.hid Le
          have HSe := Lib.hid (And.intro (HSd.out.1.keepE Ke) (And.intro (HSd.out.2.1.keepE Ke) (HSd.out.2.2.keepE Ke)))
          have HNe := Lib.hid (own_keepE HNd.out Ke)
          have HXe : Hid (Rd we Px 128 (bytesF 1)) := Lib.hid (Rx.rd.congr (fun j hj => dec_enc HA1.out j hj))
          clear Le Ke Rx HLd HSd HNd HRd
          -- what may not be
          have HB1 := Lib.hid (le_read_no HLe.out (st := 40) (by omega))
          go_wp2_with fail
          refine HB1.out.mono ?_
          rintro e wf ⟨ub, rfl, bf, hub⟩
          try dsimp only
          have HLf := Lib.hid (HLe.out.below bf)
          have HSf := Lib.hid (And.intro (HSe.out.1.below bf) (And.intro (HSe.out.2.1.below bf) (And.intro (HSe.out.2.2.below bf) hub)))
          have HNf := Lib.hid (own_keep HNe.out bf)
          have HXf := Lib.hid (HXe.out.keep bf)
          clear bf hub HLe HSe HNe HXe HB1
          have HB2 := Lib.hid (le_read_no HLf.out (st := -1) (by omega))
          go_wp2_with fail
          refine HB2.out.mono ?_
          rintro e wg ⟨ul, rfl, bg, hul⟩
          try dsimp only
          have HLg := Lib.hid (HLf.out.below bg)
          have HSg := Lib.hid (And.intro (HSf.out.1.below bg) (And.intro (HSf.out.2.1.below bg) (And.intro (HSf.out.2.2.1.below bg) (And.intro (HSf.out.2.2.2.below bg) hul))))
          have HNg := Lib.hid (own_keep HNf.out bg)
          have HXg := Lib.hid (HXf.out.keep bg)
          clear bg hul HLf HSf HNf HXf HB2
          have HB3 := Lib.hid (fun P => le_write_short HLg.out (st := 0) (by omega) P 127 127 (by omega))
          go_wp2_with fail
          refine (HB3.out _).mono ?_
          rintro e wh ⟨uw, rfl, bh, huw⟩
          try dsimp only
          have HLh := Lib.hid (HLg.out.below bh)
          have HAh := Lib.hid (HSg.out.1.below bh)
          have HZh := Lib.hid (HSg.out.2.1.rd.keep bh)
          have HFh := Lib.hid (HSg.out.2.2.1.below bh)
          have HBh := Lib.hid (HSg.out.2.2.2.1.below bh)
          have HCh := Lib.hid (HSg.out.2.2.2.2.below bh)
          have HWh := Lib.hid huw
          have HNh := Lib.hid ((own_nums (own_keep HNg.out bh)).1)
          have HXh := Lib.hid (HXg.out.keep bh)
          clear bh huw HLg HSg HNg HXg HB3
          have HTh := Lib.hid (HE.out.below HLh.out.wl.blw HE.out.lt)
          -- what is asked at the end, in whatever world
          have HT : Hid (∀ W, Below wh.heap.size wh W → ErrType W) := Lib.hid (fun W hW => HTh.out.below hW HTh.out.lt)
          have HCN : Hid (∀ W, Below wh.heap.size wh W → Calls Tryz.prog 15 #[ev 1] W fun e w' => e = .returned (.int .i64 1) ∧ Below W.heap.size W w') := Lib.hid (fun W hW => en_code (errno_ev W 1) (HT.out W hW))
          have HCF : Hid (∀ W, Below wh.heap.size wh W → Calls Tryz.prog 15 #[.iface tu xu] W fun e w' => e = .returned (.int .i64 4) ∧ Below W.heap.size W w') := Lib.hid (fun W hW => en_code (HFh.out.below hW) (HT.out W hW))
          have HCB : Hid (∀ W, Below wh.heap.size wh W → Calls Tryz.prog 15 #[ub] W fun e w' => e = .returned (.int .i64 1) ∧ Below W.heap.size W w') := Lib.hid (fun W hW => en_code (HBh.out.below hW) (HT.out W hW))
          have HCL : Hid (∀ W, Below wh.heap.size wh W → Calls Tryz.prog 15 #[ul] W fun e w' => e = .returned (.int .i64 1) ∧ Below W.heap.size W w') := Lib.hid (fun W hW => en_code (HCh.out.below hW) (HT.out W hW))
          have HCS : Hid (∀ W, Below wh.heap.size wh W → Calls Tryz.prog 15 #[uw] W fun e w' => e = .returned (.int .i64 1) ∧ Below W.heap.size W w') := Lib.hid (fun W hW => en_code (HWh.out.below hW) (HT.out W hW))
          have HNO : Hid (∀ W, Below wh.heap.size wh W → Calls Tryz.prog 17 #[.iface tu xu] W fun e w' => ∃ u, e = .returned u ∧ w'.ownsRow W.heap.size 3 1 u [(4 : Int), 5, 0, 1, 2, 3].length (intsV [4, 5, 0, 1, 2, 3]) ∧ Below W.heap.size W w') := Lib.hid (fun W hW => en_nodes (HFh.out.below hW) (by simp))
          have HDO : Hid (∀ W, Below wh.heap.size wh W → Calls Tryz.prog 14 #[.pointer (some ⟨p, 0, none⟩)] W fun en w' => ∃ A c, en = .returned (.slice A 0 c) ∧ True ∧ Below W.heap.size W w') := Lib.hid (fun W hW => (le_doubt (HLh.out.below hW)).mono (fun en w' h => by
            obtain ⟨A, c, h1, _, h3⟩ := h
            rw [kw_none] at h1
            exact ⟨A, c, h1, trivial, h3⟩))
          have HGE : Hid (∀ W, Below wh.heap.size wh W → Calls Tryz.prog 18 #[.pointer (some ⟨p, 0, none⟩), .int .i64 7] W fun en w' => en = .returned (.int .i64 3) ∧ w' = W) := Lib.hid (fun W hW => (le_gen (HLh.out.below hW) (st := 7) (by omega)).mono (fun en w' h => by
            rw [kw_gen] at h
            exact h))
          have HGM : Hid (∀ W, Below wh.heap.size wh W → Calls Tryz.prog 18 #[.pointer (some ⟨p, 0, none⟩), .int .i64 (-1)] W fun en w' => en = .returned (.int .i64 0) ∧ w' = W) := Lib.hid (fun W hW => le_gen_no (HLh.out.below hW) (st := -1) (by omega))
          have HWI : Hid (∀ W, Below wh.heap.size wh W → Calls Tryz.prog 19 #[.pointer (some ⟨p, 0, none⟩)] W fun en w' => en = .returned (.pointer (some ⟨g, 0, none⟩)) ∧ Below W.heap.size W w') := Lib.hid (fun W hW => le_wire (HLh.out.below hW))
          have HCV : Hid (∀ W, Below wh.heap.size wh W → Sem.run Tryz.prog (convert 31 9 (.slice Pz 128 cz)) W = .ok (.string (strOf ((List.range 128).map (fun _ => 0)))) W ∧ Sem.run Tryz.prog (convert 31 9 (.slice Px 128 cx)) W = .ok (.string (strOf ((List.range 128).map (bytesF 1)))) W ∧ Sem.run Tryz.prog (convert 31 9 (.slice (some ⟨ba, 0, none⟩) 128 128)) W = .ok (.string (strOf ((List.range 128).map (bytesF 1)))) W) := Lib.hid (fun W hW => ⟨conv_rd (HZh.out.keep hW), conv_rd (HXh.out.keep hW), conv_rd (HAh.out.below hW).rd⟩)
          have q5 := kw_peq g
          have BD : Hid (Below wh.heap.size wh wh.drew) := Lib.hid (below_drewN 1 wh)
          obtain ⟨zs, z1, z2⟩ := make8 128 (by omega)
          have mk2 : ∀ W : World, Sem.run Tryz.prog (Instr.makeSlice 31 (.int .i64 128) (.int .i64 128)) W = .ok (.slice (some ⟨W.heap.size, 0, none⟩) 128 128) (W.alloc (.cells zs 5)) := z2
          have HZS : Hid (∀ W : World, Sem.run Tryz.prog (convert 31 9 (.slice (some ⟨W.heap.size, 0, none⟩) 128 128)) (W.alloc (.cells zs 5)) = .ok (.string (strOf ((List.range 128).map (fun _ => 0)))) (W.alloc (.cells zs 5))) := Lib.hid (fun W => conv_rd (Rd.mk_ (fun j hj => by rw [Nat.zero_add, cell_of_block (alloc_block W _), z1 j hj]; rfl)))
          clear z1 z2
          go_wp2_with fail
          refine wp_region_held_drew (S := (fun W => Sem.run Tryz.prog (convert 31 9 (.slice Pz 128 cz)) W = .ok (.string (strOf ((List.range 128).map (fun _ => 0)))) W ∧ Sem.run Tryz.prog (convert 31 9 (.slice Px 128 cx)) W = .ok (.string (strOf ((List.range 128).map (bytesF 1)))) W ∧ Sem.run Tryz.prog (convert 31 9 (.slice (some ⟨ba, 0, none⟩) 128 128)) W = .ok (.string (strOf ((List.range 128).map (bytesF 1)))) W)) (by as_aux_lemma => kernel_rfl) ?_ (fun hHeld => ?_)
          · exact HCV.out _ BD.out
          refine wpAnyH_take (i := 0) (v := ?_) rfl (by as_aux_lemma => kernel_rfl) (by as_aux_lemma => kernel_rfl) (by as_aux_lemma => kernel_rfl) (fun _ _ _ h => h) (Or.inl ⟨by as_aux_lemma => kernel_rfl, ?_⟩) (by assumption) ?_
          rotate_left
          · intro w hSw; (try dsimp only at hSw); go_simp; (try with_reducible rfl)
          simp only [Act.put, List.getElem_toArray, List.setIfInBounds_toArray]
          refine wpAnyH_ready (rs := [1]) (by as_aux_lemma => kernel_rfl) (by simp) ?_
          refine AllReadyH.cons rfl (fun K hK => ?_) AllReadyH.nil
          go_simp; go_at_call 15; (with_reducible refine (HCN.out _ BD.out).mono ?_); rintro e w1 ⟨rfl, b1⟩; (try dsimp only); have B1 : Hid (Below wh.heap.size wh w1) := Lib.hid (BD.out.trans (b1.mono BD.out.size)); clear b1
          refine hK.out _ _ ?_ (fun hHeld2 => ?_)
          · (try dsimp only); exact HCV.out _ B1.out
          clear hK K hHeld
          have hHeld := hHeld2
          clear hHeld2
          refine wpAnyH_take (i := 2) (v := ?_) rfl (by as_aux_lemma => kernel_rfl) (by as_aux_lemma => kernel_rfl) (by as_aux_lemma => kernel_rfl) (fun _ _ _ h => h) (Or.inl ⟨by as_aux_lemma => kernel_rfl, ?_⟩) (by assumption) ?_
          rotate_left
          · intro w hSw; (try dsimp only at hSw); go_simp; (try with_reducible rfl)
          simp only [Act.put, List.getElem_toArray, List.setIfInBounds_toArray]
          refine wpAnyH_take (i := 3) (v := ?_) rfl (by as_aux_lemma => kernel_rfl) (by as_aux_lemma => kernel_rfl) (by as_aux_lemma => kernel_rfl) (fun _ _ _ h => h) (Or.inl ⟨by as_aux_lemma => kernel_rfl, ?_⟩) (by assumption) ?_
          rotate_left
          · intro w hSw; (try dsimp only at hSw); go_simp; (try with_reducible rfl)
          simp only [Act.put, List.getElem_toArray]
          refine wpAnyH_take (i := 4) (v := ?_) rfl (by as_aux_lemma => kernel_rfl) (by as_aux_lemma => kernel_rfl) (by as_aux_lemma => kernel_rfl) (fun _ _ _ h => h) (Or.inl ⟨by as_aux_lemma => kernel_rfl, ?_⟩) (by assumption) ?_
          rotate_left
          · intro w hSw; (try dsimp only at hSw); go_simp; (try with_reducible rfl)
          simp only [Act.put, List.getElem_toArray]
          refine wpAnyH_take (i := 5) (v := ?_) rfl (by as_aux_lemma => kernel_rfl) (by as_aux_lemma => kernel_rfl) (by as_aux_lemma => kernel_rfl) (fun _ _ _ h => h) (Or.inl ⟨by as_aux_lemma => kernel_rfl, ?_⟩) (by assumption) ?_
          rotate_left
          · intro w hSw; (try dsimp only at hSw); go_simp; (try with_reducible rfl)
          simp only [Act.put, List.getElem_toArray]
          refine wpAnyH_take (i := 6) (v := ?_) rfl (by as_aux_lemma => kernel_rfl) (by as_aux_lemma => kernel_rfl) (by as_aux_lemma => kernel_rfl) (fun _ _ _ h => h) (Or.inl ⟨by as_aux_lemma => kernel_rfl, ?_⟩) (by assumption) ?_
          rotate_left
          · intro w hSw; (try dsimp only at hSw); go_simp; (try with_reducible rfl)
          simp only [Act.put, List.getElem_toArray]
          refine wpAnyH_take (i := 7) (v := ?_) rfl (by as_aux_lemma => kernel_rfl) (by as_aux_lemma => kernel_rfl) (by as_aux_lemma => kernel_rfl) (fun _ _ _ h => h) (Or.inl ⟨by as_aux_lemma => kernel_rfl, ?_⟩) (by assumption) ?_
          rotate_left
          · intro w hSw; (try dsimp only at hSw); go_simp; (try with_reducible rfl)
          simp only [Act.put, List.getElem_toArray]
          refine wpAnyH_take (i := 8) (v := ?_) rfl (by as_aux_lemma => kernel_rfl) (by as_aux_lemma => kernel_rfl) (by as_aux_lemma => kernel_rfl) (fun _ _ _ h => h) (Or.inl ⟨by as_aux_lemma => kernel_rfl, ?_⟩) (by assumption) ?_
          rotate_left
          · intro w hSw; (try dsimp only at hSw); go_simp; (try with_reducible rfl)
          simp only [Act.put, List.getElem_toArray]
          refine wpAnyH_take (i := 9) (v := ?_) rfl (by as_aux_lemma => kernel_rfl) (by as_aux_lemma => kernel_rfl) (by as_aux_lemma => kernel_rfl) (fun _ _ _ h => h) (Or.inl ⟨by as_aux_lemma => kernel_rfl, ?_⟩) (by assumption) ?_
          rotate_left
          · intro w hSw; (try dsimp only at hSw); go_simp; (try with_reducible rfl)
          simp only [Act.put, List.getElem_toArray]
          refine wpAnyH_ready (rs := [10]) (by as_aux_lemma => kernel_rfl) (by simp) ?_
          refine AllReadyH.cons rfl (fun K hK => ?_) AllReadyH.nil
          go_simp
          refine hK.out _ _ ?_ (fun hHeld2 => ?_)
          · (try dsimp only); exact HCV.out _ (B1.out.alloc B1.out.size _)
          clear hK K hHeld
          have hHeld := hHeld2
          clear hHeld2
          refine wpAnyH_ready (rs := [11]) (by as_aux_lemma => kernel_rfl) (by simp) ?_
          refine AllReadyH.cons rfl (fun K hK => ?_) AllReadyH.nil
          have B10 : Hid (Below wh.heap.size wh (w1.alloc (.cells zs 5))) := Lib.hid (B1.out.alloc B1.out.size _)
          have hc11 := HZS.out w1
          go_simp
          refine hK.out _ _ ?_ (fun hHeld2 => ?_)
          · (try dsimp only); exact HCV.out _ B10.out
          clear hK K hHeld
          have hHeld := hHeld2
          clear hHeld2
          refine wpAnyH_take (i := 12) (v := ?_) rfl (by as_aux_lemma => kernel_rfl) (by as_aux_lemma => kernel_rfl) (by as_aux_lemma => kernel_rfl) (fun _ _ _ h => h) (Or.inl ⟨by as_aux_lemma => kernel_rfl, ?_⟩) (by assumption) ?_
          rotate_left
          · intro w hSw; (try dsimp only at hSw); go_simp; (try with_reducible rfl)
          simp only [Act.put, List.getElem_toArray]
          refine wpAnyH_take (i := 13) (v := ?_) rfl (by as_aux_lemma => kernel_rfl) (by as_aux_lemma => kernel_rfl) (by as_aux_lemma => kernel_rfl) (fun _ _ _ h => h) (Or.inl ⟨by as_aux_lemma => kernel_rfl, ?_⟩) (by assumption) ?_
          rotate_left
          · intro w hSw; (try dsimp only at hSw); go_simp; (try with_reducible rfl)
          simp only [Act.put, List.getElem_toArray]
          refine wpAnyH_take (i := 14) (v := ?_) rfl (by as_aux_lemma => kernel_rfl) (by as_aux_lemma => kernel_rfl) (by as_aux_lemma => kernel_rfl) (fun _ _ _ h => h) (Or.inl ⟨by as_aux_lemma => kernel_rfl, ?_⟩) (by assumption) ?_
          rotate_left
          · intro w hSw; (try dsimp only at hSw); go_simp; (try with_reducible rfl)
          simp only [Act.put, List.getElem_toArray]
          refine wpAnyH_take (i := 15) (v := ?_) rfl (by as_aux_lemma => kernel_rfl) (by as_aux_lemma => kernel_rfl) (by as_aux_lemma => kernel_rfl) (fun _ _ _ h => h) (Or.inl ⟨by as_aux_lemma => kernel_rfl, ?_⟩) (by assumption) ?_
          rotate_left
          · intro w hSw; (try dsimp only at hSw); go_simp; (try with_reducible rfl)
          simp only [Act.put, List.getElem_toArray]
          refine wpAnyH_take (i := 16) (v := ?_) rfl (by as_aux_lemma => kernel_rfl) (by as_aux_lemma => kernel_rfl) (by as_aux_lemma => kernel_rfl) (fun _ _ _ h => h) (Or.inl ⟨by as_aux_lemma => kernel_rfl, ?_⟩) (by assumption) ?_
          rotate_left
          · intro w hSw; (try dsimp only at hSw); go_simp; (try with_reducible rfl)
          simp only [Act.put, List.getElem_toArray]
          refine wpAnyH_take (i := 17) (v := ?_) rfl (by as_aux_lemma => kernel_rfl) (by as_aux_lemma => kernel_rfl) (by as_aux_lemma => kernel_rfl) (fun _ _ _ h => h) (Or.inl ⟨by as_aux_lemma => kernel_rfl, ?_⟩) (by assumption) ?_
          rotate_left
          · intro w hSw; (try dsimp only at hSw); go_simp; (try with_reducible rfl)
          simp only [Act.put, List.getElem_toArray]
          refine wpAnyH_take (i := 18) (v := ?_) rfl (by as_aux_lemma => kernel_rfl) (by as_aux_lemma => kernel_rfl) (by as_aux_lemma => kernel_rfl) (fun _ _ _ h => h) (Or.inl ⟨by as_aux_lemma => kernel_rfl, ?_⟩) (by assumption) ?_
          rotate_left
          · intro w hSw; (try dsimp only at hSw); go_simp; (try with_reducible rfl)
          simp only [Act.put, List.getElem_toArray]
          refine wpAnyH_take (i := 19) (v := ?_) rfl (by as_aux_lemma => kernel_rfl) (by as_aux_lemma => kernel_rfl) (by as_aux_lemma => kernel_rfl) (fun _ _ _ h => h) (Or.inl ⟨by as_aux_lemma => kernel_rfl, ?_⟩) (by assumption) ?_
          rotate_left
          · intro w hSw; (try dsimp only at hSw); go_simp; (try with_reducible rfl)
          simp only [Act.put, List.getElem_toArray]
          refine wpAnyH_ready (rs := [20]) (by as_aux_lemma => kernel_rfl) (by simp) ?_
          refine AllReadyH.cons rfl (fun K hK => ?_) AllReadyH.nil
          go_simp; go_at_call 15; (with_reducible refine (HCF.out _ B10.out).mono ?_); rintro e w20 ⟨rfl, b20⟩; (try dsimp only); have B20 : Hid (Below wh.heap.size wh w20) := Lib.hid (B10.out.trans (b20.mono B10.out.size)); clear b20
          refine hK.out _ _ ?_ (fun hHeld2 => ?_)
          · (try dsimp only); exact HCV.out _ B20.out
          clear hK K hHeld
          have hHeld := hHeld2
          clear hHeld2
          refine wpAnyH_take (i := 21) (v := ?_) rfl (by as_aux_lemma => kernel_rfl) (by as_aux_lemma => kernel_rfl) (by as_aux_lemma => kernel_rfl) (fun _ _ _ h => h) (Or.inl ⟨by as_aux_lemma => kernel_rfl, ?_⟩) (by assumption) ?_
          rotate_left
          · intro w hSw; (try dsimp only at hSw); go_simp; (try with_reducible rfl)
          simp only [Act.put, List.getElem_toArray]
          refine wpAnyH_take (i := 22) (v := ?_) rfl (by as_aux_lemma => kernel_rfl) (by as_aux_lemma => kernel_rfl) (by as_aux_lemma => kernel_rfl) (fun _ _ _ h => h) (Or.inl ⟨by as_aux_lemma => kernel_rfl, ?_⟩) (by assumption) ?_
          rotate_left
          · intro w hSw; (try dsimp only at hSw); go_simp; (try with_reducible rfl)
          simp only [Act.put, List.getElem_toArray]
          refine wpAnyH_take (i := 23) (v := ?_) rfl (by as_aux_lemma => kernel_rfl) (by as_aux_lemma => kernel_rfl) (by as_aux_lemma => kernel_rfl) (fun _ _ _ h => h) (Or.inl ⟨by as_aux_lemma => kernel_rfl, ?_⟩) (by assumption) ?_
          rotate_left
          · intro w hSw; (try dsimp only at hSw); go_simp; (try with_reducible rfl)
          simp only [Act.put, List.getElem_toArray]
          refine wpAnyH_take (i := 24) (v := ?_) rfl (by as_aux_lemma => kernel_rfl) (by as_aux_lemma => kernel_rfl) (by as_aux_lemma => kernel_rfl) (fun _ _ _ h => h) (Or.inl ⟨by as_aux_lemma => kernel_rfl, ?_⟩) (by assumption) ?_
          rotate_left
          · intro w hSw; (try dsimp only at hSw); go_simp; (try with_reducible rfl)
          simp only [Act.put, List.getElem_toArray]
          refine wpAnyH_take (i := 25) (v := ?_) rfl (by as_aux_lemma => kernel_rfl) (by as_aux_lemma => kernel_rfl) (by as_aux_lemma => kernel_rfl) (fun _ _ _ h => h) (Or.inl ⟨by as_aux_lemma => kernel_rfl, ?_⟩) (by assumption) ?_
          rotate_left
          · intro w hSw; (try dsimp only at hSw); go_simp; (try with_reducible rfl)
          simp only [Act.put, List.getElem_toArray]
          refine wpAnyH_take (i := 26) (v := ?_) rfl (by as_aux_lemma => kernel_rfl) (by as_aux_lemma => kernel_rfl) (by as_aux_lemma => kernel_rfl) (fun _ _ _ h => h) (Or.inl ⟨by as_aux_lemma => kernel_rfl, ?_⟩) (by assumption) ?_
          rotate_left
          · intro w hSw; (try dsimp only at hSw); go_simp; (try with_reducible rfl)
          simp only [Act.put, List.getElem_toArray]
          refine wpAnyH_take (i := 27) (v := ?_) rfl (by as_aux_lemma => kernel_rfl) (by as_aux_lemma => kernel_rfl) (by as_aux_lemma => kernel_rfl) (fun _ _ _ h => h) (Or.inl ⟨by as_aux_lemma => kernel_rfl, ?_⟩) (by assumption) ?_
          rotate_left
          · intro w hSw; (try dsimp only at hSw); go_simp; (try with_reducible rfl)
          simp only [Act.put, List.getElem_toArray]
          refine wpAnyH_take (i := 28) (v := ?_) rfl (by as_aux_lemma => kernel_rfl) (by as_aux_lemma => kernel_rfl) (by as_aux_lemma => kernel_rfl) (fun _ _ _ h => h) (Or.inl ⟨by as_aux_lemma => kernel_rfl, ?_⟩) (by assumption) ?_
          rotate_left
          · intro w hSw; (try dsimp only at hSw); go_simp; (try with_reducible rfl)
          simp only [Act.put, List.getElem_toArray]
          refine wpAnyH_take (i := 29) (v := ?_) rfl (by as_aux_lemma => kernel_rfl) (by as_aux_lemma => kernel_rfl) (by as_aux_lemma => kernel_rfl) (fun _ _ _ h => h) (Or.inl ⟨by as_aux_lemma => kernel_rfl, ?_⟩) (by assumption) ?_
          rotate_left
          · intro w hSw; (try dsimp only at hSw); go_simp; (try with_reducible rfl)
          simp only [Act.put, List.getElem_toArray]
          refine wpAnyH_take (i := 30) (v := ?_) rfl (by as_aux_lemma => kernel_rfl) (by as_aux_lemma => kernel_rfl) (by as_aux_lemma => kernel_rfl) (fun _ _ _ h => h) (Or.inl ⟨by as_aux_lemma => kernel_rfl, ?_⟩) (by assumption) ?_
          rotate_left
          · intro w hSw; (try dsimp only at hSw); go_simp; (try with_reducible rfl)
          simp only [Act.put, List.getElem_toArray]
          refine wpAnyH_take (i := 31) (v := ?_) rfl (by as_aux_lemma => kernel_rfl) (by as_aux_lemma => kernel_rfl) (by as_aux_lemma => kernel_rfl) (fun _ _ _ h => h) (Or.inl ⟨by as_aux_lemma => kernel_rfl, ?_⟩) (by assumption) ?_
          rotate_left
          · intro w hSw; (try dsimp only at hSw); go_simp; (try with_reducible rfl)
          simp only [Act.put, List.getElem_toArray]
          refine wpAnyH_ready (rs := [32, 33]) (by as_aux_lemma => kernel_rfl) (by simp) ?_
          refine AllReadyH.cons rfl (fun K hK => ?_) (AllReadyH.cons rfl (fun K hK => ?_) AllReadyH.nil)
          first | (go_simp; go_at_call 17; (with_reducible refine (HNO.out _ B33.out).mono ?_); rintro e w32 ⟨u32, rfl, ho32, b32⟩; (try dsimp only); have B32 : Hid (Below wh.heap.size wh w32) := Lib.hid (B33.out.trans (b32.mono B33.out.size)); have HN32 := Lib.hid ho32; obtain ⟨A32, c32, h32, _⟩ := own_form ho32; obtain rfl := h32; clear ho32; have H32b := Lib.hid b32; clear b32) | (go_simp; go_at_call 17; (with_reducible refine (HNO.out _ B20.out).mono ?_); rintro e w32 ⟨u32, rfl, ho32, b32⟩; (try dsimp only); have B32 : Hid (Below wh.heap.size wh w32) := Lib.hid (B20.out.trans (b32.mono B20.out.size)); have HN32 := Lib.hid ho32; obtain ⟨A32, c32, h32, _⟩ := own_form ho32; obtain rfl := h32; clear ho32; clear b32)
          refine hK.out _ _ ?_ (fun hHeld2 => ?_)
          · (try dsimp only); exact HCV.out _ B32.out
          clear hK K hHeld
          have hHeld := hHeld2
          clear hHeld2
          refine wpAnyH_ready (rs := [33]) (by as_aux_lemma => kernel_rfl) (by simp) ?_
          refine AllReadyH.cons rfl (fun K hK => ?_) AllReadyH.nil
          go_simp
          first | (have B33 : Hid (Below wh.heap.size wh (w32.alloc (.cells #[.int .i64 4, .int .i64 5, .int .i64 0, .int .i64 1, .int .i64 2, .int .i64 3] 3))) := Lib.hid (B32.out.alloc B32.out.size _); have HM33 : Hid (Nums (w32.alloc (.cells #[.int .i64 4, .int .i64 5, .int .i64 0, .int .i64 1, .int .i64 2, .int .i64 3] 3)) (some ⟨w32.heap.size, 0, none⟩) [4, 5, 0, 1, 2, 3] ∧ Nums (w32.alloc (.cells #[.int .i64 4, .int .i64 5, .int .i64 0, .int .i64 1, .int .i64 2, .int .i64 3] 3)) A32 [4, 5, 0, 1, 2, 3]) := Lib.hid ⟨litNums rfl, (own_nums (own_keep HN32.out ((Below.refl _ _).alloc (Nat.le_refl _) _))).1⟩) | (have B33 : Hid (Below wh.heap.size wh (w20.alloc (.cells #[.int .i64 4, .int .i64 5, .int .i64 0, .int .i64 1, .int .i64 2, .int .i64 3] 3))) := Lib.hid (B20.out.alloc B20.out.size _); have HL33 : Hid (Nums (w20.alloc (.cells #[.int .i64 4, .int .i64 5, .int .i64 0, .int .i64 1, .int .i64 2, .int .i64 3] 3)) (some ⟨w20.heap.size, 0, none⟩) [4, 5, 0, 1, 2, 3]) := Lib.hid (litNums rfl))
          refine hK.out _ _ ?_ (fun hHeld2 => ?_)
          · (try dsimp only); exact HCV.out _ B33.out
          clear hK K hHeld
          have hHeld := hHeld2
          clear hHeld2
          refine wpAnyH_ready (rs := [34]) (by as_aux_lemma => kernel_rfl) (by simp) ?_
          refine AllReadyH.cons rfl (fun K hK => ?_) AllReadyH.nil
          first | (go_simp; go_at_call 16; have H34 : Hid (Calls Tryz.prog 16 #[.slice A32 6 c32, .slice (some ⟨w32.heap.size, 0, none⟩) 6 6] (w32.alloc (.cells #[.int .i64 4, .int .i64 5, .int .i64 0, .int .i64 1, .int .i64 2, .int .i64 3] 3)) fun e w' => e = .returned (.bool true) ∧ Below ((w32.alloc (.cells #[.int .i64 4, .int .i64 5, .int .i64 0, .int .i64 1, .int .i64 2, .int .i64 3] 3))).heap.size (w32.alloc (.cells #[.int .i64 4, .int .i64 5, .int .i64 0, .int .i64 1, .int .i64 2, .int .i64 3] 3)) w') := Lib.hid (lsame A32 (some ⟨w32.heap.size, 0, none⟩) [4, 5, 0, 1, 2, 3] [4, 5, 0, 1, 2, 3] c32 6 (w32.alloc (.cells #[.int .i64 4, .int .i64 5, .int .i64 0, .int .i64 1, .int .i64 2, .int .i64 3] 3)) HM33.out.2 HM33.out.1 (by simp) true ⟨fun _ => rfl, fun _ => rfl⟩); (with_reducible refine H34.out.mono ?_); rintro e w34 ⟨rfl, b34⟩; (try dsimp only); have B34 : Hid (Below wh.heap.size wh w34) := Lib.hid (B33.out.trans (b34.mono B33.out.size)); clear b34 H34) | (go_simp; go_at_call 16; have H34 : Hid (Calls Tryz.prog 16 #[.slice A32 6 c32, .slice (some ⟨w20.heap.size, 0, none⟩) 6 6] w32 fun e w' => e = .returned (.bool true) ∧ Below (w32).heap.size w32 w') := Lib.hid (lsame A32 (some ⟨w20.heap.size, 0, none⟩) [4, 5, 0, 1, 2, 3] [4, 5, 0, 1, 2, 3] c32 6 w32 (own_nums HN32.out).1 (HL33.out.keep H32b.out) (by simp) true ⟨fun _ => rfl, fun _ => rfl⟩); (with_reducible refine H34.out.mono ?_); rintro e w34 ⟨rfl, b34⟩; (try dsimp only); have B34 : Hid (Below wh.heap.size wh w34) := Lib.hid (B32.out.trans (b34.mono B32.out.size)); clear b34 H34)
          refine hK.out _ _ ?_ (fun hHeld2 => ?_)
          · (try dsimp only); exact HCV.out _ B34.out
          clear hK K hHeld
          have hHeld := hHeld2
          clear hHeld2
          refine wpAnyH_take (i := 35) (v := ?_) rfl (by as_aux_lemma => kernel_rfl) (by as_aux_lemma => kernel_rfl) (by as_aux_lemma => kernel_rfl) (fun _ _ _ h => h) (Or.inl ⟨by as_aux_lemma => kernel_rfl, ?_⟩) (by assumption) ?_
          rotate_left
          · intro w hSw; (try dsimp only at hSw); go_simp; (try with_reducible rfl)
          simp only [Act.put, List.getElem_toArray]
          refine wpAnyH_take (i := 36) (v := ?_) rfl (by as_aux_lemma => kernel_rfl) (by as_aux_lemma => kernel_rfl) (by as_aux_lemma => kernel_rfl) (fun _ _ _ h => h) (Or.inl ⟨by as_aux_lemma => kernel_rfl, ?_⟩) (by assumption) ?_
          rotate_left
          · intro w hSw; (try dsimp only at hSw); go_simp; (try with_reducible rfl)
          simp only [Act.put, List.getElem_toArray]
          refine wpAnyH_take (i := 37) (v := ?_) rfl (by as_aux_lemma => kernel_rfl) (by as_aux_lemma => kernel_rfl) (by as_aux_lemma => kernel_rfl) (fun _ _ _ h => h) (Or.inl ⟨by as_aux_lemma => kernel_rfl, ?_⟩) (by assumption) ?_
          rotate_left
          · intro w hSw; (try dsimp only at hSw); go_simp; (try with_reducible rfl)
          simp only [Act.put, List.getElem_toArray]
          refine wpAnyH_ready (rs := [38]) (by as_aux_lemma => kernel_rfl) (by simp) ?_
          refine AllReadyH.cons rfl (fun K hK => ?_) AllReadyH.nil
          go_simp
          refine hK.out _ _ ?_ (fun hHeld2 => ?_)
          · (try dsimp only); exact HCV.out _ (B34.out.alloc B34.out.size _)
          clear hK K hHeld
          have hHeld := hHeld2
          clear hHeld2
          refine wpAnyH_ready (rs := [39]) (by as_aux_lemma => kernel_rfl) (by simp) ?_
          refine AllReadyH.cons rfl (fun K hK => ?_) AllReadyH.nil
          have B38 : Hid (Below wh.heap.size wh (w34.alloc (.cells #[.int .i64 7] 3))) := Lib.hid (B34.out.alloc B34.out.size _)
          go_simp; go_at_call 16; have H39 : Hid (Calls Tryz.prog 16 #[.slice Ad 1 cd, .slice (some ⟨w34.heap.size, 0, none⟩) 1 1] (w34.alloc (.cells #[.int .i64 7] 3)) fun e w' => e = .returned (.bool true) ∧ Below (w34.alloc (.cells #[.int .i64 7] 3)).heap.size (w34.alloc (.cells #[.int .i64 7] 3)) w') := Lib.hid (lsame Ad (some ⟨w34.heap.size, 0, none⟩) [7] [7] cd 1 (w34.alloc (.cells #[.int .i64 7] 3)) (HNh.out.keep B38.out) (litNums rfl) (by simp) true ⟨fun _ => rfl, fun _ => rfl⟩); (with_reducible refine H39.out.mono ?_); rintro e w39 ⟨rfl, b39⟩; (try dsimp only); have B39 : Hid (Below wh.heap.size wh w39) := Lib.hid (B38.out.trans (b39.mono B38.out.size)); clear b39 H39
          refine hK.out _ _ ?_ (fun hHeld2 => ?_)
          · (try dsimp only); exact HCV.out _ B39.out
          clear hK K hHeld
          have hHeld := hHeld2
          clear hHeld2
          refine wpAnyH_take (i := 40) (v := ?_) rfl (by as_aux_lemma => kernel_rfl) (by as_aux_lemma => kernel_rfl) (by as_aux_lemma => kernel_rfl) (fun _ _ _ h => h) (Or.inl ⟨by as_aux_lemma => kernel_rfl, ?_⟩) (by assumption) ?_
          rotate_left
          · intro w hSw; (try dsimp only at hSw); go_simp; (try with_reducible rfl)
          simp only [Act.put, List.getElem_toArray]
          refine wpAnyH_take (i := 41) (v := ?_) rfl (by as_aux_lemma => kernel_rfl) (by as_aux_lemma => kernel_rfl) (by as_aux_lemma => kernel_rfl) (fun _ _ _ h => h) (Or.inl ⟨by as_aux_lemma => kernel_rfl, ?_⟩) (by assumption) ?_
          rotate_left
          · intro w hSw; (try dsimp only at hSw); go_simp; (try with_reducible rfl)
          simp only [Act.put, List.getElem_toArray]
          refine wpAnyH_take (i := 42) (v := ?_) rfl (by as_aux_lemma => kernel_rfl) (by as_aux_lemma => kernel_rfl) (by as_aux_lemma => kernel_rfl) (fun _ _ _ h => h) (Or.inl ⟨by as_aux_lemma => kernel_rfl, ?_⟩) (by assumption) ?_
          rotate_left
          · intro w hSw; (try dsimp only at hSw); go_simp; (try with_reducible rfl)
          simp only [Act.put, List.getElem_toArray]
          refine wpAnyH_take (i := 43) (v := ?_) rfl (by as_aux_lemma => kernel_rfl) (by as_aux_lemma => kernel_rfl) (by as_aux_lemma => kernel_rfl) (fun _ _ _ h => h) (Or.inl ⟨by as_aux_lemma => kernel_rfl, ?_⟩) (by assumption) ?_
          rotate_left
          · intro w hSw; (try dsimp only at hSw); go_simp; (try with_reducible rfl)
          simp only [Act.put, List.getElem_toArray]
          refine wpAnyH_take (i := 44) (v := ?_) rfl (by as_aux_lemma => kernel_rfl) (by as_aux_lemma => kernel_rfl) (by as_aux_lemma => kernel_rfl) (fun _ _ _ h => h) (Or.inl ⟨by as_aux_lemma => kernel_rfl, ?_⟩) (by assumption) ?_
          rotate_left
          · intro w hSw; (try dsimp only at hSw); go_simp; (try with_reducible rfl)
          simp only [Act.put, List.getElem_toArray]
          refine wpAnyH_take (i := 45) (v := ?_) rfl (by as_aux_lemma => kernel_rfl) (by as_aux_lemma => kernel_rfl) (by as_aux_lemma => kernel_rfl) (fun _ _ _ h => h) (Or.inl ⟨by as_aux_lemma => kernel_rfl, ?_⟩) (by assumption) ?_
          rotate_left
          · intro w hSw; (try dsimp only at hSw); go_simp; (try with_reducible rfl)
          simp only [Act.put, List.getElem_toArray]
          refine wpAnyH_take (i := 46) (v := ?_) rfl (by as_aux_lemma => kernel_rfl) (by as_aux_lemma => kernel_rfl) (by as_aux_lemma => kernel_rfl) (fun _ _ _ h => h) (Or.inl ⟨by as_aux_lemma => kernel_rfl, ?_⟩) (by assumption) ?_
          rotate_left
          · intro w hSw; (try dsimp only at hSw); go_simp; (try with_reducible rfl)
          simp only [Act.put, List.getElem_toArray]
          refine wpAnyH_take (i := 47) (v := ?_) rfl (by as_aux_lemma => kernel_rfl) (by as_aux_lemma => kernel_rfl) (by as_aux_lemma => kernel_rfl) (fun _ _ _ h => h) (Or.inl ⟨by as_aux_lemma => kernel_rfl, ?_⟩) (by assumption) ?_
          rotate_left
          · intro w hSw; (try dsimp only at hSw); go_simp; (try with_reducible rfl)
          simp only [Act.put, List.getElem_toArray]
          refine wpAnyH_take (i := 48) (v := ?_) rfl (by as_aux_lemma => kernel_rfl) (by as_aux_lemma => kernel_rfl) (by as_aux_lemma => kernel_rfl) (fun _ _ _ h => h) (Or.inl ⟨by as_aux_lemma => kernel_rfl, ?_⟩) (by assumption) ?_
          rotate_left
          · intro w hSw; (try dsimp only at hSw); go_simp; (try with_reducible rfl)
          simp only [Act.put, List.getElem_toArray]
          refine wpAnyH_take (i := 49) (v := ?_) rfl (by as_aux_lemma => kernel_rfl) (by as_aux_lemma => kernel_rfl) (by as_aux_lemma => kernel_rfl) (fun _ _ _ h => h) (Or.inl ⟨by as_aux_lemma => kernel_rfl, ?_⟩) (by assumption) ?_
          rotate_left
          · intro w hSw; (try dsimp only at hSw); go_simp; (try with_reducible rfl)
          simp only [Act.put, List.getElem_toArray]
          refine wpAnyH_take (i := 50) (v := ?_) rfl (by as_aux_lemma => kernel_rfl) (by as_aux_lemma => kernel_rfl) (by as_aux_lemma => kernel_rfl) (fun _ _ _ h => h) (Or.inl ⟨by as_aux_lemma => kernel_rfl, ?_⟩) (by assumption) ?_
          rotate_left
          · intro w hSw; (try dsimp only at hSw); go_simp; (try with_reducible rfl)
          simp only [Act.put, List.getElem_toArray]
          refine wpAnyH_take (i := 51) (v := ?_) rfl (by as_aux_lemma => kernel_rfl) (by as_aux_lemma => kernel_rfl) (by as_aux_lemma => kernel_rfl) (fun _ _ _ h => h) (Or.inl ⟨by as_aux_lemma => kernel_rfl, ?_⟩) (by assumption) ?_
          rotate_left
          · intro w hSw; (try dsimp only at hSw); go_simp; (try with_reducible rfl)
          simp only [Act.put, List.getElem_toArray]
          refine wpAnyH_take (i := 52) (v := ?_) rfl (by as_aux_lemma => kernel_rfl) (by as_aux_lemma => kernel_rfl) (by as_aux_lemma => kernel_rfl) (fun _ _ _ h => h) (Or.inl ⟨by as_aux_lemma => kernel_rfl, ?_⟩) (by assumption) ?_
          rotate_left
          · intro w hSw; (try dsimp only at hSw); go_simp; (try with_reducible rfl)
          simp only [Act.put, List.getElem_toArray]
          refine wpAnyH_take (i := 53) (v := ?_) rfl (by as_aux_lemma => kernel_rfl) (by as_aux_lemma => kernel_rfl) (by as_aux_lemma => kernel_rfl) (fun _ _ _ h => h) (Or.inl ⟨by as_aux_lemma => kernel_rfl, ?_⟩) (by assumption) ?_
          rotate_left
          · intro w hSw; (try dsimp only at hSw); go_simp; (try with_reducible rfl)
          simp only [Act.put, List.getElem_toArray]
          refine wpAnyH_take (i := 54) (v := ?_) rfl (by as_aux_lemma => kernel_rfl) (by as_aux_lemma => kernel_rfl) (by as_aux_lemma => kernel_rfl) (fun _ _ _ h => h) (Or.inl ⟨by as_aux_lemma => kernel_rfl, ?_⟩) (by assumption) ?_
          rotate_left
          · intro w hSw; (try dsimp only at hSw); go_simp; (try with_reducible rfl)
          simp only [Act.put, List.getElem_toArray]
          refine wpAnyH_take (i := 55) (v := ?_) rfl (by as_aux_lemma => kernel_rfl) (by as_aux_lemma => kernel_rfl) (by as_aux_lemma => kernel_rfl) (fun _ _ _ h => h) (Or.inl ⟨by as_aux_lemma => kernel_rfl, ?_⟩) (by assumption) ?_
          rotate_left
          · intro w hSw; (try dsimp only at hSw); go_simp; (try with_reducible rfl)
          simp only [Act.put, List.getElem_toArray]
          refine wpAnyH_take (i := 56) (v := ?_) rfl (by as_aux_lemma => kernel_rfl) (by as_aux_lemma => kernel_rfl) (by as_aux_lemma => kernel_rfl) (fun _ _ _ h => h) (Or.inl ⟨by as_aux_lemma => kernel_rfl, ?_⟩) (by assumption) ?_
          rotate_left
          · intro w hSw; (try dsimp only at hSw); go_simp; (try with_reducible rfl)
          simp only [Act.put, List.getElem_toArray]
          refine wpAnyH_take (i := 57) (v := ?_) rfl (by as_aux_lemma => kernel_rfl) (by as_aux_lemma => kernel_rfl) (by as_aux_lemma => kernel_rfl) (fun _ _ _ h => h) (Or.inl ⟨by as_aux_lemma => kernel_rfl, ?_⟩) (by assumption) ?_
          rotate_left
          · intro w hSw; (try dsimp only at hSw); go_simp; (try with_reducible rfl)
          simp only [Act.put, List.getElem_toArray]
          refine wpAnyH_ready (rs := [58]) (by as_aux_lemma => kernel_rfl) (by simp) ?_
          refine AllReadyH.cons rfl (fun K hK => ?_) AllReadyH.nil
          go_simp; go_at_call 14; (with_reducible refine (HDO.out _ B39.out).mono ?_); rintro e w58 ⟨A58, c58, rfl, _, b58⟩; (try dsimp only); have B58 : Hid (Below wh.heap.size wh w58) := Lib.hid (B39.out.trans (b58.mono B39.out.size)); clear b58
          refine hK.out _ _ ?_ (fun hHeld2 => ?_)
          · (try dsimp only); exact HCV.out _ B58.out
          clear hK K hHeld
          have hHeld := hHeld2
          clear hHeld2
          refine wpAnyH_take (i := 59) (v := ?_) rfl (by as_aux_lemma => kernel_rfl) (by as_aux_lemma => kernel_rfl) (by as_aux_lemma => kernel_rfl) (fun _ _ _ h => h) (Or.inl ⟨by as_aux_lemma => kernel_rfl, ?_⟩) (by assumption) ?_
          rotate_left
          · intro w hSw; (try dsimp only at hSw); go_simp; (try with_reducible rfl)
          simp only [Act.put, List.getElem_toArray]
          refine wpAnyH_take (i := 60) (v := ?_) rfl (by as_aux_lemma => kernel_rfl) (by as_aux_lemma => kernel_rfl) (by as_aux_lemma => kernel_rfl) (fun _ _ _ h => h) (Or.inl ⟨by as_aux_lemma => kernel_rfl, ?_⟩) (by assumption) ?_
          rotate_left
          · intro w hSw; (try dsimp only at hSw); go_simp; (try with_reducible rfl)
          simp only [Act.put, List.getElem_toArray]
          refine wpAnyH_take (i := 61) (v := ?_) rfl (by as_aux_lemma => kernel_rfl) (by as_aux_lemma => kernel_rfl) (by as_aux_lemma => kernel_rfl) (fun _ _ _ h => h) (Or.inl ⟨by as_aux_lemma => kernel_rfl, ?_⟩) (by assumption) ?_
          rotate_left
          · intro w hSw; (try dsimp only at hSw); go_simp; (try with_reducible rfl)
          simp only [Act.put, List.getElem_toArray]
          refine wpAnyH_take (i := 62) (v := ?_) rfl (by as_aux_lemma => kernel_rfl) (by as_aux_lemma => kernel_rfl) (by as_aux_lemma => kernel_rfl) (fun _ _ _ h => h) (Or.inl ⟨by as_aux_lemma => kernel_rfl, ?_⟩) (by assumption) ?_
          rotate_left
          · intro w hSw; (try dsimp only at hSw); go_simp; (try with_reducible rfl)
          simp only [Act.put, List.getElem_toArray]
          refine wpAnyH_take (i := 63) (v := ?_) rfl (by as_aux_lemma => kernel_rfl) (by as_aux_lemma => kernel_rfl) (by as_aux_lemma => kernel_rfl) (fun _ _ _ h => h) (Or.inl ⟨by as_aux_lemma => kernel_rfl, ?_⟩) (by assumption) ?_
          rotate_left
          · intro w hSw; (try dsimp only at hSw); go_simp; (try with_reducible rfl)
          simp only [Act.put, List.getElem_toArray]
          refine wpAnyH_ready (rs := [64]) (by as_aux_lemma => kernel_rfl) (by simp) ?_
          refine AllReadyH.cons rfl (fun K hK => ?_) AllReadyH.nil
          go_simp; go_at_call 18; (with_reducible refine (HGE.out _ B58.out).mono ?_); rintro e w' ⟨rfl, hw⟩; obtain rfl := hw.symm; (try dsimp only)
          refine hK.out _ _ ?_ (fun hHeld2 => ?_)
          · (try dsimp only); exact HCV.out _ B58.out
          clear hK K hHeld
          have hHeld := hHeld2
          clear hHeld2
          refine wpAnyH_take (i := 65) (v := ?_) rfl (by as_aux_lemma => kernel_rfl) (by as_aux_lemma => kernel_rfl) (by as_aux_lemma => kernel_rfl) (fun _ _ _ h => h) (Or.inl ⟨by as_aux_lemma => kernel_rfl, ?_⟩) (by assumption) ?_
          rotate_left
          · intro w hSw; (try dsimp only at hSw); go_simp; (try with_reducible rfl)
          simp only [Act.put, List.getElem_toArray]
          refine wpAnyH_take (i := 66) (v := ?_) rfl (by as_aux_lemma => kernel_rfl) (by as_aux_lemma => kernel_rfl) (by as_aux_lemma => kernel_rfl) (fun _ _ _ h => h) (Or.inl ⟨by as_aux_lemma => kernel_rfl, ?_⟩) (by assumption) ?_
          rotate_left
          · intro w hSw; (try dsimp only at hSw); go_simp; (try with_reducible rfl)
          simp only [Act.put, List.getElem_toArray]
          refine wpAnyH_take (i := 67) (v := ?_) rfl (by as_aux_lemma => kernel_rfl) (by as_aux_lemma => kernel_rfl) (by as_aux_lemma => kernel_rfl) (fun _ _ _ h => h) (Or.inl ⟨by as_aux_lemma => kernel_rfl, ?_⟩) (by assumption) ?_
          rotate_left
          · intro w hSw; (try dsimp only at hSw); go_simp; (try with_reducible rfl)
          simp only [Act.put, List.getElem_toArray]
          refine wpAnyH_take (i := 68) (v := ?_) rfl (by as_aux_lemma => kernel_rfl) (by as_aux_lemma => kernel_rfl) (by as_aux_lemma => kernel_rfl) (fun _ _ _ h => h) (Or.inl ⟨by as_aux_lemma => kernel_rfl, ?_⟩) (by assumption) ?_
          rotate_left
          · intro w hSw; (try dsimp only at hSw); go_simp; (try with_reducible rfl)
          simp only [Act.put, List.getElem_toArray]
          refine wpAnyH_ready (rs := [69]) (by as_aux_lemma => kernel_rfl) (by simp) ?_
          refine AllReadyH.cons rfl (fun K hK => ?_) AllReadyH.nil
          go_simp; go_at_call 15; (with_reducible refine (HCB.out _ B58.out).mono ?_); rintro e w69 ⟨rfl, b69⟩; (try dsimp only); have B69 : Hid (Below wh.heap.size wh w69) := Lib.hid (B58.out.trans (b69.mono B58.out.size)); clear b69
          refine hK.out _ _ ?_ (fun hHeld2 => ?_)
          · (try dsimp only); exact HCV.out _ B69.out
          clear hK K hHeld
          have hHeld := hHeld2
          clear hHeld2
          refine wpAnyH_take (i := 70) (v := ?_) rfl (by as_aux_lemma => kernel_rfl) (by as_aux_lemma => kernel_rfl) (by as_aux_lemma => kernel_rfl) (fun _ _ _ h => h) (Or.inl ⟨by as_aux_lemma => kernel_rfl, ?_⟩) (by assumption) ?_
          rotate_left
          · intro w hSw; (try dsimp only at hSw); go_simp; (try with_reducible rfl)
          simp only [Act.put, List.getElem_toArray]
          refine wpAnyH_take (i := 71) (v := ?_) rfl (by as_aux_lemma => kernel_rfl) (by as_aux_lemma => kernel_rfl) (by as_aux_lemma => kernel_rfl) (fun _ _ _ h => h) (Or.inl ⟨by as_aux_lemma => kernel_rfl, ?_⟩) (by assumption) ?_
          rotate_left
          · intro w hSw; (try dsimp only at hSw); go_simp; (try with_reducible rfl)
          simp only [Act.put, List.getElem_toArray]
          refine wpAnyH_take (i := 72) (v := ?_) rfl (by as_aux_lemma => kernel_rfl) (by as_aux_lemma => kernel_rfl) (by as_aux_lemma => kernel_rfl) (fun _ _ _ h => h) (Or.inl ⟨by as_aux_lemma => kernel_rfl, ?_⟩) (by assumption) ?_
          rotate_left
          · intro w hSw; (try dsimp only at hSw); go_simp; (try with_reducible rfl)
          simp only [Act.put, List.getElem_toArray]
          refine wpAnyH_take (i := 73) (v := ?_) rfl (by as_aux_lemma => kernel_rfl) (by as_aux_lemma => kernel_rfl) (by as_aux_lemma => kernel_rfl) (fun _ _ _ h => h) (Or.inl ⟨by as_aux_lemma => kernel_rfl, ?_⟩) (by assumption) ?_
          rotate_left
          · intro w hSw; (try dsimp only at hSw); go_simp; (try with_reducible rfl)
          simp only [Act.put, List.getElem_toArray]
          refine wpAnyH_ready (rs := [74]) (by as_aux_lemma => kernel_rfl) (by simp) ?_
          refine AllReadyH.cons rfl (fun K hK => ?_) AllReadyH.nil
          go_simp; go_at_call 15; (with_reducible refine (HCL.out _ B69.out).mono ?_); rintro e w74 ⟨rfl, b74⟩; (try dsimp only); have B74 : Hid (Below wh.heap.size wh w74) := Lib.hid (B69.out.trans (b74.mono B69.out.size)); clear b74
          refine hK.out _ _ ?_ (fun hHeld2 => ?_)
          · (try dsimp only); exact HCV.out _ B74.out
          clear hK K hHeld
          have hHeld := hHeld2
          clear hHeld2
          refine wpAnyH_take (i := 75) (v := ?_) rfl (by as_aux_lemma => kernel_rfl) (by as_aux_lemma => kernel_rfl) (by as_aux_lemma => kernel_rfl) (fun _ _ _ h => h) (Or.inl ⟨by as_aux_lemma => kernel_rfl, ?_⟩) (by assumption) ?_
          rotate_left
          · intro w hSw; (try dsimp only at hSw); go_simp; (try with_reducible rfl)
          simp only [Act.put, List.getElem_toArray]
          refine wpAnyH_take (i := 76) (v := ?_) rfl (by as_aux_lemma => kernel_rfl) (by as_aux_lemma => kernel_rfl) (by as_aux_lemma => kernel_rfl) (fun _ _ _ h => h) (Or.inl ⟨by as_aux_lemma => kernel_rfl, ?_⟩) (by assumption) ?_
          rotate_left
          · intro w hSw; (try dsimp only at hSw); go_simp; (try with_reducible rfl)
          simp only [Act.put, List.getElem_toArray]
          refine wpAnyH_take (i := 77) (v := ?_) rfl (by as_aux_lemma => kernel_rfl) (by as_aux_lemma => kernel_rfl) (by as_aux_lemma => kernel_rfl) (fun _ _ _ h => h) (Or.inl ⟨by as_aux_lemma => kernel_rfl, ?_⟩) (by assumption) ?_
          rotate_left
          · intro w hSw; (try dsimp only at hSw); go_simp; (try with_reducible rfl)
          simp only [Act.put, List.getElem_toArray]
          refine wpAnyH_take (i := 78) (v := ?_) rfl (by as_aux_lemma => kernel_rfl) (by as_aux_lemma => kernel_rfl) (by as_aux_lemma => kernel_rfl) (fun _ _ _ h => h) (Or.inl ⟨by as_aux_lemma => kernel_rfl, ?_⟩) (by assumption) ?_
          rotate_left
          · intro w hSw; (try dsimp only at hSw); go_simp; (try with_reducible rfl)
          simp only [Act.put, List.getElem_toArray]
          refine wpAnyH_ready (rs := [79]) (by as_aux_lemma => kernel_rfl) (by simp) ?_
          refine AllReadyH.cons rfl (fun K hK => ?_) AllReadyH.nil
          go_simp; go_at_call 15; (with_reducible refine (HCS.out _ B74.out).mono ?_); rintro e w79 ⟨rfl, b79⟩; (try dsimp only); have B79 : Hid (Below wh.heap.size wh w79) := Lib.hid (B74.out.trans (b79.mono B74.out.size)); clear b79
          refine hK.out _ _ ?_ (fun hHeld2 => ?_)
          · (try dsimp only); exact HCV.out _ B79.out
          clear hK K hHeld
          have hHeld := hHeld2
          clear hHeld2
          refine wpAnyH_take (i := 80) (v := ?_) rfl (by as_aux_lemma => kernel_rfl) (by as_aux_lemma => kernel_rfl) (by as_aux_lemma => kernel_rfl) (fun _ _ _ h => h) (Or.inl ⟨by as_aux_lemma => kernel_rfl, ?_⟩) (by assumption) ?_
          rotate_left
          · intro w hSw; (try dsimp only at hSw); go_simp; (try with_reducible rfl)
          simp only [Act.put, List.getElem_toArray]
          refine wpAnyH_take (i := 81) (v := ?_) rfl (by as_aux_lemma => kernel_rfl) (by as_aux_lemma => kernel_rfl) (by as_aux_lemma => kernel_rfl) (fun _ _ _ h => h) (Or.inl ⟨by as_aux_lemma => kernel_rfl, ?_⟩) (by assumption) ?_
          rotate_left
          · intro w hSw; (try dsimp only at hSw); go_simp; (try with_reducible rfl)
          simp only [Act.put, List.getElem_toArray]
          refine wpAnyH_take (i := 82) (v := ?_) rfl (by as_aux_lemma => kernel_rfl) (by as_aux_lemma => kernel_rfl) (by as_aux_lemma => kernel_rfl) (fun _ _ _ h => h) (Or.inl ⟨by as_aux_lemma => kernel_rfl, ?_⟩) (by assumption) ?_
          rotate_left
          · intro w hSw; (try dsimp only at hSw); go_simp; (try with_reducible rfl)
          simp only [Act.put, List.getElem_toArray]
          refine wpAnyH_take (i := 83) (v := ?_) rfl (by as_aux_lemma => kernel_rfl) (by as_aux_lemma => kernel_rfl) (by as_aux_lemma => kernel_rfl) (fun _ _ _ h => h) (Or.inl ⟨by as_aux_lemma => kernel_rfl, ?_⟩) (by assumption) ?_
          rotate_left
          · intro w hSw; (try dsimp only at hSw); go_simp; (try with_reducible rfl)
          simp only [Act.put, List.getElem_toArray]
          refine wpAnyH_ready (rs := [84]) (by as_aux_lemma => kernel_rfl) (by simp) ?_
          refine AllReadyH.cons rfl (fun K hK => ?_) AllReadyH.nil
          go_simp; go_at_call 18; (with_reducible refine (HGM.out _ B79.out).mono ?_); rintro e w' ⟨rfl, hw⟩; obtain rfl := hw.symm; (try dsimp only)
          refine hK.out _ _ ?_ (fun hHeld2 => ?_)
          · (try dsimp only); exact HCV.out _ B79.out
          clear hK K hHeld
          have hHeld := hHeld2
          clear hHeld2
          refine wpAnyH_take (i := 85) (v := ?_) rfl (by as_aux_lemma => kernel_rfl) (by as_aux_lemma => kernel_rfl) (by as_aux_lemma => kernel_rfl) (fun _ _ _ h => h) (Or.inl ⟨by as_aux_lemma => kernel_rfl, ?_⟩) (by assumption) ?_
          rotate_left
          · intro w hSw; (try dsimp only at hSw); go_simp; (try with_reducible rfl)
          simp only [Act.put, List.getElem_toArray]
          refine wpAnyH_take (i := 86) (v := ?_) rfl (by as_aux_lemma => kernel_rfl) (by as_aux_lemma => kernel_rfl) (by as_aux_lemma => kernel_rfl) (fun _ _ _ h => h) (Or.inl ⟨by as_aux_lemma => kernel_rfl, ?_⟩) (by assumption) ?_
          rotate_left
          · intro w hSw; (try dsimp only at hSw); go_simp; (try with_reducible rfl)
          simp only [Act.put, List.getElem_toArray]
          refine wpAnyH_take (i := 87) (v := ?_) rfl (by as_aux_lemma => kernel_rfl) (by as_aux_lemma => kernel_rfl) (by as_aux_lemma => kernel_rfl) (fun _ _ _ h => h) (Or.inl ⟨by as_aux_lemma => kernel_rfl, ?_⟩) (by assumption) ?_
          rotate_left
          · intro w hSw; (try dsimp only at hSw); go_simp; (try with_reducible rfl)
          simp only [Act.put, List.getElem_toArray]
          refine wpAnyH_take (i := 88) (v := ?_) rfl (by as_aux_lemma => kernel_rfl) (by as_aux_lemma => kernel_rfl) (by as_aux_lemma => kernel_rfl) (fun _ _ _ h => h) (Or.inl ⟨by as_aux_lemma => kernel_rfl, ?_⟩) (by assumption) ?_
          rotate_left
          · intro w hSw; (try dsimp only at hSw); go_simp; (try with_reducible rfl)
          simp only [Act.put, List.getElem_toArray]
          refine wpAnyH_take (i := 90) (v := ?_) rfl (by as_aux_lemma => kernel_rfl) (by as_aux_lemma => kernel_rfl) (by as_aux_lemma => kernel_rfl) (fun _ _ _ h => h) (Or.inl ⟨by as_aux_lemma => kernel_rfl, ?_⟩) (by assumption) ?_
          rotate_left
          · intro w hSw; (try dsimp only at hSw); go_simp; (try with_reducible rfl)
          simp only [Act.put, List.getElem_toArray]
          refine wpAnyH_ready (rs := [89]) (by as_aux_lemma => kernel_rfl) (by simp) ?_
          refine AllReadyH.cons rfl (fun K hK => ?_) AllReadyH.nil
          go_simp; go_at_call 19; (with_reducible refine (HWI.out _ B79.out).mono ?_); rintro e w89 ⟨rfl, b89⟩; (try dsimp only); have B89 : Hid (Below wh.heap.size wh w89) := Lib.hid (B79.out.trans (b89.mono B79.out.size)); clear b89
          refine hK.out _ _ ?_ (fun hHeld2 => ?_)
          · (try dsimp only); exact HCV.out _ B89.out
          clear hK K hHeld
          have hHeld := hHeld2
          clear hHeld2
          refine wpAnyH_take (i := 91) (v := ?_) rfl (by as_aux_lemma => kernel_rfl) (by as_aux_lemma => kernel_rfl) (by as_aux_lemma => kernel_rfl) (fun _ _ _ h => h) (Or.inl ⟨by as_aux_lemma => kernel_rfl, ?_⟩) (by assumption) ?_
          rotate_left
          · intro w hSw; (try dsimp only at hSw); go_simp; (try with_reducible rfl)
          simp only [Act.put, List.getElem_toArray]
          refine wpAnyH_take (i := 92) (v := ?_) rfl (by as_aux_lemma => kernel_rfl) (by as_aux_lemma => kernel_rfl) (by as_aux_lemma => kernel_rfl) (fun _ _ _ h => h) (Or.inl ⟨by as_aux_lemma => kernel_rfl, ?_⟩) (by assumption) ?_
          rotate_left
          · intro w hSw; (try dsimp only at hSw); go_simp; (try with_reducible rfl)
          simp only [Act.put, List.getElem_toArray]
          refine wpAnyH_take (i := 93) (v := ?_) rfl (by as_aux_lemma => kernel_rfl) (by as_aux_lemma => kernel_rfl) (by as_aux_lemma => kernel_rfl) (fun _ _ _ h => h) (Or.inl ⟨by as_aux_lemma => kernel_rfl, ?_⟩) (by assumption) ?_
          rotate_left
          · intro w hSw; (try dsimp only at hSw); go_simp; (try with_reducible rfl)
          simp only [Act.put, List.getElem_toArray]
          refine wpAnyH_done (by as_aux_lemma => kernel_rfl) ?_ _
          rotate_left
          go_simp
          first | (have B33 : Hid (Below wh.heap.size wh (w32.alloc (.cells #[.int .i64 4, .int .i64 5, .int .i64 0, .int .i64 1, .int .i64 2, .int .i64 3] 3))) := Lib.hid (B32.out.alloc B32.out.size _); have HM33 : Hid (Nums (w32.alloc (.cells #[.int .i64 4, .int .i64 5, .int .i64 0, .int .i64 1, .int .i64 2, .int .i64 3] 3)) (some ⟨w32.heap.size, 0, none⟩) [4, 5, 0, 1, 2, 3] ∧ Nums (w32.alloc (.cells #[.int .i64 4, .int .i64 5, .int .i64 0, .int .i64 1, .int .i64 2, .int .i64 3] 3)) A32 [4, 5, 0, 1, 2, 3]) := Lib.hid ⟨litNums rfl, (own_nums (own_keep HN32.out ((Below.refl _ _).alloc (Nat.le_refl _) _))).1⟩) | (have B33 : Hid (Below wh.heap.size wh (w20.alloc (.cells #[.int .i64 4, .int .i64 5, .int .i64 0, .int .i64 1, .int .i64 2, .int .i64 3] 3))) := Lib.hid (B20.out.alloc B20.out.size _); have HL33 : Hid (Nums (w20.alloc (.cells #[.int .i64 4, .int .i64 5, .int .i64 0, .int .i64 1, .int .i64 2, .int .i64 3] 3)) (some ⟨w20.heap.size, 0, none⟩) [4, 5, 0, 1, 2, 3]) := Lib.hid (litNums rfl))
          refine hK.out _ _ ?_ (fun hHeld2 => ?_)
          · (try dsimp only); exact HCV.out _ B33.out
          clear hK K hHeld
          have hHeld := hHeld2
          clear hHeld2
          refine wpAnyH_ready (rs := [32]) (by as_aux_lemma => kernel_rfl) (by simp) ?_
          refine AllReadyH.cons rfl (fun K hK => ?_) AllReadyH.nil
          first | (go_simp; go_at_call 17; (with_reducible refine (HNO.out _ B33.out).mono ?_); rintro e w32 ⟨u32, rfl, ho32, b32⟩; (try dsimp only); have B32 : Hid (Below wh.heap.size wh w32) := Lib.hid (B33.out.trans (b32.mono B33.out.size)); have HN32 := Lib.hid ho32; obtain ⟨A32, c32, h32, _⟩ := own_form ho32; obtain rfl := h32; clear ho32; have H32b := Lib.hid b32; clear b32) | (go_simp; go_at_call 17; (with_reducible refine (HNO.out _ B20.out).mono ?_); rintro e w32 ⟨u32, rfl, ho32, b32⟩; (try dsimp only); have B32 : Hid (Below wh.heap.size wh w32) := Lib.hid (B20.out.trans (b32.mono B20.out.size)); have HN32 := Lib.hid ho32; obtain ⟨A32, c32, h32, _⟩ := own_form ho32; obtain rfl := h32; clear ho32; clear b32)
          refine hK.out _ _ ?_ (fun hHeld2 => ?_)
          · (try dsimp only); exact HCV.out _ B32.out
          clear hK K hHeld
          have hHeld := hHeld2
          clear hHeld2
          refine wpAnyH_ready (rs := [34]) (by as_aux_lemma => kernel_rfl) (by simp) ?_
          refine AllReadyH.cons rfl (fun K hK => ?_) AllReadyH.nil
          first | (go_simp; go_at_call 16; have H34 : Hid (Calls Tryz.prog 16 #[.slice A32 6 c32, .slice (some ⟨w32.heap.size, 0, none⟩) 6 6] (w32.alloc (.cells #[.int .i64 4, .int .i64 5, .int .i64 0, .int .i64 1, .int .i64 2, .int .i64 3] 3)) fun e w' => e = .returned (.bool true) ∧ Below ((w32.alloc (.cells #[.int .i64 4, .int .i64 5, .int .i64 0, .int .i64 1, .int .i64 2, .int .i64 3] 3))).heap.size (w32.alloc (.cells #[.int .i64 4, .int .i64 5, .int .i64 0, .int .i64 1, .int .i64 2, .int .i64 3] 3)) w') := Lib.hid (lsame A32 (some ⟨w32.heap.size, 0, none⟩) [4, 5, 0, 1, 2, 3] [4, 5, 0, 1, 2, 3] c32 6 (w32.alloc (.cells #[.int .i64 4, .int .i64 5, .int .i64 0, .int .i64 1, .int .i64 2, .int .i64 3] 3)) HM33.out.2 HM33.out.1 (by simp) true ⟨fun _ => rfl, fun _ => rfl⟩); (with_reducible refine H34.out.mono ?_); rintro e w34 ⟨rfl, b34⟩; (try dsimp only); have B34 : Hid (Below wh.heap.size wh w34) := Lib.hid (B33.out.trans (b34.mono B33.out.size)); clear b34 H34) | (go_simp; go_at_call 16; have H34 : Hid (Calls Tryz.prog 16 #[.slice A32 6 c32, .slice (some ⟨w20.heap.size, 0, none⟩) 6 6] w32 fun e w' => e = .returned (.bool true) ∧ Below (w32).heap.size w32 w') := Lib.hid (lsame A32 (some ⟨w20.heap.size, 0, none⟩) [4, 5, 0, 1, 2, 3] [4, 5, 0, 1, 2, 3] c32 6 w32 (own_nums HN32.out).1 (HL33.out.keep H32b.out) (by simp) true ⟨fun _ => rfl, fun _ => rfl⟩); (with_reducible refine H34.out.mono ?_); rintro e w34 ⟨rfl, b34⟩; (try dsimp only); have B34 : Hid (Below wh.heap.size wh w34) := Lib.hid (B32.out.trans (b34.mono B32.out.size)); clear b34 H34)
          refine hK.out _ _ ?_ (fun hHeld2 => ?_)
          · (try dsimp only); exact HCV.out _ B34.out
          clear hK K hHeld
          have hHeld := hHeld2
          clear hHeld2
          refine wpAnyH_take (i := 35) (v := ?_) rfl (by as_aux_lemma => kernel_rfl) (by as_aux_lemma => kernel_rfl) (by as_aux_lemma => kernel_rfl) (fun _ _ _ h => h) (Or.inl ⟨by as_aux_lemma => kernel_rfl, ?_⟩) (by assumption) ?_
          rotate_left
          · intro w hSw; (try dsimp only at hSw); go_simp; (try with_reducible rfl)
          simp only [Act.put, List.getElem_toArray]
          refine wpAnyH_take (i := 36) (v := ?_) rfl (by as_aux_lemma => kernel_rfl) (by as_aux_lemma => kernel_rfl) (by as_aux_lemma => kernel_rfl) (fun _ _ _ h => h) (Or.inl ⟨by as_aux_lemma => kernel_rfl, ?_⟩) (by assumption) ?_
          rotate_left
          · intro w hSw; (try dsimp only at hSw); go_simp; (try with_reducible rfl)
          simp only [Act.put, List.getElem_toArray]
          refine wpAnyH_take (i := 37) (v := ?_) rfl (by as_aux_lemma => kernel_rfl) (by as_aux_lemma => kernel_rfl) (by as_aux_lemma => kernel_rfl) (fun _ _ _ h => h) (Or.inl ⟨by as_aux_lemma => kernel_rfl, ?_⟩) (by assumption) ?_
          rotate_left
          · intro w hSw; (try dsimp only at hSw); go_simp; (try with_reducible rfl)
          simp only [Act.put, List.getElem_toArray]
          refine wpAnyH_ready (rs := [38]) (by as_aux_lemma => kernel_rfl) (by simp) ?_
          refine AllReadyH.cons rfl (fun K hK => ?_) AllReadyH.nil
          go_simp
          refine hK.out _ _ ?_ (fun hHeld2 => ?_)
          · (try dsimp only); exact HCV.out _ (B34.out.alloc B34.out.size _)
          clear hK K hHeld
          have hHeld := hHeld2
          clear hHeld2
          refine wpAnyH_ready (rs := [39]) (by as_aux_lemma => kernel_rfl) (by simp) ?_
          refine AllReadyH.cons rfl (fun K hK => ?_) AllReadyH.nil
          have B38 : Hid (Below wh.heap.size wh (w34.alloc (.cells #[.int .i64 7] 3))) := Lib.hid (B34.out.alloc B34.out.size _)
          go_simp; go_at_call 16; have H39 : Hid (Calls Tryz.prog 16 #[.slice Ad 1 cd, .slice (some ⟨w34.heap.size, 0, none⟩) 1 1] (w34.alloc (.cells #[.int .i64 7] 3)) fun e w' => e = .returned (.bool true) ∧ Below (w34.alloc (.cells #[.int .i64 7] 3)).heap.size (w34.alloc (.cells #[.int .i64 7] 3)) w') := Lib.hid (lsame Ad (some ⟨w34.heap.size, 0, none⟩) [7] [7] cd 1 (w34.alloc (.cells #[.int .i64 7] 3)) (HNh.out.keep B38.out) (litNums rfl) (by simp) true ⟨fun _ => rfl, fun _ => rfl⟩); (with_reducible refine H39.out.mono ?_); rintro e w39 ⟨rfl, b39⟩; (try dsimp only); have B39 : Hid (Below wh.heap.size wh w39) := Lib.hid (B38.out.trans (b39.mono B38.out.size)); clear b39 H39
          refine hK.out _ _ ?_ (fun hHeld2 => ?_)
          · (try dsimp only); exact HCV.out _ B39.out
          clear hK K hHeld
          have hHeld := hHeld2
          clear hHeld2
          refine wpAnyH_take (i := 40) (v := ?_) rfl (by as_aux_lemma => kernel_rfl) (by as_aux_lemma => kernel_rfl) (by as_aux_lemma => kernel_rfl) (fun _ _ _ h => h) (Or.inl ⟨by as_aux_lemma => kernel_rfl, ?_⟩) (by assumption) ?_
          rotate_left
          · intro w hSw; (try dsimp only at hSw); go_simp; (try with_reducible rfl)
          simp only [Act.put, List.getElem_toArray]
          refine wpAnyH_take (i := 41) (v := ?_) rfl (by as_aux_lemma => kernel_rfl) (by as_aux_lemma => kernel_rfl) (by as_aux_lemma => kernel_rfl) (fun _ _ _ h => h) (Or.inl ⟨by as_aux_lemma => kernel_rfl, ?_⟩) (by assumption) ?_
          rotate_left
          · intro w hSw; (try dsimp only at hSw); go_simp; (try with_reducible rfl)
          simp only [Act.put, List.getElem_toArray]
          refine wpAnyH_take (i := 42) (v := ?_) rfl (by as_aux_lemma => kernel_rfl) (by as_aux_lemma => kernel_rfl) (by as_aux_lemma => kernel_rfl) (fun _ _ _ h => h) (Or.inl ⟨by as_aux_lemma => kernel_rfl, ?_⟩) (by assumption) ?_
          rotate_left
          · intro w hSw; (try dsimp only at hSw); go_simp; (try with_reducible rfl)
          simp only [Act.put, List.getElem_toArray]
          refine wpAnyH_take (i := 43) (v := ?_) rfl (by as_aux_lemma => kernel_rfl) (by as_aux_lemma => kernel_rfl) (by as_aux_lemma => kernel_rfl) (fun _ _ _ h => h) (Or.inl ⟨by as_aux_lemma => kernel_rfl, ?_⟩) (by assumption) ?_
          rotate_left
          · intro w hSw; (try dsimp only at hSw); go_simp; (try with_reducible rfl)
          simp only [Act.put, List.getElem_toArray]
          refine wpAnyH_take (i := 44) (v := ?_) rfl (by as_aux_lemma => kernel_rfl) (by as_aux_lemma => kernel_rfl) (by as_aux_lemma => kernel_rfl) (fun _ _ _ h => h) (Or.inl ⟨by as_aux_lemma => kernel_rfl, ?_⟩) (by assumption) ?_
          rotate_left
          · intro w hSw; (try dsimp only at hSw); go_simp; (try with_reducible rfl)
          simp only [Act.put, List.getElem_toArray]
          refine wpAnyH_take (i := 45) (v := ?_) rfl (by as_aux_lemma => kernel_rfl) (by as_aux_lemma => kernel_rfl) (by as_aux_lemma => kernel_rfl) (fun _ _ _ h => h) (Or.inl ⟨by as_aux_lemma => kernel_rfl, ?_⟩) (by assumption) ?_
          rotate_left
          · intro w hSw; (try dsimp only at hSw); go_simp; (try with_reducible rfl)
          simp only [Act.put, List.getElem_toArray]
          refine wpAnyH_take (i := 46) (v := ?_) rfl (by as_aux_lemma => kernel_rfl) (by as_aux_lemma => kernel_rfl) (by as_aux_lemma => kernel_rfl) (fun _ _ _ h => h) (Or.inl ⟨by as_aux_lemma => kernel_rfl, ?_⟩) (by assumption) ?_
          rotate_left
          · intro w hSw; (try dsimp only at hSw); go_simp; (try with_reducible rfl)
          simp only [Act.put, List.getElem_toArray]
          refine wpAnyH_take (i := 47) (v := ?_) rfl (by as_aux_lemma => kernel_rfl) (by as_aux_lemma => kernel_rfl) (by as_aux_lemma => kernel_rfl) (fun _ _ _ h => h) (Or.inl ⟨by as_aux_lemma => kernel_rfl, ?_⟩) (by assumption) ?_
          rotate_left
          · intro w hSw; (try dsimp only at hSw); go_simp; (try with_reducible rfl)
          simp only [Act.put, List.getElem_toArray]
          refine wpAnyH_take (i := 48) (v := ?_) rfl (by as_aux_lemma => kernel_rfl) (by as_aux_lemma => kernel_rfl) (by as_aux_lemma => kernel_rfl) (fun _ _ _ h => h) (Or.inl ⟨by as_aux_lemma => kernel_rfl, ?_⟩) (by assumption) ?_
          rotate_left
          · intro w hSw; (try dsimp only at hSw); go_simp; (try with_reducible rfl)
          simp only [Act.put, List.getElem_toArray]
          refine wpAnyH_take (i := 49) (v := ?_) rfl (by as_aux_lemma => kernel_rfl) (by as_aux_lemma => kernel_rfl) (by as_aux_lemma => kernel_rfl) (fun _ _ _ h => h) (Or.inl ⟨by as_aux_lemma => kernel_rfl, ?_⟩) (by assumption) ?_
          rotate_left
          · intro w hSw; (try dsimp only at hSw); go_simp; (try with_reducible rfl)
          simp only [Act.put, List.getElem_toArray]
          refine wpAnyH_take (i := 50) (v := ?_) rfl (by as_aux_lemma => kernel_rfl) (by as_aux_lemma => kernel_rfl) (by as_aux_lemma => kernel_rfl) (fun _ _ _ h => h) (Or.inl ⟨by as_aux_lemma => kernel_rfl, ?_⟩) (by assumption) ?_
          rotate_left
          · intro w hSw; (try dsimp only at hSw); go_simp; (try with_reducible rfl)
          simp only [Act.put, List.getElem_toArray]
          refine wpAnyH_take (i := 51) (v := ?_) rfl (by as_aux_lemma => kernel_rfl) (by as_aux_lemma => kernel_rfl) (by as_aux_lemma => kernel_rfl) (fun _ _ _ h => h) (Or.inl ⟨by as_aux_lemma => kernel_rfl, ?_⟩) (by assumption) ?_
          rotate_left
          · intro w hSw; (try dsimp only at hSw); go_simp; (try with_reducible rfl)
          simp only [Act.put, List.getElem_toArray]
          refine wpAnyH_take (i := 52) (v := ?_) rfl (by as_aux_lemma => kernel_rfl) (by as_aux_lemma => kernel_rfl) (by as_aux_lemma => kernel_rfl) (fun _ _ _ h => h) (Or.inl ⟨by as_aux_lemma => kernel_rfl, ?_⟩) (by assumption) ?_
          rotate_left
          · intro w hSw; (try dsimp only at hSw); go_simp; (try with_reducible rfl)
          simp only [Act.put, List.getElem_toArray]
          refine wpAnyH_take (i := 53) (v := ?_) rfl (by as_aux_lemma => kernel_rfl) (by as_aux_lemma => kernel_rfl) (by as_aux_lemma => kernel_rfl) (fun _ _ _ h => h) (Or.inl ⟨by as_aux_lemma => kernel_rfl, ?_⟩) (by assumption) ?_
          rotate_left
          · intro w hSw; (try dsimp only at hSw); go_simp; (try with_reducible rfl)
          simp only [Act.put, List.getElem_toArray]
          refine wpAnyH_take (i := 54) (v := ?_) rfl (by as_aux_lemma => kernel_rfl) (by as_aux_lemma => kernel_rfl) (by as_aux_lemma => kernel_rfl) (fun _ _ _ h => h) (Or.inl ⟨by as_aux_lemma => kernel_rfl, ?_⟩) (by assumption) ?_
          rotate_left
          · intro w hSw; (try dsimp only at hSw); go_simp; (try with_reducible rfl)
          simp only [Act.put, List.getElem_toArray]
          refine wpAnyH_take (i := 55) (v := ?_) rfl (by as_aux_lemma => kernel_rfl) (by as_aux_lemma => kernel_rfl) (by as_aux_lemma => kernel_rfl) (fun _ _ _ h => h) (Or.inl ⟨by as_aux_lemma => kernel_rfl, ?_⟩) (by assumption) ?_
          rotate_left
          · intro w hSw; (try dsimp only at hSw); go_simp; (try with_reducible rfl)
          simp only [Act.put, List.getElem_toArray]
          refine wpAnyH_take (i := 56) (v := ?_) rfl (by as_aux_lemma => kernel_rfl) (by as_aux_lemma => kernel_rfl) (by as_aux_lemma => kernel_rfl) (fun _ _ _ h => h) (Or.inl ⟨by as_aux_lemma => kernel_rfl, ?_⟩) (by assumption) ?_
          rotate_left
          · intro w hSw; (try dsimp only at hSw); go_simp; (try with_reducible rfl)
          simp only [Act.put, List.getElem_toArray]
          refine wpAnyH_take (i := 57) (v := ?_) rfl (by as_aux_lemma => kernel_rfl) (by as_aux_lemma => kernel_rfl) (by as_aux_lemma => kernel_rfl) (fun _ _ _ h => h) (Or.inl ⟨by as_aux_lemma => kernel_rfl, ?_⟩) (by assumption) ?_
          rotate_left
          · intro w hSw; (try dsimp only at hSw); go_simp; (try with_reducible rfl)
          simp only [Act.put, List.getElem_toArray]
          refine wpAnyH_ready (rs := [58]) (by as_aux_lemma => kernel_rfl) (by simp) ?_
          refine AllReadyH.cons rfl (fun K hK => ?_) AllReadyH.nil
          go_simp; go_at_call 14; (with_reducible refine (HDO.out _ B39.out).mono ?_); rintro e w58 ⟨A58, c58, rfl, _, b58⟩; (try dsimp only); have B58 : Hid (Below wh.heap.size wh w58) := Lib.hid (B39.out.trans (b58.mono B39.out.size)); clear b58
          refine hK.out _ _ ?_ (fun hHeld2 => ?_)
          · (try dsimp only); exact HCV.out _ B58.out
          clear hK K hHeld
          have hHeld := hHeld2
          clear hHeld2
          refine wpAnyH_take (i := 59) (v := ?_) rfl (by as_aux_lemma => kernel_rfl) (by as_aux_lemma => kernel_rfl) (by as_aux_lemma => kernel_rfl) (fun _ _ _ h => h) (Or.inl ⟨by as_aux_lemma => kernel_rfl, ?_⟩) (by assumption) ?_
          rotate_left
          · intro w hSw; (try dsimp only at hSw); go_simp; (try with_reducible rfl)
          simp only [Act.put, List.getElem_toArray]
          refine wpAnyH_take (i := 60) (v := ?_) rfl (by as_aux_lemma => kernel_rfl) (by as_aux_lemma => kernel_rfl) (by as_aux_lemma => kernel_rfl) (fun _ _ _ h => h) (Or.inl ⟨by as_aux_lemma => kernel_rfl, ?_⟩) (by assumption) ?_
          rotate_left
          · intro w hSw; (try dsimp only at hSw); go_simp; (try with_reducible rfl)
          simp only [Act.put, List.getElem_toArray]
          refine wpAnyH_take (i := 61) (v := ?_) rfl (by as_aux_lemma => kernel_rfl) (by as_aux_lemma => kernel_rfl) (by as_aux_lemma => kernel_rfl) (fun _ _ _ h => h) (Or.inl ⟨by as_aux_lemma => kernel_rfl, ?_⟩) (by assumption) ?_
          rotate_left
          · intro w hSw; (try dsimp only at hSw); go_simp; (try with_reducible rfl)
          simp only [Act.put, List.getElem_toArray]
          refine wpAnyH_take (i := 62) (v := ?_) rfl (by as_aux_lemma => kernel_rfl) (by as_aux_lemma => kernel_rfl) (by as_aux_lemma => kernel_rfl) (fun _ _ _ h => h) (Or.inl ⟨by as_aux_lemma => kernel_rfl, ?_⟩) (by assumption) ?_
          rotate_left
          · intro w hSw; (try dsimp only at hSw); go_simp; (try with_reducible rfl)
          simp only [Act.put, List.getElem_toArray]
          refine wpAnyH_take (i := 63) (v := ?_) rfl (by as_aux_lemma => kernel_rfl) (by as_aux_lemma => kernel_rfl) (by as_aux_lemma => kernel_rfl) (fun _ _ _ h => h) (Or.inl ⟨by as_aux_lemma => kernel_rfl, ?_⟩) (by assumption) ?_
          rotate_left
          · intro w hSw; (try dsimp only at hSw); go_simp; (try with_reducible rfl)
          simp only [Act.put, List.getElem_toArray]
          refine wpAnyH_ready (rs := [64]) (by as_aux_lemma => kernel_rfl) (by simp) ?_
          refine AllReadyH.cons rfl (fun K hK => ?_) AllReadyH.nil
          go_simp; go_at_call 18; (with_reducible refine (HGE.out _ B58.out).mono ?_); rintro e w' ⟨rfl, hw⟩; obtain rfl := hw.symm; (try dsimp only)
          refine hK.out _ _ ?_ (fun hHeld2 => ?_)
          · (try dsimp only); exact HCV.out _ B58.out
          clear hK K hHeld
          have hHeld := hHeld2
          clear hHeld2
          refine wpAnyH_take (i := 65) (v := ?_) rfl (by as_aux_lemma => kernel_rfl) (by as_aux_lemma => kernel_rfl) (by as_aux_lemma => kernel_rfl) (fun _ _ _ h => h) (Or.inl ⟨by as_aux_lemma => kernel_rfl, ?_⟩) (by assumption) ?_
          rotate_left
          · intro w hSw; (try dsimp only at hSw); go_simp; (try with_reducible rfl)
          simp only [Act.put, List.getElem_toArray]
          refine wpAnyH_take (i := 66) (v := ?_) rfl (by as_aux_lemma => kernel_rfl) (by as_aux_lemma => kernel_rfl) (by as_aux_lemma => kernel_rfl) (fun _ _ _ h => h) (Or.inl ⟨by as_aux_lemma => kernel_rfl, ?_⟩) (by assumption) ?_
          rotate_left
          · intro w hSw; (try dsimp only at hSw); go_simp; (try with_reducible rfl)
          simp only [Act.put, List.getElem_toArray]
          refine wpAnyH_take (i := 67) (v := ?_) rfl (by as_aux_lemma => kernel_rfl) (by as_aux_lemma => kernel_rfl) (by as_aux_lemma => kernel_rfl) (fun _ _ _ h => h) (Or.inl ⟨by as_aux_lemma => kernel_rfl, ?_⟩) (by assumption) ?_
          rotate_left
          · intro w hSw; (try dsimp only at hSw); go_simp; (try with_reducible rfl)
          simp only [Act.put, List.getElem_toArray]
          refine wpAnyH_take (i := 68) (v := ?_) rfl (by as_aux_lemma => kernel_rfl) (by as_aux_lemma => kernel_rfl) (by as_aux_lemma => kernel_rfl) (fun _ _ _ h => h) (Or.inl ⟨by as_aux_lemma => kernel_rfl, ?_⟩) (by assumption) ?_
          rotate_left
          · intro w hSw; (try dsimp only at hSw); go_simp; (try with_reducible rfl)
          simp only [Act.put, List.getElem_toArray]
          refine wpAnyH_ready (rs := [69]) (by as_aux_lemma => kernel_rfl) (by simp) ?_
          refine AllReadyH.cons rfl (fun K hK => ?_) AllReadyH.nil
          go_simp; go_at_call 15; (with_reducible refine (HCB.out _ B58.out).mono ?_); rintro e w69 ⟨rfl, b69⟩; (try dsimp only); have B69 : Hid (Below wh.heap.size wh w69) := Lib.hid (B58.out.trans (b69.mono B58.out.size)); clear b69
          refine hK.out _ _ ?_ (fun hHeld2 => ?_)
          · (try dsimp only); exact HCV.out _ B69.out
          clear hK K hHeld
          have hHeld := hHeld2
          clear hHeld2
          refine wpAnyH_take (i := 70) (v := ?_) rfl (by as_aux_lemma => kernel_rfl) (by as_aux_lemma => kernel_rfl) (by as_aux_lemma => kernel_rfl) (fun _ _ _ h => h) (Or.inl ⟨by as_aux_lemma => kernel_rfl, ?_⟩) (by assumption) ?_
          rotate_left
          · intro w hSw; (try dsimp only at hSw); go_simp; (try with_reducible rfl)
          simp only [Act.put, List.getElem_toArray]
          refine wpAnyH_take (i := 71) (v := ?_) rfl (by as_aux_lemma => kernel_rfl) (by as_aux_lemma => kernel_rfl) (by as_aux_lemma => kernel_rfl) (fun _ _ _ h => h) (Or.inl ⟨by as_aux_lemma => kernel_rfl, ?_⟩) (by assumption) ?_
          rotate_left
          · intro w hSw; (try dsimp only at hSw); go_simp; (try with_reducible rfl)
          simp only [Act.put, List.getElem_toArray]
          refine wpAnyH_take (i := 72) (v := ?_) rfl (by as_aux_lemma => kernel_rfl) (by as_aux_lemma => kernel_rfl) (by as_aux_lemma => kernel_rfl) (fun _ _ _ h => h) (Or.inl ⟨by as_aux_lemma => kernel_rfl, ?_⟩) (by assumption) ?_
          rotate_left
          · intro w hSw; (try dsimp only at hSw); go_simp; (try with_reducible rfl)
          simp only [Act.put, List.getElem_toArray]
          refine wpAnyH_take (i := 73) (v := ?_) rfl (by as_aux_lemma => kernel_rfl) (by as_aux_lemma => kernel_rfl) (by as_aux_lemma => kernel_rfl) (fun _ _ _ h => h) (Or.inl ⟨by as_aux_lemma => kernel_rfl, ?_⟩) (by assumption) ?_
          rotate_left
          · intro w hSw; (try dsimp only at hSw); go_simp; (try with_reducible rfl)
          simp only [Act.put, List.getElem_toArray]
          refine wpAnyH_ready (rs := [74]) (by as_aux_lemma => kernel_rfl) (by simp) ?_
          refine AllReadyH.cons rfl (fun K hK => ?_) AllReadyH.nil
          go_simp; go_at_call 15; (with_reducible refine (HCL.out _ B69.out).mono ?_); rintro e w74 ⟨rfl, b74⟩; (try dsimp only); have B74 : Hid (Below wh.heap.size wh w74) := Lib.hid (B69.out.trans (b74.mono B69.out.size)); clear b74
          refine hK.out _ _ ?_ (fun hHeld2 => ?_)
          · (try dsimp only); exact HCV.out _ B74.out
          clear hK K hHeld
          have hHeld := hHeld2
          clear hHeld2
          refine wpAnyH_take (i := 75) (v := ?_) rfl (by as_aux_lemma => kernel_rfl) (by as_aux_lemma => kernel_rfl) (by as_aux_lemma => kernel_rfl) (fun _ _ _ h => h) (Or.inl ⟨by as_aux_lemma => kernel_rfl, ?_⟩) (by assumption) ?_
          rotate_left
          · intro w hSw; (try dsimp only at hSw); go_simp; (try with_reducible rfl)
          simp only [Act.put, List.getElem_toArray]
          refine wpAnyH_take (i := 76) (v := ?_) rfl (by as_aux_lemma => kernel_rfl) (by as_aux_lemma => kernel_rfl) (by as_aux_lemma => kernel_rfl) (fun _ _ _ h => h) (Or.inl ⟨by as_aux_lemma => kernel_rfl, ?_⟩) (by assumption) ?_
          rotate_left
          · intro w hSw; (try dsimp only at hSw); go_simp; (try with_reducible rfl)
          simp only [Act.put, List.getElem_toArray]
          refine wpAnyH_take (i := 77) (v := ?_) rfl (by as_aux_lemma => kernel_rfl) (by as_aux_lemma => kernel_rfl) (by as_aux_lemma => kernel_rfl) (fun _ _ _ h => h) (Or.inl ⟨by as_aux_lemma => kernel_rfl, ?_⟩) (by assumption) ?_
          rotate_left
          · intro w hSw; (try dsimp only at hSw); go_simp; (try with_reducible rfl)
          simp only [Act.put, List.getElem_toArray]
          refine wpAnyH_take (i := 78) (v := ?_) rfl (by as_aux_lemma => kernel_rfl) (by as_aux_lemma => kernel_rfl) (by as_aux_lemma => kernel_rfl) (fun _ _ _ h => h) (Or.inl ⟨by as_aux_lemma => kernel_rfl, ?_⟩) (by assumption) ?_
          rotate_left
          · intro w hSw; (try dsimp only at hSw); go_simp; (try with_reducible rfl)
          simp only [Act.put, List.getElem_toArray]
          refine wpAnyH_ready (rs := [79]) (by as_aux_lemma => kernel_rfl) (by simp) ?_
          refine AllReadyH.cons rfl (fun K hK => ?_) AllReadyH.nil
          go_simp; go_at_call 15; (with_reducible refine (HCS.out _ B74.out).mono ?_); rintro e w79 ⟨rfl, b79⟩; (try dsimp only); have B79 : Hid (Below wh.heap.size wh w79) := Lib.hid (B74.out.trans (b79.mono B74.out.size)); clear b79
          refine hK.out _ _ ?_ (fun hHeld2 => ?_)
          · (try dsimp only); exact HCV.out _ B79.out
          clear hK K hHeld
          have hHeld := hHeld2
          clear hHeld2
          refine wpAnyH_take (i := 80) (v := ?_) rfl (by as_aux_lemma => kernel_rfl) (by as_aux_lemma => kernel_rfl) (by as_aux_lemma => kernel_rfl) (fun _ _ _ h => h) (Or.inl ⟨by as_aux_lemma => kernel_rfl, ?_⟩) (by assumption) ?_
          rotate_left
          · intro w hSw; (try dsimp only at hSw); go_simp; (try with_reducible rfl)
          simp only [Act.put, List.getElem_toArray]
          refine wpAnyH_take (i := 81) (v := ?_) rfl (by as_aux_lemma => kernel_rfl) (by as_aux_lemma => kernel_rfl) (by as_aux_lemma => kernel_rfl) (fun _ _ _ h => h) (Or.inl ⟨by as_aux_lemma => kernel_rfl, ?_⟩) (by assumption) ?_
          rotate_left
          · intro w hSw; (try dsimp only at hSw); go_simp; (try with_reducible rfl)
          simp only [Act.put, List.getElem_toArray]
          refine wpAnyH_take (i := 82) (v := ?_) rfl (by as_aux_lemma => kernel_rfl) (by as_aux_lemma => kernel_rfl) (by as_aux_lemma => kernel_rfl) (fun _ _ _ h => h) (Or.inl ⟨by as_aux_lemma => kernel_rfl, ?_⟩) (by assumption) ?_
          rotate_left
          · intro w hSw; (try dsimp only at hSw); go_simp; (try with_reducible rfl)
          simp only [Act.put, List.getElem_toArray]
          refine wpAnyH_take (i := 83) (v := ?_) rfl (by as_aux_lemma => kernel_rfl) (by as_aux_lemma => kernel_rfl) (by as_aux_lemma => kernel_rfl) (fun _ _ _ h => h) (Or.inl ⟨by as_aux_lemma => kernel_rfl, ?_⟩) (by assumption) ?_
          rotate_left
          · intro w hSw; (try dsimp only at hSw); go_simp; (try with_reducible rfl)
          simp only [Act.put, List.getElem_toArray]
          refine wpAnyH_ready (rs := [84]) (by as_aux_lemma => kernel_rfl) (by simp) ?_
          refine AllReadyH.cons rfl (fun K hK => ?_) AllReadyH.nil
          go_simp; go_at_call 18; (with_reducible refine (HGM.out _ B79.out).mono ?_); rintro e w' ⟨rfl, hw⟩; obtain rfl := hw.symm; (try dsimp only)
          refine hK.out _ _ ?_ (fun hHeld2 => ?_)
          · (try dsimp only); exact HCV.out _ B79.out
          clear hK K hHeld
          have hHeld := hHeld2
          clear hHeld2
          refine wpAnyH_take (i := 85) (v := ?_) rfl (by as_aux_lemma => kernel_rfl) (by as_aux_lemma => kernel_rfl) (by as_aux_lemma => kernel_rfl) (fun _ _ _ h => h) (Or.inl ⟨by as_aux_lemma => kernel_rfl, ?_⟩) (by assumption) ?_
          rotate_left
          · intro w hSw; (try dsimp only at hSw); go_simp; (try with_reducible rfl)
          simp only [Act.put, List.getElem_toArray]
          refine wpAnyH_take (i := 86) (v := ?_) rfl (by as_aux_lemma => kernel_rfl) (by as_aux_lemma => kernel_rfl) (by as_aux_lemma => kernel_rfl) (fun _ _ _ h => h) (Or.inl ⟨by as_aux_lemma => kernel_rfl, ?_⟩) (by assumption) ?_
          rotate_left
          · intro w hSw; (try dsimp only at hSw); go_simp; (try with_reducible rfl)
          simp only [Act.put, List.getElem_toArray]
          refine wpAnyH_take (i := 87) (v := ?_) rfl (by as_aux_lemma => kernel_rfl) (by as_aux_lemma => kernel_rfl) (by as_aux_lemma => kernel_rfl) (fun _ _ _ h => h) (Or.inl ⟨by as_aux_lemma => kernel_rfl, ?_⟩) (by assumption) ?_
          rotate_left
          · intro w hSw; (try dsimp only at hSw); go_simp; (try with_reducible rfl)
          simp only [Act.put, List.getElem_toArray]
          refine wpAnyH_take (i := 88) (v := ?_) rfl (by as_aux_lemma => kernel_rfl) (by as_aux_lemma => kernel_rfl) (by as_aux_lemma => kernel_rfl) (fun _ _ _ h => h) (Or.inl ⟨by as_aux_lemma => kernel_rfl, ?_⟩) (by assumption) ?_
          rotate_left
          · intro w hSw; (try dsimp only at hSw); go_simp; (try with_reducible rfl)
          simp only [Act.put, List.getElem_toArray]
          refine wpAnyH_take (i := 90) (v := ?_) rfl (by as_aux_lemma => kernel_rfl) (by as_aux_lemma => kernel_rfl) (by as_aux_lemma => kernel_rfl) (fun _ _ _ h => h) (Or.inl ⟨by as_aux_lemma => kernel_rfl, ?_⟩) (by assumption) ?_
          rotate_left
          · intro w hSw; (try dsimp only at hSw); go_simp; (try with_reducible rfl)
          simp only [Act.put, List.getElem_toArray]
          refine wpAnyH_ready (rs := [89]) (by as_aux_lemma => kernel_rfl) (by simp) ?_
          refine AllReadyH.cons rfl (fun K hK => ?_) AllReadyH.nil
          go_simp; go_at_call 19; (with_reducible refine (HWI.out _ B79.out).mono ?_); rintro e w89 ⟨rfl, b89⟩; (try dsimp only); have B89 : Hid (Below wh.heap.size wh w89) := Lib.hid (B79.out.trans (b89.mono B79.out.size)); clear b89
          refine hK.out _ _ ?_ (fun hHeld2 => ?_)
          · (try dsimp only); exact HCV.out _ B89.out
          clear hK K hHeld
          have hHeld := hHeld2
          clear hHeld2
          refine wpAnyH_take (i := 91) (v := ?_) rfl (by as_aux_lemma => kernel_rfl) (by as_aux_lemma => kernel_rfl) (by as_aux_lemma => kernel_rfl) (fun _ _ _ h => h) (Or.inl ⟨by as_aux_lemma => kernel_rfl, ?_⟩) (by assumption) ?_
          rotate_left
          · intro w hSw; (try dsimp only at hSw); go_simp; (try with_reducible rfl)
          simp only [Act.put, List.getElem_toArray]
          refine wpAnyH_take (i := 92) (v := ?_) rfl (by as_aux_lemma => kernel_rfl) (by as_aux_lemma => kernel_rfl) (by as_aux_lemma => kernel_rfl) (fun _ _ _ h => h) (Or.inl ⟨by as_aux_lemma => kernel_rfl, ?_⟩) (by assumption) ?_
          rotate_left
          · intro w hSw; (try dsimp only at hSw); go_simp; (try with_reducible rfl)
          simp only [Act.put, List.getElem_toArray]
          refine wpAnyH_take (i := 93) (v := ?_) rfl (by as_aux_lemma => kernel_rfl) (by as_aux_lemma => kernel_rfl) (by as_aux_lemma => kernel_rfl) (fun _ _ _ h => h) (Or.inl ⟨by as_aux_lemma => kernel_rfl, ?_⟩) (by assumption) ?_
          rotate_left
          · intro w hSw; (try dsimp only at hSw); go_simp; (try with_reducible rfl)
          simp only [Act.put, List.getElem_toArray]
          refine wpAnyH_done (by as_aux_lemma => kernel_rfl) ?_ _
          rotate_left
          all_goals
            (try simp only [List.setIfInBounds_toArray])
            go_wp2_with fail
            go_ret
            exact ⟨rfl, HLh.out.wl.blw.trans (B89.out.mono HLh.out.wl.blw.size)⟩
end Go.Proofs.YthpkpmochkiipaaGreatDoor
