import Derived.Test.YtobkmohoepgfmaaGreatDoorV50
namespace Go.Proofs.YtobkmohoepgfmaaGreatDoor
open Go.RowKit Go.Sort
set_option maxRecDepth 100000
set_option maxHeartbeats 4000000

theorem openNeeds (x0 x1 : Int) (w : World) (hE : ErrType w) : Calls Tryz.prog 4 #[.int .i64 x0, .int .i64 x1] w fun e w' => e = .returned (.bool true) ∧ Below w.heap.size w w' := by
 have q1 := we_eqlNil
 have q2 := we_neqNil
 have q3 := we_eqlNilNil
 have q4 := we_neqNilNil
 obtain ⟨d, hd, hpick⟩ := rpickN x0 8 (by decide) (by decide)
 have HPK := Lib.hid hpick
 obtain ⟨eb, s1, f, D', k1, k2, k3, k4, k5, k6, k7, k8, k9, k10, k11, k12, k13, k14, k15⟩ := needs_pure (D := bytesF x1) (fun j _ => bytesF_lt x1 j) hd
 have hA := okA_facts
 have HLB := Lib.hid (lbegin15 w)
 have HEW := Lib.hid hE
 revert k1 hA HLB
 generalize okA encK decK = a
 intro k1 hA HLB
 have HWR : Hid (∀ (v : World) (g : Nat) (nd : ND) (p lim b : Nat) (_ : LE w v g nd p lim a) (_ : Blk8 v b 128 (bytesF x1)), Calls Tryz.prog 11 #[.pointer (some ⟨p, 0, none⟩), .int .i64 3, .slice (some ⟨b, 0, none⟩) 128 128] v (LWRet w v g nd p lim 3 (eb, none))) := Lib.hid (fun v g nd p lim b h hb => by
  have := le_write h (m := 38664) hA.1 (by omega) (fun i => Nat.le_trans (hA.2 i) (by omega)) (st := 3) (by omega) (some ⟨b, 0, none⟩) 128 (bytesF x1) hb.dat (fun j _ => bytesF_lt x1 j)
  rw [k1] at this
  exact this)
 have HB := Lib.hid k2
 have HC := Lib.hid (And.intro k3 k4)
 have HS1 := Lib.hid k5
 have HT := Lib.hid (And.intro k6 (And.intro k7 k8))
 have HFF := Lib.hid (And.intro k9 k10)
 have HGN := Lib.hid k11
 have HDE := Lib.hid k13
 have HSM := Lib.hid k14
 have HDB := Lib.hid k15
 rcases hrx : f.read encK decK 3 with ⟨fg, got⟩
 rw [hrx] at k12 HSM
 dsimp only at k12 HSM
 subst k12
 have HRX := Lib.hid hrx
 clear hA k1 k2 k3 k4 k5 k6 k7 k8 k9 k10 k11 k13 k14 k15 hrx hpick hE
 have hd8 : (d : Int) < 8 := by omega
 go_enter Tryz.func4, Tryz.ntmps4
 go_wp2_with fail
 refine HLB.out.mono ?_
 rintro e w1 ⟨g, nd, p, rfl, L1, b1⟩
 try dsimp only
 have HL1 := Lib.hid L1
 obtain ⟨lim, hlim⟩ : ∃ lim, w1.heap.size = lim := ⟨_, rfl⟩
 rw [hlim] at HL1
 clear L1 b1 hlim HLB
 go_wp2_with fail
 refine (lknown15 w1).mono ?_
 rintro e w2 ⟨rfl, b2⟩
 try dsimp only
 have HL2 := Lib.hid (HL1.out.below b2)
 clear b2 HL1
 go_wp2_with fail
 refine (cbytes x1 128 128 rfl w2 (by omega)).mono ?_
 rintro e w3 ⟨b, rfl, B3, b3, _⟩
 try dsimp only
 have HL3 := Lib.hid (HL2.out.below b3)
 have HW3 := Lib.hid (HWR.out w3 g nd p lim b HL3.out B3)
 clear B3 b3 HL2 HWR
 go_wp2_with fail
 refine HW3.out.mono ?_
 rintro e w4 ⟨u, rfl, L4, K4, E4⟩
 try dsimp only
 obtain rfl : u = .nilIface := E4
 obtain ⟨cb, A, C, c, f0, o, cap, B, X4⟩ := L4
 have HE4 : Hid (∀ W, KeepW w4 W → EPt W p cb ∧ BlkT W 72 cb 162 (carF g c eb B)) := Lib.hid (fun W hW => ⟨(hW.cells X4.ep eng_notW).trans X4.ep, X4.cm.blk.keep (by obtain ⟨cs, hb, _⟩ := X4.cm.blk; exact hW.cells hb carrier_notW)⟩)
 have HL4 := Lib.hid X4.wl
 clear X4 K4 HW3 HL3
 go_wp2_with fail
 refine (HPK.out w4).mono ?_
 rintro e wx ⟨rfl, hw⟩
 rw [hw]
 clear hw wx
 go_wp2_with fail
 refine (wl_down HL4.out hd true).mono ?_
 rintro e w5 ⟨rfl, W5, K5⟩
 try dsimp only
 have HK5 := Lib.hid K5
 have HO := Lib.hid (o_open W5 (m := 39228) (HB.out.congr rfl rfl rfl) (by omega) (fun s1 L h => absurd h (HC.out.1 s1 L)))
 rw [HC.out.2] at HO
 have HKO : Hid (∀ a L b F, askI (eb.w.setD d true) 8 = (a, none, L) → gatS a 40 = (b, none, F) → Fine F) := Lib.hid (fun a L b F h _ => absurd h (HC.out.1 a L))
 clear W5 K5 HL4 HC
 go_wp2_with fail
 refine HO.out.mono ?_
 rintro e w6 ⟨⟨r, u, nd6, rfl, _, _, _, W6, ⟨z, hz, rfl, E6⟩ | ⟨ee, p2, hz, _⟩⟩, kw6⟩
 ·cases hz
  obtain ⟨bb, rfl, ho⟩ := E6
  try dsimp only
  have HK6 := Lib.hid (HK5.out.trans (kw6 HKO.out))
  have HL6 := Lib.hid W6
  have hE6 : ErrType w6 := HEW.out.below W6.blw HEW.out.lt
  have HCO := Lib.hid (en_code ho.ev hE6)
  have HON := Lib.hid ho
  clear W6 kw6 HO HKO ho hE6 HK5
  go_wp2_with fail
  refine HCO.out.mono ?_
  rintro e w7 ⟨rfl, b7⟩
  try dsimp only
  have HL7 := Lib.hid (HL6.out.below b7)
  have HK7 := Lib.hid (HK6.out.trans (KeepW.of b7))
  have HNO := Lib.hid (en_nodes (HON.out.below b7).ev (by simp))
  clear b7 HCO HL6 HK6 HON
  go_wp2_with fail
  refine HNO.out.mono ?_
  rintro e w8 ⟨u8, rfl, own8, b8⟩
  try dsimp only
  obtain ⟨A8, c8, rfl, _⟩ := own_form own8
  obtain ⟨n8, _⟩ := own_nums own8
  have hb9 : Below w8.heap.size w8 (w8.alloc (.cells #[.int .i64 (d : Int)] 3)) := (Below.refl _ _).alloc (Nat.le_refl _) _
  have HSA := Lib.hid (lsame A8 (some ⟨w8.heap.size, 0, none⟩) [(d : Int)] [(d : Int)] c8 1 _ (n8.keep hb9) (litNums rfl) (by simp) true ⟨fun _ => rfl, fun _ => rfl⟩)
  have HL9 := Lib.hid ((HL7.out.below b8).below hb9)
  have HK9 := Lib.hid ((HK7.out.trans (KeepW.of b8)).trans (KeepW.of hb9))
  clear own8 b8 n8 hb9 HNO HL7 HK7
  go_wp2_with fail
  refine HSA.out.mono ?_
  rintro e w10 ⟨rfl, b10⟩
  try dsimp only
  have HL10 := Lib.hid (HL9.out.below b10)
  have HK10 := Lib.hid (HK9.out.trans (KeepW.of b10))
  clear b10 HSA HL9 HK9
  go_wp2_with fail
  refine (wl_down HL10.out hd false).mono ?_
  rintro e w11 ⟨rfl, W11, K11⟩
  try dsimp only
  have HK11 := Lib.hid (HK10.out.trans K11)
  have HO := Lib.hid (o_open W11 (m := 39252) (HS1.out.congr rfl rfl rfl) (by omega) HT.out.2.1)
  rw [HT.out.1] at HO
  clear W11 K11 HL10 HK10
  go_wp2_with fail
  refine HO.out.mono ?_
  rintro e w12 ⟨⟨r, u, nd12, rfl, _, _, _, _, ⟨z, hz, _⟩ | ⟨ee, p2, hz, rfl, rfl, _, L12⟩⟩, kw12⟩
  ·cases hz
  ·cases hz
   try dsimp only
   have HK12 := Lib.hid (HK11.out.trans (kw12 HT.out.2.2))
   have HL12 := Lib.hid L12
   obtain ⟨lim2, hlim2⟩ : ∃ lim2, w12.heap.size = lim2 := ⟨_, rfl⟩
   rw [hlim2] at HL12
   have HG := Lib.hid (le_gen HL12.out (st := 3) (by omega))
   rw [HGN.out] at HG
   clear L12 kw12 HO hlim2 HK11
   go_wp2_with fail
   refine HG.out.mono ?_
   rintro e wx ⟨rfl, hw⟩
   rw [hw]
   clear hw wx
   try dsimp only
   have HR := Lib.hid (le_readW HL12.out (m := 80000) HFF.out.1 (by omega) (st := 3) (by omega) HDB.out)
   rw [HRX.out] at HR
   go_wp2_with fail
   refine HR.out.mono ?_
   rintro e w13 ⟨⟨r, u, rfl, L13, K13, ⟨l, hl, _⟩ | ⟨D, P2, c2, hD, rfl, rfl, R13, _, _⟩⟩, kw13⟩
   ·cases hl
   ·cases hD
    try dsimp only
    have HK13 := Lib.hid (HK12.out.trans kw13)
    have HL13 := Lib.hid L13
    have HR13 := Lib.hid R13
    clear L13 K13 R13 kw13 HR HL12 HK12 HG
    have HCV : Hid (∀ W, Below w13.heap.size w13 W → Sem.run Tryz.prog (convert 36 9 (.slice P2 128 c2)) W = .ok (.string (strOf ((List.range 128).map (bytesF x1)))) W) := Lib.hid (fun W hW => by
     have := conv_rd (cap := c2) ((KeepW.of hW).b.datN HR13.out).rd
     rw [strOf_eq HDE.out] at this
     exact this)
    have HBY : Hid (∀ W, Calls Tryz.prog 10 #[.int .i64 x1, .int .i64 128] W (CBRet x1 128 W)) := Lib.hid (fun W => cbytes x1 128 128 rfl W (by omega))
    have hS0 := HCV.out w13.drew (below_drewN 1 w13)
    go_wp2_with fail
    go_region_held (fun W => Sem.run Tryz.prog (convert 36 9 (.slice P2 128 c2)) W = .ok (.string (strOf ((List.range 128).map (bytesF x1)))) W)
     (first | assumption | exact HCV.out _ hbW | exact HCV.out _ hbW2)
     (first | (go_at_call 10; (with_reducible refine (HBY.out _).mono ?_); rintro e w14 ⟨b9, rfl, B9, hb9, _⟩; (try dsimp only); have hbW : Below w13.heap.size w13 w14 := (below_drewN 1 w13).trans (hb9.mono (Nat.le_refl _)); have v2 := conv_rd (cap := 128) B9.rd) | (go_at_call 23; (with_reducible refine (lsame15 (HL13.out.below hbW) (HE4.out _ (HK13.out.trans (KeepW.of hbW))).1 (HE4.out _ (HK13.out.trans (KeepW.of hbW))).2 HSM.out).mono ?_); rintro e w15 ⟨rfl, hw15⟩; (try dsimp only); obtain rfl := hw15; have hbW2 := hbW) | fail)
    all_goals
     have HZ : Hid (Below w.heap.size w w15) := Lib.hid (HL13.out.wl.blw.trans (hbW2.mono HL13.out.wl.blw.size))
     clear hS0 v2 HCV hbW hbW2 hb9 B9
     go_wp2_with fail
     go_ret
     exact ⟨rfl, HZ.out⟩
 ·cases hz
end Go.Proofs.YtobkmohoepgfmaaGreatDoor
