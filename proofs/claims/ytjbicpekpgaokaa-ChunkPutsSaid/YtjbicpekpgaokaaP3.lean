import Derived.Test.YtjbicpekpgaokaaP2
namespace Go.Proofs.Ytjbicpekpgaokaa
open Go.RowKit Go.Sort
set_option maxRecDepth 100000
set_option maxHeartbeats 4000000

/-- Both disks, of pieces alone. -/
def PuS (w0 : World) (p r i : Nat) (v : World) : Prop := ∃ S R d n1 n2, Plt v p S 96 d n1 ∧ RPlt v r R 96 d n2 ∧ (∀ k ∈ S, w0.heap.size ≤ k) ∧ (∀ k ∈ R, w0.heap.size ≤ k) ∧ PD d ∧ Below w0.heap.size w0 v ∧ n1 ≤ i ∧ n2 ≤ i
theorem PuS.below {w0 v v' : World} {p r i : Nat} (h : PuS w0 p r i v) (b : Below v.heap.size v v') : PuS w0 p r i v' := by
  obtain ⟨S, R, d, n1, n2, h1, h2, h3, h4, h5, h6, h7, h8⟩ := h
  exact ⟨S, R, d, n1, n2, h1.below b, h2.below b, h3, h4, h5, h6.trans (b.mono h6.size), h7, h8⟩
theorem PuS.more {w0 v : World} {p r i j : Nat} (h : PuS w0 p r i v) (hij : i ≤ j) : PuS w0 p r j v := by
  obtain ⟨S, R, d, n1, n2, h1, h2, h3, h4, h5, h6, h7, h8⟩ := h
  exact ⟨S, R, d, n1, n2, h1, h2, h3, h4, h5, h6, Nat.le_trans h7 hij, Nat.le_trans h8 hij⟩
/-- Both have done the same. -/
theorem PuS.both {w0 v v1 v2 v3 : World} {p r i : Nat} {S R S' R' : List Nat} {d d' : Disk} {n1 n2 m1 m2 : Nat} (hp : Plt v p S 96 d n1) (hr : RPlt v r R 96 d n2) (hS : ∀ k ∈ S, w0.heap.size ≤ k) (hR : ∀ k ∈ R, w0.heap.size ≤ k) (hb : Below w0.heap.size w0 v)
    (hp1 : Plt v1 p S' 96 d' m1) (st1 : Step S S' v v1) (b12 : Below v1.heap.size v1 v2) (hr3 : RPlt v3 r R' 96 d' m2) (st3 : Step R R' v2 v3) (hcd : PD d') (h1 : m1 ≤ i) (h2 : m2 ≤ i) : PuS w0 p r i v3 := by
  have x1 := Below.step hb st1 hS hb.size
  have b2 : Below w0.heap.size w0 v2 := x1.1.trans (b12.mono x1.1.size)
  have hr2 : RPlt v2 r R 96 d n2 := (keepR hp hr st1.turn).below b12
  have x3 := Below.step b2 st3 hR b2.size
  exact ⟨S', R', d', m1, m2, keepP hr2 (hp1.below b12) st3.turn, hr3, x1.2, x3.2, hcd, x3.1, h1, h2⟩
theorem PuS.both' {w0 v v1 v2 v3 : World} {p r i : Nat} {S R S' R' : List Nat} {d d' : Disk} {n1 n2 m1 m2 : Nat} (hp : Plt v p S 96 d n1) (hr : RPlt v r R 96 d n2) (hS : ∀ k ∈ S, w0.heap.size ≤ k) (hR : ∀ k ∈ R, w0.heap.size ≤ k) (hb : Below w0.heap.size w0 v)
    (hr1 : RPlt v1 r R' 96 d' m2) (st1 : Step R R' v v1) (b12 : Below v1.heap.size v1 v2) (hp3 : Plt v3 p S' 96 d' m1) (st3 : Step S S' v2 v3) (hcd : PD d') (h1 : m1 ≤ i) (h2 : m2 ≤ i) : PuS w0 p r i v3 := by
  have x1 := Below.step hb st1 hR hb.size
  have b2 : Below w0.heap.size w0 v2 := x1.1.trans (b12.mono x1.1.size)
  have hp2 : Plt v2 p S 96 d n1 := (keepP hr hp st1.turn).below b12
  have x3 := Below.step b2 st3 hS b2.size
  exact ⟨S', R', d', m1, m2, hp3, keepR hp2 (hr1.below b12) st3.turn, x3.2, x1.2, hcd, x3.1, h1, h2⟩
/-- A piece that is not bent, as one that may be. -/
theorem gpieceS (x0 x1 x2 x3 : Int) : ∃ y : Pc, y.Ok ∧ ∀ w, Calls Try.prog 22 #[.int .i64 x0, .int .i64 x1, .int .i64 x2, .int .i64 x3, .int .i64 0] w fun e w' => ∃ b, e = .returned (pv (y.s : Int) (y.g : Int) (y.i : Int) (some ⟨b, 0, none⟩) 32 32) ∧ Blk8 w' b 32 y.D ∧ Below w.heap.size w w' ∧ w.heap.size ≤ b := by
  have e0 : ((x0 % 40).toNat : Int) = x0 % 40 := Int.toNat_of_nonneg (by omega)
  have e1 : ((1 + x1 % 9).toNat : Int) = 1 + x1 % 9 := Int.toNat_of_nonneg (by omega)
  have e2 : ((x2 % 6).toNat : Int) = x2 % 6 := Int.toNat_of_nonneg (by omega)
  refine ⟨⟨(x0 % 40).toNat, (1 + x1 % 9).toNat, (x2 % 6).toNat, bytesF x3⟩, ⟨?_, ?_, ?_, ?_, fun j _ => bytesF_lt x3 j⟩, fun w => ?_⟩
  · show (x0 % 40).toNat < 40; omega
  · show 1 ≤ (1 + x1 % 9).toNat; omega
  · show (1 + x1 % 9).toNat ≤ 1099511627776; omega
  · show (x2 % 6).toNat < 6; omega
  · dsimp only
    rw [e0, e1, e2]
    exact gpiece0 x0 x1 x2 x3 0 w rfl rfl rfl rfl rfl
/-- Any piece: one that may be, or not. -/
theorem gpieceT (x0 x1 x2 x3 x4 : Int) (hx4 : -9223372036854775808 ≤ x4 ∧ x4 ≤ 9223372036854775807) : ∃ (s g i : Int) (n : Nat), n ≤ 40 ∧ (OkI s g i n → ∃ y : Pc, y.Ok ∧ s = (y.s : Int) ∧ g = (y.g : Int) ∧ i = (y.i : Int) ∧ n = 32 ∧ y.D = bytesF x3) ∧ ∀ w, Calls Try.prog 22 #[.int .i64 x0, .int .i64 x1, .int .i64 x2, .int .i64 x3, .int .i64 x4] w fun e w' => ∃ b, e = .returned (pv s g i (some ⟨b, 0, none⟩) n n) ∧ Blk8 w' b n (bytesF x3) ∧ Below w.heap.size w w' ∧ w.heap.size ≤ b := by
  obtain ⟨s, g, i, n, hn, h⟩ := gpiece x0 x1 x2 x3 x4 hx4
  refine ⟨s, g, i, n, hn, ?_, h⟩
  rintro ⟨h1, h2, h3, h4, h5, h6, h7⟩
  refine ⟨⟨s.toNat, g.toNat, i.toNat, bytesF x3⟩, ⟨?_, ?_, ?_, ?_, fun j _ => bytesF_lt x3 j⟩, (Int.toNat_of_nonneg h1).symm, (Int.toNat_of_nonneg (by omega)).symm, (Int.toNat_of_nonneg h5).symm, h7, rfl⟩
  · show s.toNat < 40; omega
  · show 1 ≤ g.toNat; omega
  · show g.toNat ≤ 1099511627776; omega
  · show i.toNat < 6; omega
theorem chunkPuts (A : Option Addr) (L : List A8) (c0 : Nat) (w : World) (hL : A8In w A L) (hl : L.length ≤ 9223372036854775807) (hraw : RawOk L) :
    Calls Try.prog 9 #[.slice A L.length c0] w fun e w' => e = .returned (.bool true) ∧ Below w.heap.size w w' := by
  have HLL := Lib.hid hL
  have HRAW := Lib.hid hraw
  obtain ⟨m, hm⟩ : ∃ m, L.length = m := ⟨_, rfl⟩
  rw [hm] at hl ⊢
  have HM := Lib.hid hm
  have HNW := Lib.hid (dnew_of w 96 96 (by omega) rfl)
  clear hL hm hraw
  go_enter Try.func9, Try.ntmps9
  go_wp2_with fail
  refine HNW.out.mono ?_
  rintro e w1 ⟨p, S1, rfl, hp1, hb1, hS1⟩
  try dsimp only
  have HP1 := Lib.hid hp1
  have HB1 := Lib.hid hb1
  have HS1 := Lib.hid hS1
  clear hp1 hb1 hS1 HNW
  go_wp2_with fail
  refine (lknown8 w1).mono ?_
  rintro e w2 ⟨rfl, hb2⟩
  try dsimp only
  have HP2 := Lib.hid (HP1.out.below hb2)
  have HB2 : Hid (Below w.heap.size w w2) := Lib.hid (HB1.out.trans (hb2.mono HB1.out.size))
  clear hb2 HP1 HB1
  go_wp2_with fail
  refine (rnew w2 96 (by omega) (by omega)).mono ?_
  rintro e w3 ⟨r, R1, rfl, hr3, hb3, hR3⟩
  try dsimp only
  have HST : Hid (PuS w p r 0 w3) := Lib.hid ⟨S1, R1, Disk.blank, 0, 0, HP2.out.below hb3, hr3, HS1.out, fun k hk => Nat.le_trans HB2.out.size (hR3 k hk), PD.blank, HB2.out.trans (hb3.mono HB2.out.size), Nat.le_refl _, Nat.le_refl _⟩
  clear hr3 hb3 hR3 HP2 HB2 HS1
  obtain ⟨n, hn⟩ : ∃ n, n = min m 40 := ⟨_, rfl⟩
  have n40 : n ≤ 40 := by omega
  have nm : n ≤ m := by omega
  have HN : Hid (n = min m 40) := Lib.hid hn
  clear hn
  go_wp2_with fail
  go_loopg [5] n (fun q s5 v => ∃ i : Nat, s5 = .int .i64 (i : Int) ∧ i ≤ n ∧ q = n - i ∧ Hid (PuS w p r i v))
  case atStart => exact ⟨0, rfl, by omega, rfl, HST⟩
  case round =>
    obtain ⟨i, rfl, hi, rfl, HV⟩ := hrel
    clear HST
    by_cases hlt : i < n
    · have t1 : (i : Int) < (m : Int) := by omega
      have t2 : (i : Int) < 40 := by omega
      obtain ⟨x, hx⟩ : ∃ x, L[i]? = some x := ⟨_, List.getElem?_eq_getElem (by rw [HM.out]; omega)⟩
      obtain ⟨g, o, rfl, hg, hat, hnum, hkl, hbd⟩ := HLL.out i x hx
      obtain ⟨ra, rn, rc, hra⟩ := HRAW.out i x hx
      obtain ⟨S, R, d, n1, n2, hp, hr, hS, hR, hpd, hbl, hn1, hn2⟩ := HV.out
      have HP := Lib.hid hp
      have HR := Lib.hid hr
      have HS := Lib.hid hS
      have HRS := Lib.hid hR
      have HPD := Lib.hid hpd
      have HB := Lib.hid hbl
      have HNU := Lib.hid hnum
      have HGL := Lib.hid hg
      obtain ⟨a0, a1, a2, a3, a4, a5, a6, a7⟩ := hat.keep (hbl.block g hg)
      rw [hra] at a7
      obtain ⟨ty, lty, hty⟩ := rpickN x.what 9 (by omega) (by omega)
      have HTY := Lib.hid hty
      clear hx hat hg hnum hp hr hS hR hpd hbl hty hra
      go_wp2_with fail
      refine (HTY.out _).mono ?_
      rintro e w' ⟨rfl, rfl⟩
      try dsimp only
      have HV4 : Hid (PuS w p r i (wr.alloc (.cells #[.int .i64 x.what, .int .i64 x.stripe, .int .i64 x.gen, .int .i64 x.index, .int .i64 x.seed, .int .i64 x.bend, .slice x.ka x.ks.length x.kc, .slice ra rn rc] 57))) := Lib.hid (HV.out.below ((Below.refl _ _).alloc (Nat.le_refl _) _))
      have HL4 : Hid ((wr.alloc (.cells #[.int .i64 x.what, .int .i64 x.stripe, .int .i64 x.gen, .int .i64 x.index, .int .i64 x.seed, .int .i64 x.bend, .slice x.ka x.ks.length x.kc, .slice ra rn rc] 57)).heap[wr.heap.size]? = some (.cells #[.int .i64 x.what, .int .i64 x.stripe, .int .i64 x.gen, .int .i64 x.index, .int .i64 x.seed, .int .i64 x.bend, .slice x.ka x.ks.length x.kc, .slice ra rn rc] 57 (0, 0))) := Lib.hid (alloc_block _ _)
      clear a0 a1 a2 a3 a4 a5 a6 a7 HP HR HS HRS HPD HB HV
      generalize wr.alloc (.cells #[.int .i64 x.what, .int .i64 x.stripe, .int .i64 x.gen, .int .i64 x.index, .int .i64 x.seed, .int .i64 x.bend, .slice x.ka x.ks.length x.kc, .slice ra rn rc] 57) = v4 at *
      generalize wr.heap.size = la at *
      obtain ⟨S4, R4, d4, m1, m2, hp, hr, hS, hR, hpd, hbl, hm1, hm2⟩ := HV4.out
      have HP := Lib.hid hp
      have HR := Lib.hid hr
      have HS := Lib.hid hS
      have HRS := Lib.hid hR
      have HPD := Lib.hid hpd
      have HB := Lib.hid hbl
      clear hp hr hS hR hpd hbl HV4
      go_upto_block 2 with fail
      go_cut [7, 8, 9, 10, 11, 12, 13] from 40 to 122 (fun s7 s8 s9 s10 s11 s12 s13 wx => Hid (PuS w p r (i + 1) wx))
      case first =>
        rcases (show ty = 6 ∨ ty = 7 ∨ ty = 8 ∨ ty < 6 by omega) with rfl | rfl | rfl | hty
        · go_wp2_with fail
          refine (dflush HP.out).mono ?_
          rintro e w5 ⟨S5, rfl, p5, t5⟩
          try dsimp only
          have HP5 := Lib.hid p5
          have HT5 := Lib.hid t5
          have HR5 := Lib.hid (keepR HP.out HR.out t5.turn)
          clear p5 t5
          go_wp2_with fail
          refine (rflush HR5.out (by omega)).mono ?_
          rintro e w6 ⟨R6, rfl, p6, t6⟩
          try dsimp only
          have HE : Hid (PuS w p r (i + 1) w6) := Lib.hid (PuS.both HP.out HR.out HS.out HRS.out HB.out HP5.out HT5.out (Below.refl _ _) p6 t6 HPD.out.flush (by omega) (by omega))
          clear p6 t6
          go_wp2_with fail
          go_meet
          case rel => exact HE
        · obtain ⟨ml, hml⟩ : ∃ ml, x.ks.length = ml := ⟨_, rfl⟩
          have HN4 : Hid (Nums v4 x.ka x.ks) := Lib.hid (HNU.out.keep HB.out)
          have HCR := Lib.hid (dcrash x.ka x.ks x.kc HP.out HN4.out hkl (by omega))
          rw [hml] at HCR hkl HL4
          have HML := Lib.hid hml
          clear hml
          have c6 : v4.cell? ⟨la, 6, none⟩ = some (.slice x.ka ml x.kc) := cell_of_block HL4.out
          go_wp2_with fail
          refine HCR.out.mono ?_
          rintro e w5 ⟨S5, rfl, p5, t5⟩
          try dsimp only
          have HP5 := Lib.hid p5
          have HT5 := Lib.hid t5
          have HR5 := Lib.hid (keepR HP.out HR.out t5.turn)
          have HB5 := Lib.hid (Below.step HB.out t5 HS.out HB.out.size)
          have HL5 : Hid (w5.heap[la]? = some _) := Lib.hid ((t5.turn.block la (heap_lt HL4.out) (HP.out.notMem HL4.out (by decide) (by decide) (by decide))).trans HL4.out)
          have HN5 : Hid (Nums w5 x.ka x.ks) := Lib.hid (HNU.out.keep HB5.out.1)
          have HRC := Lib.hid (rcrashN x.ka x.ks x.kc HR5.out HN5.out (by rw [HML.out]; exact hkl) (fun hpos g' o' hA hm => by
            obtain ⟨g2, o2, hA2, hg2, _⟩ := HNU.out 0 _ (List.getElem?_eq_getElem hpos)
            rw [hA] at hA2
            injection hA2 with hA2
            injection hA2 with hA2
            subst hA2
            rw [List.mem_singleton] at hm
            have h1 := HRS.out r (by obtain ⟨dv, pv', _, e⟩ := HR.out; rw [e]; simp)
            omega) (by omega))
          rw [HML.out] at HRC
          clear p5 t5 c6
          have c6 : w5.cell? ⟨la, 6, none⟩ = some (.slice x.ka ml x.kc) := cell_of_block HL5.out
          go_wp2_with fail
          refine HRC.out.mono ?_
          rintro e w6 ⟨R6, rfl, p6, t6⟩
          try dsimp only
          have HE : Hid (PuS w p r (i + 1) w6) := Lib.hid (PuS.both HP.out HR.out HS.out HRS.out HB.out HP5.out HT5.out (Below.refl _ _) p6 t6 (HPD.out.crash _) (by omega) (by omega))
          clear p6 t6 c6
          go_wp2_with fail
          go_meet
          case rel => exact HE
        · obtain ⟨y, hy, hcy⟩ := gpieceS x.stripe x.gen x.index x.seed
          obtain ⟨k, lk, hk⟩ := rpickN x.bend 10 (by omega) (by omega)
          have HY := Lib.hid hy
          have HCY := Lib.hid hcy
          have HK := Lib.hid hk
          have c1 : v4.cell? ⟨la, 1, none⟩ = some (.int .i64 x.stripe) := cell_of_block HL4.out
          have c2 : v4.cell? ⟨la, 2, none⟩ = some (.int .i64 x.gen) := cell_of_block HL4.out
          have c3 : v4.cell? ⟨la, 3, none⟩ = some (.int .i64 x.index) := cell_of_block HL4.out
          have c4 : v4.cell? ⟨la, 4, none⟩ = some (.int .i64 x.seed) := cell_of_block HL4.out
          clear hy hcy hk
          go_wp2_with fail
          refine (HCY.out _).mono ?_
          rintro e w5 ⟨b5, rfl, hb5, hbl5, _⟩
          try dsimp only
          have HP5 := Lib.hid (HP.out.below hbl5)
          have HR5 := Lib.hid (HR.out.below hbl5)
          have HB5 : Hid (Below w.heap.size w w5) := Lib.hid (HB.out.trans (hbl5.mono HB.out.size))
          have HL5 : Hid (w5.heap[la]? = some _) := Lib.hid ((hbl5.block la (heap_lt HL4.out)).trans HL4.out)
          have HLY := Lib.hid (rlayB y (some ⟨b5, 0, none⟩) 32 w5 HY.out hb5.rd)
          clear hb5 hbl5 c1 c2 c3 c4
          go_wp2_with fail
          refine HLY.out.mono ?_
          rintro e w6 ⟨b6, cap6, rfl, hb6, hbl6, _, _⟩
          try dsimp only
          have HK6 := Lib.hid hb6
          have HP6 := Lib.hid (HP5.out.below hbl6)
          have HR6 := Lib.hid (HR5.out.below hbl6)
          have HB6 : Hid (Below w.heap.size w w6) := Lib.hid (HB5.out.trans (hbl6.mono HB5.out.size))
          have HL6 : Hid (w6.heap[la]? = some _) := Lib.hid ((hbl6.block la (heap_lt HL5.out)).trans HL5.out)
          have c5 : w6.cell? ⟨la, 5, none⟩ = some (.int .i64 x.bend) := cell_of_block HL6.out
          clear hb6 hbl6 HLY HP5 HR5 HB5 HP HR HB
          go_wp2_with fail
          refine (HK.out w6).mono ?_
          rintro e w' ⟨rfl, hw⟩
          obtain rfl := hw.symm
          have HDW := Lib.hid (dwrite k (some ⟨b6, 0, none⟩) cap6 (pcS y) HP6.out (by omega) HK6.out.rd (by omega))
          clear c5
          go_wp2_with fail
          refine HDW.out.mono ?_
          rintro e w7 ⟨S7, rfl, p7, t7⟩
          try dsimp only
          have HP7 := Lib.hid p7
          have HT7 := Lib.hid t7
          have HR7 := Lib.hid (keepR HP6.out HR6.out t7.turn)
          have HK7 : Hid (Blk8 w7 b6 160 (pcS y)) := Lib.hid (HK6.out.keep (t7.turn.block b6 HK6.out.lt (by
            obtain ⟨cs, hcs, _⟩ := HK6.out
            exact HP6.out.notMem hcs (by decide) (by decide) (by decide))))
          have HRW := Lib.hid (rwrite k (some ⟨b6, 0, none⟩) cap6 (pcS y) HR7.out (by omega) HK7.out.rd (by omega))
          clear p7 t7
          go_wp2_with fail
          refine HRW.out.mono ?_
          rintro e w8 ⟨R8, rfl, p8, t8⟩
          try dsimp only
          have HE : Hid (PuS w p r (i + 1) w8) := Lib.hid (PuS.both HP6.out HR6.out HS.out HRS.out HB6.out HP7.out HT7.out (Below.refl _ _) p8 t8 (HPD.out.write HY.out k) (by omega) (by omega))
          clear p8 t8
          go_wp2_with fail
          go_meet
          case rel => exact HE
        · obtain ⟨s, g5, ii, nn, hnn, hok, hcy⟩ := gpieceT (x.stripe.tmod 5) x.gen x.index x.seed x.bend hbd
          have HOK := Lib.hid hok
          have HCY := Lib.hid hcy
          have c1 : v4.cell? ⟨la, 1, none⟩ = some (.int .i64 x.stripe) := cell_of_block HL4.out
          have c2 : v4.cell? ⟨la, 2, none⟩ = some (.int .i64 x.gen) := cell_of_block HL4.out
          have c3 : v4.cell? ⟨la, 3, none⟩ = some (.int .i64 x.index) := cell_of_block HL4.out
          have c4 : v4.cell? ⟨la, 4, none⟩ = some (.int .i64 x.seed) := cell_of_block HL4.out
          have c5 : v4.cell? ⟨la, 5, none⟩ = some (.int .i64 x.bend) := cell_of_block HL4.out
          have ty6 : ¬ (ty : Int) = 6 := by omega
          have ty7 : ¬ (ty : Int) = 7 := by omega
          have ty8 : ¬ (ty : Int) = 8 := by omega
          clear hok hcy
          go_wp2_with fail
          refine (HCY.out _).mono ?_
          rintro e w5 ⟨b5, rfl, hb5, hbl5, _⟩
          try dsimp only
          obtain ⟨v5, hv5⟩ : ∃ v5, w5.alloc (.cells #[.int .i64 s, .int .i64 g5, .int .i64 ii, .slice (some ⟨b5, 0, none⟩) nn nn] 42) = v5 := ⟨_, rfl⟩
          obtain ⟨bp, hbp⟩ : ∃ bp, w5.heap.size = bp := ⟨_, rfl⟩
          have HV5E := Lib.hid hv5
          have HBPE := Lib.hid hbp
          have bv5 : Below w5.heap.size w5 v5 := by rw [← hv5]; exact (Below.refl _ _).alloc (Nat.le_refl _) _
          have hbt := hbl5.trans (bv5.mono hbl5.size)
          have KP5 : Hid (PV v5 bp s g5 ii (some ⟨b5, 0, none⟩) nn nn) := Lib.hid (by rw [← hv5, ← hbp]; exact PV.new w5 _ _ _ _ _ _)
          have HD5 := Lib.hid (hb5.below bv5)
          have HP5 := Lib.hid (HP.out.below hbt)
          have HR5 := Lib.hid (HR.out.below hbt)
          have HB5 : Hid (Below w.heap.size w v5) := Lib.hid (HB.out.trans (hbt.mono HB.out.size))
          clear hv5 hbp bv5 hbt hb5 hbl5 c1 c2 c3 c4 c5 HP HR HB HCY
          by_cases hO : OkI s g5 ii nn
          · obtain ⟨y, hy, rfl, rfl, rfl, rfl, hyD⟩ := HOK.out hO
            rw [← hyD] at HD5
            have HY := Lib.hid hy
            have hat : ((atP y : Nat) : Int) = 2 * (y.s : Int) + (y.g : Int) % 2 := by unfold atP; omega
            have hat2 : atP y < 96 := by have := hy.1; unfold atP; omega
            have hyg : (0 : Int) ≤ (y.g : Int) := by omega
            have hys : (y.s : Int) < 1000000 := by have := hy.1; omega
            have HLY := Lib.hid (rlayB y (some ⟨b5, 0, none⟩) 32 v5 HY.out HD5.out.rd)
            have HRP := Lib.hid (fun W => rplace (y.s : Int) (y.g : Int) W hyg (by omega) hys)
            unfold pv at HLY
            clear hO hyD hy hyg hys HOK
            go_wp2_with fail
            rw [HV5E.out, HBPE.out]
            refine HLY.out.mono ?_
            rintro e w6 ⟨b6, cap6, rfl, hb6, hbl6, _, _⟩
            try dsimp only
            have HK6 := Lib.hid hb6
            have KP6 := Lib.hid (KP5.out.below hbl6)
            have HD6 := Lib.hid (HD5.out.below hbl6)
            have HP6 := Lib.hid (HP5.out.below hbl6)
            have HR6 := Lib.hid (HR5.out.below hbl6)
            have HB6 : Hid (Below w.heap.size w w6) := Lib.hid (HB5.out.trans (hbl6.mono HB5.out.size))
            have k0 := KP6.out.c0
            have k1 := KP6.out.c1
            have HRW := Lib.hid (rwrite (atP y) (some ⟨b6, 0, none⟩) cap6 (pcS y) HR6.out hat2 HK6.out.rd (by omega))
            rw [hat] at HRW
            clear hb6 hbl6 HLY KP5 HD5 HP5 HR5 HB5 hat
            go_wp2_with fail
            refine (HRP.out w6).mono ?_
            rintro e w' ⟨rfl, hw⟩
            obtain rfl := hw.symm
            clear k0 k1
            go_wp2_with fail
            refine HRW.out.mono ?_
            rintro e w7 ⟨R7, rfl, p7, t7⟩
            try dsimp only
            have HR7 := Lib.hid p7
            have HT7 := Lib.hid t7
            have HP7 := Lib.hid (keepP HR6.out HP6.out t7.turn)
            have HD7 : Hid (Blk8 w7 b5 32 y.D) := Lib.hid (HD6.out.keep (t7.turn.block b5 HD6.out.lt (by
              obtain ⟨cs, hcs, _⟩ := HD6.out
              exact HR6.out.notMem hcs (by decide) (by decide) (by decide))))
            have KP7 : Hid (PV w7 bp (y.s : Int) (y.g : Int) (y.i : Int) (some ⟨b5, 0, none⟩) 32 32) := Lib.hid (KP6.out.keep (t7.turn.block bp KP6.out.lt (HR6.out.notMem KP6.out (by decide) (by decide) (by decide))))
            have HCP := Lib.hid (cput HP7.out (by omega) y HY.out (some ⟨b5, 0, none⟩) 32 HD7.out.rd (by omega))
            have k0 := KP7.out.c0
            have k1 := KP7.out.c1
            have k2 := KP7.out.c2
            have k3 := KP7.out.c3
            unfold pv at HCP
            clear p7 t7 HRW HRP
            go_wp2_with fail
            refine HCP.out.mono ?_
            rintro e w8 ⟨S8, rfl, p8, t8⟩
            try dsimp only
            have HE : Hid (PuS w p r (i + 1) w8) := Lib.hid (PuS.both' HP6.out HR6.out HS.out HRS.out HB6.out HR7.out HT7.out (Below.refl _ _) p8 t8 (HPD.out.write HY.out (atP y)) (by omega) (by omega))
            clear p8 t8 k0 k1 k2 k3
            go_wp2_with fail
            go_meet
            case rel => exact HE
          · have HLY := Lib.hid (rlay_no s g5 ii (some ⟨b5, 0, none⟩) nn nn v5 hO)
            have HO := Lib.hid hO
            unfold pv at HLY
            clear hO HOK
            go_wp2_with fail
            rw [HV5E.out, HBPE.out]
            refine HLY.out.mono ?_
            rintro e w6 ⟨rfl, hbl6⟩
            try dsimp only
            have KP6 := Lib.hid (KP5.out.below hbl6)
            have HP6 := Lib.hid (HP5.out.below hbl6)
            have HR6 := Lib.hid (HR5.out.below hbl6)
            have HB6 : Hid (Below w.heap.size w w6) := Lib.hid (HB5.out.trans (hbl6.mono HB5.out.size))
            have HCP := Lib.hid (cput_no HP6.out (by omega) s g5 ii (some ⟨b5, 0, none⟩) nn nn HO.out)
            have k0 := KP6.out.c0
            have k1 := KP6.out.c1
            have k2 := KP6.out.c2
            have k3 := KP6.out.c3
            unfold pv at HCP
            clear hbl6 HLY KP5 HD5 HP5 HR5 HB5
            go_wp2_with fail
            refine HCP.out.mono ?_
            rintro e w7 ⟨rfl, hbl7⟩
            try dsimp only
            have HE : Hid (PuS w p r (i + 1) w7) := Lib.hid ⟨S4, R4, d4, m1, m2, HP6.out.below hbl7, HR6.out.below hbl7, HS.out, HRS.out, HPD.out, HB6.out.trans (hbl7.mono HB6.out.size), by omega, by omega⟩
            clear hbl7 k0 k1 k2 k3
            go_wp2_with fail
            go_meet
            case rel => exact HE
      case rest =>
        have HE := hcut
        clear hcut HP HR HS HRS HPD HB HL4
        go_wp2_with fail
        go_loopg [14] 8 (fun q s14 v => ∃ (k : Nat) (z : Int), s14 = .int .i64 z ∧ (k : Int) ≤ z + 1 ∧ z + 1 ≤ (k : Int) ∧ k ≤ 8 ∧ q = 8 - k ∧ Hid (PuS w p r (i + 1) v))
        case atStart => exact ⟨0, -1, rfl, by omega, by omega, by omega, rfl, HE⟩
        case round =>
          obtain ⟨k, z, rfl, hz1, hz2, hk8, rfl, HE2⟩ := hrel
          clear HE
          by_cases hk : k < 8
          · have hz : z < 7 := by omega
            obtain ⟨S7, R7, d7, n7, n7', q1, q2, q3, q4, q5, q6, q7, q8⟩ := HE2.out
            obtain ⟨M7, hM7⟩ := q5.cd
            obtain ⟨l, ll, lb, hc1, hc2⟩ := both_tell q1 q2 hM7 (by omega) k hk
            rw [show (k : Int) - 1 = z by omega] at hc1 hc2
            have HC1 := Lib.hid hc1
            have HC2 := Lib.hid hc2
            have HLL2 := Lib.hid ll
            have HLB := Lib.hid lb
            clear q1 q2 q3 q4 q5 q6 q7 q8 hM7 hc1 hc2 ll lb
            go_wp2_with fail
            refine HC1.out.mono ?_
            rintro e w8 ⟨v8, rfl, hl8, hb8⟩
            try dsimp only
            have HL8 := Lib.hid hl8
            have HE3 := Lib.hid (HE2.out.below hb8)
            have HC3 := Lib.hid (HC2.out w8 hb8)
            obtain ⟨A8', c8, hv8⟩ := hl8.form
            subst hv8
            clear hl8 hb8 HC1 HC2 HE2
            go_wp2_with fail
            refine HC3.out.mono ?_
            rintro e w9 ⟨v9, rfl, hl9, hb9⟩
            try dsimp only
            have HE4 := Lib.hid (HE3.out.below hb9)
            have HSM := Lib.hid (rsames (HL8.out.below hb9) hl9 HLB.out HLL2.out)
            obtain ⟨A9', c9, hv9⟩ := hl9.form
            subst hv9
            clear hl9 hb9 HC3 HE3 HL8
            go_wp2_with fail
            refine HSM.out.mono ?_
            rintro e w10 ⟨rfl, hb10⟩
            try dsimp only
            have HE5 := Lib.hid (HE4.out.below hb10)
            clear hb10 HSM HE4
            go_wp2_with fail
            go_roundg (8 - (k + 1))
            case measure => omega
            case rel => exact ⟨k + 1, z + 1, rfl, by omega, by omega, by omega, rfl, HE5⟩
          · have hz : ¬ z < 7 := by omega
            go_wp2_with fail
            go_roundg (n - (i + 1))
            case measure => omega
            case rel => exact ⟨i + 1, by go_num, by omega, rfl, HE2⟩
    · obtain rfl : i = n := by omega
      obtain ⟨S7, R7, d7, n1, n2, q1, q2, q3, q4, q5, q6, q7, q8⟩ := HV.out
      have Q6 := Lib.hid q6
      clear q1 q2 q3 q4 q5 q6 q7 q8
      by_cases hm : (i : Int) < (m : Int)
      · have h40 : ¬ (i : Int) < 40 := by have := HN.out; omega
        go_wp2_with fail
        go_ret
        exact ⟨rfl, Q6.out⟩
      · go_wp2_with fail
        go_ret
        exact ⟨rfl, Q6.out⟩
end Go.Proofs.Ytjbicpekpgaokaa
