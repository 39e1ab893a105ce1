import Derived.Test.YtofmilkjhnkgjaaNd9
import Derived.Test.YtofmilkjhnkgjaaD9
namespace Go.Proofs.Ytofmilkjhnkgjaa
open Go.RowKit Go.Sort
set_option maxRecDepth 100000
set_option maxHeartbeats 4000000

theorem RV.keepN {w w' : World} {b : Nat} {code boot : Int} {u v : Value} (h : RV w b code boot u v) (k : KeepN w w') : RV w' b code boot u v := h.keep (k.cells h (notNd (by decide) (by decide) (by decide) (by decide) (by decide) (by decide)))
def BoL (w : World) (n p s i sure : Nat) (v : World) : Prop := ∃ a D, NdL w n p a v ∧ Quiet a D i (1 + 2 * i) ∧ Top D s i sure
theorem tdiv3 (x : Int) (h : -9223372036854775808 ≤ x) (h2 : x ≤ 9223372036854775807) : IntKind.i64.wrap (x.tdiv 3) = x.tdiv 3 := by
  refine IntWalk.i64_in _ ?_
  have : (x.tdiv 3).natAbs = x.natAbs / 3 := Int.natAbs_tdiv x 3
  omega
theorem Quiet.mono {a : Ns} {D : Nat → Ct} {m b b' : Nat} (h : Quiet a D m b) (hb : b ≤ b') : Quiet a D m b' := ⟨h.t, h.nw, h.last, Nat.le_trans h.boot hb⟩
theorem nodeBoots (A0 : Option Addr) (xs : List Int) (c0 : Nat) (x1 : Int) (w : World) (hN : Nums w A0 xs) (hl : xs.length ≤ 9223372036854775807) (hx : ∀ x ∈ xs, -9223372036854775808 ≤ x ∧ x ≤ 9223372036854775807) :
    Calls Try.prog 4 #[.slice A0 xs.length c0, .int .i64 x1] w fun e w' => e = .returned (.bool true) ∧ Below w.heap.size w w' := by
  have HN := Lib.hid (nl_new (Below.refl w.heap.size w))
  have HNN := Lib.hid hN
  have HXX := Lib.hid hx
  obtain ⟨m, hm⟩ : ∃ m, xs.length = m := ⟨_, rfl⟩
  rw [hm] at hl ⊢
  have HM := Lib.hid hm
  obtain ⟨m30, hm30⟩ : ∃ m30, m30 = min m 30 := ⟨_, rfl⟩
  have l30 : m30 ≤ 30 := by omega
  have lm : m30 ≤ m := by omega
  have H30 : Hid (∀ i : Nat, i = m30 → m ≤ i ∨ 30 ≤ i) := Lib.hid (by omega)
  obtain ⟨s, hs, hpk⟩ := rpickN x1 40 (by omega) (by omega)
  have HPK := Lib.hid hpk
  clear hN hm hm30 hx hpk
  go_enter Try.func4, Try.ntmps4
  go_wp2_with fail
  refine HN.out.mono ?_
  rintro e w1 ⟨n, p, rfl, hn1⟩
  try dsimp only
  have HN1 := Lib.hid hn1
  have HK := Lib.hid (lknown10 w1)
  clear hn1 HN
  go_wp2_with fail
  refine HK.out.mono ?_
  rintro e w2 ⟨rfl, hb2⟩
  try dsimp only
  have HN2 := Lib.hid (HN1.out.below hb2)
  clear hb2 HK HN1
  go_wp2_with fail
  refine (HPK.out w2).mono ?_
  rintro e w' ⟨rfl, hw⟩
  obtain rfl := hw.symm
  try dsimp only
  have HV0 : Hid (BoL w n p s 0 0 w2) := Lib.hid ⟨_, _, HN2.out, Quiet.new, Top.none_⟩
  clear HN2
  go_wp2_with fail
  go_loopg [6, 7] 30 (fun q s6 s7 v => ∃ i sure : Nat, s6 = .int .i64 (sure : Int) ∧ s7 = .int .i64 (i : Int) ∧ i ≤ m30 ∧ q = 30 - i ∧ Hid (BoL w n p s i sure v))
  case atStart => exact ⟨0, 0, rfl, rfl, by omega, rfl, HV0⟩
  case round =>
    obtain ⟨i, sure, rfl, rfl, hi, rfl, HV⟩ := hrel
    clear HV0
    by_cases hlt : i < m30
    · obtain ⟨a, D, ha, hq, htop⟩ := HV.out
      have HA := Lib.hid ha
      have HQ := Lib.hid hq
      have HTOP := Lib.hid htop
      have hl1 : (i : Int) < (m : Int) := by omega
      have hl2 : (i : Int) < 30 := by omega
      have him : i < m := by omega
      obtain ⟨x, hx⟩ : ∃ x, xs[i]? = some x := ⟨_, List.getElem?_eq_getElem (by rw [HM.out]; exact him)⟩
      obtain ⟨g0, o0, hA0, _, _⟩ := HNN.out i x hx
      subst hA0
      have HCE : Hid (∀ v, Below w.heap.size w v → v.cell? ⟨g0, o0 + i, none⟩ = some (.int .i64 x)) := Lib.hid (fun v hb => by
        obtain ⟨g, o', e, _, hc⟩ := (HNN.out.keep hb) i x hx
        cases e
        exact hc)
      have HWF := Lib.hid (HXX.out x (List.mem_of_getElem? hx))
      obtain ⟨g1, hg1⟩ : ∃ g1, i + 1 = g1 := ⟨_, rfl⟩
      have HG1 := Lib.hid hg1
      have hwg : IntKind.i64.wrap ((i : Int) + 1) = (g1 : Int) := by rw [IntWalk.i64_in _ (by omega)]; omega
      have HBY := Lib.hid (cbytes (g1 : Int) 32 32 rfl wr (by omega))
      obtain ⟨b0, hb0⟩ : ∃ b0, a.boot = b0 := ⟨_, rfl⟩
      have HB0 := Lib.hid hb0
      have hi30 : Hid (i < 30) := Lib.hid (by omega)
      clear ha hq htop hx HV hg1 hb0
      go_wp2_with fail
      refine HBY.out.mono ?_
      rintro e v1 ⟨gb, rfl, kb, hb1, _⟩
      try dsimp only
      have HP := Lib.hid (nl_put (HA.out.below hb1) HQ.out (by have := hi30.out; omega) s g1 1 (bytesF g1) (some ⟨gb, 0, none⟩) 32 (DatN.blk kb) (fun j _ => bytesF_lt _ j) hs (by have := HG1.out; omega) (by have := HG1.out; have := hi30.out; omega) (by omega))
      unfold PutL at HP
      rw [HB0.out] at HP
      unfold rqv at HP
      clear kb hb1 HBY
      go_wp2_with fail
      refine HP.out.mono ?_
      rintro e v2 ⟨B9, c9, D9, d9, b, rfl, hn2, hp2, hk2⟩
      unfold rpv
      try dsimp only
      obtain ⟨x9, hx9⟩ : ∃ x9, v2.alloc (.cells #[.int .i64 0, .int .i64 (b0 : Int), .slice B9 0 c9, .slice D9 0 d9] 33) = x9 := ⟨_, rfl⟩
      have HX9 := Lib.hid hx9
      obtain ⟨a9, ha9⟩ : ∃ a9, v2.heap.size = a9 := ⟨_, rfl⟩
      have HA9 := Lib.hid ha9
      have hb9 : Below v2.heap.size v2 x9 := by rw [← hx9]; exact (Below.refl _ _).alloc (Nat.le_refl _) _
      have HV9 : Hid (RV x9 a9 0 (b0 : Int) (.slice B9 0 c9) (.slice D9 0 d9)) := Lib.hid (by rw [← hx9]; exact RV.of_new ha9)
      have HN9 := Lib.hid (hn2.below hb9)
      have HP9 := Lib.hid hp2
      have HBB : Hid (b.boot = b0) := Lib.hid (by rw [hp2.boot, HB0.out])
      have cx := HCE.out x9 HN9.out.blw
      clear hx9 ha9 hb9 hn2 hp2 hk2 HP HA HQ
      go_upto_region 11 with fail
      rw [HX9.out, HA9.out]
      clear HX9 HA9
      by_cases h3 : x.tmod 3 = 0
      · have e3 : (x.tmod 3 == 0) = true := beq_iff_eq.2 h3
        have e3' : (x.tmod 3 != 0) = false := by simp [h3]
        clear h3
        have hwd := tdiv3 x HWF.out.1 HWF.out.2
        obtain ⟨y, hy⟩ : ∃ y, x.tdiv 3 = y := ⟨_, rfl⟩
        have HY := Lib.hid hy
        obtain ⟨xc, hxc⟩ : ∃ xc, x9.alloc (.cells #[.int .i64 y] 3) = xc := ⟨_, rfl⟩
        have HXC := Lib.hid hxc
        obtain ⟨ac, hac⟩ : ∃ ac, x9.heap.size = ac := ⟨_, rfl⟩
        have HAC := Lib.hid hac
        have hbc : Below x9.heap.size x9 xc := by rw [← hxc]; exact (Below.refl _ _).alloc (Nat.le_refl _) _
        have hblk : xc.heap[ac]? = some (.cells #[.int .i64 y] 3 (0, 0)) := by rw [← hxc, ← hac]; exact alloc_block x9 _
        have HNUM : Hid (Nums xc (some ⟨ac, 0, none⟩) [y]) := Lib.hid (fun j z hj => by
          match j, hj with
          | 0, hj =>
            simp at hj
            subst hj
            exact ⟨ac, 0, rfl, heap_lt hblk, cell_of_block hblk⟩)
        have HCR : Hid (Calls Try.prog 12 #[.pointer (some ⟨n, 0, none⟩), .slice (some ⟨ac, 0, none⟩) 1 1] xc (CrL w n p (if keepF [y] 0 then updC D (atP (pcAt s g1 1 (bytesF g1)), .pc (pcAt s g1 1 (bytesF g1))) else D) (i + 1) (1 + 2 * i + 1) (b.boot + 1) xc)) := Lib.hid (nl_crashP (HN9.out.below hbc) HP9.out (by have := hi30.out; omega) (by have := hi30.out; omega) (some ⟨ac, 0, none⟩) [y] 1 HNUM.out (by simp))
        have HV9c := Lib.hid (HV9.out.below hbc)
        rw [HBB.out] at HCR
        obtain ⟨b1, hb1⟩ : ∃ b1, b0 + 1 = b1 := ⟨_, rfl⟩
        rw [hb1] at HCR
        have HTD : Hid (∃ D7, (if keepF [y] 0 then updC D (atP (pcAt s g1 1 (bytesF g1)), .pc (pcAt s g1 1 (bytesF g1))) else D) = D7 ∧ Top D7 s (i + 1) sure) := Lib.hid ⟨_, rfl, by
          by_cases hk : keepF [y] 0 = true
          · rw [if_pos hk, ← HG1.out]
            exact Top.kept (by have := HTOP.out.2; omega)
          · rw [if_neg hk]
            exact HTOP.out.lost⟩
        obtain ⟨D7, hD7, hT5⟩ := HTD.out
        rw [hD7] at HCR
        have HTP7 := Lib.hid hT5
        have eb : ((b0 : Int) == (b1 : Int)) = false := beq_eq_false_iff_ne.2 (by omega)
        have eb3 : (b0 == b1) = false := beq_eq_false_iff_ne.2 (by omega)
        have eb2 : decide ((b0 : Int) = (b1 : Int)) = false := decide_eq_false (by omega)
        clear hxc hac hbc hblk hb1 hD7 hT5 HTD hy
        go_upto_region 12 with fail
        have hwd2 : IntKind.i64.wrap (x.tdiv 3) = y := by rw [hwd, HY.out]
        go_wp2_with fail
        rw [HY.out, HXC.out, HAC.out]
        refine HCR.out.mono ?_
        rintro e v3 ⟨a5, rfl, hn5, hq5, hbt5, hk5⟩
        try dsimp only
        have HN5 := Lib.hid hn5
        have HQ5 := Lib.hid hq5
        have HBB5 := Lib.hid hbt5
        have HV5 := Lib.hid (HV9c.out.keepN hk5)
        clear hn5 hq5 hbt5 hk5 HCR HV9c HN9 HP9 hwd hwd2 cx HXC HAC HNUM
        have HFL := Lib.hid (nl_flushQ HN5.out HQ5.out (by have := hi30.out; omega))
        rw [HBB5.out] at HFL
        unfold rqv at HFL
        go_wp2_with fail
        refine HFL.out.mono ?_
        rintro e v4 ⟨B4, c4, D4, d4, a6, rfl, hn4, hq4, hbt4, hk4⟩
        unfold rpv
        try dsimp only
        obtain ⟨x10, hx10⟩ : ∃ x10, v4.alloc (.cells #[.int .i64 0, .int .i64 (b1 : Int), .slice B4 0 c4, .slice D4 0 d4] 33) = x10 := ⟨_, rfl⟩
        have HX10 := Lib.hid hx10
        obtain ⟨a10, ha10⟩ : ∃ a10, v4.heap.size = a10 := ⟨_, rfl⟩
        have HA10 := Lib.hid ha10
        have hb10 : Below v4.heap.size v4 x10 := by rw [← hx10]; exact (Below.refl _ _).alloc (Nat.le_refl _) _
        have HT10 : Hid (RV x10 a10 0 (b1 : Int) (.slice B4 0 c4) (.slice D4 0 d4)) := Lib.hid (by rw [← hx10]; exact RV.of_new ha10)
        have HT9 := Lib.hid ((HV5.out.keepN hk4).below hb10)
        have HN10 := Lib.hid (hn4.below hb10)
        have HQ10 := Lib.hid hq4
        have y90 := HT9.out.c0
        have y91 := HT9.out.c1
        have y100 := HT10.out.c0
        have y101 := HT10.out.c1
        have cy := HCE.out x10 HN10.out.blw
        clear hx10 ha10 hb10 hn4 hq4 hbt4 hk4 HFL
        go_upto_region 14 with fail
        rw [HX10.out, HA10.out]
        clear HX10 HA10
        by_cases h5 : x.tmod 5 = 0
        · have e5 : (x.tmod 5 == 0) = true := beq_iff_eq.2 h5
          clear h5
          go_upto_region 19 with fail
          have HC5 := Lib.hid (nl_crashQ0 HN10.out HQ10.out (by have := hi30.out; omega) (by have := hi30.out; omega))
          go_wp2_with fail
          refine HC5.out.mono ?_
          rintro e v5 ⟨a7, rfl, hn5, hq5, _, hk5⟩
          try dsimp only
          have HN7 := Lib.hid hn5
          have HQ7 := Lib.hid hq5
          have HU9 := Lib.hid (HT9.out.keepN hk5)
          have HU10 := Lib.hid (HT10.out.keepN hk5)
          clear hn5 hq5 hk5 HC5 HN10 HQ10 HT9 HT10 y90 y91 y100 y101 cy
          by_cases hsz : 0 < sure
          · have hs0 : Hid (0 < sure) := Lib.hid hsz
            clear hsz
            have HGT := Lib.hid (nl_get HN7.out HQ7.out (by have := hi30.out; omega) s hs)
            unfold rqv at HGT
            obtain ⟨lst, hlst⟩ : ∃ lst, two (D7 (2 * s)).pc? (D7 (2 * s + 1)).pc? = lst := ⟨_, rfl⟩
            rw [hlst] at HGT
            have HLST := Lib.hid hlst
            obtain ⟨b7, hb7⟩ : ∃ b7, a7.boot = b7 := ⟨_, rfl⟩
            unfold GetL at HGT
            rw [hb7] at HGT
            clear hlst hb7
            go_wp2_with fail
            refine HGT.out.mono ?_
            rintro e v7 ⟨B7, lp, c7, E7, e7, rfl, hn8, hlp, hpl, hk8⟩
            unfold rpv
            try dsimp only
            obtain ⟨qp, lq, hq1, hq2⟩ := HTP7.out.get hs0.out
            rw [HLST.out] at hq1
            subst hq1
            obtain ⟨bp, rfl, hgc⟩ := hpl.gen0
            have hlp0 : ((lp : Int) == 0) = false := beq_eq_false_iff_ne.2 (by rw [hlp]; simp only [List.length_cons]; omega)
            have hlp1 : (0 : Int) < (lp : Int) := by rw [hlp]; simp only [List.length_cons]; omega
            have hlp2 : 0 < lp := by rw [hlp]; simp
            obtain ⟨x11, hx11⟩ : ∃ x11, v7.alloc (.cells #[.int .i64 0, .int .i64 (b7 : Int), .slice (some ⟨bp, 0, none⟩) lp c7, .slice E7 0 e7] 33) = x11 := ⟨_, rfl⟩
            have HX11 := Lib.hid hx11
            obtain ⟨a11, ha11⟩ : ∃ a11, v7.heap.size = a11 := ⟨_, rfl⟩
            have HA11 := Lib.hid ha11
            have hb11 : Below v7.heap.size v7 x11 := by rw [← hx11]; exact (Below.refl _ _).alloc (Nat.le_refl _) _
            have HV11 : Hid (RV x11 a11 0 (b7 : Int) (.slice (some ⟨bp, 0, none⟩) lp c7) (.slice E7 0 e7)) := Lib.hid (by rw [← hx11]; exact RV.of_new ha11)
            have HN11 := Lib.hid (hn8.below hb11)
            have HW9 := Lib.hid ((HU9.out.keepN hk8).below hb11)
            have HW10 := Lib.hid ((HU10.out.keepN hk8).below hb11)
            have cz := HCE.out x11 HN11.out.blw
            have hg7 : x11.cell? ⟨bp, 1, none⟩ = some (.int .i64 (qp.g : Int)) := (hb11.cell (p := ⟨bp, 1, none⟩) (cell?_lt hgc)).trans hgc
            have hge : ¬ (qp.g : Int) < (sure : Int) := by omega
            have hge2 : decide ((qp.g : Int) < (sure : Int)) = false := decide_eq_false hge
            have hs1 : (0 : Int) < (sure : Int) := by have := hs0.out; omega
            have hs2 : decide ((0 : Int) < (sure : Int)) = true := decide_eq_true hs1
            have hs3 : decide (0 < sure) = true := decide_eq_true hs0.out
            have hge3 : decide (qp.g < sure) = false := decide_eq_false (by omega)
            have hlp3 : (lp == 0) = false := beq_eq_false_iff_ne.2 (by omega)
            have y9 := HW9.out.c1
            have y10 := HW10.out.c1
            have y11 := HV11.out.c2
            clear hx11 ha11 hb11 hn8 hpl hk8 HGT HU9 HU10 HN7 HV9 hgc hge hlp
            go_upto_region 21 with fail
            rw [HX11.out, HA11.out]
            clear HX11 HA11
            go_big_quiet (fail)
            go_wp2_with fail
            go_roundg (30 - (i + 1))
            case measure => omega
            case rel => exact ⟨i + 1, _, rfl, by have := HG1.out; go_num, by omega, rfl, Lib.hid ⟨_, _, HN11.out.below (below_drewN _ _), HQ7.out.mono (by omega), HTP7.out⟩⟩
          · have hs1 : ¬ (0 : Int) < (sure : Int) := by omega
            have hs2 : decide ((0 : Int) < (sure : Int)) = false := decide_eq_false hs1
            have hs3 : decide (0 < sure) = false := decide_eq_false hsz
            clear hsz
            have HGT := Lib.hid (nl_get HN7.out HQ7.out (by have := hi30.out; omega) s hs)
            unfold rqv at HGT
            obtain ⟨lst, hlst⟩ : ∃ lst, two (D7 (2 * s)).pc? (D7 (2 * s + 1)).pc? = lst := ⟨_, rfl⟩
            rw [hlst] at HGT
            have HLST := Lib.hid hlst
            obtain ⟨b7, hb7⟩ : ∃ b7, a7.boot = b7 := ⟨_, rfl⟩
            unfold GetL at HGT
            rw [hb7] at HGT
            clear hlst hb7
            go_wp2_with fail
            refine HGT.out.mono ?_
            rintro e v7 ⟨B7, lp, c7, E7, e7, rfl, hn8, hlp, hpl, hk8⟩
            unfold rpv
            try dsimp only
            obtain ⟨x11, hx11⟩ : ∃ x11, v7.alloc (.cells #[.int .i64 0, .int .i64 (b7 : Int), .slice B7 lp c7, .slice E7 0 e7] 33) = x11 := ⟨_, rfl⟩
            have HX11 := Lib.hid hx11
            obtain ⟨a11, ha11⟩ : ∃ a11, v7.heap.size = a11 := ⟨_, rfl⟩
            have HA11 := Lib.hid ha11
            have hb11 : Below v7.heap.size v7 x11 := by rw [← hx11]; exact (Below.refl _ _).alloc (Nat.le_refl _) _
            have HV11 : Hid (RV x11 a11 0 (b7 : Int) (.slice B7 lp c7) (.slice E7 0 e7)) := Lib.hid (by rw [← hx11]; exact RV.of_new ha11)
            have HN11 := Lib.hid (hn8.below hb11)
            have HW9 := Lib.hid ((HU9.out.keepN hk8).below hb11)
            have HW10 := Lib.hid ((HU10.out.keepN hk8).below hb11)
            have cz := HCE.out x11 HN11.out.blw
            have y9 := HW9.out.c1
            have y10 := HW10.out.c1
            have y11 := HV11.out.c2
            clear hx11 ha11 hb11 hn8 hpl hk8 HGT HU9 HU10 HN7 HV9 hlp
            go_upto_region 21 with fail
            rw [HX11.out, HA11.out]
            clear HX11 HA11
            go_big_quiet (fail)
            go_wp2_with fail
            go_roundg (30 - (i + 1))
            case measure => omega
            case rel => exact ⟨i + 1, _, rfl, by have := HG1.out; go_num, by omega, rfl, Lib.hid ⟨_, _, HN11.out.below (below_drewN _ _), HQ7.out.mono (by omega), HTP7.out⟩⟩
        · have e5 : (x.tmod 5 == 0) = false := beq_eq_false_iff_ne.2 h5
          clear h5
          go_upto_region 20 with fail
          have HN7 := HN10
          have HQ7 := HQ10
          have HU9 := HT9
          have HU10 := HT10
          clear HN10 HQ10 HT9 HT10 y90 y91 y100 y101 cy
          by_cases hsz : 0 < sure
          · have hs0 : Hid (0 < sure) := Lib.hid hsz
            clear hsz
            have HGT := Lib.hid (nl_get HN7.out HQ7.out (by have := hi30.out; omega) s hs)
            unfold rqv at HGT
            obtain ⟨lst, hlst⟩ : ∃ lst, two (D7 (2 * s)).pc? (D7 (2 * s + 1)).pc? = lst := ⟨_, rfl⟩
            rw [hlst] at HGT
            have HLST := Lib.hid hlst
            obtain ⟨b7, hb7⟩ : ∃ b7, a6.boot = b7 := ⟨_, rfl⟩
            unfold GetL at HGT
            rw [hb7] at HGT
            clear hlst hb7
            go_wp2_with fail
            refine HGT.out.mono ?_
            rintro e v7 ⟨B7, lp, c7, E7, e7, rfl, hn8, hlp, hpl, hk8⟩
            unfold rpv
            try dsimp only
            obtain ⟨qp, lq, hq1, hq2⟩ := HTP7.out.get hs0.out
            rw [HLST.out] at hq1
            subst hq1
            obtain ⟨bp, rfl, hgc⟩ := hpl.gen0
            have hlp0 : ((lp : Int) == 0) = false := beq_eq_false_iff_ne.2 (by rw [hlp]; simp only [List.length_cons]; omega)
            have hlp1 : (0 : Int) < (lp : Int) := by rw [hlp]; simp only [List.length_cons]; omega
            have hlp2 : 0 < lp := by rw [hlp]; simp
            obtain ⟨x11, hx11⟩ : ∃ x11, v7.alloc (.cells #[.int .i64 0, .int .i64 (b7 : Int), .slice (some ⟨bp, 0, none⟩) lp c7, .slice E7 0 e7] 33) = x11 := ⟨_, rfl⟩
            have HX11 := Lib.hid hx11
            obtain ⟨a11, ha11⟩ : ∃ a11, v7.heap.size = a11 := ⟨_, rfl⟩
            have HA11 := Lib.hid ha11
            have hb11 : Below v7.heap.size v7 x11 := by rw [← hx11]; exact (Below.refl _ _).alloc (Nat.le_refl _) _
            have HV11 : Hid (RV x11 a11 0 (b7 : Int) (.slice (some ⟨bp, 0, none⟩) lp c7) (.slice E7 0 e7)) := Lib.hid (by rw [← hx11]; exact RV.of_new ha11)
            have HN11 := Lib.hid (hn8.below hb11)
            have HW9 := Lib.hid ((HU9.out.keepN hk8).below hb11)
            have HW10 := Lib.hid ((HU10.out.keepN hk8).below hb11)
            have cz := HCE.out x11 HN11.out.blw
            have hg7 : x11.cell? ⟨bp, 1, none⟩ = some (.int .i64 (qp.g : Int)) := (hb11.cell (p := ⟨bp, 1, none⟩) (cell?_lt hgc)).trans hgc
            have hge : ¬ (qp.g : Int) < (sure : Int) := by omega
            have hge2 : decide ((qp.g : Int) < (sure : Int)) = false := decide_eq_false hge
            have hs1 : (0 : Int) < (sure : Int) := by have := hs0.out; omega
            have hs2 : decide ((0 : Int) < (sure : Int)) = true := decide_eq_true hs1
            have hs3 : decide (0 < sure) = true := decide_eq_true hs0.out
            have hge3 : decide (qp.g < sure) = false := decide_eq_false (by omega)
            have hlp3 : (lp == 0) = false := beq_eq_false_iff_ne.2 (by omega)
            have y9 := HW9.out.c1
            have y10 := HW10.out.c1
            have y11 := HV11.out.c2
            clear hx11 ha11 hb11 hn8 hpl hk8 HGT HU9 HU10 HN7 HV9 hgc hge hlp
            go_upto_region 21 with fail
            rw [HX11.out, HA11.out]
            clear HX11 HA11
            go_big_quiet (fail)
            go_wp2_with fail
            go_roundg (30 - (i + 1))
            case measure => omega
            case rel => exact ⟨i + 1, _, rfl, by have := HG1.out; go_num, by omega, rfl, Lib.hid ⟨_, _, HN11.out.below (below_drewN _ _), HQ7.out.mono (by omega), HTP7.out⟩⟩
          · have hs1 : ¬ (0 : Int) < (sure : Int) := by omega
            have hs2 : decide ((0 : Int) < (sure : Int)) = false := decide_eq_false hs1
            have hs3 : decide (0 < sure) = false := decide_eq_false hsz
            clear hsz
            have HGT := Lib.hid (nl_get HN7.out HQ7.out (by have := hi30.out; omega) s hs)
            unfold rqv at HGT
            obtain ⟨lst, hlst⟩ : ∃ lst, two (D7 (2 * s)).pc? (D7 (2 * s + 1)).pc? = lst := ⟨_, rfl⟩
            rw [hlst] at HGT
            have HLST := Lib.hid hlst
            obtain ⟨b7, hb7⟩ : ∃ b7, a6.boot = b7 := ⟨_, rfl⟩
            unfold GetL at HGT
            rw [hb7] at HGT
            clear hlst hb7
            go_wp2_with fail
            refine HGT.out.mono ?_
            rintro e v7 ⟨B7, lp, c7, E7, e7, rfl, hn8, hlp, hpl, hk8⟩
            unfold rpv
            try dsimp only
            obtain ⟨x11, hx11⟩ : ∃ x11, v7.alloc (.cells #[.int .i64 0, .int .i64 (b7 : Int), .slice B7 lp c7, .slice E7 0 e7] 33) = x11 := ⟨_, rfl⟩
            have HX11 := Lib.hid hx11
            obtain ⟨a11, ha11⟩ : ∃ a11, v7.heap.size = a11 := ⟨_, rfl⟩
            have HA11 := Lib.hid ha11
            have hb11 : Below v7.heap.size v7 x11 := by rw [← hx11]; exact (Below.refl _ _).alloc (Nat.le_refl _) _
            have HV11 : Hid (RV x11 a11 0 (b7 : Int) (.slice B7 lp c7) (.slice E7 0 e7)) := Lib.hid (by rw [← hx11]; exact RV.of_new ha11)
            have HN11 := Lib.hid (hn8.below hb11)
            have HW9 := Lib.hid ((HU9.out.keepN hk8).below hb11)
            have HW10 := Lib.hid ((HU10.out.keepN hk8).below hb11)
            have cz := HCE.out x11 HN11.out.blw
            have y9 := HW9.out.c1
            have y10 := HW10.out.c1
            have y11 := HV11.out.c2
            clear hx11 ha11 hb11 hn8 hpl hk8 HGT HU9 HU10 HN7 HV9 hlp
            go_upto_region 21 with fail
            rw [HX11.out, HA11.out]
            clear HX11 HA11
            go_big_quiet (fail)
            go_wp2_with fail
            go_roundg (30 - (i + 1))
            case measure => omega
            case rel => exact ⟨i + 1, _, rfl, by have := HG1.out; go_num, by omega, rfl, Lib.hid ⟨_, _, HN11.out.below (below_drewN _ _), HQ7.out.mono (by omega), HTP7.out⟩⟩
      · have e3 : (x.tmod 3 == 0) = false := beq_eq_false_iff_ne.2 h3
        have e3' : (x.tmod 3 != 0) = true := by simp [h3]
        clear h3
        obtain ⟨D7, hD7⟩ : ∃ D7, updC D (atP (pcAt s g1 1 (bytesF g1)), .pc (pcAt s g1 1 (bytesF g1))) = D7 := ⟨_, rfl⟩
        have HTP7 : Hid (Top D7 s (i + 1) g1) := Lib.hid (by rw [← hD7, ← HG1.out]; exact Top.kept (Nat.le_refl _))
        have HD7 := Lib.hid hD7
        clear hD7
        go_upto_region 13 with fail
        have HFL := Lib.hid (nl_flushP HN9.out HP9.out (by have := hi30.out; omega))
        rw [HBB.out] at HFL
        rw [HD7.out] at HFL
        unfold rqv at HFL
        go_wp2_with fail
        refine HFL.out.mono ?_
        rintro e v4 ⟨B4, c4, D4, d4, a6, rfl, hn4, hq4, hbt4, hk4⟩
        unfold rpv
        try dsimp only
        obtain ⟨x10, hx10⟩ : ∃ x10, v4.alloc (.cells #[.int .i64 0, .int .i64 (b0 : Int), .slice B4 0 c4, .slice D4 0 d4] 33) = x10 := ⟨_, rfl⟩
        have HX10 := Lib.hid hx10
        obtain ⟨a10, ha10⟩ : ∃ a10, v4.heap.size = a10 := ⟨_, rfl⟩
        have HA10 := Lib.hid ha10
        have hb10 : Below v4.heap.size v4 x10 := by rw [← hx10]; exact (Below.refl _ _).alloc (Nat.le_refl _) _
        have HT10 : Hid (RV x10 a10 0 (b0 : Int) (.slice B4 0 c4) (.slice D4 0 d4)) := Lib.hid (by rw [← hx10]; exact RV.of_new ha10)
        have HT9 := Lib.hid ((HV9.out.keepN hk4).below hb10)
        have HN10 := Lib.hid (hn4.below hb10)
        have HQ10 := Lib.hid hq4
        have y90 := HT9.out.c0
        have y91 := HT9.out.c1
        have y100 := HT10.out.c0
        have y101 := HT10.out.c1
        have cy := HCE.out x10 HN10.out.blw
        clear hx10 ha10 hb10 hn4 hq4 hbt4 hk4 HFL
        go_upto_region 14 with fail
        rw [HX10.out, HA10.out]
        clear HX10 HA10
        by_cases h5 : x.tmod 5 = 0
        · have e5 : (x.tmod 5 == 0) = true := beq_iff_eq.2 h5
          clear h5
          go_upto_region 19 with fail
          have HC5 := Lib.hid (nl_crashQ0 HN10.out HQ10.out (by have := hi30.out; omega) (by have := hi30.out; omega))
          go_wp2_with fail
          refine HC5.out.mono ?_
          rintro e v5 ⟨a7, rfl, hn5, hq5, _, hk5⟩
          try dsimp only
          have HN7 := Lib.hid hn5
          have HQ7 := Lib.hid hq5
          have HU9 := Lib.hid (HT9.out.keepN hk5)
          have HU10 := Lib.hid (HT10.out.keepN hk5)
          clear hn5 hq5 hk5 HC5 HN10 HQ10 HT9 HT10 y90 y91 y100 y101 cy
          have hs0 : Hid (0 < g1) := Lib.hid (by have := HG1.out; omega)
          have HGT := Lib.hid (nl_get HN7.out HQ7.out (by have := hi30.out; omega) s hs)
          unfold rqv at HGT
          obtain ⟨lst, hlst⟩ : ∃ lst, two (D7 (2 * s)).pc? (D7 (2 * s + 1)).pc? = lst := ⟨_, rfl⟩
          rw [hlst] at HGT
          have HLST := Lib.hid hlst
          obtain ⟨b7, hb7⟩ : ∃ b7, a7.boot = b7 := ⟨_, rfl⟩
          unfold GetL at HGT
          rw [hb7] at HGT
          clear hlst hb7
          go_wp2_with fail
          refine HGT.out.mono ?_
          rintro e v7 ⟨B7, lp, c7, E7, e7, rfl, hn8, hlp, hpl, hk8⟩
          unfold rpv
          try dsimp only
          obtain ⟨qp, lq, hq1, hq2⟩ := HTP7.out.get hs0.out
          rw [HLST.out] at hq1
          subst hq1
          obtain ⟨bp, rfl, hgc⟩ := hpl.gen0
          have hlp0 : ((lp : Int) == 0) = false := beq_eq_false_iff_ne.2 (by rw [hlp]; simp only [List.length_cons]; omega)
          have hlp1 : (0 : Int) < (lp : Int) := by rw [hlp]; simp only [List.length_cons]; omega
          have hlp2 : 0 < lp := by rw [hlp]; simp
          obtain ⟨x11, hx11⟩ : ∃ x11, v7.alloc (.cells #[.int .i64 0, .int .i64 (b7 : Int), .slice (some ⟨bp, 0, none⟩) lp c7, .slice E7 0 e7] 33) = x11 := ⟨_, rfl⟩
          have HX11 := Lib.hid hx11
          obtain ⟨a11, ha11⟩ : ∃ a11, v7.heap.size = a11 := ⟨_, rfl⟩
          have HA11 := Lib.hid ha11
          have hb11 : Below v7.heap.size v7 x11 := by rw [← hx11]; exact (Below.refl _ _).alloc (Nat.le_refl _) _
          have HV11 : Hid (RV x11 a11 0 (b7 : Int) (.slice (some ⟨bp, 0, none⟩) lp c7) (.slice E7 0 e7)) := Lib.hid (by rw [← hx11]; exact RV.of_new ha11)
          have HN11 := Lib.hid (hn8.below hb11)
          have HW9 := Lib.hid ((HU9.out.keepN hk8).below hb11)
          have HW10 := Lib.hid ((HU10.out.keepN hk8).below hb11)
          have cz := HCE.out x11 HN11.out.blw
          have hg7 : x11.cell? ⟨bp, 1, none⟩ = some (.int .i64 (qp.g : Int)) := (hb11.cell (p := ⟨bp, 1, none⟩) (cell?_lt hgc)).trans hgc
          have hge : ¬ (qp.g : Int) < (g1 : Int) := by omega
          have hge2 : decide ((qp.g : Int) < (g1 : Int)) = false := decide_eq_false hge
          have hs1 : (0 : Int) < (g1 : Int) := by have := hs0.out; omega
          have hs2 : decide ((0 : Int) < (g1 : Int)) = true := decide_eq_true hs1
          have hs3 : decide (0 < g1) = true := decide_eq_true hs0.out
          have hge3 : decide (qp.g < g1) = false := decide_eq_false (by omega)
          have hlp3 : (lp == 0) = false := beq_eq_false_iff_ne.2 (by omega)
          have y9 := HW9.out.c1
          have y10 := HW10.out.c1
          have y11 := HV11.out.c2
          clear hx11 ha11 hb11 hn8 hpl hk8 HGT HU9 HU10 HN7 HV9 hgc hge hlp
          go_upto_region 21 with fail
          rw [HX11.out, HA11.out]
          clear HX11 HA11
          go_big_quiet (fail)
          go_wp2_with fail
          go_roundg (30 - (i + 1))
          case measure => omega
          case rel => exact ⟨i + 1, _, rfl, by have := HG1.out; go_num, by omega, rfl, Lib.hid ⟨_, _, HN11.out.below (below_drewN _ _), HQ7.out.mono (by omega), HTP7.out⟩⟩
        · have e5 : (x.tmod 5 == 0) = false := beq_eq_false_iff_ne.2 h5
          clear h5
          go_upto_region 20 with fail
          have HN7 := HN10
          have HQ7 := HQ10
          have HU9 := HT9
          have HU10 := HT10
          clear HN10 HQ10 HT9 HT10 y90 y91 y100 y101 cy
          have hs0 : Hid (0 < g1) := Lib.hid (by have := HG1.out; omega)
          have HGT := Lib.hid (nl_get HN7.out HQ7.out (by have := hi30.out; omega) s hs)
          unfold rqv at HGT
          obtain ⟨lst, hlst⟩ : ∃ lst, two (D7 (2 * s)).pc? (D7 (2 * s + 1)).pc? = lst := ⟨_, rfl⟩
          rw [hlst] at HGT
          have HLST := Lib.hid hlst
          obtain ⟨b7, hb7⟩ : ∃ b7, a6.boot = b7 := ⟨_, rfl⟩
          unfold GetL at HGT
          rw [hb7] at HGT
          clear hlst hb7
          go_wp2_with fail
          refine HGT.out.mono ?_
          rintro e v7 ⟨B7, lp, c7, E7, e7, rfl, hn8, hlp, hpl, hk8⟩
          unfold rpv
          try dsimp only
          obtain ⟨qp, lq, hq1, hq2⟩ := HTP7.out.get hs0.out
          rw [HLST.out] at hq1
          subst hq1
          obtain ⟨bp, rfl, hgc⟩ := hpl.gen0
          have hlp0 : ((lp : Int) == 0) = false := beq_eq_false_iff_ne.2 (by rw [hlp]; simp only [List.length_cons]; omega)
          have hlp1 : (0 : Int) < (lp : Int) := by rw [hlp]; simp only [List.length_cons]; omega
          have hlp2 : 0 < lp := by rw [hlp]; simp
          obtain ⟨x11, hx11⟩ : ∃ x11, v7.alloc (.cells #[.int .i64 0, .int .i64 (b7 : Int), .slice (some ⟨bp, 0, none⟩) lp c7, .slice E7 0 e7] 33) = x11 := ⟨_, rfl⟩
          have HX11 := Lib.hid hx11
          obtain ⟨a11, ha11⟩ : ∃ a11, v7.heap.size = a11 := ⟨_, rfl⟩
          have HA11 := Lib.hid ha11
          have hb11 : Below v7.heap.size v7 x11 := by rw [← hx11]; exact (Below.refl _ _).alloc (Nat.le_refl _) _
          have HV11 : Hid (RV x11 a11 0 (b7 : Int) (.slice (some ⟨bp, 0, none⟩) lp c7) (.slice E7 0 e7)) := Lib.hid (by rw [← hx11]; exact RV.of_new ha11)
          have HN11 := Lib.hid (hn8.below hb11)
          have HW9 := Lib.hid ((HU9.out.keepN hk8).below hb11)
          have HW10 := Lib.hid ((HU10.out.keepN hk8).below hb11)
          have cz := HCE.out x11 HN11.out.blw
          have hg7 : x11.cell? ⟨bp, 1, none⟩ = some (.int .i64 (qp.g : Int)) := (hb11.cell (p := ⟨bp, 1, none⟩) (cell?_lt hgc)).trans hgc
          have hge : ¬ (qp.g : Int) < (g1 : Int) := by omega
          have hge2 : decide ((qp.g : Int) < (g1 : Int)) = false := decide_eq_false hge
          have hs1 : (0 : Int) < (g1 : Int) := by have := hs0.out; omega
          have hs2 : decide ((0 : Int) < (g1 : Int)) = true := decide_eq_true hs1
          have hs3 : decide (0 < g1) = true := decide_eq_true hs0.out
          have hge3 : decide (qp.g < g1) = false := decide_eq_false (by omega)
          have hlp3 : (lp == 0) = false := beq_eq_false_iff_ne.2 (by omega)
          have y9 := HW9.out.c1
          have y10 := HW10.out.c1
          have y11 := HV11.out.c2
          clear hx11 ha11 hb11 hn8 hpl hk8 HGT HU9 HU10 HN7 HV9 hgc hge hlp
          go_upto_region 21 with fail
          rw [HX11.out, HA11.out]
          clear HX11 HA11
          go_big_quiet (fail)
          go_wp2_with fail
          go_roundg (30 - (i + 1))
          case measure => omega
          case rel => exact ⟨i + 1, _, rfl, by have := HG1.out; go_num, by omega, rfl, Lib.hid ⟨_, _, HN11.out.below (below_drewN _ _), HQ7.out.mono (by omega), HTP7.out⟩⟩
    · obtain rfl : i = m30 := by omega
      obtain ⟨a, D, ha, hq, htop⟩ := HV.out
      have HBW := Lib.hid ha.blw
      clear ha hq htop
      rcases H30.out i rfl with h | h
      · have hl1 : ¬ (i : Int) < (m : Int) := by omega
        go_wp2_with fail
        go_ret
        exact ⟨rfl, HBW.out⟩
      · have hl1 : ¬ (i : Int) < 30 := by omega
        go_wp2_with fail
        all_goals
          go_ret
          exact ⟨rfl, HBW.out⟩
end Go.Proofs.Ytofmilkjhnkgjaa
