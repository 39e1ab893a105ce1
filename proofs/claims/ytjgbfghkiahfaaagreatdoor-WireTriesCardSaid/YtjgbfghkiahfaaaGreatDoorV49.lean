import Derived.Test.YtjgbfghkiahfaaaGreatDoorV48
namespace Go.Proofs.YtjgbfghkiahfaaaGreatDoor
open Go.RowKit Go.Sort
set_option maxRecDepth 100000
set_option maxHeartbeats 4000000

theorem CallRet.any {w0 v w' : World} {g : Nat} {nd : Nat → Nat} {n : Int} {x : Wp × Ans} {s2 : Wp} {a : Ans} {e : Ending} (h : CallRet w0 v g nd n x e w') (hx : x = (s2, a)) :
    ∃ (k0 k1 : Int) (A : Option Addr) (l c : Nat) (A' : Option Addr) (l' c' : Nat) (u : Value), e = .returned (.tuple #[rpv k0 k1 (.slice A l c) (.slice A' l' c'), u]) ∧ WL w0 w' g nd s2 ∧ KeepW v w' ∧ ((∃ c : Nat, a = .err c ∧ ∃ b, u = onv b ∧ OnE w' b n (c : Int)) ∨ ((∃ y, a = .ok y) ∧ u = .nilIface)) := by
  subst hx
  obtain ⟨r, u, rfl, h1, h2, ⟨c', hc, rfl, b, rfl, hb, ho⟩ | ⟨y, hy, rfl, A, c, A', c', rfl, _⟩⟩ := h
  · exact ⟨_, _, _, _, _, _, _, _, _, rfl, h1, h2, Or.inl ⟨c', hc, b, rfl, ho⟩⟩
  · exact ⟨_, _, _, _, _, _, _, _, _, rfl, h1, h2, Or.inr ⟨⟨y, hy⟩, rfl⟩⟩
theorem live_bd {a : Ns} (h : a.Ok) : ∀ y ∈ (liveT a.R).map (·.2), ∀ j, j < 128 → y.D j < 256 := by
  intro y hy
  obtain ⟨⟨n, y'⟩, hm, rfl⟩ := List.mem_map.1 hy
  obtain ⟨k, hk, e⟩ := colR_mem.1 ((liveT_perm a.R).mem_iff.1 hm)
  exact (h.rs k n _ hk e).2.2.2.2.2
theorem live_len (R : Nat → Option Nt) : ((liveT R).map (·.2)).length ≤ 16 := by
  rw [List.length_map, liveT_len]
  exact colR_len R 16
theorem alike_take {l : List It} {x y : It} {k : Nat} (h : l[k]? = some y) : (∃ z ∈ l.take (k + 1), x.Alike z) ↔ (∃ z ∈ l.take k, x.Alike z) ∨ x.Alike y := by
  rw [List.take_add_one, h]
  constructor
  · rintro ⟨z, hz, ha⟩
    rcases List.mem_append.1 hz with hz | hz
    · exact Or.inl ⟨z, hz, ha⟩
    · simp at hz
      exact Or.inr (hz ▸ ha)
  · rintro (⟨z, hz, ha⟩ | ha)
    · exact ⟨z, List.mem_append.2 (Or.inl hz), ha⟩
    · exact ⟨y, List.mem_append.2 (Or.inr (by simp)), ha⟩
theorem wireTries (a0 : Option Addr) (L : List Int) (c0 : Nat) (a1 : Option Addr) (L1 : List Int) (c1 : Nat) (w : World) (hL : Nums w a0 L) (_hm : L.length ≤ 9223372036854775807) (hL1 : Nums w a1 L1) (hm1 : L1.length ≤ 9223372036854775807) (hE : ErrType w) :
    Calls Tryz.prog 4 #[.slice a0 L.length c0, .slice a1 L1.length c1] w fun e w' => e = .returned (.bool true) ∧ Below w.heap.size w w' := by
  have hm := _hm
  have HE := Lib.hid hE
  have HL := Lib.hid hL
  have HFA : Hid (∀ W, Below w.heap.size w W → Calls Tryz.prog 25 #[.slice a1 L1.length c1, .int .i64 60] W (FatesRet W)) := Lib.hid (fun W hW => hfates a1 L1 c1 W (fun i x hx => by
    obtain ⟨g, o, e, hg, hc⟩ := hL1 i x hx
    exact ⟨g, o, e, Nat.lt_of_lt_of_le hg hW.size, (hW.cell (p := ⟨g, o + i, none⟩) hg).trans hc⟩) hm1)
  obtain ⟨n0, hn0⟩ : ∃ n0, L.length = n0 := ⟨_, rfl⟩
  obtain ⟨n1, hn1⟩ : ∃ n1, L1.length = n1 := ⟨_, rfl⟩
  have HN0 := Lib.hid hn0
  rw [hn0] at hm ⊢
  rw [hn1] at HFA ⊢
  have HPK : Hid (∀ a W, Calls Tryz.prog 26 #[.int .i64 a, .int .i64 8] W fun e w' => (∃ p : Nat, p < 8 ∧ e = .returned (.int .i64 (p : Int))) ∧ w' = W) := Lib.hid (fun a W => by
    obtain ⟨p, hp, h⟩ := rpickN a 8 (by omega) (by omega)
    exact (h W).mono (by rintro e w' ⟨rfl, hw⟩; exact ⟨⟨p, hp, rfl⟩, hw⟩))
  clear hE hL hn0 hL1 hn1 hm1
  have q1 := we_eqlNil
  have q2 := we_neqNil
  have q3 := we_eqlNilNil
  have q4 := we_neqNilNil
  go_enter Tryz.func4, Tryz.ntmps4
  go_wp2_with fail
  refine (wl_new (w0 := w) w (Below.refl _ _)).mono ?_
  rintro e w1 ⟨g, nd, rfl, W1, b1⟩
  try dsimp only
  have HS1 : Hid (LS w g nd w1 Wp.new []) := Lib.hid ⟨W1, Ers.nil, HE.out.below W1.blw HE.out.lt⟩
  clear W1 b1
  go_wp2_with fail
  refine (lknown12 _ HS1.out.ty).mono ?_
  rintro e w2 ⟨rfl, b2⟩
  try dsimp only
  have HS2 := Lib.hid (HS1.out.below b2)
  clear b2 HS1
  go_wp2_with fail
  refine (HFA.out _ HS2.out.wl.blw).mono ?_
  rintro e w3 ⟨A3, d3, F, rfl, hF, hFc, hFn, b3⟩
  try dsimp only
  have HS3 := Lib.hid (HS2.out.below b3)
  have HWF := Lib.hid (wl_fates HS3.out.wl (by decide) A3 F d3 hFn (by omega) hFc)
  clear b3 HS2 hFn hFc HFA
  go_wp2_with fail
  refine HWF.out.mono ?_
  rintro e w4 ⟨rfl, W4, K4⟩
  try dsimp only
  obtain ⟨s4, hs4⟩ : ∃ s4 : Wp, { Wp.new with F := Wp.new.F ++ F.take (1000 - Wp.new.F.length) } = s4 := ⟨_, rfl⟩
  have HT4 : Hid (TI s4 0) := Lib.hid (by rw [← hs4]; exact TI.new _)
  have W4' : WL w w4 g nd s4 := by rw [← hs4]; exact W4
  have HS4 := Lib.hid (HS3.out.next HE.out W4' K4)
  clear W4 W4' K4 hs4 HS3 HWF hF
  go_wp2_with fail
  go_loopg [6] 15 (fun q s6 wr => ∃ (i : Nat) (s : Wp), s6 = .int .i64 (i : Int) ∧ i ≤ 15 ∧ q = 15 - i ∧ Hid (LS w g nd wr s [] ∧ TI s i))
  case atStart => exact ⟨0, _, rfl, by omega, rfl, Lib.hid ⟨HS4.out, HT4.out⟩⟩
  case round =>
    obtain ⟨i, s, rfl, hi, rfl, HS⟩ := hrel
    clear HS4 HT4
    obtain ⟨wo, rfl⟩ : ∃ wo : World, wo = wr := ⟨wr, rfl⟩
    obtain ⟨bb, hbb⟩ : ∃ bb : Bool, (decide (i < n0) && decide (i < 15)) = bb := ⟨_, rfl⟩
    have HBB := Lib.hid hbb
    clear hbb
    go_upto_region 6 with fail
    go_cut [34] from 27 to 34 (fun s34 wx => s34 = .bool bb ∧ wx = wo)
    case first =>
      by_cases g1 : i < n0
      · have g1' : (i : Int) < (n0 : Int) := by omega
        by_cases g2 : i < 15
        · have g2' : (i : Int) < 15 := by omega
          go_wp2_with fail
          go_meet
          exact ⟨by rw [← HBB.out]; simp [g1, g2], rfl⟩
        · have g2' : ¬ (i : Int) < 15 := by omega
          go_wp2_with fail
          go_meet
          exact ⟨by rw [← HBB.out]; simp [g1, g2], rfl⟩
      · have g1' : ¬ (i : Int) < (n0 : Int) := by omega
        go_wp2_with fail
        go_meet
        exact ⟨by rw [← HBB.out]; simp [g1], rfl⟩
    case rest =>
      obtain ⟨rfl, hwc⟩ := hcut
      obtain rfl := hwc.symm
      cases bb with
      | true =>
        have hi2 : i < n0 ∧ i < 15 := by have := HBB.out; simp at this; exact this
        obtain ⟨g1, g2⟩ := hi2
        have g1' : (i : Int) < (n0 : Int) := by omega
        obtain ⟨x, hx⟩ : ∃ x, L[i]? = some x := ⟨_, List.getElem?_eq_getElem (by rw [HN0.out]; exact g1)⟩
        obtain ⟨ga, oa, rfl, hga, hca⟩ := HL.out i x hx
        have HCA : Hid (∀ W, Below w.heap.size w W → W.cell? ⟨ga, oa + i, none⟩ = some (.int .i64 x)) := Lib.hid (fun W hW => (hW.cell (p := ⟨ga, oa + i, none⟩) hga).trans hca)
        have hc1 := HCA.out wo HS.out.1.wl.blw
        clear hx hca
        go_wp2_with fail
        refine (HPK.out x wo).mono ?_
        rintro e w4 ⟨⟨n, hn, rfl⟩, hw⟩
        obtain rfl := hw.symm
        try dsimp only
        have T1 := Lib.hid (wl_sent HS.out.1.wl)
        obtain ⟨st, hst⟩ : ∃ st, s.sent = st := ⟨_, rfl⟩
        rw [hst] at T1
        have HST := Lib.hid hst
        have hsl : st ≤ 1500 := by have := HS.out.2.fit.2.2.2; omega
        clear hst
        go_wp2_with fail
        refine T1.out.mono ?_
        rintro e wx ⟨rfl, hw⟩
        obtain rfl := hw.symm
        try dsimp only
        go_wp2_with fail
        refine (gintent0 (i : Int) (i : Int) x 0 _ (by decide) (by decide) (by decide) (by decide)).mono ?_
        rintro e w5 ⟨b5, rfl, hk5, hb5, hge5⟩
        try dsimp only
        clear hc1 T1
        have e1 : (i : Int) % 40 = (i : Int) := by omega
        have e2 : 1 + (i : Int) % 9 = ((1 + i % 9 : Nat) : Int) := by omega
        obtain ⟨gg, hgg⟩ : ∃ gg : Nat, 1 + i % 9 = gg := ⟨_, rfl⟩
        rw [e1, e2, hgg]
        have HGG := Lib.hid hgg
        obtain ⟨P5, hP5⟩ : ∃ P, w5.heap.size = P := ⟨_, rfl⟩
        obtain ⟨w6, hw6⟩ : ∃ w6, w5.alloc (.cells #[.int .i64 (i : Int), .int .i64 (gg : Int), .slice (some ⟨b5, 0, none⟩) 128 128] 56) = w6 := ⟨_, rfl⟩
        have b6 : Below w5.heap.size w5 w6 := by rw [← hw6]; exact (Below.refl _ _).alloc (Nat.le_refl _) _
        have v6 : IV w6 P5 (i : Int) (gg : Int) (some ⟨b5, 0, none⟩) 128 128 := by rw [← hw6]; exact IV.of_new hP5
        have HP5 := Lib.hid hP5
        have HV6 := Lib.hid hw6
        have HI6 := Lib.hid v6
        have HK6 := Lib.hid (hk5.below b6)
        have HS6 := Lib.hid ((HS.out.1.below hb5).below b6)
        clear hP5 hw6 b6 hk5 hb5 hge5 hgg e1 e2
        have x0 := v6.c0
        have x1 := v6.c1
        have x2 := v6.c2
        clear v6
        go_upto_region 11 with fail
        rw [HV6.out, HP5.out]
        have HC : Hid (Calls Tryz.prog 9 #[.pointer (some ⟨g, 0, none⟩), .int .i64 (n : Int), .agg #[.int .i64 3, .int .i64 (i : Int), .int .i64 (gg : Int), .int .i64 0, .slice (some ⟨b5, 0, none⟩) 128 128]] w6 (CallRet w w6 g nd (n : Int) (s.call n (logQ i x)))) := Lib.hid (by
          have h := wl_call HS6.out.wl HS.out.2.fit.1 HS.out.2.fit.2 (by omega) hn (logQ i x) (some ⟨b5, 0, none⟩) 128 (DatN.blk HK6.out) (fun j _ => bytesF_lt x j) (logQ_ok g2 x).1
          have e2 : 1 + (i : Int) % 9 = (gg : Int) := by have := HGG.out; omega
          unfold logQ rqv at h
          dsimp only at h
          rw [e2] at h
          have hl : (⟨3, (i : Int), (gg : Int), 0, 128, bytesF x⟩ : Rq) = logQ i x := by unfold logQ; rw [e2]
          rw [hl] at h
          exact h)
        go_wp2_with fail
        refine HC.out.mono ?_
        rintro e w7 hc
        obtain ⟨s', a, hx⟩ : ∃ s' a, s.call n (logQ i x) = (s', a) := ⟨_, _, rfl⟩
        obtain ⟨t1, t2⟩ := HS.out.2.step g2 hn hx
        obtain ⟨k0, k1, A7, l7, c7, B7, m7, d7, u, rfl, W7, K7, hu⟩ := hc.any hx
        try dsimp only
        have HT7 := Lib.hid t1
        obtain ⟨dd, hdd⟩ : ∃ dd, s'.sent - st = dd := ⟨_, rfl⟩
        have HD : Hid (s'.sent = st + dd ∧ 1 ≤ dd ∧ dd ≤ 3) := Lib.hid (by
          have := HST.out
          rcases t2 with ⟨_, e⟩ | ⟨y, _, _, e, f⟩ <;> omega)
        have HS7 : Hid (LS w g nd w7 s' []) := Lib.hid (HS6.out.next HE.out W7 K7)
        have HI7 := Lib.hid (K7.iv HI6.out)
        have HB7 : Hid (DatI w7 (some ⟨b5, 0, none⟩) (bytesF x)) := Lib.hid ((K7.b.datN (DatN.blk HK6.out)).datI rfl)
        have HU : Hid ((∃ b, u = onv b ∧ OnE w7 b (n : Int) 5 ∧ dd = 3) ∨ (u = .nilIface ∧ hasR (s'.N n).R (logQ i x).it = true)) := Lib.hid (by
          rcases hu with ⟨c, rfl, b, rfl, ho⟩ | ⟨⟨y, rfl⟩, rfl⟩
          · rcases t2 with ⟨e, f⟩ | ⟨y, e, _⟩
            · cases e
              exact Or.inl ⟨b, rfl, ho, by have := HST.out; omega⟩
            · cases e
          · rcases t2 with ⟨e, f⟩ | ⟨y', e, f, _⟩
            · cases e
            · exact Or.inr ⟨rfl, f⟩)
        clear hc HC t1 t2 hu hx W7 K7 hdd x0 x1 x2 HI6 HK6 HS6 HV6 HP5
        obtain ⟨P8, hP8⟩ : ∃ P, w7.heap.size = P := ⟨_, rfl⟩
        obtain ⟨w8, hw8⟩ : ∃ w8, w7.alloc (.cells #[.int .i64 k0, .int .i64 k1, .slice A7 l7 c7, .slice B7 m7 d7] 31) = w8 := ⟨_, rfl⟩
        have b8 : Below w7.heap.size w7 w8 := by rw [← hw8]; exact (Below.refl _ _).alloc (Nat.le_refl _) _
        have HP8 := Lib.hid hP8
        have HV8 := Lib.hid hw8
        have HB8 := Lib.hid b8
        have HS8 := Lib.hid (HS7.out.below b8)
        clear hP8 hw8 b8
        have T1 := Lib.hid (wl_sent HS8.out.wl)
        rw [HD.out.1] at T1
        have T2 := Lib.hid (wl_node HS8.out.wl hn)
        obtain ⟨r, hr1, hr2⟩ := wl_live HS8.out.wl hn
        have T3 := Lib.hid hr1
        have T4 := Lib.hid (hr2 _ (Below.refl _ _))
        clear hr1 hr2
        obtain ⟨lv, hlv⟩ : ∃ lv, (liveT (s'.N n).R).map (·.2) = lv := ⟨_, rfl⟩
        rw [hlv] at T4
        have HLV : Hid ((∀ y ∈ lv, ∀ j, j < 128 → y.D j < 256) ∧ (hasR (s'.N n).R (logQ i x).it = true ↔ ∃ y ∈ lv, (logQ i x).it.Alike y) ∧ lv.length ≤ 16) := Lib.hid (by
          rw [← hlv]
          exact ⟨live_bd (HT7.out.fit.1.ok n hn), has_live _ _, live_len _⟩)
        have HIT : Hid ((logQ i x).it = ⟨i, gg, bytesF x⟩) := Lib.hid (by
          have e2 : 1 + (i : Int) % 9 = (gg : Int) := by have := HGG.out; omega
          unfold logQ Rq.it
          dsimp only
          rw [e2]
          rfl)
        rw [HIT.out] at HLV HU
        have hdd := HD.out.2
        have hw1 : IntKind.i64.wrap (((st + dd : Nat) : Int) - (st : Int)) = (dd : Int) := by rw [IntWalk.i64_in _ (by omega)]; omega
        obtain ⟨sd, hsd⟩ : ∃ sd, st + dd = sd := ⟨_, rfl⟩
        rw [hsd] at T1 hw1
        clear hlv hsd
        go_upto_region 12 with fail
        rw [HV8.out, HP8.out]
        go_wp2_with fail
        refine T1.out.mono ?_
        rintro e wx ⟨rfl, hw⟩
        obtain rfl := hw.symm
        try dsimp only
        go_wp2_with fail
        refine T2.out.mono ?_
        rintro e wx ⟨rfl, hw⟩
        obtain rfl := hw.symm
        try dsimp only
        go_wp2_with fail
        refine T3.out.mono ?_
        rintro e wx ⟨rfl, hw⟩
        obtain rfl := hw.symm
        try dsimp only
        go_wp2_with fail
        refine T4.out.mono ?_
        rintro e w9 ⟨B9, c9, rfl, hl9, b9⟩
        try dsimp only
        have HB9 : Hid (Below w7.heap.size w7 w9) := Lib.hid (HB8.out.trans (b9.mono HB8.out.size))
        have HS9 := Lib.hid (HS8.out.below b9)
        have HL9 := Lib.hid hl9
        clear b9 hl9 T1 T2 T3 T4 hw1
        obtain ⟨ln, hln⟩ : ∃ ln, lv.length = ln := ⟨_, rfl⟩
        rw [hln]
        have HLN := Lib.hid hln
        have hl16 : ln ≤ 16 := by have := HLV.out.2.2; omega
        clear hln
        go_wp2_with fail
        go_loopg [13, 74] ln (fun q s13 s74 wr => ∃ (k : Nat) (bx : Bool), s74 = .int .i64 (k : Int) ∧ s13 = .bool bx ∧ k ≤ ln ∧ q = ln - k ∧ Hid (Below w9.heap.size w9 wr ∧ (bx = true ↔ ∃ y ∈ lv.take k, (⟨i, gg, bytesF x⟩ : It).Alike y)))
        case atStart => exact ⟨0, false, rfl, rfl, by omega, rfl, Lib.hid ⟨Below.refl _ _, ⟨fun h => (by cases h), fun ⟨y, hy, _⟩ => (by simp at hy)⟩⟩⟩
        case round =>
          obtain ⟨k, bx, rfl, rfl, hk, rfl, HR⟩ := hrel
          obtain ⟨wp, rfl⟩ : ∃ wp : World, wp = wr := ⟨wr, rfl⟩
          by_cases hkl : k < ln
          · have hkl' : (k : Int) < (ln : Int) := by omega
            have hlk : k < lv.length := by rw [HLN.out]; exact hkl
            obtain ⟨y, hy⟩ : ∃ y, lv[k]? = some y := ⟨_, List.getElem?_eq_getElem hlk⟩
            have hLp := HL9.out.below HR.out.1
            rw [HLN.out] at hLp
            obtain ⟨bl, cl, Al, dl, hv, hbl, z0, z1, z2, hdat⟩ := hLp.at3 hy
            injection hv with hv1 hv2 hv3
            subst hv1
            have HY := Lib.hid hy
            obtain ⟨P10, hP10⟩ : ∃ P, wp.heap.size = P := ⟨_, rfl⟩
            obtain ⟨w10, hw10⟩ : ∃ w10, wp.alloc (.cells #[.int .i64 (y.s : Int), .int .i64 (y.g : Int), .slice Al 128 dl] 56) = w10 := ⟨_, rfl⟩
            have b10 : Below wp.heap.size wp w10 := by rw [← hw10]; exact (Below.refl _ _).alloc (Nat.le_refl _) _
            have v10 : IV w10 P10 (y.s : Int) (y.g : Int) Al 128 dl := by rw [← hw10]; exact IV.of_new hP10
            have HB10 : Hid (Below w9.heap.size w9 w10) := Lib.hid (HR.out.1.trans (b10.mono HR.out.1.size))
            have HB7b : Hid (Below w7.heap.size w7 w10) := Lib.hid (HB9.out.trans (HB10.out.mono HB9.out.size))
            have hx10 := HI7.out.below HB7b.out
            have HX10 := Lib.hid hx10
            have HV10 := Lib.hid v10
            have HW10 := Lib.hid hw10
            have HP10 := Lib.hid hP10
            have HDy := Lib.hid (DatI.keep hdat (fun g cs hg => b10.block g (heap_lt hg)))
            obtain ⟨tb, htb⟩ := bool_of ((⟨i, gg, bytesF x⟩ : It).Alike y)
            have HTB := Lib.hid htb
            have HSI := Lib.hid (rsameIV (w := w10) (v := iv (i : Int) (gg : Int) (some ⟨b5, 0, none⟩) 128 128) (v' := iv (y.s : Int) (y.g : Int) Al 128 dl) (x := ⟨i, gg, bytesF x⟩) (y := y) ⟨_, _, rfl, DatI.keep HB7.out (fun g cs hg => HB7b.out.block g (heap_lt hg))⟩ ⟨_, _, rfl, HDy.out⟩ (fun j _ => bytesF_lt x j) (HLV.out.1 y (List.mem_of_getElem? hy)) tb htb)
            unfold iv at HSI
            clear hv2 hv3 hy hLp hP10 hw10 b10 htb hdat hlk
            go_upto_region 17 with fail
            rw [HW10.out, HP10.out]
            clear z0 z1 z2
            cases bx with
            | true =>
              go_wp2_with fail
              go_roundg (ln - (k + 1))
              case measure => omega
              case rel => exact ⟨k + 1, true, by go_num, rfl, by omega, rfl, Lib.hid ⟨HB10.out, ⟨fun _ => (alike_take HY.out).2 (Or.inl (HR.out.2.1 (by simp))), fun _ => rfl⟩⟩⟩
            | false =>
              have y0 := v10.c0
              have y1 := v10.c1
              have y2 := v10.c2
              have x0 := hx10.c0
              have x1 := hx10.c1
              have x2 := hx10.c2
              clear v10 hx10
              go_wp2_with fail
              refine HSI.out.mono ?_
              rintro e w11 ⟨rfl, b11⟩
              try dsimp only
              have HB11 : Hid (Below w9.heap.size w9 w11) := Lib.hid (HB10.out.trans (b11.mono HB10.out.size))
              clear b11
              go_wp2_with fail
              go_roundg (ln - (k + 1))
              case measure => omega
              case rel =>
                exact ⟨k + 1, tb, by go_num, rfl, by omega, rfl, Lib.hid ⟨HB11.out, (by
                  rw [alike_take HY.out]
                  constructor
                  · exact fun h => Or.inr (HTB.out.1 h)
                  · rintro (h | h)
                    · have := HR.out.2.2 h
                      cases this
                    · exact HTB.out.2 h)⟩⟩
          · obtain rfl : k = ln := by omega
            have HBX : Hid (bx = true ↔ ∃ y ∈ lv, (⟨i, gg, bytesF x⟩ : It).Alike y) := Lib.hid (by
              have h := HR.out.2
              rwa [List.take_of_length_le (by rw [HLN.out]; exact Nat.le_refl _)] at h)
            have HSp := Lib.hid (HS9.out.below HR.out.1)
            have HBp : Hid (Below w7.heap.size w7 wp) := Lib.hid (HB9.out.trans (HR.out.1.mono HB9.out.size))
            rcases HU.out with ⟨b, rfl, ho, hd3⟩ | ⟨rfl, hh⟩
            · subst hd3
              have HON := Lib.hid (we_code (ho.below HBp.out) HSp.out.ty)
              clear ho
              cases bx with
              | true =>
                go_wp2_with fail
                refine HON.out.mono ?_
                rintro e w12 ⟨rfl, b12⟩
                try dsimp only
                have HSq := Lib.hid (HSp.out.below b12)
                clear b12
                go_wp2_with fail
                go_roundg (15 - (i + 1))
                case measure => omega
                case rel => exact ⟨i + 1, s', by go_num, by omega, rfl, Lib.hid ⟨HSq.out, HT7.out⟩⟩
              | false =>
                go_wp2_with fail
                refine HON.out.mono ?_
                rintro e w12 ⟨rfl, b12⟩
                try dsimp only
                have HSq := Lib.hid (HSp.out.below b12)
                clear b12
                go_wp2_with fail
                go_roundg (15 - (i + 1))
                case measure => omega
                case rel => exact ⟨i + 1, s', by go_num, by omega, rfl, Lib.hid ⟨HSq.out, HT7.out⟩⟩
            · have hb : bx = true := HBX.out.2 (HLV.out.2.1.1 hh)
              subst hb
              clear hh
              have m1 : ¬ (dd : Int) < 1 := by omega
              have m2 : ¬ (3 : Int) < (dd : Int) := by omega
              go_wp2_with fail
              go_roundg (15 - (i + 1))
              case measure => omega
              case rel => exact ⟨i + 1, s', by go_num, by omega, rfl, Lib.hid ⟨HSp.out, HT7.out⟩⟩
      | false =>
        go_wp2_with fail
        go_ret
        exact ⟨rfl, HS.out.1.wl.blw⟩
end Go.Proofs.YtjgbfghkiahfaaaGreatDoor
