import Derived.Test.YtjgbfghkiahfaaaGreatDoorV40
namespace Go.Proofs.YtjgbfghkiahfaaaGreatDoor
open Go.RowKit Go.Sort
set_option maxRecDepth 100000
set_option maxHeartbeats 4000000

/-- A wire at rest: no fates, no fuse, not dead. -/
structure Rest (s : Wp) (M : Nat) : Prop where
  F : s.F = []
  dead : s.dead = false
  fuse : s.fuse = -1
  fit : s.Fit M
theorem Rest.new : Rest Wp.new 0 := ⟨rfl, rfl, rfl, Wp.Fit.new⟩
theorem Rest.setD {s : Wp} {M : Nat} (h : Rest s M) (n : Nat) (b : Bool) : Rest (s.setD n b) M := ⟨h.F, h.dead, h.fuse, h.fit.congr rfl rfl rfl⟩
theorem Wp.setD_at (s : Wp) (n : Nat) (b : Bool) (j : Nat) : (s.setD n b).dn j = if j = n then b else s.dn j := rfl
theorem wd_drew (w : World) : Below w.heap.size w w.drew := below_drewN 1 w
theorem wireDown (a : Option Addr) (L : List Int) (c : Nat) (w : World) (hL : Nums w a L) (_hm : L.length ≤ 9223372036854775807) (hE : ErrType w) :
    Calls Tryz.prog 5 #[.slice a L.length c] w fun e w' => e = .returned (.bool true) ∧ Below w.heap.size w w' := by
  have hm := _hm
  have HE := Lib.hid hE
  have HL := Lib.hid hL
  obtain ⟨n0, hn0⟩ : ∃ n0, L.length = n0 := ⟨_, rfl⟩
  have HN0 := Lib.hid hn0
  rw [hn0] at hm ⊢
  have HPK : Hid (∀ a W, Calls Tryz.prog 26 #[.int .i64 a, .int .i64 8] W fun e w' => (∃ p : Nat, p < 8 ∧ e = .returned (.int .i64 (p : Int))) ∧ w' = W) := Lib.hid (fun a W => by
    obtain ⟨p, hp, h⟩ := rpickN a 8 (by omega) (by omega)
    exact (h W).mono (by rintro e w' ⟨rfl, hw⟩; exact ⟨⟨p, hp, rfl⟩, hw⟩))
  clear hE hL hn0
  have q1 := we_eqlNil
  have q2 := we_neqNil
  have q3 := we_eqlNilNil
  have q4 := we_neqNilNil
  have hmk : ∀ W : World, Sem.run Tryz.prog (Instr.makeMap 59 none) W = .ok (.map (some W.heap.size)) (W.alloc (.map #[] 0)) := fun W => run_makeMap _ W
  go_enter Tryz.func5, Tryz.ntmps5
  go_wp2_with fail
  refine (wl_new (w0 := w) w (Below.refl _ _)).mono ?_
  rintro e w1 ⟨g, nd, rfl, W1, b1⟩
  try dsimp only
  have HS1 : Hid (LS w g nd w1 Wp.new []) := Lib.hid ⟨W1, Ers.nil, HE.out.below W1.blw HE.out.lt⟩
  clear W1 b1
  go_wp2_with fail
  refine (lknown12 _ HS1.out.ty).mono ?_
  rintro e w2 ⟨rfl, b2⟩
  try dsimp only
  have HS2 := Lib.hid (HS1.out.below b2)
  clear b2 HS1
  obtain ⟨mb, hmb⟩ : ∃ mb, w2.heap.size = mb := ⟨_, rfl⟩
  obtain ⟨w3, hw3⟩ : ∃ w3, w2.alloc (.map #[] 0) = w3 := ⟨_, rfl⟩
  have HV3 := Lib.hid hw3
  have HMB := Lib.hid hmb
  have HI3 : Hid (IB w3 mb 0 (fun _ => false)) := Lib.hid (by rw [← hw3, ← hmb]; exact IB.made w2)
  have HS3 := Lib.hid (HS2.out.below (v' := w3) (by rw [← hw3]; exact (Below.refl _ _).alloc (Nat.le_refl _) _))
  have HGE : Hid (w.heap.size ≤ mb) := Lib.hid (by rw [← hmb]; exact HS2.out.wl.blw.size)
  clear hmb hw3 HS2
  go_upto_region 5 with fail
  rw [HV3.out, HMB.out]
  go_wp2_with fail
  go_loopg [5] 7 (fun q s5 wr => ∃ (i m : Nat) (s : Wp) (f : Nat → Bool), s5 = .int .i64 (i : Int) ∧ i ≤ 7 ∧ q = 7 - i ∧ Hid (LS w g nd wr s [] ∧ IB wr mb m f ∧ m ≤ i ∧ Rest s 0 ∧ ∀ j, s.dn j = f j))
  case atStart => exact ⟨0, 0, _, _, rfl, by omega, rfl, Lib.hid ⟨HS3.out, HI3.out, Nat.le_refl _, Rest.new, fun _ => rfl⟩⟩
  case round =>
    obtain ⟨i, m, s, f, rfl, hi, rfl, HS⟩ := hrel
    obtain ⟨wo, rfl⟩ : ∃ wo : World, wo = wr := ⟨wr, rfl⟩
    obtain ⟨bb, hbb⟩ : ∃ bb : Bool, (decide (i < n0) && decide (i < 7)) = bb := ⟨_, rfl⟩
    have HBB := Lib.hid hbb
    clear hbb
    go_upto_region 6 with fail
    go_cut [29] from 22 to 29 (fun s29 wx => s29 = .bool bb ∧ wx = wo)
    case first =>
      by_cases g1 : i < n0
      · have g1' : (i : Int) < (n0 : Int) := by omega
        by_cases g2 : i < 7
        · have g2' : (i : Int) < 7 := by omega
          go_wp2_with fail
          go_meet
          exact ⟨by rw [← HBB.out]; simp [g1, g2], rfl⟩
        · have g2' : ¬ (i : Int) < 7 := by omega
          go_wp2_with fail
          go_meet
          exact ⟨by rw [← HBB.out]; simp [g1, g2], rfl⟩
      · have g1' : ¬ (i : Int) < (n0 : Int) := by omega
        go_wp2_with fail
        go_meet
        exact ⟨by rw [← HBB.out]; simp [g1], rfl⟩
    case rest =>
      obtain ⟨rfl, hwc⟩ := hcut
      obtain rfl := hwc.symm
      cases bb with
      | true =>
        have hi2 : i < n0 ∧ i < 7 := by have := HBB.out; simp at this; exact this
        obtain ⟨g1, g2⟩ := hi2
        have g1' : (i : Int) < (n0 : Int) := by omega
        obtain ⟨x, hx⟩ : ∃ x, L[i]? = some x := ⟨_, List.getElem?_eq_getElem (by rw [HN0.out]; exact g1)⟩
        obtain ⟨ga, oa, rfl, hga, hca⟩ := HL.out i x hx
        have hc1 : wo.cell? ⟨ga, oa + i, none⟩ = some (.int .i64 x) := (HS.out.1.wl.blw.cell (p := ⟨ga, oa + i, none⟩) hga).trans hca
        clear hx hca
        go_wp2_with fail
        refine (HPK.out x wo).mono ?_
        rintro e w4 ⟨⟨n, hn, rfl⟩, hw⟩
        obtain rfl := hw.symm
        try dsimp only
        clear hc1
        obtain ⟨es5, k5, e5⟩ := HS.out.2.1.block
        have HE5 := Lib.hid e5
        clear e5
        go_wp2_with (refine mapB_put _ rfl (.tmp 37) (.tmp 38) (.const (.bool true)) (Or.inl rfl) mb m n true f rfl rfl rfl HS.out.2.1 (by have := HS.out.2.2.1; omega) (by omega) ?_; intro w5 i5 g5; have HS5 := Lib.hid (HS.out.1.map HE.out HE5.out HGE.out g5); have HI5 := Lib.hid i5; have HD := Lib.hid (wl_down HS5.out.wl hn true); clear i5 g5)
        refine HD.out.mono ?_
        rintro e w6 ⟨rfl, W6, K6⟩
        try dsimp only
        have HS6 := Lib.hid (HS5.out.next HE.out W6 K6)
        have HI6 := Lib.hid (HI5.out.keepW K6)
        clear W6 K6 HD
        go_wp2_with fail
        go_roundg (7 - (i + 1))
        case measure => omega
        case rel =>
          obtain ⟨_, _, k1, k2, k3⟩ := HS.out
          exact ⟨i + 1, m + 1, _, _, by go_num, by omega, rfl, Lib.hid ⟨HS6.out, HI6.out, by omega, k2.setD n true, fun j => by rw [Wp.setD_at, k3 j]⟩⟩
      | false =>
        clear HBB HPK HL HN0 hm hi
        have HSa : Hid (LS w g nd wo s [] ∧ IB wo mb m f ∧ Rest s 0 ∧ ∀ j, s.dn j = f j) := Lib.hid ⟨HS.out.1, HS.out.2.1, HS.out.2.2.2⟩
        clear HS
        go_wp2_with fail
        go_loopg [7] 8 (fun q s7 wr => ∃ (i : Nat) (s : Wp), s7 = .int .i64 (i : Int) ∧ i ≤ 8 ∧ q = 8 - i ∧ Hid (LS w g nd wr s [] ∧ IB wr mb m f ∧ Rest s (100 * i) ∧ ∀ j, i ≤ j → s.dn j = f j))
        case atStart => exact ⟨0, s, rfl, by omega, rfl, Lib.hid ⟨HSa.out.1, HSa.out.2.1, HSa.out.2.2.1, fun j _ => HSa.out.2.2.2 j⟩⟩
        case round =>
          clear HSa
          obtain ⟨i, s, rfl, hi, rfl, HS⟩ := hrel
          obtain ⟨wo, rfl⟩ : ∃ wo : World, wo = wr := ⟨wr, rfl⟩
          by_cases h8 : i < 8
          · have h8' : (i : Int) < 8 := by omega
            have H1 := Lib.hid (wl_sent HS.out.1.wl)
            have H2 := Lib.hid (wl_node HS.out.1.wl h8)
            have H3 := Lib.hid (wl_boot HS.out.1.wl h8)
            obtain ⟨st, hst⟩ : ∃ st, s.sent = st := ⟨_, rfl⟩
            obtain ⟨bt, hbt⟩ : ∃ bt, (s.N i).boot = bt := ⟨_, rfl⟩
            rw [hst] at H1
            rw [hbt] at H3
            have HST := Lib.hid hst
            have HBT := Lib.hid hbt
            have hsl : st ≤ 800 := by have := HS.out.2.2.1.fit.2.2.2; omega
            have hbl : bt ≤ 801 := by have := HS.out.2.2.1.fit.1.boot i h8; omega
            clear hst hbt
            go_wp2_with fail
            refine H1.out.mono ?_
            rintro e w4 ⟨rfl, hw⟩
            obtain rfl := hw.symm
            go_wp2_with fail
            refine H2.out.mono ?_
            rintro e w4 ⟨rfl, hw⟩
            obtain rfl := hw.symm
            go_wp2_with fail
            refine H3.out.mono ?_
            rintro e w4 ⟨rfl, hw⟩
            obtain rfl := hw.symm
            obtain ⟨P, hP⟩ : ∃ P, wo.heap.size = P := ⟨_, rfl⟩
            have HP := Lib.hid hP
            have bb : Below wo.heap.size wo (wo.alloc (.cells #[.int .i64 3] 3)) := (Below.refl _ _).alloc (Nat.le_refl _) _
            have HF := Lib.hid (wl_fates (HS.out.1.wl.below bb) (by rw [HS.out.2.2.1.F]; decide) (some ⟨wo.heap.size, 0, none⟩) [3] 1 (lit_int wo [3]) (by decide) (by decide))
            have HS0 := Lib.hid (HS.out.1.below bb)
            have HI0 := Lib.hid (HS.out.2.1.below bb)
            rw [hP] at HF
            clear hP bb H1 H2 H3
            go_wp2_with fail
            rw [HP.out]
            refine HF.out.mono ?_
            rintro e w4 ⟨rfl, W4, K4⟩
            try dsimp only
            obtain ⟨s1, hs1⟩ : ∃ s1 : Wp, { s with F := s.F ++ [3].take (1000 - s.F.length) } = s1 := ⟨_, rfl⟩
            rw [hs1] at W4
            have HS4 := Lib.hid (HS0.out.next HE.out W4 K4)
            have HI4 := Lib.hid (HI0.out.keepW K4)
            have HQ : Hid (s1.F = [3] ∧ s1.N = s.N ∧ s1.sent = s.sent ∧ s1.dead = false ∧ s1.dn = s.dn ∧ s1.fuse = -1 ∧ s1.Fit (100 * i)) := Lib.hid (by
              rw [← hs1]
              refine ⟨by show s.F ++ _ = _; rw [HS.out.2.2.1.F]; rfl, rfl, rfl, HS.out.2.2.1.dead, rfl, HS.out.2.2.1.fuse, HS.out.2.2.1.fit.congr rfl rfl rfl⟩)
            have HC := Lib.hid (wl_call_fit HS4.out.wl HQ.out.2.2.2.2.2.2 (by omega) h8)
            unfold rqv at HC
            clear hs1 W4 K4 HF HP
            have hdn : s1.dn i = f i := by rw [HQ.out.2.2.2.2.1]; exact HS.out.2.2.2 i (Nat.le_refl _)
            obtain ⟨fi, hfi⟩ : ∃ fi, f i = fi := ⟨_, rfl⟩
            rw [hfi] at hdn
            have HDN := Lib.hid hdn
            have HFI := Lib.hid hfi
            clear hdn hfi
            go_wp2_with fail
            refine HC.out.mono ?_
            rintro e w5 hc
            cases fi with
            | true =>
              obtain ⟨b5, rfl, W5, K5, _, o5⟩ := hc.err (call_down (by rw [HDN.out]; simp))
              try dsimp only
              have HS5 := Lib.hid ((HS4.out.next HE.out W5 K5).more o5)
              have HI5 := Lib.hid (HI4.out.keepW K5)
              clear W5 K5 o5 hc HC HS4 HI4
              obtain ⟨P6, hP6⟩ : ∃ P, w5.heap.size = P := ⟨_, rfl⟩
              obtain ⟨w6, hw6⟩ : ∃ w6, w5.alloc (.cells #[.int .i64 0, .int .i64 0, .slice none 0 0, .slice none 0 0] 31) = w6 := ⟨_, rfl⟩
              have b6 : Below w5.heap.size w5 w6 := by rw [← hw6]; exact (Below.refl _ _).alloc (Nat.le_refl _) _
              have HV6 := Lib.hid hw6
              have HP6 := Lib.hid hP6
              have HS6 := Lib.hid ((HS5.out.below b6).below (wd_drew w6))
              have HI6 := Lib.hid ((HI5.out.below b6).below (wd_drew w6))
              clear hP6 hw6 b6 HS5 HI5
              have HID := Lib.hid (wl_isdown HS6.out.wl h8)
              rw [HDN.out] at HID
              have hlk := HI6.out.look (c := i) (by omega)
              rw [HFI.out] at hlk
              go_upto_region 19 with fail
              rw [HV6.out, HP6.out]
              go_cut [69] from 63 to 69 (fun s69 wx => s69 = .bool false ∧ wx = w6.drew)
              case first =>
                go_upto_region 19 with fail
                go_region_with (first | (go_at_call 24; (with_reducible refine HID.out.mono ?_); rintro e w7 ⟨rfl, hw⟩; obtain rfl := hw.symm; (try dsimp only)))
                all_goals
                  go_wp2_with fail
                  go_meet
                  exact ⟨rfl, rfl⟩
              case rest =>
                obtain ⟨rfl, hwc⟩ := hcut
                subst hwc
                clear HID hlk
                have hlk := HI6.out.look (c := i) (by omega)
                rw [HFI.out] at hlk
                go_wp2_with fail
                refine (HS6.out.code (List.mem_cons_self ..)).mono ?_
                rintro e w7 ⟨rfl, b7⟩
                try dsimp only
                have HS7 := Lib.hid (HS6.out.below b7)
                have HI7 := Lib.hid (HI6.out.below b7)
                clear b7 hlk HS6 HI6
                go_wp2_with fail
                refine (one_node (HS7.out.er _ (List.mem_cons_self ..))).mono ?_
                rintro e w8 ⟨A8, c8, rfl, n8, b8⟩
                try dsimp only
                have HS8 := Lib.hid (HS7.out.below b8)
                have HI8 := Lib.hid (HI7.out.below b8)
                have HN8 := Lib.hid n8
                clear b8 n8 HS7 HI7
                go_wp2_with fail
                refine (same_one HN8.out).mono ?_
                rintro e w9 ⟨rfl, b9⟩
                try dsimp only
                have HS9 := Lib.hid (HS8.out.below b9)
                have HI9 := Lib.hid (HI8.out.below b9)
                clear b9 HS8 HI8
                have T1 := Lib.hid (wl_sent HS9.out.wl)
                rw [HQ.out.2.2.1, HST.out] at T1
                have T2 := Lib.hid (wl_left HS9.out.wl)
                rw [HQ.out.1] at T2
                have T3 := Lib.hid (wl_node HS9.out.wl h8)
                have T4 := Lib.hid (wl_boot HS9.out.wl h8)
                rw [HQ.out.2.1, HBT.out] at T4
                have T5 := Lib.hid (wl_down HS9.out.wl h8 false)
                go_wp2_with fail
                refine T1.out.mono ?_
                rintro e wx ⟨rfl, hw⟩
                obtain rfl := hw.symm
                try dsimp only
                go_wp2_with fail
                refine T2.out.mono ?_
                rintro e wx ⟨rfl, hw⟩
                obtain rfl := hw.symm
                try dsimp only
                go_wp2_with fail
                refine T3.out.mono ?_
                rintro e wx ⟨rfl, hw⟩
                obtain rfl := hw.symm
                try dsimp only
                go_wp2_with fail
                refine T4.out.mono ?_
                rintro e wx ⟨rfl, hw⟩
                obtain rfl := hw.symm
                try dsimp only
                go_wp2_with fail
                refine T5.out.mono ?_
                rintro e wa ⟨rfl, Wa, Ka⟩
                try dsimp only
                have HSa := Lib.hid (HS9.out.next HE.out Wa Ka)
                have HIa := Lib.hid (HI9.out.keepW Ka)
                clear Wa Ka T1 T2 T3 T4 T5 HS9 HI9
                have HQ2 : Hid ((s1.setD i false).Fit (100 * i)) := Lib.hid (HQ.out.2.2.2.2.2.2.congr rfl rfl rfl)
                have HC := Lib.hid (wl_call_fit HSa.out.wl HQ2.out (by omega) h8)
                unfold rqv at HC
                go_wp2_with fail
                refine HC.out.mono ?_
                rintro e wb hc
                obtain ⟨s3, y, hx, fl⟩ := call_flush (s := s1.setD i false) (n := i) HQ.out.2.2.2.1 (by rw [Wp.setD_at, if_pos rfl]) (by show s1.fuse ≠ 0; rw [HQ.out.2.2.2.2.2.1]; decide) (by show s1.F.headD 0 ≠ 1; rw [HQ.out.1]; decide) (by show s1.F.headD 0 ≠ 2; rw [HQ.out.1]; decide)
                obtain ⟨B1, d1, B2, d2, rfl, Wb, Kb⟩ := hc.ok hx
                have HFL := Lib.hid fl
                have HFit := Lib.hid (HQ2.out.call h8 (fun _ hj => absurd hj (by show ¬ _ < 0; omega)) hx)
                obtain ⟨y0, hy0⟩ : ∃ y0, y.2.code = y0 := ⟨_, rfl⟩
                obtain ⟨y1, hy1⟩ : ∃ y1, y.1.boot = y1 := ⟨_, rfl⟩
                rw [hy0, hy1, fl.ps, fl.its]
                try dsimp only
                have HSb := Lib.hid (HSa.out.next HE.out Wb Kb)
                have HIb := Lib.hid (HIa.out.keepW Kb)
                have hF3 : s3.F = [] := by rw [fl.F]; show s1.F.tail = []; rw [HQ.out.1]; rfl
                have HF3 := Lib.hid hF3
                clear Wb Kb hc HC HSa HIa fl hx hy0 hy1 hF3
                obtain ⟨wc, hwc⟩ : ∃ wc, wb.alloc (.cells #[.int .i64 (y0 : Int), .int .i64 (y1 : Int), .slice B1 0 d1, .slice B2 0 d2] 31) = wc := ⟨_, rfl⟩
                have bc : Below wb.heap.size wb wc := by rw [← hwc]; exact (Below.refl _ _).alloc (Nat.le_refl _) _
                have HVc := Lib.hid hwc
                have HSc := Lib.hid (HSb.out.below bc)
                have HIc := Lib.hid (HIb.out.below bc)
                clear hwc bc HSb HIb
                have T2 := Lib.hid (wl_left HSc.out.wl)
                rw [HF3.out] at T2
                go_upto_region 26 with fail
                rw [HVc.out]
                go_wp2_with fail
                refine T2.out.mono ?_
                rintro e wx ⟨rfl, hw⟩
                obtain rfl := hw.symm
                try dsimp only
                go_wp2_with fail
                go_roundg (8 - (i + 1))
                case measure => omega
                case rel =>
                  refine ⟨i + 1, s3, by go_num, by omega, rfl, Lib.hid ⟨⟨HSc.out.wl, Ers.nil, HSc.out.ty⟩, HIc.out, ⟨HF3.out, HFL.out.dead, ?_, HFit.out.mono (by omega)⟩, fun j hj => ?_⟩⟩
                  · rw [HFL.out.fuse]
                    show (if 0 < s1.fuse then s1.fuse - 1 else s1.fuse) = -1
                    rw [HQ.out.2.2.2.2.2.1]
                    rfl
                  · rw [HFL.out.dn, Wp.setD_at, if_neg (by omega), HQ.out.2.2.2.2.1]
                    exact HS.out.2.2.2 j (by omega)
            | false =>
              obtain ⟨s3, y, hx, fl⟩ := call_flush (s := s1) (n := i) HQ.out.2.2.2.1 HDN.out (by rw [HQ.out.2.2.2.2.2.1]; decide) (by show s1.F.headD 0 ≠ 1; rw [HQ.out.1]; decide) (by show s1.F.headD 0 ≠ 2; rw [HQ.out.1]; decide)
              obtain ⟨B1, d1, B2, d2, rfl, Wb, Kb⟩ := hc.ok hx
              have HFL := Lib.hid fl
              have HFit := Lib.hid (HQ.out.2.2.2.2.2.2.call h8 (fun _ hj => absurd hj (by show ¬ _ < 0; omega)) hx)
              obtain ⟨y0, hy0⟩ : ∃ y0, y.2.code = y0 := ⟨_, rfl⟩
              obtain ⟨y1, hy1⟩ : ∃ y1, y.1.boot = y1 := ⟨_, rfl⟩
              rw [hy0, hy1, fl.ps, fl.its]
              try dsimp only
              have HSb := Lib.hid (HS4.out.next HE.out Wb Kb)
              have HIb := Lib.hid (HI4.out.keepW Kb)
              have hF3 : s3.F = [] := by rw [fl.F, HQ.out.1]; rfl
              have HF3 := Lib.hid hF3
              have hB3 : (s3.N i).boot = bt + 1 := by rw [fl.at_, fl.boot, if_pos (by show s1.F.headD 0 = 3; rw [HQ.out.1]; rfl), HQ.out.2.1, HBT.out]
              have HB3 := Lib.hid hB3
              have hS3 : s3.sent = st + 1 := by rw [fl.sent, HQ.out.2.2.1, HST.out]
              have HS3 := Lib.hid hS3
              clear Wb Kb hc HC HS4 HI4 fl hx hy0 hy1 hF3 hB3 hS3
              obtain ⟨P6, hP6⟩ : ∃ P, w5.heap.size = P := ⟨_, rfl⟩
              obtain ⟨w6, hw6⟩ : ∃ w6, w5.alloc (.cells #[.int .i64 (y0 : Int), .int .i64 (y1 : Int), .slice B1 0 d1, .slice B2 0 d2] 31) = w6 := ⟨_, rfl⟩
              have b6 : Below w5.heap.size w5 w6 := by rw [← hw6]; exact (Below.refl _ _).alloc (Nat.le_refl _) _
              have HV6 := Lib.hid hw6
              have HP6 := Lib.hid hP6
              have HS6 := Lib.hid ((HSb.out.below b6).below (wd_drew w6))
              have HI6 := Lib.hid ((HIb.out.below b6).below (wd_drew w6))
              clear hP6 hw6 b6 HSb HIb
              have HID := Lib.hid (wl_isdown HS6.out.wl h8)
              rw [HFL.out.dn, HDN.out] at HID
              have hlk := HI6.out.look (c := i) (by omega)
              rw [HFI.out] at hlk
              go_upto_region 19 with fail
              rw [HV6.out, HP6.out]
              go_cut [69] from 63 to 69 (fun s69 wx => s69 = .bool false ∧ wx = w6.drew)
              case first =>
                go_upto_region 19 with fail
                go_region_with (first | (go_at_call 24; (with_reducible refine HID.out.mono ?_); rintro e w7 ⟨rfl, hw⟩; obtain rfl := hw.symm; (try dsimp only)))
                all_goals
                  go_wp2_with fail
                  go_meet
                  exact ⟨rfl, rfl⟩
              case rest =>
                obtain ⟨rfl, hwc⟩ := hcut
                subst hwc
                clear HID hlk
                have hlk := HI6.out.look (c := i) (by omega)
                rw [HFI.out] at hlk
                have T1 := Lib.hid (wl_sent HS6.out.wl)
                rw [HS3.out] at T1
                have T2 := Lib.hid (wl_left HS6.out.wl)
                rw [HF3.out] at T2
                have T3 := Lib.hid (wl_node HS6.out.wl h8)
                have T4 := Lib.hid (wl_boot HS6.out.wl h8)
                rw [HB3.out] at T4
                have v1 : IntKind.i64.wrap ((st : Int) + 1) = ((st + 1 : Nat) : Int) := by rw [IntWalk.i64_in _ (by omega)]; omega
                have v2 : IntKind.i64.wrap ((bt : Int) + 1) = ((bt + 1 : Nat) : Int) := by rw [IntWalk.i64_in _ (by omega)]; omega
                obtain ⟨st1, hst1⟩ : ∃ z, st + 1 = z := ⟨_, rfl⟩
                obtain ⟨bt1, hbt1⟩ : ∃ z, bt + 1 = z := ⟨_, rfl⟩
                rw [hst1] at T1 v1
                rw [hbt1] at T4 v2
                clear hst1 hbt1
                go_wp2_with fail
                refine T1.out.mono ?_
                rintro e wx ⟨rfl, hw⟩
                obtain rfl := hw.symm
                try dsimp only
                go_wp2_with fail
                refine T2.out.mono ?_
                rintro e wx ⟨rfl, hw⟩
                obtain rfl := hw.symm
                try dsimp only
                go_wp2_with fail
                refine T3.out.mono ?_
                rintro e wx ⟨rfl, hw⟩
                obtain rfl := hw.symm
                try dsimp only
                go_wp2_with fail
                refine T4.out.mono ?_
                rintro e wx ⟨rfl, hw⟩
                obtain rfl := hw.symm
                try dsimp only
                go_wp2_with fail
                go_roundg (8 - (i + 1))
                case measure => omega
                case rel =>
                  refine ⟨i + 1, s3, by go_num, by omega, rfl, Lib.hid ⟨HS6.out, HI6.out, ⟨HF3.out, HFL.out.dead, ?_, HFit.out.mono (by omega)⟩, fun j hj => ?_⟩⟩
                  · rw [HFL.out.fuse, HQ.out.2.2.2.2.2.1]
                    rfl
                  · rw [HFL.out.dn, HQ.out.2.2.2.2.1]
                    exact HS.out.2.2.2 j (by omega)
          · obtain rfl : i = 8 := by omega
            go_wp2_with fail
            go_ret
            exact ⟨rfl, HS.out.1.wl.blw⟩
end Go.Proofs.YtjgbfghkiahfaaaGreatDoor
