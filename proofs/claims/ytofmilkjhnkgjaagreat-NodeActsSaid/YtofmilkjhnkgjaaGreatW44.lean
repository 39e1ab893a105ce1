import Derived.Test.YtofmilkjhnkgjaaGreatW35
namespace Go.Proofs.YtofmilkjhnkgjaaGreat
open Go.RowKit Go.Sort
set_option maxRecDepth 100000
set_option maxHeartbeats 4000000

theorem LP.pl1 {W : World} {B : Nat} {v : Value} {l : List Pc} (h : LP W B v l) (hl : l.length ≤ 1) : PL W B v (srt l) := by
  have e : srt l = l := by
    match l, hl with
    | [], _ => rfl
    | [p], _ => rfl
  rw [e]; exact h.pl
/-- Pieces of a stripe. -/
theorem rpieces {w : World} {r : Nat} {S : List Nat} {N : Nat} {d : Disk} {nw : Nat} (h : RPlt w r S N d nw) (hbd : Bd d) (hN : 80 ≤ N) (hnw : nw ≤ 1000000000) (s : Nat) (hs : s < 40) (b_ : Nat → Bool) (hb : ∀ k, k < 2 → (b_ k = true ↔ HasP (d.now (2 * s + k)) s k)) :
    Calls Tryz.prog 41 #[.pointer (some ⟨r, 0, none⟩), .int .i64 (s : Int)] w (CGetRet (srt (col b_ (fun k => rdP (d.now (2 * s + k))) 2)) w) := by
  have HP := Lib.hid h
  have HBD := Lib.hid hbd
  have HBB := Lib.hid hb
  obtain ⟨H, hH⟩ : ∃ H, w.heap.size = H := ⟨_, rfl⟩
  have HH := Lib.hid hH
  rw [show CGetRet (srt (col b_ (fun k => rdP (d.now (2 * s + k))) 2)) w = fun e w' => ∃ v, e = .returned v ∧ PL w' H v (srt (col b_ (fun k => rdP (d.now (2 * s + k))) 2)) ∧ Below H w w' by rw [← hH]; rfl]
  obtain ⟨L, hL⟩ : ∃ L : Nat → List Pc, L = col b_ (fun k => rdP (d.now (2 * s + k))) := ⟨_, rfl⟩
  have HL := Lib.hid hL
  rw [← hL]
  obtain ⟨dv, pv0, hr, _⟩ := h
  obtain ⟨gd, cd, hdv, _⟩ := hr.slice
  subst hdv
  have c0 := hr.c0
  have s0 : ¬ (s : Int) < 0 := by omega
  have s1 : ¬ (40 : Int) ≤ (s : Int) := by omega
  have n80 : ¬ (N : Int) < 80 := by omega
  have L0 : Hid (L 0 = []) := Lib.hid (by rw [hL]; rfl)
  clear hbd hb hH hL hr
  go_enter Tryz.func41, Tryz.ntmps41
  go_wp2_with fail
  go_loopg [5, 6] 2 (fun q s5 s6 v => ∃ i : Nat, s6 = .int .i64 (i : Int) ∧ i ≤ 2 ∧ q = 2 - i ∧ Hid ((i < 2 → LP v H s5 (L i)) ∧ PL v H s5 (srt (L i)) ∧ Below H w v))
  case atStart => exact ⟨0, rfl, by omega, rfl, Lib.hid ⟨fun _ => by rw [L0.out]; exact LP.nil, by rw [L0.out]; exact LP.nil.pl, by rw [← HH.out]; exact Below.refl _ _⟩⟩
  case round =>
    obtain ⟨i, rfl, hi, rfl, HV⟩ := hrel
    by_cases hlt : i < 2
    · have hl : (i : Int) < 2 := by omega
      obtain ⟨at_, hat⟩ : ∃ at_, 2 * s + i = at_ := ⟨_, rfl⟩
      have HAT := Lib.hid hat
      have eat : 2 * (s : Int) + (i : Int) = (at_ : Int) := by omega
      have HB1 : Hid (Below w.heap.size w wr) := Lib.hid (by rw [HH.out]; exact HV.out.2.2)
      have HRD := Lib.hid (rread at_ (HP.out.below HB1.out) (by omega) hnw)
      have HBI := Lib.hid (HBB.out i hlt)
      have HFB : Hid (∀ j, j < 160 → d.now at_ j < 256) := Lib.hid (HBD.out at_)
      have HLS : Hid (L (i + 1) = if b_ i then L i ++ [rdP (d.now at_)] else L i) := Lib.hid (by rw [HL.out, ← hat]; rfl)
      rw [hat] at HBI
      obtain ⟨F, hF⟩ : ∃ F, d.now at_ = F := ⟨_, rfl⟩
      rw [hF] at HRD HBI HFB HLS
      obtain ⟨cc, w2, hc2, hcv, hr2, hb2⟩ := conv_bs wr F HFB.out
      have HB2 : Hid (Below H w w2) := Lib.hid (HV.out.2.2.trans (hb2.mono (by rw [← HH.out]; exact HB1.out.size)))
      have HLP2 := Lib.hid ((HV.out.1 hlt).below hb2)
      have HRD2 := Lib.hid hr2
      generalize bstr F = sF at *
      obtain ⟨gF, hgF⟩ : ∃ gF, wr.heap.size = gF := ⟨_, rfl⟩
      rw [hgF] at hcv HRD2
      clear hat hF hr2 hb2 hgF
      by_cases hP : IsPc F
      · have HRY := Lib.hid (rreadp_yes gF 0 cc F w2 HRD2.out hc2 HFB.out hP)
        have HPP := Lib.hid hP
        clear hP
        obtain ⟨x, hx⟩ : ∃ x, rdP F = x := ⟨_, rfl⟩
        have HX := Lib.hid hx
        rw [hx] at HRY HLS
        clear hx
        go_wp2_with fail
        refine HRD.out.mono ?_
        rintro e w' ⟨rfl, hw⟩
        obtain rfl := hw.symm
        go_wp2_with fail
        refine HRY.out.mono ?_
        rintro e w3 ⟨A3, c3, rfl, d3, b3⟩
        try dsimp only
        have HB3 : Hid (Below H w w3) := Lib.hid (HB2.out.trans (b3.mono (by rw [← HH.out]; exact HB2.out.size)))
        have HLP3 := Lib.hid (HLP2.out.below b3)
        have HD3 := Lib.hid d3
        have bg : x.g ≤ 1099511627776 := by have h := HPP.out; unfold IsPc at h; have := h.2.2.2.2.2.2.1; rw [HX.out] at this; exact this
        clear b3 d3
        obtain ⟨w4, hw4⟩ : ∃ w4, w3.alloc (.cells #[.int .i64 (x.s : Int), .int .i64 (x.g : Int), .int .i64 (x.i : Int), .slice A3 32 c3] 74) = w4 := ⟨_, rfl⟩
        have HW4 := Lib.hid hw4
        have b4 : Below w3.heap.size w3 w4 := by rw [← hw4]; exact (Below.refl _ _).alloc (Nat.le_refl _) _
        have HX4 : Hid (PV w4 w3.heap.size (x.s : Int) (x.g : Int) (x.i : Int) A3 32 c3) := Lib.hid (by rw [← hw4]; exact PV.new w3 _ _ _ _ _ _)
        have HB4 : Hid (Below H w w4) := Lib.hid (HB3.out.trans (b4.mono (by rw [← HH.out]; exact HB3.out.size)))
        have HLP4 := Lib.hid (HLP3.out.below b4)
        have HD4 := Lib.hid (HD3.out.below b4)
        obtain ⟨xb, hxb⟩ : ∃ xb, w3.heap.size = xb := ⟨_, rfl⟩
        have HXB := Lib.hid hxb
        rw [hxb] at HX4
        clear hw4 b4 hxb
        obtain ⟨t, ht⟩ : ∃ t, x.g % 2 = t := ⟨_, rfl⟩
        have HT := Lib.hid ht
        have tm : (x.g : Int).tmod 2 = (t : Int) := by rw [Int.tmod_eq_emod_of_nonneg (by omega)]; omega
        clear ht
        by_cases hs' : x.s = s
        · have es : ((x.s : Int) != (s : Int)) = false := by rw [hs']; simp
          have HSS := Lib.hid hs'
          clear hs'
          by_cases hk : t = i
          · have ek : ((t : Int) != (i : Int)) = false := by rw [hk]; simp
            have HBT : Hid (b_ i = true) := Lib.hid (HBI.out.2 ⟨HPP.out, by rw [HX.out]; exact HSS.out, by rw [HX.out, HT.out]; exact hk⟩)
            rw [HBT.out] at HLS
            have HLS' : Hid (L (i + 1) = L i ++ [x]) := Lib.hid (by rw [HLS.out]; rfl)
            clear hk HLS
            have HLS := HLS'
            obtain ⟨Au, cu, hu⟩ := (HLP4.out.pl).form
            subst hu
            obtain ⟨nu, hnu⟩ : ∃ nu, (L i).length = nu := ⟨_, rfl⟩
            have HNU := Lib.hid hnu
            rw [hnu] at HLP4 ⊢
            clear hnu
            have c0' := HX4.out.c0
            have c1' := HX4.out.c1
            have c2' := HX4.out.c2
            have c3' := HX4.out.c3
            rcases hLi : L i with _ | ⟨y, ys⟩
            · have n0 : nu = 0 := by rw [← HNU.out, hLi]; rfl
              subst n0
              have HSR : Hid (∀ (W : World) (v : Value), PL W H v (L i ++ [x]) → PL W H v (srt (L i ++ [x]))) := Lib.hid (fun W v hp => by rw [hLi] at hp ⊢; exact hp)
              clear hLi
              go_wp2_with fail
              rw [HW4.out, HXB.out]
              go_upto_region 9 with fail
              go_cut [64] from 53 to 64 (fun s64 wx => s64 = .bool false ∧ Hid (Below w4.heap.size w4 wx))
              case first =>
                go_wp2_with fail
                go_big_quiet (fail)
                go_wp2_with fail
                go_meet
                exact ⟨rfl, Lib.hid (by first | exact below_drewN _ _ | exact Below.refl _ _)⟩
              case rest =>
                obtain ⟨rfl, HW5⟩ := hcut
                clear c0' c1' c2' c3'
                have HLP5 := Lib.hid (HLP4.out.below HW5.out)
                have HX5 := Lib.hid (HX4.out.below HW5.out)
                have HD5 := Lib.hid (HD4.out.below HW5.out)
                have HB5 : Hid (Below H w wc) := Lib.hid (HB4.out.trans (HW5.out.mono (by rw [← HH.out]; exact HB4.out.size)))
                have q0 := HX5.out.c0
                have q1 := HX5.out.c1
                have q2 := HX5.out.c2
                have q3 := HX5.out.c3
                have b6 : Below wc.heap.size wc (wc.alloc (.cells #[.int .i64 (x.s : Int), .int .i64 (x.g : Int), .int .i64 (x.i : Int), .slice A3 32 c3] 74)) := (Below.refl _ _).alloc (Nat.le_refl _) _
                have HK6 := Lib.hid (PV.new wc (x.s : Int) (x.g : Int) (x.i : Int) A3 32 c3)
                have HB6 : Hid (Below H w (wc.alloc (.cells #[.int .i64 (x.s : Int), .int .i64 (x.g : Int), .int .i64 (x.i : Int), .slice A3 32 c3] 74))) := Lib.hid (HB5.out.trans (b6.mono (by rw [← HH.out]; exact HB5.out.size)))
                have HL6 := Lib.hid (HLP5.out.below b6)
                have HD6 := Lib.hid (HD5.out.below b6)
                have hlen : Hid ((L i).length ≤ 1000000) := Lib.hid (by rw [HL.out]; exact Nat.le_trans (col_len _ _ _) (by omega))
                clear b6
                go_wp2_with (at_builtin; refine append_pc _ rfl (.tmp 70) (.tmp 72) rfl H _ (L i) x rfl HL6.out wc.heap.size A3 c3 rfl HK6.out HD6.out hlen.out (by rw [← HH.out]; exact HB6.out.size) ?_; intro v' w' hl' hb'; have HLE := Lib.hid hl'; have HBE := Lib.hid (hb' w HB6.out); clear hl' hb')
                go_roundg (2 - (i + 1))
                case measure => omega
                case rel => exact ⟨i + 1, by go_num, by omega, rfl, Lib.hid ⟨fun _ => by rw [HLS.out]; exact HLE.out, by rw [HLS.out]; exact HSR.out _ _ HLE.out.pl, HBE.out⟩⟩
            · have hys : ys = [] := by
                have h1 : (L i).length ≤ i := by rw [HL.out]; exact col_len _ _ _
                rw [hLi] at h1
                simp at h1
                exact List.length_eq_zero_iff.1 (by omega)
              subst hys
              have n1 : nu = 1 := by rw [← HNU.out, hLi]; rfl
              subst n1
              have i1 : i = 1 := by
                have h1 : (L i).length ≤ i := by rw [HL.out]; exact col_len _ _ _
                rw [hLi] at h1
                simp at h1
                omega
              have I1 := Lib.hid i1
              clear i1
              have hp1 := HLP4.out.pl
              rw [hLi] at hp1
              obtain ⟨bb, cb, Ay, cy, hv, hbH, hbl, y0, y1, y2, y3, dY⟩ := hp1.at (i := 0) (p := y) rfl
              injection hv with e1 e2 e3
              subst e1
              simp only [Nat.mul_zero, Nat.zero_add] at y0 y1 y2 y3
              have HY0 : Hid (∀ W, Below w4.heap.size w4 W → W.cell? ⟨bb, 0, none⟩ = some (.int .i64 (y.s : Int)) ∧ W.cell? ⟨bb, 1, none⟩ = some (.int .i64 (y.g : Int)) ∧ W.cell? ⟨bb, 2, none⟩ = some (.int .i64 (y.i : Int)) ∧ W.cell? ⟨bb, 3, none⟩ = some (.slice Ay 32 cy)) := Lib.hid (fun W hW => ⟨(hW.cell (p := ⟨bb, 0, none⟩) hbl).trans y0, (hW.cell (p := ⟨bb, 1, none⟩) hbl).trans y1, (hW.cell (p := ⟨bb, 2, none⟩) hbl).trans y2, (hW.cell (p := ⟨bb, 3, none⟩) hbl).trans y3⟩)
              have HDY := Lib.hid dY
              have HLI := Lib.hid hLi
              clear hp1 hbl hbH dY e2 e3 y0 y2 y3 hLi
              by_cases hg : y.g < x.g
              · have gtb : (y.g : Int) < (x.g : Int) := by omega
                have gtd : decide ((y.g : Int) < (x.g : Int)) = true := decide_eq_true gtb
                have gtn : decide (y.g < x.g) = true := decide_eq_true hg
                have HSR : Hid (srt (L i ++ [x]) = [x, y]) := Lib.hid (by rw [HLI.out]; show srt [y, x] = _; rw [srt2, if_pos hg])
                clear hg
                go_wp2_with fail
                rw [HW4.out, HXB.out]
                go_upto_region 9 with fail
                go_cut [64] from 53 to 64 (fun s64 wx => s64 = .bool true ∧ Hid (Below w4.heap.size w4 wx))
                case first =>
                  go_wp2_with fail
                  go_big_quiet (fail)
                  go_wp2_with fail
                  go_meet
                  exact ⟨by first | rfl | rw [gtn] | rw [gtd], Lib.hid (by first | exact below_drewN _ _ | exact Below.refl _ _)⟩
                case rest =>
                  obtain ⟨rfl, HW5⟩ := hcut
                  clear c0' c1' c2' c3' y1
                  have HX5 := Lib.hid (HX4.out.below HW5.out)
                  have HD5 := Lib.hid (HD4.out.below HW5.out)
                  have HY5 := Lib.hid (HDY.out.below HW5.out)
                  have HB5 : Hid (Below H w wc) := Lib.hid (HB4.out.trans (HW5.out.mono (by rw [← HH.out]; exact HB4.out.size)))
                  have q0 := HX5.out.c0
                  have q1 := HX5.out.c1
                  have q2 := HX5.out.c2
                  have q3 := HX5.out.c3
                  obtain ⟨r0, r1, r2, r3⟩ := HY0.out wc HW5.out
                  have HPF : Hid (PL (wc.alloc (.cells #[.int .i64 (x.s : Int), .int .i64 (x.g : Int), .int .i64 (x.i : Int), .slice A3 32 c3, .int .i64 (y.s : Int), .int .i64 (y.g : Int), .int .i64 (y.i : Int), .slice Ay 32 cy] 74)) H (.slice (some ⟨wc.heap.size, 0, none⟩) 2 2) [x, y] ∧ Below H w (wc.alloc (.cells #[.int .i64 (x.s : Int), .int .i64 (x.g : Int), .int .i64 (x.i : Int), .slice A3 32 c3, .int .i64 (y.s : Int), .int .i64 (y.g : Int), .int .i64 (y.i : Int), .slice Ay 32 cy] 74))) := Lib.hid (by
                    have ba : Below wc.heap.size wc (wc.alloc (.cells #[.int .i64 (x.s : Int), .int .i64 (x.g : Int), .int .i64 (x.i : Int), .slice A3 32 c3, .int .i64 (y.s : Int), .int .i64 (y.g : Int), .int .i64 (y.i : Int), .slice Ay 32 cy] 74)) := (Below.refl _ _).alloc (Nat.le_refl _) _
                    have hsz : H ≤ wc.heap.size := by rw [← HH.out]; exact HB5.out.size
                    refine ⟨Or.inr ⟨wc.heap.size, 2, _, rfl, hsz, alloc_block wc _, fun j p hj => ?_⟩, HB5.out.trans (ba.mono hsz)⟩
                    match j, hj with
                    | 0, hj => simp at hj; subst hj; exact ⟨A3, c3, rfl, rfl, rfl, rfl, HD5.out.below ba⟩
                    | 1, hj => simp at hj; subst hj; exact ⟨Ay, cy, rfl, rfl, rfl, rfl, HY5.out.below ba⟩)
                  go_wp2_with fail
                  go_region
                  all_goals
                    go_wp2_with fail
                    go_roundg (2 - (i + 1))
                    case measure => omega
                    case rel => exact ⟨i + 1, by go_num, by omega, rfl, Lib.hid ⟨fun h => by have := I1.out; omega, by rw [HLS.out, HSR.out]; first | exact HPF.out.1 | exact HPF.out.1.below (below_drewN 1 _), by first | exact HPF.out.2 | exact HPF.out.2.drew⟩⟩
              · have gtb : ¬ (y.g : Int) < (x.g : Int) := by omega
                have gtd : decide ((y.g : Int) < (x.g : Int)) = false := decide_eq_false gtb
                have gtn : decide (y.g < x.g) = false := decide_eq_false hg
                have HSR : Hid (∀ (W : World) (v : Value), PL W H v (L i ++ [x]) → PL W H v (srt (L i ++ [x]))) := Lib.hid (fun W v hp => by
                  rw [HLI.out] at hp ⊢
                  show PL W H v (srt [y, x])
                  rw [srt2, if_neg hg]
                  exact hp)
                clear hg
                go_wp2_with fail
                rw [HW4.out, HXB.out]
                go_upto_region 9 with fail
                go_cut [64] from 53 to 64 (fun s64 wx => s64 = .bool false ∧ Hid (Below w4.heap.size w4 wx))
                case first =>
                  go_wp2_with fail
                  go_big_quiet (fail)
                  go_wp2_with fail
                  go_meet
                  exact ⟨by first | rfl | rw [gtn] | rw [gtd], Lib.hid (by first | exact below_drewN _ _ | exact Below.refl _ _)⟩
                case rest =>
                  obtain ⟨rfl, HW5⟩ := hcut
                  clear c0' c1' c2' c3' y1
                  have HLP5 := Lib.hid (HLP4.out.below HW5.out)
                  have HX5 := Lib.hid (HX4.out.below HW5.out)
                  have HD5 := Lib.hid (HD4.out.below HW5.out)
                  have HB5 : Hid (Below H w wc) := Lib.hid (HB4.out.trans (HW5.out.mono (by rw [← HH.out]; exact HB4.out.size)))
                  have q0 := HX5.out.c0
                  have q1 := HX5.out.c1
                  have q2 := HX5.out.c2
                  have q3 := HX5.out.c3
                  have b6 : Below wc.heap.size wc (wc.alloc (.cells #[.int .i64 (x.s : Int), .int .i64 (x.g : Int), .int .i64 (x.i : Int), .slice A3 32 c3] 74)) := (Below.refl _ _).alloc (Nat.le_refl _) _
                  have HK6 := Lib.hid (PV.new wc (x.s : Int) (x.g : Int) (x.i : Int) A3 32 c3)
                  have HB6 : Hid (Below H w (wc.alloc (.cells #[.int .i64 (x.s : Int), .int .i64 (x.g : Int), .int .i64 (x.i : Int), .slice A3 32 c3] 74))) := Lib.hid (HB5.out.trans (b6.mono (by rw [← HH.out]; exact HB5.out.size)))
                  have HL6 := Lib.hid (HLP5.out.below b6)
                  have HD6 := Lib.hid (HD5.out.below b6)
                  have hlen : Hid ((L i).length ≤ 1000000) := Lib.hid (by rw [HL.out]; exact Nat.le_trans (col_len _ _ _) (by omega))
                  clear b6
                  go_wp2_with (at_builtin; refine append_pc _ rfl (.tmp 70) (.tmp 72) rfl H _ (L i) x rfl HL6.out wc.heap.size A3 c3 rfl HK6.out HD6.out hlen.out (by rw [← HH.out]; exact HB6.out.size) ?_; intro v' w' hl' hb'; have HLE := Lib.hid hl'; have HBE := Lib.hid (hb' w HB6.out); clear hl' hb')
                  go_roundg (2 - (i + 1))
                  case measure => omega
                  case rel => exact ⟨i + 1, by go_num, by omega, rfl, Lib.hid ⟨fun _ => by rw [HLS.out]; exact HLE.out, by rw [HLS.out]; exact HSR.out _ _ HLE.out.pl, HBE.out⟩⟩
          · have ek : ((t : Int) != (i : Int)) = true := by rw [bne_iff_ne]; omega
            have HBF : Hid (b_ i = false) := Lib.hid (by
              rcases hbv : b_ i with _ | _
              · rfl
              · have := (HBI.out.1 hbv).2.2
                rw [HX.out, HT.out] at this
                exact absurd this hk)
            rw [HBF.out] at HLS
            have c0' := HX4.out.c0
            have c1' := HX4.out.c1
            clear hk
            go_wp2_with fail
            rw [HW4.out]
            go_roundg (2 - (i + 1))
            case measure => omega
            case rel => exact ⟨i + 1, by go_num, by omega, rfl, Lib.hid ⟨fun _ => by rw [HLS.out]; exact HLP4.out, by rw [HLS.out]; exact HLP4.out.pl1 (by rw [HL.out]; exact Nat.le_trans (col_len _ _ _) (by omega)), HB4.out⟩⟩
        · have es : ((x.s : Int) != (s : Int)) = true := by rw [bne_iff_ne]; omega
          have HBF : Hid (b_ i = false) := Lib.hid (by
            rcases hbv : b_ i with _ | _
            · rfl
            · have := (HBI.out.1 hbv).2.1
              rw [HX.out] at this
              exact absurd this hs')
          rw [HBF.out] at HLS
          clear hs'
          go_wp2_with fail
          rw [HW4.out]
          go_roundg (2 - (i + 1))
          case measure => omega
          case rel => exact ⟨i + 1, by go_num, by omega, rfl, Lib.hid ⟨fun _ => by rw [HLS.out]; exact HLP4.out, by rw [HLS.out]; exact HLP4.out.pl1 (by rw [HL.out]; exact Nat.le_trans (col_len _ _ _) (by omega)), HB4.out⟩⟩
      · have HRN := Lib.hid (rreadp_no gF 0 cc F w2 HRD2.out hc2 HFB.out hP)
        have HBF : Hid (b_ i = false) := Lib.hid (by
          rcases hbv : b_ i with _ | _
          · rfl
          · exact absurd (HBI.out.1 hbv).1 hP)
        rw [HBF.out] at HLS
        clear hP
        go_wp2_with fail
        refine HRD.out.mono ?_
        rintro e w' ⟨rfl, hw⟩
        obtain rfl := hw.symm
        go_wp2_with fail
        refine HRN.out.mono ?_
        rintro e w3 ⟨rfl, b3⟩
        try dsimp only
        have HB3 : Hid (Below H w w3) := Lib.hid (HB2.out.trans (b3.mono (by rw [← HH.out]; exact HB2.out.size)))
        have HLP3 := Lib.hid (HLP2.out.below b3)
        clear b3
        go_wp2_with fail
        go_roundg (2 - (i + 1))
        case measure => omega
        case rel => exact ⟨i + 1, by go_num, by omega, rfl, Lib.hid ⟨fun _ => by rw [HLS.out]; exact HLP3.out.below ((Below.refl _ _).alloc (Nat.le_refl _) _), by rw [HLS.out]; exact (HLP3.out.below ((Below.refl _ _).alloc (Nat.le_refl _) _)).pl1 (by rw [HL.out]; exact Nat.le_trans (col_len _ _ _) (by omega)), HB3.out.alloc (by rw [← HH.out]; exact HB3.out.size) _⟩⟩
    · obtain rfl : i = 2 := by omega
      go_wp2_with fail
      go_ret
      exact ⟨_, rfl, HV.out.2.1, HV.out.2.2⟩
end Go.Proofs.YtofmilkjhnkgjaaGreat
