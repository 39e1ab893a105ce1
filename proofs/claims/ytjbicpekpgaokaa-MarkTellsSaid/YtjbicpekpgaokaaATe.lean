import Derived.Test.YtjbicpekpgaokaaA7
import Derived.Test.YtjbicpekpgaokaaA9
namespace Go.Proofs.Ytjbicpekpgaokaa
open Go.RowKit Go.Sort
set_option maxRecDepth 100000
set_option maxHeartbeats 1000000

theorem own_put {w : World} {B g n cap q x : Nat} {F : Nat → Nat} (h : w.ownsRow B 5 1 (.slice (some ⟨g, 0, none⟩) n cap) n (rowL n F)) (hq : q < n) :
    (w.setCell ⟨g, q, none⟩ (.int .u8 (x : Nat))).ownsRow B 5 1 (.slice (some ⟨g, 0, none⟩) n cap) n (rowL n (fun j => if j = q then x else F j)) := by
  rcases h.2 with ⟨h0, _⟩ | ⟨g', cap', cur, e, hg, hb, h3, h4, h5, h6⟩
  · cases h0
  · cases e
    rw [Nat.mul_one] at h5 h6
    refine ⟨by rw [rowL_len]; omega, Or.inr ⟨g, cap, cur.setIfInBounds q (.int .u8 (x : Nat)), rfl, hg, by simp [World.setCell, Array.getElem?_modify, hb], h3, h4, by simpa using h5, ?_⟩⟩
    rw [Nat.mul_one]
    apply List.ext_getElem?
    intro j
    by_cases hj : j < n
    · rw [List.getElem?_take_of_lt hj, rowL_get hj, Array.getElem?_toList, Array.getElem?_setIfInBounds]
      by_cases e : q = j
      · subst e
        rw [if_pos rfl, if_pos (by omega), if_pos rfl]
      · rw [if_neg e, if_neg (fun h => e h.symm)]
        have := congrArg (fun l => l[j]?) h6
        rw [List.getElem?_take_of_lt hj, rowL_get hj] at this
        simpa using this
    · rw [List.getElem?_eq_none (by rw [List.length_take]; omega), List.getElem?_eq_none (by rw [rowL_len]; omega)]
theorem own_less {w : World} {B g n m cap : Nat} {F : Nat → Nat} (h : w.ownsRow B 5 1 (.slice (some ⟨g, 0, none⟩) n cap) n (rowL n F)) (hm : m ≤ n) :
    w.ownsRow B 5 1 (.slice (some ⟨g, 0, none⟩) m cap) m (rowL m F) := by
  rcases h.2 with ⟨h0, _⟩ | ⟨g', cap', cur, e, hg, hb, h3, h4, h5, h6⟩
  · cases h0
  · cases e
    rw [Nat.mul_one] at h5 h6
    refine ⟨by rw [rowL_len]; omega, Or.inr ⟨g, cap, cur, rfl, hg, hb, by omega, h4, by omega, ?_⟩⟩
    rw [Nat.mul_one]
    apply List.ext_getElem?
    intro j
    by_cases hj : j < m
    · rw [List.getElem?_take_of_lt hj, rowL_get hj]
      have := congrArg (fun l => l[j]?) h6
      rw [List.getElem?_take_of_lt (by omega), rowL_get (by omega)] at this
      exact this
    · rw [List.getElem?_eq_none (by rw [List.length_take]; omega), List.getElem?_eq_none (by rw [rowL_len]; omega)]

/-- What both answer of one block. -/
def BothRet (k : Nat) (L : Nat) (c : Int) (X : Nat → Nat) (w : World) (e : Ending) (w' : World) : Prop :=
  ∃ A cp, e = .returned (.tuple #[.int .i64 (k : Int), .slice A L cp, .int .i64 c]) ∧ Rd w' A L X ∧ Below w.heap.size w w'
theorem both_open (g n cap : Nat) (F : Nat → Nat) (hc : n ≤ cap) (hF : ∀ j, j < n → F j < 256) : ∃ (k L : Nat) (c : Int) (X : Nat → Nat),
    ∀ w : World, Rd w (some ⟨g, 0, none⟩) n F → Calls Try.prog 14 #[.slice (some ⟨g, 0, none⟩) n cap] w (BothRet k L c X w) ∧ Calls Try.prog 19 #[.slice (some ⟨g, 0, none⟩) n cap] w (BothRet k L c X w) := by
  by_cases h160 : n = 160
  · subst h160
    by_cases hm : num4 F 156 = sumF F 156
    · by_cases ho : OpenOk F
      · refine ⟨F 0, F 1 * 256 + F 2, 0, fun k => F (3 + k), fun w h => ⟨mopen_rest g 0 cap F w _ h hc hF hm (fun h => absurd ho h) (fun _ e w' => ?_), ropen_all g 0 cap F w _ h hc hF (fun h => absurd hm h) (fun _ h => absurd ho h) (fun _ _ e w' => ?_)⟩⟩
        · rintro ⟨b, cb, rfl, hr, hb, _⟩; exact ⟨_, cb, rfl, hr.rd, hb⟩
        · rintro ⟨b, cb, rfl, hr, hb, _⟩; exact ⟨_, cb, rfl, hr.rd, hb⟩
      · exact ⟨0, 0, 2, fun _ => 0, fun w h => ⟨mopen_rest g 0 cap F w _ h hc hF hm (fun _ w' hb => ⟨none, 0, rfl, Rd.none_, hb⟩) (fun h => absurd h ho), ropen_all g 0 cap F w _ h hc hF (fun h => absurd hm h) (fun _ _ w' hb => ⟨none, 0, rfl, Rd.none_, hb⟩) (fun _ h => absurd h ho)⟩⟩
    · refine ⟨0, 0, 3, fun _ => 0, fun w h => ⟨(mopen_mark g 0 cap F w h hc hF hm).mono ?_, ropen_all g 0 cap F w _ h hc hF (fun _ w' hb => ⟨none, 0, rfl, Rd.none_, hb⟩) (fun h => absurd h hm) (fun h => absurd h hm)⟩⟩
      rintro e w' ⟨rfl, hb⟩
      exact ⟨none, 0, rfl, Rd.none_, hb⟩
  · refine ⟨0, 0, 2, fun _ => 0, fun w h => ⟨(mopen_len _ n cap w h160).mono ?_, (ropen_len _ n cap w h160).mono ?_⟩⟩
    · rintro e w' ⟨rfl, rfl⟩
      exact ⟨none, 0, rfl, Rd.none_, Below.refl _ _⟩
    · rintro e w' ⟨rfl, rfl⟩
      exact ⟨none, 0, rfl, Rd.none_, Below.refl _ _⟩

theorem markTells (x0 : Int) (a1 a2 a4 : Option Addr) (n1 c1 n2 c2 c4 y : Nat) (F1 F2 : Nat → Nat) (x3 : Int) (xs : List Int) (w : World) (h1 : Rd w a1 n1 F1) (b1 : ∀ j, j < n1 → F1 j < 256) (m1 : n1 ≤ 9223372036854775807)
    (h2 : Rd w a2 n2 F2) (b2 : ∀ j, j < n2 → F2 j < 256) (l2 : n2 ≤ c2) (m2 : n2 ≤ 140737488355328) (h4 : Nums w a4 xs) (hy : y < 256) :
    Calls Try.prog 4 #[.int .i64 x0, .slice a1 n1 c1, .slice a2 n2 c2, .int .i64 x3, .slice a4 xs.length c4, .int .u8 (y : Int)] w fun e w' => e = .returned (.bool true) ∧ Below w.heap.size w w' := by
  obtain ⟨p0, lp0, hp0⟩ := rpickN x0 260 (by omega) (by omega)
  have P0 := Lib.hid hp0
  have H1 := Lib.hid h1
  have B1 := Lib.hid b1
  have H2 := Lib.hid h2
  have B2 := Lib.hid b2
  have H4 := Lib.hid h4
  clear h1 b1 h2 b2 h4 hp0
  obtain ⟨n4, hn4⟩ : ∃ n4, xs.length = n4 := ⟨_, rfl⟩
  have N4 := Lib.hid hn4
  rw [hn4]
  clear hn4
  obtain ⟨kd, hkd⟩ : ∃ kd : Int, (p0 : Int) - 1 = kd := ⟨_, rfl⟩
  have hkb : -1 ≤ kd ∧ kd ≤ 258 := by omega
  by_cases hok : 1 ≤ kd ∧ kd < 256 ∧ n1 ≤ 153
  · obtain ⟨k1, hk1⟩ : ∃ k1 : Nat, kd = (k1 : Int) := ⟨kd.toNat, by omega⟩
    rw [hk1] at hkd
    have q1 : 1 ≤ k1 ∧ k1 < 256 := by omega
    have q2 : n1 ≤ 153 := hok.2.2
    have HKD := Lib.hid hkd
    clear hok hk1 hkb lp0 hkd
    have S1 := Lib.hid (mseal k1 n1 c1 a1 F1 w q1.1 q1.2 q2 H1.out B1.out)
    have e0 := HKD.out
    go_enter Try.func4, Try.ntmps4
    go_wp2_with fail
    refine (P0.out w).mono ?_
    rintro e w' ⟨rfl, hw⟩
    obtain rfl := hw.symm
    go_wp2_with fail
    clear e0
    refine S1.out.mono ?_
    rintro e w1 ⟨ga, rfl, ka, hb1, _⟩
    try dsimp only
    have W1 := Lib.hid hb1
    have KA := Lib.hid ka
    have S2 := Lib.hid (rseal k1 n1 c1 a1 F1 w1 q1.1 q1.2 q2 (H1.out.keep hb1) B1.out)
    clear hb1 ka S1
    go_wp2_with fail
    refine S2.out.mono ?_
    rintro e w2 ⟨gb, cb, rfl, rb, hb2, hcb⟩
    try dsimp only
    have W2 : Hid (Below w.heap.size w w2) := Lib.hid (W1.out.trans (hb2.mono W1.out.size))
    have v1 := conv_rd (cap := 160) (KA.out.below hb2).rd
    have v2 := conv_rd (cap := cb) rb
    have RB := Lib.hid rb
    have SL := Lib.hid (fun j => sealF_lt (j := j) q1.2 B1.out)
    clear hb2 rb S2 KA W1
    generalize strOf ((List.range 160).map (sealF k1 n1 F1)) = s1 at *
    have HFR := Lib.hid (rfew a2 n2 c2 n2 n2 F2 w2 (H2.out.keep W2.out) l2 m2 (by omega) (by omega))
    go_wp2_with fail
    clear v1 v2
    refine HFR.out.mono ?_
    rintro e w3 ⟨gz, cz, rfl, oz, hb3, _, _, hcz⟩
    try dsimp only
    have W3 : Hid (Below w.heap.size w w3) := Lib.hid (W2.out.trans (hb3.mono W2.out.size))
    have RZ := Lib.hid (own_rd oz)
    have RB3 := Lib.hid (RB.out.keep hb3)
    clear hb3 oz W2 RB HFR
    by_cases hw0 : 0 < x3.tmod 4
    · have HFB := Lib.hid (rfew (some ⟨gb, 0, none⟩) 160 cb 160 160 (sealF k1 n1 F1) w3 RB3.out hcb (by omega) (by omega) (by omega))
      clear RZ
      go_wp2_with fail
      refine HFB.out.mono ?_
      rintro e w4 ⟨gy, cy, rfl, oy, hb4, hgy, _, hcy⟩
      try dsimp only
      have W4 : Hid (Below w.heap.size w w4) := Lib.hid (W3.out.trans (hb4.mono W3.out.size))
      have HGY : Hid (w.heap.size ≤ gy) := Lib.hid (Nat.le_trans W3.out.size hgy)
      have OY := Lib.hid oy
      have HY := Lib.hid hy
      clear hb4 oy W3 RB3 HFB hgy
      obtain ⟨b0, hb0⟩ : ∃ b0, b0 = w3.heap.size := ⟨_, rfl⟩
      rw [← hb0] at OY
      have HBB : Hid (b0 ≤ w4.heap.size) := Lib.hid (by
        rcases OY.out.2 with ⟨h0, _⟩ | ⟨g', cap', cur, e, hg, hbk, _⟩
        · cases h0
        · have := heap_lt hbk; omega)
      clear hb0
      go_wp2_with fail
      go_loopg [18] 2 (fun q s18 v => ∃ (i : Nat) (F : Nat → Nat), s18 = .int .i64 (i : Int) ∧ i ≤ 2 ∧ q = 2 - i ∧ Hid (v.ownsRow b0 5 1 (.slice (some ⟨gy, 0, none⟩) 160 cy) 160 (rowL 160 F) ∧ (∀ j, j < 160 → F j < 256) ∧ Below w.heap.size w v ∧ b0 ≤ v.heap.size))
      case atStart => exact ⟨0, _, rfl, by omega, rfl, Lib.hid ⟨OY.out, fun j _ => SL.out j, W4.out, HBB.out⟩⟩
      case round =>
        obtain ⟨i, F, rfl, hi, rfl, HS⟩ := hrel
        clear OY W4 HBB
        obtain ⟨wr0, rfl⟩ : ∃ wr0 : World, wr0 = wr := ⟨wr, rfl⟩
        by_cases hgo : i < n4 ∧ i < 2
        · obtain ⟨hi1, hi2⟩ := hgo
          have g1 : (i : Int) < (n4 : Int) := by omega
          have g2 : (i : Int) < 2 := by omega
          have g3 : (0 : Int) ≤ (i : Int) := by omega
          obtain ⟨z, hz⟩ : ∃ z, xs[i]? = some z := ⟨_, List.getElem?_eq_getElem (by rw [N4.out]; exact hi1)⟩
          obtain ⟨ag, ao, rfl, hag, hac⟩ := H4.out i z hz
          have c1 := (HS.out.2.2.1.cell (p := ⟨ag, ao + i, none⟩) hag).trans hac
          obtain ⟨p, lp, hp⟩ := rpickN z 160 (by omega) (by omega)
          have PZ := Lib.hid hp
          have gp : (p : Int) < 160 := by omega
          have np : (0 : Int) ≤ (p : Int) := by omega
          obtain ⟨fp, hfp⟩ : ∃ fp, F p = fp := ⟨_, rfl⟩
          have c2 := (own_blk HS.out.1).row8.cell p lp
          have f2 := (own_blk HS.out.1).row8.free p
          rw [hfp] at c2
          have hfl : fp < 256 := by rw [← hfp]; exact HS.out.2.1 p lp
          have hxor := bits_xor_u8 fp y hfl HY.out
          clear hfp hac hag hz hp
          go_wp2_with fail
          refine (PZ.out _).mono ?_
          rintro e w' ⟨rfl, hw⟩
          obtain rfl := hw.symm
          go_wp2_with fail
          go_roundg (2 - (i + 1))
          case measure => omega
          case rel => exact ⟨i + 1, _, by go_num, by omega, rfl, Lib.hid ⟨own_put HS.out.1 lp, fun j hj => by
            try dsimp only
            split
            · exact xor_lt hfl HY.out
            · exact HS.out.2.1 j hj, HS.out.2.2.1.setCell (p := ⟨gy, p, none⟩) HGY.out _, by simpa [World.setCell] using HS.out.2.2.2⟩⟩
        · have hnb : ((decide ((i : Int) < (n4 : Int))) && (decide ((i : Int) < 2))) = false := by
            rw [Bool.and_eq_false_iff, decide_eq_false_iff_not, decide_eq_false_iff_not]; omega
          have HSD := HS.out
          by_cases hw1 : 1 < x3.tmod 4
          · have RS := Lib.hid (rsum (some ⟨gy, 0, none⟩) 156 cy F wr0 ((own_rd HS.out.1).less (by omega)) (fun j hj => HS.out.2.1 j (by omega)) (by omega))
            have hcy' : (156 : Int) ≤ (cy : Int) := by omega
            have hls := sumF_lt F 156
            obtain ⟨S, hS⟩ : ∃ S, sumF F 156 = S := ⟨_, rfl⟩
            rw [hS] at RS hls
            clear hS HSD
            have GR : Hid (∀ (d : Nat), Rd ((wr0.drewN d).alloc (.cells #[.int .u8 ((S : Int) / 16777216), .int .u8 ((S : Int) / 65536 % 256), .int .u8 ((S : Int) / 256 % 256), .int .u8 ((S : Int) % 256)] 5)) (some ⟨(wr0.drewN d).heap.size, 0, none⟩) 4 (byteAt S 4) ∧ Below (wr0.drewN d).heap.size (wr0.drewN d) ((wr0.drewN d).alloc (.cells #[.int .u8 ((S : Int) / 16777216), .int .u8 ((S : Int) / 65536 % 256), .int .u8 ((S : Int) / 256 % 256), .int .u8 ((S : Int) % 256)] 5))) := Lib.hid (fun d => ⟨lit_rd (by omega) (byte4_lit S hls), (Below.refl _ _).alloc (Nat.le_refl _) _⟩)
            have OL := Lib.hid (own_less HS.out.1 (show 156 ≤ 160 by omega))
            have FB := Lib.hid HS.out.2.1
            have WV := Lib.hid HS.out.2.2.1
            have BV := Lib.hid HS.out.2.2.2
            clear HS
            go_wp2_with fail
            all_goals
              refine RS.out.mono ?_
              rintro e w8 ⟨rfl, d, rfl⟩
              try dsimp only
              obtain ⟨hgr, hgb⟩ := GR.out d
              have HGR := Lib.hid hgr
              have HGB := Lib.hid hgb
              have OL8 := Lib.hid (own_keep (w := wr0.drewN d) OL.out hgb)
              have WV8 : Hid (Below w.heap.size w (wr0.drewN d)) := Lib.hid (WV.out.trans ((below_drewN d wr0).mono WV.out.size))
              have HB8 : Hid (b0 ≤ (wr0.drewN d).heap.size) := Lib.hid BV.out
              clear hgr hgb RS GR OL WV BV
              go_wp2_with (at_builtin; refine append_rd _ rfl (.tmp 104) (.tmp 116) 22 rfl Try.underlying22 b0 (.slice (some ⟨gy, 0, none⟩) 156 cy) 156 F rfl OL8.out (some ⟨(wr0.drewN d).heap.size, 0, none⟩) 4 4 (byteAt S 4) rfl HGR.out (by omega) (Nat.le_trans HB8.out HGB.out.size) ?_; intro v1 w9 own0 gr _ hne; have own : w9.ownsRow b0 5 1 v1 160 (rowL 160 (fun j => if j < 156 then F j else byteAt S 4 (j - 156))) := own0; have OZ := Lib.hid own; have W9 : Hid (Below w.heap.size w w9) := Lib.hid (Below.grown (WV8.out.trans (HGB.out.mono WV8.out.size)) gr (Nat.le_trans WV8.out.size HGB.out.size) (fun k hk => by cases hk; exact HGY.out)); obtain ⟨gz, cz, hv, _, _, hcz⟩ := own_some own (hne (by simp)); have HV := Lib.hid hv; clear own0 own gr hne hv)
              obtain rfl := HV.out
              have RZ := Lib.hid (own_rd OZ.out)
              have BZ : Hid (∀ j, j < 160 → (if j < 156 then F j else byteAt S 4 (j - 156)) < 256) := Lib.hid (fun j hj => by
                split
                · exact FB.out j hj
                · exact byteAt_lt _ _ _)
              have WZ := W9
              obtain ⟨FZ, hFZ⟩ : ∃ FZ : Nat → Nat, FZ = fun j => if j < 156 then F j else byteAt S 4 (j - 156) := ⟨_, rfl⟩
              have RZ9 : Hid (Rd w9 (some ⟨gz, 0, none⟩) 160 FZ) := Lib.hid (by rw [hFZ]; exact RZ.out)
              have BZ9 : Hid (∀ j, j < 160 → FZ j < 256) := Lib.hid (by rw [hFZ]; exact BZ.out)
              clear hFZ RZ BZ OZ HV OL8 HGR HGB WV8 W9
              obtain ⟨ok, oL, oc, oX, hopen⟩ := both_open gz 160 cz FZ hcz BZ9.out
              have HOPN := Lib.hid hopen
              clear hopen
              go_wp2_with fail
              refine (HOPN.out w9 RZ9.out).1.mono ?_
              rintro e u1 ⟨A1, q1, rfl, r1, hb1⟩
              try dsimp only
              have U1 : Hid (Below w.heap.size w u1) := Lib.hid (WZ.out.trans (hb1.mono WZ.out.size))
              have RZ1 := Lib.hid (RZ9.out.keep hb1)
              have RX1 := Lib.hid r1
              clear hb1 r1
              go_wp2_with fail
              refine (HOPN.out u1 RZ1.out).2.mono ?_
              rintro e u2 ⟨A2, q2, rfl, r2, hb2⟩
              try dsimp only
              have U2 : Hid (Below w.heap.size w u2) := Lib.hid (U1.out.trans (hb2.mono U1.out.size))
              have RX12 := Lib.hid (RX1.out.keep hb2)
              have RX2 := Lib.hid r2
              clear hb2 r2 U1 RZ1 RX1 HOPN
              go_wp2_with fail
              refine (lknown u2).mono ?_
              rintro e u3 ⟨rfl, hb3⟩
              have U3 : Hid (Below w.heap.size w u3) := Lib.hid (U2.out.trans (hb3.mono U2.out.size))
              have RX13 := Lib.hid (RX12.out.keep hb3)
              have RX3 := Lib.hid (RX2.out.keep hb3)
              have HB3 := Lib.hid (H1.out.keep U3.out)
              clear hb3 U2 RX12 RX2
              go_wp2_with fail
              refine (msum a1 n1 c1 F1 u3 HB3.out B1.out m1).mono ?_
              rintro e u3' ⟨rfl, hw⟩
              obtain rfl := hw.symm
              go_wp2_with fail
              refine (rsum a1 n1 c1 F1 u3 HB3.out B1.out m1).mono ?_
              rintro e u4 ⟨rfl, dd, rfl⟩
              try dsimp only
              have v1 := conv_rd (cap := q1) (RX13.out.drewN dd)
              have v2 := conv_rd (cap := q2) (RX3.out.drewN dd)
              generalize strOf ((List.range oL).map oX) = sx at *
              generalize sumF F1 n1 = sm at *
              go_wp2_with fail
              go_ret
              exact ⟨rfl, U3.out.trans ((below_drewN dd u3).mono U3.out.size)⟩
          · have BZ := Lib.hid HS.out.2.1
            have RZ := Lib.hid (own_rd HS.out.1)
            have WZ := Lib.hid HS.out.2.2.1
            clear HS HSD
            go_wp2_with fail
            all_goals
              obtain ⟨ok, oL, oc, oX, hopen⟩ := both_open gy 160 cy F hcy BZ.out
              have HOPN := Lib.hid hopen
              clear hopen
              refine (HOPN.out wr0 RZ.out).1.mono ?_
              rintro e u1 ⟨A1, q1, rfl, r1, hb1⟩
              try dsimp only
              have U1 : Hid (Below w.heap.size w u1) := Lib.hid (WZ.out.trans (hb1.mono WZ.out.size))
              have RZ1 := Lib.hid (RZ.out.keep hb1)
              have RX1 := Lib.hid r1
              clear hb1 r1
              go_wp2_with fail
              refine (HOPN.out u1 RZ1.out).2.mono ?_
              rintro e u2 ⟨A2, q2, rfl, r2, hb2⟩
              try dsimp only
              have U2 : Hid (Below w.heap.size w u2) := Lib.hid (U1.out.trans (hb2.mono U1.out.size))
              have RX12 := Lib.hid (RX1.out.keep hb2)
              have RX2 := Lib.hid r2
              clear hb2 r2 U1 RZ1 RX1 HOPN
              go_wp2_with fail
              refine (lknown u2).mono ?_
              rintro e u3 ⟨rfl, hb3⟩
              have U3 : Hid (Below w.heap.size w u3) := Lib.hid (U2.out.trans (hb3.mono U2.out.size))
              have RX13 := Lib.hid (RX12.out.keep hb3)
              have RX3 := Lib.hid (RX2.out.keep hb3)
              have HB3 := Lib.hid (H1.out.keep U3.out)
              clear hb3 U2 RX12 RX2
              go_wp2_with fail
              refine (msum a1 n1 c1 F1 u3 HB3.out B1.out m1).mono ?_
              rintro e u3' ⟨rfl, hw⟩
              obtain rfl := hw.symm
              go_wp2_with fail
              refine (rsum a1 n1 c1 F1 u3 HB3.out B1.out m1).mono ?_
              rintro e u4 ⟨rfl, dd, rfl⟩
              try dsimp only
              have v1 := conv_rd (cap := q1) (RX13.out.drewN dd)
              have v2 := conv_rd (cap := q2) (RX3.out.drewN dd)
              generalize strOf ((List.range oL).map oX) = sx at *
              generalize sumF F1 n1 = sm at *
              go_wp2_with fail
              go_ret
              exact ⟨rfl, U3.out.trans ((below_drewN dd u3).mono U3.out.size)⟩
    · have BZ := Lib.hid B2.out
      obtain ⟨nz, hnz⟩ : ∃ nz, nz = n2 := ⟨_, rfl⟩
      obtain ⟨FZ, hFZ⟩ : ∃ FZ, FZ = F2 := ⟨_, rfl⟩
      have WZ := W3
      rw [← hnz] at hcz RZ BZ ⊢
      rw [← hFZ] at RZ BZ
      clear hnz hFZ
      obtain ⟨ok, oL, oc, oX, hopen⟩ := both_open gz nz cz FZ hcz BZ.out
      have HOPN := Lib.hid hopen
      clear hopen
      go_wp2_with fail
      refine (HOPN.out w3 RZ.out).1.mono ?_
      rintro e u1 ⟨A1, q1, rfl, r1, hb1⟩
      try dsimp only
      have U1 : Hid (Below w.heap.size w u1) := Lib.hid (WZ.out.trans (hb1.mono WZ.out.size))
      have RZ1 := Lib.hid (RZ.out.keep hb1)
      have RX1 := Lib.hid r1
      clear hb1 r1
      go_wp2_with fail
      refine (HOPN.out u1 RZ1.out).2.mono ?_
      rintro e u2 ⟨A2, q2, rfl, r2, hb2⟩
      try dsimp only
      have U2 : Hid (Below w.heap.size w u2) := Lib.hid (U1.out.trans (hb2.mono U1.out.size))
      have RX12 := Lib.hid (RX1.out.keep hb2)
      have RX2 := Lib.hid r2
      clear hb2 r2 U1 RZ1 RX1 HOPN
      go_wp2_with fail
      refine (lknown u2).mono ?_
      rintro e u3 ⟨rfl, hb3⟩
      have U3 : Hid (Below w.heap.size w u3) := Lib.hid (U2.out.trans (hb3.mono U2.out.size))
      have RX13 := Lib.hid (RX12.out.keep hb3)
      have RX3 := Lib.hid (RX2.out.keep hb3)
      have HB3 := Lib.hid (H1.out.keep U3.out)
      clear hb3 U2 RX12 RX2
      go_wp2_with fail
      refine (msum a1 n1 c1 F1 u3 HB3.out B1.out m1).mono ?_
      rintro e u3' ⟨rfl, hw⟩
      obtain rfl := hw.symm
      go_wp2_with fail
      refine (rsum a1 n1 c1 F1 u3 HB3.out B1.out m1).mono ?_
      rintro e u4 ⟨rfl, dd, rfl⟩
      try dsimp only
      have v1 := conv_rd (cap := q1) (RX13.out.drewN dd)
      have v2 := conv_rd (cap := q2) (RX3.out.drewN dd)
      generalize strOf ((List.range oL).map oX) = sx at *
      generalize sumF F1 n1 = sm at *
      go_wp2_with fail
      go_ret
      exact ⟨rfl, U3.out.trans ((below_drewN dd u3).mono U3.out.size)⟩

  · have HKD := Lib.hid hkd
    have S1 := Lib.hid (mseal_no kd n1 c1 a1 w m1 hok)
    have S2 := Lib.hid (rseal_no kd n1 c1 a1 w m1 hok)
    have e0 := HKD.out
    have hk1 := hkb.1
    have hk2 := hkb.2
    clear hok hkb lp0 hkd
    have HFR := Lib.hid (rfew a2 n2 c2 n2 n2 F2 w H2.out l2 m2 (by omega) (by omega))
    have v0 := conv_empty none 0 w
    go_enter Try.func4, Try.ntmps4
    go_wp2_with fail
    refine (P0.out w).mono ?_
    rintro e w' ⟨rfl, hw⟩
    obtain rfl := hw.symm
    go_wp2_with fail
    clear e0
    refine S1.out.mono ?_
    rintro e w' ⟨rfl, hw⟩
    obtain rfl := hw.symm
    go_wp2_with fail
    refine S2.out.mono ?_
    rintro e w' ⟨rfl, hw⟩
    obtain rfl := hw.symm
    go_wp2_with fail
    clear v0
    refine HFR.out.mono ?_
    rintro e w3 ⟨gz, cz, rfl, oz, hb3, _, _, hcz⟩
    try dsimp only
    have WZ := Lib.hid hb3
    have RZ := Lib.hid (own_rd oz)
    clear hb3 oz HFR S1 S2
    have BZ := Lib.hid B2.out
    obtain ⟨nz, hnz⟩ : ∃ nz, nz = n2 := ⟨_, rfl⟩
    obtain ⟨FZ, hFZ⟩ : ∃ FZ, FZ = F2 := ⟨_, rfl⟩
    rw [← hnz] at hcz RZ BZ ⊢
    rw [← hFZ] at RZ BZ
    clear hnz hFZ
    obtain ⟨ok, oL, oc, oX, hopen⟩ := both_open gz nz cz FZ hcz BZ.out
    have HOPN := Lib.hid hopen
    clear hopen
    go_wp2_with fail
    refine (HOPN.out w3 RZ.out).1.mono ?_
    rintro e u1 ⟨A1, q1, rfl, r1, hb1⟩
    try dsimp only
    have U1 : Hid (Below w.heap.size w u1) := Lib.hid (WZ.out.trans (hb1.mono WZ.out.size))
    have RZ1 := Lib.hid (RZ.out.keep hb1)
    have RX1 := Lib.hid r1
    clear hb1 r1
    go_wp2_with fail
    refine (HOPN.out u1 RZ1.out).2.mono ?_
    rintro e u2 ⟨A2, q2, rfl, r2, hb2⟩
    try dsimp only
    have U2 : Hid (Below w.heap.size w u2) := Lib.hid (U1.out.trans (hb2.mono U1.out.size))
    have RX12 := Lib.hid (RX1.out.keep hb2)
    have RX2 := Lib.hid r2
    clear hb2 r2 U1 RZ1 RX1 HOPN
    go_wp2_with fail
    refine (lknown u2).mono ?_
    rintro e u3 ⟨rfl, hb3⟩
    have U3 : Hid (Below w.heap.size w u3) := Lib.hid (U2.out.trans (hb3.mono U2.out.size))
    have RX13 := Lib.hid (RX12.out.keep hb3)
    have RX3 := Lib.hid (RX2.out.keep hb3)
    have HB3 := Lib.hid (H1.out.keep U3.out)
    clear hb3 U2 RX12 RX2
    go_wp2_with fail
    refine (msum a1 n1 c1 F1 u3 HB3.out B1.out m1).mono ?_
    rintro e u3' ⟨rfl, hw⟩
    obtain rfl := hw.symm
    go_wp2_with fail
    refine (rsum a1 n1 c1 F1 u3 HB3.out B1.out m1).mono ?_
    rintro e u4 ⟨rfl, dd, rfl⟩
    try dsimp only
    have v1 := conv_rd (cap := q1) (RX13.out.drewN dd)
    have v2 := conv_rd (cap := q2) (RX3.out.drewN dd)
    generalize strOf ((List.range oL).map oX) = sx at *
    generalize sumF F1 n1 = sm at *
    go_wp2_with fail
    go_ret
    exact ⟨rfl, U3.out.trans ((below_drewN dd u3).mono U3.out.size)⟩

end Go.Proofs.Ytjbicpekpgaokaa
