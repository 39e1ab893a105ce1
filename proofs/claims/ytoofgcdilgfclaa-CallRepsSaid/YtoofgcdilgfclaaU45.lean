import Derived.Test.YtoofgcdilgfclaaU44
namespace Go.Proofs.Ytoofgcdilgfclaa
open Go.RowKit Go.Sort
set_option maxRecDepth 100000
set_option maxHeartbeats 2000000

theorem rrightQ {w : World} {v : Value} {q : Qx} (h : QVal w v q) (t : Bool) (ht : t = true ↔ q.Right) : Calls Try.prog 17 #[v] w fun e w' => e = .returned (.bool t) ∧ Below w.heap.size w w' := by
  obtain ⟨A, c, rfl, _, _⟩ := h
  exact rrightReq q.k q.s q.g q.i A q.D.length c w t ht
theorem rlayQ {w : World} {v : Value} {q : Qx} (h : QVal w v q) (hr : q.Right) : Calls Try.prog 18 #[v] w (CatRet q.lay w) := by
  obtain ⟨A, c, rfl, hb, _⟩ := h
  obtain ⟨k, s, g, i, D⟩ := q
  obtain ⟨a1, a2, a3, a4, a5, a6, a7, a8, a9⟩ := hr
  dsimp only at a1 a2 a3 a4 a5 a6 a7 a8 a9 hb ⊢
  obtain ⟨k, rfl⟩ := Int.eq_ofNat_of_zero_le (show 0 ≤ k by omega)
  obtain ⟨s, rfl⟩ := Int.eq_ofNat_of_zero_le a3
  obtain ⟨g, rfl⟩ := Int.eq_ofNat_of_zero_le a5
  obtain ⟨i, rfl⟩ := Int.eq_ofNat_of_zero_le a7
  have h := rlayReq k s g i D A c w a9 hb
  have e : (⟨(k : Int), (s : Int), (g : Int), (i : Int), D⟩ : Qx).lay = byteL k 1 ++ byteL s 2 ++ byteL g 6 ++ byteL i 1 ++ byteL D.length 2 ++ D := by
    unfold Qx.lay
    simp only [Int.toNat_natCast, List.append_assoc]
  rw [e]
  exact h
/-- LayReq, told by one list. -/
def LayO (ok : Bool) (L : List Nat) (w : World) (e : Ending) (w' : World) : Prop :=
  ∃ A c, e = .returned (.tuple #[.slice A (if ok then L else []).length c, .int .i64 (if ok then 0 else 1)]) ∧ BL w' A (if ok then L else []) ∧ Below w.heap.size w w'
theorem layO {w : World} {v : Value} {q : Qx} (h : QVal w v q) (ok : Bool) (ho : ok = true ↔ q.Right) : Calls Try.prog 8 #[v] w (LayO ok q.lay w) :=
  (layQ h).mono (by
    rintro e w' (⟨hr, g, c, rfl, hb, _, hbl⟩ | ⟨hr, rfl, hbl⟩)
    · obtain rfl : ok = true := ho.2 hr
      exact ⟨_, c, rfl, hb, hbl⟩
    · obtain rfl : ok = false := not_true ho hr
      exact ⟨none, 0, rfl, BL.nil, hbl⟩)
theorem gt_set {L : List Nat} {p x j : Nat} (hp : p < L.length) : gt (L.set p x) j = if j = p then x else gt L j := by
  by_cases hj : j < L.length
  · rw [gt_of (by simpa using hj), List.getElem_set]
    split
    · next h => rw [if_pos h.symm]
    · next h => rw [if_neg (fun e => h e.symm), gt_of hj]
  · rw [gt_far (by simp; omega), gt_far (by omega), if_neg (by omega)]
theorem By.set {L : List Nat} (h : By L) {p x : Nat} (hx : x < 256) : By (L.set p x) := fun y hy => by
  rcases List.mem_or_eq_of_mem_set hy with h1 | rfl
  · exact h y h1
  · exact hx
theorem Blk8.setL {w : World} {g p x : Nat} {L : List Nat} (h : Blk8 w g L.length (gt L)) (hp : p < L.length) : Blk8 (w.setCell ⟨g, p, none⟩ (.int .u8 (x : Nat))) g (L.set p x).length (gt (L.set p x)) := by
  rw [List.length_set]
  exact (h.put hp).congr (fun j _ => (gt_set hp).symm)
theorem callReqs (x0 x1 x2 x3 x4 x5 : Int) (a1 : Option Addr) (n1 c1 : Nat) (F1 : Nat → Nat) (how : Int) (a3 : Option Addr) (xs : List Int) (c3 : Nat) (y : Nat) (w : World)
    (h1 : Rd w a1 n1 F1) (b1 : ∀ j, j < n1 → F1 j < 256) (l1 : n1 ≤ c1) (m1 : n1 ≤ 140737488351232) (h3 : Nums w a3 xs) (hy : y < 256) :
    Calls Try.prog 4 #[rawv x0 x1 x2 x3 x4 x5, .slice a1 n1 c1, .int .i64 how, .slice a3 xs.length c3, .int .u8 (y : Int)] w fun e w' => e = .returned (.bool true) ∧ Below w.heap.size w w' := by
  obtain ⟨H, hH⟩ : ∃ H, w.heap.size = H := ⟨_, rfl⟩
  have HH := Lib.hid hH
  obtain ⟨w1, hw1⟩ : ∃ w1, w.alloc (.cells #[.int .i64 x0, .int .i64 x1, .int .i64 x2, .int .i64 x3, .int .i64 x4, .int .i64 x5] 46) = w1 := ⟨_, rfl⟩
  have HW1 := Lib.hid hw1
  have HB1 : Hid (Below H w w1) := Lib.hid (by rw [← hw1, ← hH]; exact (Below.refl _ _).alloc (Nat.le_refl _) _)
  have HX1 : Hid (XV w1 H x0 x1 x2 x3 x4 x5) := Lib.hid (by rw [← hw1]; exact XV.of_new hH)
  have H1 : Hid (∀ W, Below H w W → Rd W a1 n1 F1) := Lib.hid (fun W hW => h1.keep (by rw [hH]; exact hW))
  have H3 : Hid (∀ W, Below H w W → Nums W a3 xs) := Lib.hid (fun W hW i x hx => by
    obtain ⟨g, o, e1, e2, e3⟩ := h3 i x hx
    exact ⟨g, o, e1, Nat.lt_of_lt_of_le e2 hW.size, (hW.cell (p := ⟨g, o + i, none⟩) (by rw [← hH]; exact e2)).trans e3⟩)
  have HBF : Hid (∀ j, j < n1 → F1 j < 256) := Lib.hid b1
  have HY : Hid (y < 256) := Lib.hid hy
  obtain ⟨n3, hn3⟩ : ∃ n3, xs.length = n3 := ⟨_, rfl⟩
  have HN3 := Lib.hid hn3
  rw [hn3]
  have HZ1 : Hid (H ≤ w1.heap.size) := Lib.hid (Nat.le_of_lt HX1.out.lt)
  clear hw1 hH h1 h3 b1 hy hn3
  obtain ⟨r0, r1, r2, r3, r4, r5⟩ := HX1.out.cells
  have HRX := Lib.hid (hreq x0 x1 x2 x3 x4 x5 w1)
  obtain ⟨hw0, hhw0⟩ : ∃ bb, decide (0 < how.tmod 4) = bb := ⟨_, rfl⟩
  unfold rawv at HRX ⊢
  go_enter Try.func4, Try.ntmps4
  go_wp2_with fail
  rw [HW1.out, HH.out]
  refine HRX.out.mono ?_
  rintro e w2 ⟨v, p, rfl, ⟨A1, d1, rfl, hp, hpb⟩, hb2⟩
  try dsimp only
  clear r0 r1 r2 r3 r4 r5
  unfold rqv
  obtain ⟨w3, hw3⟩ : ∃ w3, w2.alloc (.cells #[.int .i64 p.k, .int .i64 p.s, .int .i64 p.g, .int .i64 p.i, .slice A1 p.D.length d1] 27) = w3 := ⟨_, rfl⟩
  have HP := Lib.hid (QVal.block ⟨hp, hpb⟩ hw3)
  have HB3 : Hid (Below H w w3) := Lib.hid (HB1.out.trans ((hb2.trans (HP.out.2.2.mono hb2.size)).mono HZ1.out))
  obtain ⟨p0, hp0⟩ : ∃ p0, w2.heap.size = p0 := ⟨_, rfl⟩
  have HW3 := Lib.hid hw3
  have HP0 := Lib.hid hp0
  rw [hp0] at HP
  have HBY : Hid (By p.lay) := Lib.hid (Qx.lay_by hpb)
  obtain ⟨ok, hok⟩ := bool_of p.Right
  have HOK := Lib.hid hok
  have HZ3 : Hid (H ≤ w3.heap.size) := Lib.hid (by have := HB3.out.size; have := HH.out; omega)
  clear hp hpb hb2 hw3 hp0 hok
  have k0 := HP.out.1.c0
  have k1 := HP.out.1.c1
  have k2 := HP.out.1.c2
  have k3 := HP.out.1.c3
  have k4 := HP.out.1.c4
  have HRR := Lib.hid (rrightQ HP.out.2.1 ok HOK.out)
  unfold rqv at HRR
  go_upto_region 2 with fail
  rw [HW3.out, HP0.out]
  go_wp2_with fail
  refine HRR.out.mono ?_
  rintro e w4 ⟨rfl, hb4⟩
  try dsimp only
  clear k0 k1 k2 k3 k4 HRR
  have HP4 := Lib.hid (HP.out.1.below hb4)
  have HV4 := Lib.hid (HP.out.2.1.below hb4)
  have HB4 : Hid (Below w3.heap.size w3 w4) := Lib.hid hb4
  clear hb4
  have k0 := HP4.out.c0
  have k1 := HP4.out.c1
  have k2 := HP4.out.c2
  have k3 := HP4.out.c3
  have k4 := HP4.out.c4
  have HLO := Lib.hid (layO HV4.out ok HOK.out)
  unfold rqv at HLO
  go_wp2_with fail
  refine HLO.out.mono ?_
  rintro e w5 ⟨A5, d5, rfl, hba, hb5⟩
  try dsimp only
  clear k0 k1 k2 k3 k4 HLO
  obtain ⟨LA, hLA⟩ : ∃ LA, (if ok = true then p.lay else []) = LA := ⟨_, rfl⟩
  obtain ⟨er, her⟩ : ∃ er : Int, (if ok = true then (0 : Int) else 1) = er := ⟨_, rfl⟩
  rw [hLA] at hba ⊢
  rw [her]
  obtain ⟨la, hla⟩ : ∃ la, LA.length = la := ⟨_, rfl⟩
  rw [hla]
  have HLL := Lib.hid hLA
  have HER := Lib.hid her
  have HLN := Lib.hid hla
  have HBA := Lib.hid hba
  have HP5 := Lib.hid (HP4.out.below hb5)
  have HV5 := Lib.hid (HV4.out.below hb5)
  have HB5 : Hid (Below w3.heap.size w3 w5) := Lib.hid (HB4.out.trans (hb5.mono HB4.out.size))
  clear hLA her hla hba hb5
  go_upto_if 31 with fail
  go_cut [15] from 32 to 33 (fun s15 wx => ∃ A15 c15, s15 = .slice A15 la c15 ∧ Hid (BL wx A15 LA ∧ la ≤ c15 ∧ Below w5.heap.size w5 wx) ∧ Hid (ok = true → ∃ g, A15 = some ⟨g, 0, none⟩))
  case first =>
    cases ok with
    | false =>
      go_wp2_with fail
      go_meet
      exact ⟨none, 0, by rw [← HLN.out, ← HLL.out]; rfl, Lib.hid ⟨by rw [← HLL.out]; exact BL.nil, by rw [← HLN.out, ← HLL.out]; exact Nat.le_refl _, Below.refl _ _⟩, Lib.hid (fun h => by cases h)⟩
    | true =>
      have k0 := HP5.out.c0
      have k1 := HP5.out.c1
      have k2 := HP5.out.c2
      have k3 := HP5.out.c3
      have k4 := HP5.out.c4
      have HRL := Lib.hid (rlayQ HV5.out (HOK.out.1 rfl))
      rw [show p.lay = LA from HLL.out] at HRL
      unfold rqv at HRL
      go_wp2_with fail
      refine HRL.out.mono ?_
      rintro e w6 ⟨g6, c6, rfl, hk6, hb6, hc6, _⟩
      try dsimp only
      rw [HLN.out] at hc6 ⊢
      have HK6 : Hid (BL w6 (some ⟨g6, 0, none⟩) LA) := Lib.hid (BL.blk hk6 rfl (fun _ _ => rfl))
      have HB6 := Lib.hid hb6
      have HC6 := Lib.hid hc6
      clear hk6 hb6 hc6
      go_wp2_with fail
      go_meet
      exact ⟨_, c6, rfl, Lib.hid ⟨HK6.out, HC6.out, HB6.out⟩, Lib.hid (fun _ => ⟨g6, rfl⟩)⟩
  case rest =>
    obtain ⟨A15, c15, rfl, HC, HG⟩ := hcut
    have HBA7 := Lib.hid (HBA.out.below HC.out.2.2)
    have v1 := conv_L d5 HBA7.out
    have v2 := conv_L c15 HC.out.1
    have HSE : Hid ((er == 0) = ok ∧ (er != 1) = ok) := Lib.hid (by rw [← HER.out]; cases ok <;> exact ⟨rfl, rfl⟩)
    obtain ⟨e1, e2⟩ := HSE.out
    rw [HLN.out] at v1 v2
    generalize strOf LA = s1 at v1 v2
    have HB7 : Hid (Below H w wc) := Lib.hid (HB3.out.trans ((HB5.out.trans (HC.out.2.2.mono HB5.out.size)).mono HZ3.out))
    have HFR := Lib.hid (rfew a1 n1 c1 n1 n1 F1 wc (H1.out wc HB7.out) l1 (by omega) (by omega) (by omega))
    obtain ⟨w7, rfl⟩ : ∃ w7 : World, w7 = wc := ⟨wc, rfl⟩
    go_upto_region 7 with fail
    go_cut [52] from 34 to 52 (fun s52 wx => s52 = .bool false ∧ wx = w7)
    case first =>
      cases ok with
      | false =>
        go_wp2_with fail
        go_meet
        exact ⟨rfl, rfl⟩
      | true =>
        go_wp2_with fail
        go_meet
        exact ⟨rfl, rfl⟩
    case rest =>
      obtain ⟨rfl, hwc⟩ := hcut
      obtain rfl := hwc.symm
      clear v1 v2 e1 e2
      go_wp2_with fail
      refine HFR.out.mono ?_
      rintro e w8 ⟨gz, cz, rfl, oz, hb8, _, _, hcz⟩
      try dsimp only
      obtain ⟨Z0, hZ0⟩ : ∃ Z0 : List Nat, Z0 = (List.range n1).map F1 := ⟨_, rfl⟩
      have hz0l : Z0.length = n1 := by rw [hZ0]; simp
      have hz0b : By Z0 := by
        rw [hZ0]
        intro x hx
        obtain ⟨j, hj, rfl⟩ := List.mem_map.1 hx
        exact HBF.out j (List.mem_range.1 hj)
      have hz0 : BL w8 (some ⟨gz, 0, none⟩) Z0 := BL.own oz hz0l (fun j hj => by
        rw [gt_of (by rw [hz0l]; exact hj)]
        simp [hZ0])
      have HZ0 := Lib.hid hz0
      have HZL := Lib.hid hz0l
      have HZB := Lib.hid hz0b
      have HZC : Hid (n1 ≤ cz) := Lib.hid hcz
      have HB8 : Hid (Below H w w8) := Lib.hid (HB7.out.trans (hb8.mono (Nat.le_trans HZ3.out (Nat.le_trans HB5.out.size HC.out.2.2.size))))
      have HA8 := Lib.hid (HC.out.1.below hb8)
      have HLAB : Hid (By LA) := Lib.hid (by rw [← HLL.out]; split; exact HBY.out; exact By.nil)
      have HLM : Hid (la ≤ 1000 ∧ (ok = true → 12 ≤ la)) := Lib.hid (by
        rw [← HLN.out, ← HLL.out]
        by_cases h : ok = true
        · rw [if_pos h, Qx.lay_len]
          have := (HOK.out.1 h).2.2.2.2.2.2.2.2
          omega
        · rw [if_neg h]
          exact ⟨by simp, fun a => absurd a h⟩)
      clear oz hb8 hcz hZ0 hz0l hz0b hz0 HFR
      obtain ⟨bb, hbb⟩ : ∃ bb, (ok && hw0) = bb := ⟨_, rfl⟩
      have HBBB := Lib.hid hbb
      clear hbb
      go_upto_region 10 with fail
      go_cut [62] from 57 to 62 (fun s62 wx => s62 = .bool bb ∧ wx = w8)
      case first =>
        cases ok with
        | false =>
          go_wp2_with fail
          go_meet
          exact ⟨by rw [← HBBB.out]; rfl, rfl⟩
        | true =>
          go_wp2_with fail
          go_meet
          exact ⟨by rw [← HBBB.out]; rfl, rfl⟩
      case rest =>
      obtain ⟨rfl, hwc⟩ := hcut
      obtain rfl := hwc.symm
      go_upto_if 62 with fail
      go_cut [16, 17] from 63 to 89 (fun s16 s17 wx => ∃ gz Z nz cz, s16 = .slice (some ⟨gz, 0, none⟩) nz cz ∧ Hid (BL wx (some ⟨gz, 0, none⟩) Z ∧ Z.length = nz ∧ By Z ∧ nz ≤ cz ∧ nz ≤ 140737488355328 ∧ Below w8.heap.size w8 wx))
      case first =>
        cases bb with
        | false =>
          go_wp2_with fail
          go_meet
          exact ⟨gz, Z0, n1, cz, rfl, Lib.hid ⟨HZ0.out, HZL.out, HZB.out, HZC.out, by omega, Below.refl _ _⟩⟩
        | true =>
            have hokt : ok = true := by have := HBBB.out; rw [Bool.and_eq_true] at this; exact this.1
            obtain ⟨gA, rfl⟩ := HG.out hokt
            have h12 : 12 ≤ la := HLM.out.2 hokt
            have hla : la ≤ 1000 := HLM.out.1
            clear hokt
            have HF2 := Lib.hid (rfew (some ⟨gA, 0, none⟩) la c15 la la (gt LA) w8 (by have := HA8.out.rd; rwa [HLN.out] at this) HC.out.2.1 (by omega) (by omega) (by omega))
            go_wp2_with fail
            refine HF2.out.mono ?_
            rintro e w9 ⟨gy, cy, rfl, oy, hb9, hgy, _, hcy⟩
            try dsimp only
            have HK9 : Hid (Blk8 w9 gy LA.length (gt LA)) := Lib.hid (by rw [HLN.out]; exact own_blk oy)
            have HB9 := Lib.hid hb9
            have HGY := Lib.hid hgy
            have HCY := Lib.hid hcy
            clear oy hb9 hgy hcy HF2
            go_wp2_with fail
            go_loopg [17] 2 (fun q s17 v => ∃ (i : Nat) (Z : List Nat), s17 = .int .i64 (i : Int) ∧ i ≤ 2 ∧ q = 2 - i ∧ Hid (Blk8 v gy Z.length (gt Z) ∧ Z.length = la ∧ By Z ∧ Below w8.heap.size w8 v))
            case atStart => exact ⟨0, LA, rfl, by omega, rfl, Lib.hid ⟨HK9.out, HLN.out, HLAB.out, HB9.out⟩⟩
            case round =>
              obtain ⟨i, Z, rfl, hi, rfl, HS⟩ := hrel
              clear HK9 HB9
              obtain ⟨wr0, rfl⟩ : ∃ wr0 : World, wr0 = wr := ⟨wr, rfl⟩
              by_cases hgo : i < n3 ∧ i < 2
              · obtain ⟨hi1, hi2⟩ := hgo
                have g1 : (i : Int) < (n3 : Int) := by omega
                have g2 : (i : Int) < 2 := by omega
                have g3 : (0 : Int) ≤ (i : Int) := by omega
                obtain ⟨z, hz⟩ : ∃ z, xs[i]? = some z := ⟨_, List.getElem?_eq_getElem (by rw [HN3.out]; exact hi1)⟩
                obtain ⟨ag, ao, rfl, hag, hac⟩ := H3.out wr0 (HB8.out.trans (HS.out.2.2.2.mono (by have := HB8.out.size; have := HH.out; omega))) i z hz
                obtain ⟨p, lp, hp⟩ := rpickN z la (by omega) (by omega)
                have PZ := Lib.hid hp
                have gp : (p : Int) < (la : Int) := by omega
                have np : (0 : Int) ≤ (p : Int) := by omega
                obtain ⟨fp, hfp⟩ : ∃ fp, gt Z p = fp := ⟨_, rfl⟩
                have lpZ : p < Z.length := by rw [HS.out.2.1]; exact lp
                have c2 := HS.out.1.row8.cell p lpZ
                have f2 := HS.out.1.row8.free p
                rw [hfp] at c2
                have hfl : fp < 256 := by rw [← hfp]; exact HS.out.2.2.1.gt p
                have hxor := bits_xor_u8 fp y hfl HY.out
                clear hfp hag hz hp
                go_wp2_with fail
                refine (PZ.out _).mono ?_
                rintro e w' ⟨rfl, hw⟩
                obtain rfl := hw.symm
                go_wp2_with fail
                go_roundg (2 - (i + 1))
                case measure => omega
                case rel => exact ⟨i + 1, Z.set p (fp ^^^ y), by go_num, by omega, rfl, Lib.hid ⟨HS.out.1.setL lpZ, by rw [List.length_set]; exact HS.out.2.1, HS.out.2.2.1.set (xor_lt hfl HY.out), HS.out.2.2.2.setCell (p := ⟨gy, p, none⟩) HGY.out _⟩⟩
              · have hnb : ((decide ((i : Int) < (n3 : Int))) && (decide ((i : Int) < 2))) = false := by
                  rw [Bool.and_eq_false_iff, decide_eq_false_iff_not, decide_eq_false_iff_not]; omega
                have HSD := Lib.hid (show BL wr0 (some ⟨gy, 0, none⟩) Z ∧ Z.length = la ∧ By Z ∧ la ≤ cy ∧ la ≤ 140737488355328 ∧ Below w8.heap.size w8 wr0 from ⟨BL.blk HS.out.1 rfl (fun _ _ => rfl), HS.out.2.1, HS.out.2.2.1, HCY.out, by omega, HS.out.2.2.2⟩)
                go_wp2_with fail
                all_goals
                  go_meet
                  exact ⟨gy, Z, la, cy, rfl, HSD⟩
      case rest =>
        obtain ⟨gq, Z, nz, cq, rfl, HQ⟩ := hcut
        have hq2 := HQ.out.2.1
        have HPR := Lib.hid (creadReq (some ⟨gq, 0, none⟩) Z cq wc HQ.out.1 (by rw [hq2]; exact HQ.out.2.2.2.1) HQ.out.2.2.1 (by rw [hq2]; exact HQ.out.2.2.2.2.1))
        rw [proj_ref HQ.out.2.2.1, hq2] at HPR
        have HRR : Hid (∀ W, Below wc.heap.size wc W → Calls Try.prog 21 #[.slice (some ⟨gq, 0, none⟩) nz cq] W (RReadQ (refQ Z) W)) := Lib.hid (fun W hW => by
          have h := rreadReq gq Z cq W (HQ.out.1.below hW) (by rw [hq2]; exact HQ.out.2.2.2.1) HQ.out.2.2.1 (by rw [hq2]; exact HQ.out.2.2.2.2.1)
          rwa [hq2] at h)
        obtain ⟨o, ho⟩ : ∃ o, refQ Z = o := ⟨_, rfl⟩
        rw [ho] at HPR HRR
        obtain ⟨rq, hrq⟩ : ∃ rq, o.getD Qx.no = rq := ⟨_, rfl⟩
        obtain ⟨ec, hec⟩ : ∃ ec : Int, (if o.isSome = true then (0 : Int) else 2) = ec := ⟨_, rfl⟩
        obtain ⟨gs, hgs⟩ : ∃ gs : Bool, o.isSome = gs := ⟨_, rfl⟩
        have HEC : Hid ((ec == 0) = gs ∧ (gs = false → (ec == 2) = true)) := Lib.hid (by rw [← hec, ← hgs]; cases o <;> exact ⟨rfl, fun h => by first | rfl | cases h⟩)
        have HWC : Hid (Below H w wc) := Lib.hid (HB8.out.trans (HQ.out.2.2.2.2.2.mono (by have := HB8.out.size; have := HH.out; omega)))
        clear hq2 ho
        go_wp2_with fail
        refine HPR.out.mono ?_
        rintro e wd ⟨v, rfl, hv, hbd⟩
        rw [hrq] at hv
        rw [hec]
        obtain ⟨Ar, cr, rfl, hdr, hbr⟩ := hv
        try dsimp only
        unfold rqv
        obtain ⟨wf, hwf⟩ : ∃ wf, wd.alloc (.cells #[.int .i64 rq.k, .int .i64 rq.s, .int .i64 rq.g, .int .i64 rq.i, .slice Ar rq.D.length cr] 27) = wf := ⟨_, rfl⟩
        have HR := Lib.hid (QVal.block ⟨hdr, hbr⟩ hwf)
        obtain ⟨br, hbrr⟩ : ∃ br, wd.heap.size = br := ⟨_, rfl⟩
        have HWF := Lib.hid hwf
        have HBR := Lib.hid hbrr
        rw [hbrr] at HR
        have HBF2 : Hid (Below wc.heap.size wc wf) := Lib.hid (hbd.trans (HR.out.2.2.mono (by rw [← hbrr]; exact hbd.size)))
        have HRS := Lib.hid (HRR.out wf HBF2.out)
        clear hbd hdr hbr hwf hbrr HPR
        go_upto_region 17 with fail
        rw [HWF.out, HBR.out]
        go_wp2_with fail
        refine HRS.out.mono ?_
        rintro e wg ⟨v, rfl, hv, hbd⟩
        rw [hrq] at hv
        rw [hgs]
        obtain ⟨As, cs, rfl, hdr, hbr⟩ := hv
        try dsimp only
        unfold rqv
        obtain ⟨wh, hwh⟩ : ∃ wh, wg.alloc (.cells #[.int .i64 rq.k, .int .i64 rq.s, .int .i64 rq.g, .int .i64 rq.i, .slice As rq.D.length cs] 27) = wh := ⟨_, rfl⟩
        have HS := Lib.hid (QVal.block ⟨hdr, hbr⟩ hwh)
        obtain ⟨bs, hbss⟩ : ∃ bs, wg.heap.size = bs := ⟨_, rfl⟩
        have HWH := Lib.hid hwh
        have HBS := Lib.hid hbss
        rw [hbss] at HS
        have HBH : Hid (Below wf.heap.size wf wh) := Lib.hid (hbd.trans (HS.out.2.2.mono (by rw [← hbss]; exact hbd.size)))
        clear hbd hdr hbr hwh hbss HRS
        have HKN := Lib.hid (lknown11 wh)
        go_upto_region 18 with fail
        rw [HWH.out, HBS.out]
        go_wp2_with fail
        refine HKN.out.mono ?_
        rintro e wi ⟨rfl, hbi⟩
        try dsimp only
        have HBI : Hid (Below wf.heap.size wf wi) := Lib.hid (HBH.out.trans (hbi.mono HBH.out.size))
        have HRi := Lib.hid (HR.out.1.below HBI.out)
        have HSi := Lib.hid (HS.out.1.below hbi)
        have HSA := Lib.hid (rsameReq (HR.out.2.1.below HBI.out) (HS.out.2.1.below hbi) true ⟨fun _ => rfl, fun _ => rfl⟩)
        have k0 := HRi.out.c0
        have k1 := HRi.out.c1
        have k2 := HRi.out.c2
        have k3 := HRi.out.c3
        have k4 := HRi.out.c4
        have j0 := HSi.out.c0
        have j1 := HSi.out.c1
        have j2 := HSi.out.c2
        have j3 := HSi.out.c3
        have j4 := HSi.out.c4
        clear hbi HKN
        unfold rqv at HSA
        obtain ⟨ee1, ee2⟩ := HEC.out
        go_wp2_with fail
        refine HSA.out.mono ?_
        rintro e wj ⟨rfl, hbj⟩
        try dsimp only
        have HBJ : Hid (Below H w wj) := Lib.hid (HWC.out.trans ((HBF2.out.trans ((HBI.out.trans (hbj.mono HBI.out.size)).mono HBF2.out.size)).mono (by have := HWC.out.size; have := HH.out; omega)))
        clear hbj
        cases gs with
        | false =>
          have ee3 := ee2 rfl
          clear ee2
          go_wp2_with fail
          go_ret
          exact ⟨rfl, by rw [HH.out]; exact HBJ.out⟩
        | true =>
          clear ee2
          go_wp2_with fail
          go_ret
          exact ⟨rfl, by rw [HH.out]; exact HBJ.out⟩
end Go.Proofs.Ytoofgcdilgfclaa
