import Derived.Test.YtohmoakahfpjpaaDO
namespace Go.Proofs.Ytohmoakahfpjpaa
open Go.RowKit Go.Sort
set_option maxRecDepth 100000
set_option maxHeartbeats 2000000

/-- What the first loop leaves. -/
def OrdEnd (w : World) (p la n : Nat) (s6 s7 : Value) (wx : World) : Prop := ∃ S d kept f, OMem w wx p S d n la s6 (ksOf d.pend) s7 kept f ∧ d.done = Disk.blank.done ∧ OrdInv n d.pend kept f
theorem platterOrder (A1 A2 : Option Addr) (xs : List Int) (c1 : Nat) (bs : List Bool) (c2 : Nat) (w : World) (h1 : Nums w A1 xs) (l1 : xs.length ≤ 9223372036854775807) (h2 : Bools w A2 bs) :
    Calls Try.prog 6 #[.slice A1 xs.length c1, .slice A2 bs.length c2] w fun e w' => e = .returned (.bool true) ∧ Below w.heap.size w w' := by
  have HX := Lib.hid h1
  have HY := Lib.hid h2
  obtain ⟨m1, hm1⟩ : ∃ m, xs.length = m := ⟨_, rfl⟩
  obtain ⟨m2, hm2⟩ : ∃ m, bs.length = m := ⟨_, rfl⟩
  rw [hm1] at l1 ⊢
  rw [hm2]
  have HM1 := Lib.hid hm1
  have HM2 := Lib.hid hm2
  clear hm1 hm2 h1 h2
  obtain ⟨n, hn⟩ : ∃ n, n = min m1 30 := ⟨_, rfl⟩
  have n30 : n ≤ 30 := by omega
  have nm : n ≤ m1 := by omega
  have HNN : Hid (∀ i : Nat, i = n → m1 ≤ i ∨ 30 ≤ i) := Lib.hid (by omega)
  clear hn
  have HN := Lib.hid (dnew_of w 5 5 (by omega) (by rfl))
  go_enter Try.func6, Try.ntmps6
  go_wp2_with fail
  refine HN.out.mono ?_
  rintro e w1 ⟨p, S1, rfl, P1, B1, E1⟩
  try dsimp only
  have HP1 := Lib.hid P1
  have HB1 : Hid (Below w.heap.size w w1 ∧ ∀ k ∈ S1, w.heap.size ≤ k) := Lib.hid ⟨B1, E1⟩
  clear P1 B1 E1
  go_wp2_with fail
  refine (dknown w1).mono ?_
  rintro e w2 ⟨rfl, B2⟩
  try dsimp only
  have HP2 := Lib.hid (HP1.out.below B2)
  have HB2 : Hid (Below w.heap.size w w2 ∧ ∀ k ∈ S1, w.heap.size ≤ k) := Lib.hid ⟨HB1.out.1.trans (B2.mono HB1.out.1.size), HB1.out.2⟩
  clear B2 HP1 HB1
  go_upto_block 0 with fail
  have HM0 : Hid (OMem w (w2.alloc (.cells #[.int .i64 0, .int .i64 0, .int .i64 0, .int .i64 0, .int .i64 0] 54)) p S1 Disk.blank 0 w2.heap.size (.slice none 0 0) [] (.slice none 0 0) [] (fun _ => 0)) := Lib.hid
    ⟨HP2.out.below ((Below.refl _ _).alloc (Nat.le_refl _) _), HB2.out.2, HB2.out.1.alloc HB2.out.1.size _, ⟨World.ownsRow_nil _ _ _ _, World.ownsRow_nil _ _ _ _, fun a b h => by cases h⟩, ⟨_, alloc_block _ _, Nat.le_refl _, fun j hj => by
      match j, hj with
      | 0, _ => rfl
      | 1, _ => rfl
      | 2, _ => rfl
      | 3, _ => rfl
      | 4, _ => rfl⟩, HB2.out.1.size⟩
  clear HP2 HB2 HN
  generalize w2.alloc (.cells #[.int .i64 0, .int .i64 0, .int .i64 0, .int .i64 0, .int .i64 0] 54) = w3 at *
  generalize w2.heap.size = la at *
  go_cut [6, 7, 9, 10] from 21 to 64 (fun s6 s7 s9 s10 wx => Hid (OrdEnd w p la n s6 s7 wx))
  case first =>
    go_wp2_with fail
    go_loopg [6, 7, 9] n (fun q s6 s7 s9 v => ∃ i : Nat, s9 = .int .i64 (i : Int) ∧ i ≤ n ∧ q = n - i ∧ Hid (OrdEnd w p la i s6 s7 v))
    case atStart => exact ⟨0, rfl, by omega, rfl, Lib.hid ⟨S1, Disk.blank, [], fun _ => 0, HM0.out, rfl, ordInv_nil⟩⟩
    case round =>
      obtain ⟨i, rfl, hi, rfl, HS⟩ := hrel
      clear HM0
      obtain ⟨S, d, kept, f, hm, hd, ho⟩ := HS.out
      have HM := Lib.hid hm
      have HD := Lib.hid hd
      have HO := Lib.hid ho
      clear HS hm hd ho
      generalize wr = v at *
      by_cases hlt : i < n
      · have t1 : (i : Int) < (m1 : Int) := by omega
        have t2 : (i : Int) < 30 := by omega
        obtain ⟨x, hx⟩ : ∃ x, xs[i]? = some x := ⟨_, List.getElem?_eq_getElem (by rw [HM1.out]; omega)⟩
        obtain ⟨g, o, rfl, hg, hc⟩ := HX.out i x hx
        have e1 : v.cell? ⟨g, o + i, none⟩ = some (.int .i64 x) := (HM.out.below.cell (p := ⟨g, o + i, none⟩) hg).trans hc
        obtain ⟨k, lk, hk⟩ := rpickN x 5 (by omega) (by omega)
        have HK := Lib.hid hk
        clear hk hc hx hg
        go_wp2_with fail
        refine (HK.out _).mono ?_
        rintro e w' ⟨rfl, hw⟩
        obtain rfl := hw.symm
        clear e1
        go_wp2_with fail
        refine (lall ((i : Int) + 1) v).mono ?_
        rintro e w4 ⟨ga, rfl, ka, b4, _⟩
        try dsimp only
        have HA := Lib.hid ka
        have HM4 := Lib.hid (HM.out.more b4)
        clear ka b4 HM
        go_wp2_with fail
        refine (dwrite k (some ⟨ga, 0, none⟩) 160 _ HM4.out.plt lk HA.out.rd (by omega)).mono ?_
        rintro e w5 ⟨S5, rfl, P5, T5⟩
        try dsimp only
        have HM5 := Lib.hid (HM4.out.step P5 T5)
        clear P5 T5 HM4 HA
        have HLN : Hid ((ksOf d.pend).length = i) := Lib.hid (by simp [ksOf, HO.out.len])
        have HO5 : Hid (w5.ownsRow w.heap.size 3 1 u6 i (intsV (ksOf d.pend))) := Lib.hid (by have := HM5.out.two.own1; rwa [HLN.out] at this)
        have zz : w.heap.size ≤ w5.heap.size := HM5.out.below.size
        have HKS : Hid (ksOf d.pend ++ [(k : Int)] = ksOf (d.write k (fun _ => byteOf ((i : Int) + 1))).pend) := Lib.hid (by simp [ksOf, Disk.write])
        by_cases hb : i < m2
        · obtain ⟨b, hbs⟩ : ∃ b, bs[i]? = some b := ⟨_, List.getElem?_eq_getElem (by rw [HM2.out]; omega)⟩
          obtain ⟨g2, o2, rfl, hg2, hc2⟩ := HY.out i b hbs
          have t3 : (i : Int) < (m2 : Int) := by omega
          have HC2 : Hid (∀ W, Below w.heap.size w W → W.cell? ⟨g2, o2 + i, none⟩ = some (.bool b)) := Lib.hid (fun W hW => (hW.cell (p := ⟨g2, o2 + i, none⟩) hg2).trans hc2)
          clear hbs hg2 hc2
          cases b
          · go_wp2_with (at_builtin; refine append_int _ rfl _ _ rfl w.heap.size u6 i (ksOf d.pend) rfl (HO5.out.alloc _) w5.heap.size (k : Int) rfl (by simp [go_sem]) (by omega) (by simp; omega) ?_; intro g6 cap6 w6 o6 gr6 y6 _; have HM6 := Lib.hid (HM5.out.ap1 ((Below.refl _ _).alloc (Nat.le_refl _) (.cells #[.int .i64 (k : Int)] 3)) (by rw [HLN.out]; exact o6) gr6 (g := g6) rfl (by rcases y6 with h | h; exact Or.inl h; exact Or.inr (by rw [h]; simp))); clear o6 gr6 y6; have e2 := HC2.out w6 HM6.out.below)
            go_roundg (n - (i + 1))
            case measure => omega
            case rel => exact ⟨i + 1, by go_num, by omega, rfl, Lib.hid ⟨S5, (d.write k (fun _ => byteOf ((i : Int) + 1))), kept, f, by have := HM6.out; rw [HKS.out] at this; exact this, HD.out, HO.out.skip _⟩⟩
          · go_wp2_with (first | (at_builtin; refine append_int _ rfl _ _ rfl w.heap.size u6 i (ksOf d.pend) rfl (HO5.out.alloc _) w5.heap.size (k : Int) rfl (by simp [go_sem]) (by omega) (by simp; omega) ?_; intro g6 cap6 w6 o6 gr6 y6 _; have HM6 := Lib.hid (HM5.out.ap1 ((Below.refl _ _).alloc (Nat.le_refl _) (.cells #[.int .i64 (k : Int)] 3)) (by rw [HLN.out]; exact o6) gr6 (g := g6) rfl (by rcases y6 with h | h; exact Or.inl h; exact Or.inr (by rw [h]; simp))); clear o6 gr6 y6; have e2 := HC2.out w6 HM6.out.below; have HLK : Hid (∃ j, kept.length = j) := Lib.hid ⟨_, rfl⟩; have HO6 : Hid (w6.ownsRow w.heap.size 3 1 u7 kept.length (intsV kept)) := Lib.hid HM6.out.two.own2; have hk6 : kept.length ≤ 1000000000 := by have := HO.out.klen; omega) | (at_builtin; refine append_int _ rfl _ _ rfl w.heap.size u7 kept.length kept rfl (HO6.out.alloc _) w6.heap.size (i : Int) rfl (by simp [go_sem]) hk6 (by have := HM6.out.below.size; simp; omega) ?_; intro g7 cap7 w7 o7 gr7 y7 _; have HM7 := Lib.hid (HM6.out.ap2 ((Below.refl _ _).alloc (Nat.le_refl _) (.cells #[.int .i64 (i : Int)] 3)) o7 gr7 (g := g7) rfl (by rcases y7 with h | h; exact Or.inl h; exact Or.inr (by rw [h]; simp))); clear o7 gr7 y7; have e3 := HM7.out.last.cell lk; have f3 := HM7.out.last.free k))
            go_roundg (n - (i + 1))
            case measure => omega
            case rel => exact ⟨i + 1, by go_num, by omega, rfl, Lib.hid ⟨S5, (d.write k (fun _ => byteOf ((i : Int) + 1))), _, _, by have := HM7.out.put (x := (i : Int) + 1) lk; rw [HKS.out] at this; exact this, HD.out, HO.out.take⟩⟩
        · have t3 : ¬ (i : Int) < (m2 : Int) := by omega
          have t4 : decide (i < m2) = false := decide_eq_false hb
          clear hb
          go_wp2_with (at_builtin; refine append_int _ rfl _ _ rfl w.heap.size u6 i (ksOf d.pend) rfl (HO5.out.alloc _) w5.heap.size (k : Int) rfl (by simp [go_sem]) (by omega) (by simp; omega) ?_; intro g6 cap6 w6 o6 gr6 y6 _; have HM6 := Lib.hid (HM5.out.ap1 ((Below.refl _ _).alloc (Nat.le_refl _) (.cells #[.int .i64 (k : Int)] 3)) (by rw [HLN.out]; exact o6) gr6 (g := g6) rfl (by rcases y6 with h | h; exact Or.inl h; exact Or.inr (by rw [h]; simp))); clear o6 gr6 y6)
          go_roundg (n - (i + 1))
          case measure => omega
          case rel => exact ⟨i + 1, by go_num, by omega, rfl, Lib.hid ⟨S5, (d.write k (fun _ => byteOf ((i : Int) + 1))), kept, f, by have := HM6.out; rw [HKS.out] at this; exact this, HD.out, HO.out.skip _⟩⟩
      · obtain rfl : i = n := by omega
        have HE : Hid (OrdEnd w p la i u6 u7 v) := Lib.hid ⟨S, d, kept, f, HM.out, HD.out, HO.out⟩
        clear HM HD HO hlt
        by_cases hm : m1 ≤ i
        · have t1 : ¬ (i : Int) < (m1 : Int) := by omega
          have t2 : decide (i < m1) = false := decide_eq_false (by omega)
          go_wp2_with fail
          go_meet
          case rel => exact HE
        · have t1 : (i : Int) < (m1 : Int) := by omega
          have t2 : ¬ (i : Int) < 30 := by have := HNN.out i rfl; omega
          go_wp2_with fail
          go_meet
          case rel => exact HE
  case rest =>
    clear HM0
    obtain ⟨S, d, kept, f, hm, hd, ho⟩ := hcut.out
    clear hcut
    obtain ⟨A6, c6, rfl, _⟩ := own_form hm.two.own1
    obtain ⟨A7, c7, rfl, _⟩ := own_form hm.two.own2
    have HM := Lib.hid hm
    have HO := Lib.hid ho
    have HFI : Hid (∀ k, (d.crash (keepF kept)).now k = fun _ => byteOf (f k)) := Lib.hid (fun k => by rw [now_crash]; show (keptAt (keepF kept) 0 d.pend).foldl upd d.done k = _; rw [hd]; exact ho.eq k)
    have hkl := ho.klen
    obtain ⟨ks, hks⟩ : ∃ ks, ksOf d.pend = ks := ⟨_, rfl⟩
    have hln : ks.length = n := by rw [← hks]; simp [ksOf, ho.len]
    rw [hks] at HM ⊢
    have e1 : ((n : Int) != (ks.length : Int)) = false := by rw [bne_eq_false_iff_eq]; omega
    have e1' : ((n : Int) == (ks.length : Int)) = true := by rw [beq_iff_eq]; omega
    have kl : ks.length ≤ 30 := by omega
    have HKS := Lib.hid hks
    clear hm hd ho hks hln
    have HPE := Lib.hid (dpending HM.out.plt (by omega))
    rw [HKS.out] at HPE
    go_wp2_with fail
    refine HPE.out.mono ?_
    rintro e w4 ⟨A4, c4, rfl, o4, b4⟩
    try dsimp only
    have HM4 := Lib.hid (HM.out.more b4)
    have HSI := Lib.hid (lsame A4 A6 ks ks c4 c6 w4 (own_nums o4).1 (own_nums HM4.out.two.own1).1 (by omega) true ⟨fun _ => rfl, fun _ => rfl⟩)
    clear o4 b4 HM HPE
    go_wp2_with fail
    refine HSI.out.mono ?_
    rintro e w5 ⟨rfl, b5⟩
    try dsimp only
    have HM5 := Lib.hid (HM4.out.more b5)
    clear b5 HM4 HSI
    go_wp2_with fail
    refine (dwrites HM5.out.plt).mono ?_
    rintro e w' ⟨rfl, hw⟩
    obtain rfl := hw.symm
    have HCR := Lib.hid (dcrash A7 kept c7 HM5.out.plt (own_nums HM5.out.two.own2).1 (by omega) (by omega))
    go_wp2_with fail
    refine HCR.out.mono ?_
    rintro e w6 ⟨S6, rfl, P6, T6⟩
    try dsimp only
    have HM6 := Lib.hid (HM5.out.step P6 T6)
    clear P6 T6 HM5 HCR
    go_wp2_with fail
    go_loopg [11, 12, 13, 80] 5 (fun q s11 s12 s13 s80 v => ∃ i : Nat, s80 = .int .i64 (i : Int) ∧ i ≤ 5 ∧ q = 5 - i ∧ Hid (OMem w v p S6 (d.crash (keepF kept)) n la (.slice A6 ks.length c6) ks (.slice A7 kept.length c7) kept f))
    case atStart => exact ⟨0, rfl, by omega, rfl, HM6⟩
    case round =>
      obtain ⟨i, rfl, hi, rfl, HV⟩ := hrel
      clear HM6
      generalize wr = v at *
      by_cases hlt : i < 5
      · have t1 : (i : Int) < 5 := by omega
        have HRD := Lib.hid (dread i HV.out.plt hlt)
        obtain ⟨fi, hfi⟩ : ∃ x, f i = x := ⟨_, rfl⟩
        have HF := Lib.hid hfi
        rw [HFI.out i, hfi] at HRD
        clear hfi
        clear e1 e1'
        go_wp2_with fail
        refine HRD.out.mono ?_
        rintro e w7 ⟨g7, d7, rfl, k7, b7, _, hd7⟩
        try dsimp only
        have HK7 := Lib.hid k7
        have HV7 := Lib.hid (HV.out.more b7)
        clear k7 b7 HRD HV
        have l7 : w7.drew.cell? ⟨la, i, none⟩ = some (.int .i64 fi) := by rw [← HF.out]; exact HV7.out.last.cell hlt
        have v7 : Sem.run Try.prog (convert 26 9 (.slice (some ⟨g7, 0, none⟩) 160 d7)) w7.drew = .ok (.string (strOf ((List.range 160).map (fun _ => byteOf fi)))) w7.drew := conv_rd (w := w7.drew) HK7.out.rd
        have HC9 : Hid (∀ W, Below w7.heap.size w7 W → Sem.run Try.prog (convert 26 9 (.slice (some ⟨g7, 0, none⟩) 160 d7)) W = .ok (.string (strOf ((List.range 160).map (fun _ => byteOf fi)))) W) := Lib.hid (fun W hW => conv_rd (HK7.out.below hW).rd)
        have HD9 : Hid (∀ g W, Blk8 W g 160 (fun _ => byteOf fi) → Sem.run Try.prog (convert 26 9 (.slice (some ⟨g, 0, none⟩) 160 160)) W = .ok (.string (strOf ((List.range 160).map (fun _ => byteOf fi)))) W) := Lib.hid (fun g W hW => conv_rd hW.rd)
        have HL := Lib.hid (lall fi w7.drew)
        generalize strOf ((List.range 160).map (fun _ => byteOf fi)) = str at *
        go_wp2_with fail
        go_region_with (first | (go_at_call 10; refine HL.out.mono ?_; rintro e w9 ⟨g9, rfl, K9, B9, _⟩; (try dsimp only); have v9 := HD9.out g9 w9 K9; have y9 := HC9.out w9 ((below_drewN 1 w7).trans B9); have HV9 := Lib.hid (HV7.out.more ((below_drewN 1 w7).trans B9)); clear K9 B9) | fail)
        all_goals
          go_wp2_with fail
          go_roundg (5 - (i + 1))
          case measure => omega
          case rel => exact ⟨i + 1, by go_num, by omega, rfl, HV9⟩
      · obtain rfl : i = 5 := by omega
        have t1 : ¬ ((5 : Nat) : Int) < 5 := by omega
        go_wp2_with fail
        refine (dwrites HV.out.plt).mono ?_
        rintro e w' ⟨rfl, hw⟩
        obtain rfl := hw.symm
        go_wp2_with fail
        go_ret
        exact ⟨rfl, HV.out.below⟩
end Go.Proofs.Ytohmoakahfpjpaa
