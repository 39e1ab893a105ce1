import Derived.Test.YticaoknplpgjlaaChF
import Derived.Test.YticaoknplpgjlaaD9
namespace Go.Proofs.Yticaoknplpgjlaa
open Go.RowKit Go.Sort
set_option maxRecDepth 100000
set_option maxHeartbeats 2000000

theorem CD.of_now {d d' : Disk} {M : Nat → Option Pc} (h : CD d M) (e : d'.now = d.now) : CD d' M :=
  ⟨fun k j hj => by rw [e]; exact h.bd k j hj, fun k hk => by rw [e]; exact h.slot k hk⟩
theorem crash_one {d : Disk} (h : d.pend = []) (k : Nat) (F : Blk) (f : Nat → Bool) : ((d.write k F).crash f).now = if f 0 then (d.write k F).now else d.now := by
  obtain ⟨D, l⟩ := d
  simp only at h
  subst h
  cases hf : f 0 <;> simp [Disk.crash, Disk.write, Disk.now, keptAt, hf]
theorem two_both {s g i : Nat} {a b : Int} (M : Nat → Option Pc) : two (updM (updM M (atP (oneP s g i a)) (some (oneP s g i a))) (atP (oneP s (g + 1) i b)) (some (oneP s (g + 1) i b)) (2 * s)) (updM (updM M (atP (oneP s g i a)) (some (oneP s g i a))) (atP (oneP s (g + 1) i b)) (some (oneP s (g + 1) i b)) (2 * s + 1)) = [oneP s (g + 1) i b, oneP s g i a] := by
  have e1 : atP (oneP s g i a) = 2 * s + g % 2 := rfl
  have e2 : atP (oneP s (g + 1) i b) = 2 * s + (g + 1) % 2 := rfl
  unfold updM
  rw [e1, e2]
  rcases Nat.mod_two_eq_zero_or_one g with h | h
  · rw [if_neg (by omega), if_pos (by omega), if_pos (by omega)]
    show srt [oneP s g i a, oneP s (g + 1) i b] = _
    rw [srt2, if_pos (by show g < g + 1; omega)]
  · rw [if_pos (by omega), if_neg (by omega), if_pos (by omega)]
    show srt [oneP s (g + 1) i b, oneP s g i a] = _
    rw [srt2, if_neg (by show ¬ g + 1 < g; omega)]
theorem two_one {s g i : Nat} {a : Int} : two (updM (fun _ => none) (atP (oneP s g i a)) (some (oneP s g i a)) (2 * s)) (updM (fun _ => none) (atP (oneP s g i a)) (some (oneP s g i a)) (2 * s + 1)) = [oneP s g i a] := by
  have e1 : atP (oneP s g i a) = 2 * s + g % 2 := rfl
  unfold updM
  rw [e1]
  rcases Nat.mod_two_eq_zero_or_one g with h | h
  · rw [if_pos (by omega), if_neg (by omega)]; rfl
  · rw [if_neg (by omega), if_pos (by omega)]; rfl
theorem Plt.pieces {w w' : World} {p : Nat} {S : List Nat} {N : Nat} {d : Disk} {wr B : Nat} {v : Value} {l : List Pc} (h : Plt w p S N d wr) (t : Turn S w w') (hl : PL w B v l) : PL w' B v l :=
  hl.keep (fun g cs ty hg ht => t.block g (heap_lt hg) (h.notMem hg (by rcases ht with rfl | rfl <;> decide) (by rcases ht with rfl | rfl <;> decide) (by rcases ht with rfl | rfl <;> decide)))
/-- The cells of two pieces that are told. -/
def C8 (W : World) (b : Nat) (p q : Pc) (A0 A1 : Option Addr) (c0 c1 : Nat) : Prop :=
  W.cell? ⟨b, 0, none⟩ = some (.int .i64 (p.s : Int)) ∧ W.cell? ⟨b, 1, none⟩ = some (.int .i64 (p.g : Int)) ∧ W.cell? ⟨b, 2, none⟩ = some (.int .i64 (p.i : Int)) ∧ W.cell? ⟨b, 3, none⟩ = some (.slice A0 32 c0) ∧ W.cell? ⟨b, 4, none⟩ = some (.int .i64 (q.s : Int)) ∧ W.cell? ⟨b, 5, none⟩ = some (.int .i64 (q.g : Int)) ∧ W.cell? ⟨b, 6, none⟩ = some (.int .i64 (q.i : Int)) ∧ W.cell? ⟨b, 7, none⟩ = some (.slice A1 32 c1)
theorem PL.two {w : World} {B : Nat} {v : Value} {p q : Pc} (h : PL w B v [p, q]) : ∃ b c A0 A1 c0 c1, v = .slice (some ⟨b, 0, none⟩) 2 c ∧ B ≤ b ∧ Dat w A0 p.D ∧ Dat w A1 q.D ∧ ∀ W, Below w.heap.size w W → C8 W b p q A0 A1 c0 c1 := by
  obtain ⟨b, c, A0, c0, hv, hbb, hbl, a0, a1, a2, a3, d0⟩ := h.at (i := 0) (p := p) rfl
  obtain ⟨b', c', A1, c1, hv', _, _, b0, b1, b2, b3, d1⟩ := h.at (i := 1) (p := q) rfl
  subst hv
  injection hv' with e1 e2 e3
  injection e1 with e1
  injection e1 with e1
  subst e1
  simp only [Nat.mul_zero, Nat.zero_add, Nat.mul_one, Nat.reduceAdd] at a0 a1 a2 a3 b0 b1 b2 b3
  refine ⟨b, c, A0, A1, c0, c1, rfl, hbb, d0, d1, fun W hW => ⟨(hW.cell (p := ⟨b, 0, none⟩) hbl).trans a0, (hW.cell (p := ⟨b, 1, none⟩) hbl).trans a1, (hW.cell (p := ⟨b, 2, none⟩) hbl).trans a2, (hW.cell (p := ⟨b, 3, none⟩) hbl).trans a3, (hW.cell (p := ⟨b, 4, none⟩) hbl).trans b0, (hW.cell (p := ⟨b, 5, none⟩) hbl).trans b1, (hW.cell (p := ⟨b, 6, none⟩) hbl).trans b2, (hW.cell (p := ⟨b, 7, none⟩) hbl).trans b3⟩⟩
/-- Those of one. -/
def C4 (W : World) (b : Nat) (p : Pc) (A0 : Option Addr) (c0 : Nat) : Prop :=
  W.cell? ⟨b, 0, none⟩ = some (.int .i64 (p.s : Int)) ∧ W.cell? ⟨b, 1, none⟩ = some (.int .i64 (p.g : Int)) ∧ W.cell? ⟨b, 2, none⟩ = some (.int .i64 (p.i : Int)) ∧ W.cell? ⟨b, 3, none⟩ = some (.slice A0 32 c0)
theorem PL.one {w : World} {B : Nat} {v : Value} {p : Pc} (h : PL w B v [p]) : ∃ b c A0 c0, v = .slice (some ⟨b, 0, none⟩) 1 c ∧ B ≤ b ∧ Dat w A0 p.D ∧ ∀ W, Below w.heap.size w W → C4 W b p A0 c0 := by
  obtain ⟨b, c, A0, c0, hv, hbb, hbl, a0, a1, a2, a3, d0⟩ := h.at (i := 0) (p := p) rfl
  subst hv
  simp only [Nat.mul_zero, Nat.zero_add] at a0 a1 a2 a3
  exact ⟨b, c, A0, c0, rfl, hbb, d0, fun W hW => ⟨(hW.cell (p := ⟨b, 0, none⟩) hbl).trans a0, (hW.cell (p := ⟨b, 1, none⟩) hbl).trans a1, (hW.cell (p := ⟨b, 2, none⟩) hbl).trans a2, (hW.cell (p := ⟨b, 3, none⟩) hbl).trans a3⟩⟩

theorem chunkTurns (x0 x1 x2 x3 x4 : Int) (A5 : Option Addr) (xs5 : List Int) (c5 : Nat) (w : World) (hN : Nums w A5 xs5) (hl : xs5.length ≤ 9223372036854775807) :
    Calls Try.prog 6 #[.int .i64 x0, .int .i64 x1, .int .i64 x2, .int .i64 x3, .int .i64 x4, .slice A5 xs5.length c5] w fun e w' => e = .returned (.bool true) ∧ Below w.heap.size w w' := by
  obtain ⟨s, hs, HA0⟩ := rpickN x0 40 (by omega) (by omega)
  obtain ⟨g0, hg0, HG0⟩ := rpickN x1 100000 (by omega) (by omega)
  obtain ⟨i, hi, HI0⟩ := rpickN x2 6 (by omega) (by omega)
  have HA := Lib.hid HA0
  have HG := Lib.hid HG0
  have HI := Lib.hid HI0
  have HNN := Lib.hid hN
  have HNW := Lib.hid (dnew_of w 96 96 (by omega) rfl)
  obtain ⟨g, hg⟩ : ∃ g, g0 + 1 = g := ⟨_, rfl⟩
  obtain ⟨g1, hg1⟩ : ∃ g1, g + 1 = g1 := ⟨_, rfl⟩
  have eg : 1 + (g0 : Int) = (g : Int) := by omega
  have eg1 : (g : Int) + 1 = (g1 : Int) := by omega
  have hgb : g ≤ 100000 := by omega
  have hgp : 1 ≤ g := by omega
  have HG1 := Lib.hid hg1
  have hgb1 : g1 ≤ 100001 := by omega
  obtain ⟨H, hH⟩ : ∃ H, w.heap.size = H := ⟨_, rfl⟩
  have HH := Lib.hid hH
  rw [hH]
  have HX1 := Lib.hid (oneP_ok (x := x3) hs hgp (by omega) hi : (oneP s g i x3).Ok)
  have HX2 := Lib.hid (oneP_ok (x := x4) hs (by omega) (by omega) hi : (oneP s g1 i x4).Ok)
  clear HA0 HG0 HI0 hN hg hg1 hH hg0
  obtain ⟨n, hn⟩ : ∃ n, xs5.length = n := ⟨_, rfl⟩
  have HLN := Lib.hid hn
  rw [hn] at hl ⊢
  clear hn
  go_enter Try.func6, Try.ntmps6
  go_wp2_with fail
  refine HNW.out.mono ?_
  rintro e w1 ⟨p, S1, rfl, hp1, hb1, hS1⟩
  try dsimp only
  have HP1 := Lib.hid hp1
  have HB1 : Hid (Below H w w1) := Lib.hid (by rw [← HH.out]; exact hb1)
  have HS1 : Hid (∀ k ∈ S1, H ≤ k) := Lib.hid (by rw [← HH.out]; exact hS1)
  have HZ1 : Hid (H ≤ w1.heap.size) := Lib.hid (by rw [← HH.out]; exact hb1.size)
  clear hp1 hb1 hS1 HNW
  go_wp2_with fail
  refine (HA.out w1).mono ?_
  rintro e w' ⟨rfl, hw⟩
  obtain rfl := hw.symm
  go_wp2_with fail
  refine (HG.out w1).mono ?_
  rintro e w' ⟨rfl, hw⟩
  obtain rfl := hw.symm
  go_wp2_with fail
  refine (HI.out w1).mono ?_
  rintro e w' ⟨rfl, hw⟩
  obtain rfl := hw.symm
  go_wp2_with fail
  refine (lknown8 w1).mono ?_
  rintro e w2 ⟨rfl, hb2⟩
  try dsimp only
  have HP2 := Lib.hid (HP1.out.below hb2)
  have HB2 : Hid (Below H w w2) := Lib.hid (HB1.out.trans (hb2.mono HZ1.out))
  have HZ2 : Hid (H ≤ w2.heap.size) := Lib.hid (Nat.le_trans HZ1.out hb2.size)
  clear hb2 HP1 HB1 HZ1
  go_wp2_with fail
  refine (lone s g i x3 w2).mono ?_
  rintro e w3 ⟨v3, rfl, hv3, hb3⟩
  try dsimp only
  have HPU := Lib.hid (CPutRet.put (HP2.out.below hb3) (by omega) (oneP s g i x3) HX1.out v3 hv3 (by omega))
  have HB3 : Hid (Below H w w3) := Lib.hid (HB2.out.trans (hb3.mono HZ2.out))
  have HZ3 : Hid (H ≤ w3.heap.size) := Lib.hid (Nat.le_trans HZ2.out hb3.size)
  clear hv3 hb3 HP2 HB2 HZ2
  go_wp2_with fail
  refine HPU.out.mono ?_
  rintro e w4 ⟨S4, rfl, hp4, hs4⟩
  try dsimp only
  have HP4 := Lib.hid hp4
  have HB4 := Lib.hid (Below.step HB3.out hs4 HS1.out HZ3.out)
  have HZ4 : Hid (H ≤ w4.heap.size) := Lib.hid (Nat.le_trans HZ3.out hs4.turn.size)
  have HD4 : Hid (CD (Disk.blank.write (atP (oneP s g i x3)) (pcS (oneP s g i x3))) (updM (fun _ => none) (atP (oneP s g i x3)) (some (oneP s g i x3)))) := Lib.hid (CD.blank.put HX1.out)
  clear hp4 hs4 HPU HB3 HZ3 HS1
  go_wp2_with fail
  refine (dflush HP4.out).mono ?_
  rintro e w5 ⟨S5, rfl, hp5, hs5⟩
  try dsimp only
  have HD5 := Lib.hid (HD4.out.of_now (now_flush _))
  have HE5 : Hid ((Disk.blank.write (atP (oneP s g i x3)) (pcS (oneP s g i x3))).flush.pend = []) := Lib.hid rfl
  generalize (Disk.blank.write (atP (oneP s g i x3)) (pcS (oneP s g i x3))).flush = d5 at *
  have HP5 := Lib.hid hp5
  have HB5 := Lib.hid (Below.step HB4.out.1 hs5 HB4.out.2 HZ4.out)
  have HZ5 : Hid (H ≤ w5.heap.size) := Lib.hid (Nat.le_trans HZ4.out hs5.turn.size)
  clear hp5 hs5 HP4 HB4 HZ4 HD4
  go_wp2_with fail
  refine (lone s g1 i x4 w5).mono ?_
  rintro e w6 ⟨v6, rfl, hv6, hb6⟩
  try dsimp only
  have HPU := Lib.hid (CPutRet.put (HP5.out.below hb6) (by omega) (oneP s g1 i x4) HX2.out v6 hv6 (by omega))
  have HB6 : Hid (Below H w w6) := Lib.hid (HB5.out.1.trans (hb6.mono HZ5.out))
  have HZ6 : Hid (H ≤ w6.heap.size) := Lib.hid (Nat.le_trans HZ5.out hb6.size)
  clear hv6 hb6 HP5 HZ5
  go_wp2_with fail
  refine HPU.out.mono ?_
  rintro e w7 ⟨S7, rfl, hp7, hs7⟩
  try dsimp only
  have HP7 := Lib.hid hp7
  have HB7 := Lib.hid (Below.step HB6.out hs7 HB5.out.2 HZ6.out)
  have HZ7 : Hid (H ≤ w7.heap.size) := Lib.hid (Nat.le_trans HZ6.out hs7.turn.size)
  have HD7 := Lib.hid (HD5.out.put HX2.out)
  have HG7 := Lib.hid (cgetD HP7.out HD7.out (by omega) s hs)
  have H2 := two_both (s := s) (g := g) (i := i) (a := x3) (b := x4) (fun _ => none)
  rw [HG1.out] at H2
  rw [H2] at HG7
  clear hp7 hs7 HPU HB5 HB6 HZ6 H2
  go_wp2_with fail
  refine HG7.out.mono ?_
  rintro e w8 ⟨v8, rfl, hl8, hb8⟩
  try dsimp only
  have HP8 := Lib.hid (HP7.out.below hb8)
  have HB8 : Hid (Below H w w8) := Lib.hid (HB7.out.1.trans (hb8.mono HZ7.out))
  have HZ8 : Hid (H ≤ w8.heap.size) := Lib.hid (Nat.le_trans HZ7.out hb8.size)
  have HL8 := Lib.hid hl8
  obtain ⟨b, c, A0, A1, c0, c1, hv8, _, hd0, hd1, hC8⟩ := hl8.two
  subst hv8
  have HDA := Lib.hid hd0
  have HDB := Lib.hid hd1
  have HC8 := Lib.hid hC8
  clear hl8 hb8 HP7 HZ7 hd0 hd1 hC8 HG7
  have b0w := below_drewN 1 w8
  have HKA := Lib.hid (fun j _ => bytesF_lt x3 j : ∀ j, j < 32 → (oneP s g i x3).D j < 256)
  have HKB := Lib.hid (fun j _ => bytesF_lt x4 j : ∀ j, j < 32 → (oneP s g1 i x4).D j < 256)
  have wg1 : IntKind.i64.wrap (g1 : Int) = (g1 : Int) := IntWalk.i64_in _ (by omega)
  go_upto_region 11 with fail
  go_cut [83] from 56 to 83 (fun s83 wx => s83 = .bool false ∧ Hid (Below w8.heap.size w8 wx))
  case first =>
    go_wp2_with fail
    go_region_held (fun W => W.cell? ⟨b, 0, none⟩ = some (.int .i64 ((oneP s g1 i x4).s : Int)) ∧ W.cell? ⟨b, 1, none⟩ = some (.int .i64 ((oneP s g1 i x4).g : Int)) ∧ W.cell? ⟨b, 2, none⟩ = some (.int .i64 ((oneP s g1 i x4).i : Int)) ∧ W.cell? ⟨b, 3, none⟩ = some (.slice A0 32 c0) ∧ W.cell? ⟨b, 4, none⟩ = some (.int .i64 ((oneP s g i x3).s : Int)) ∧ W.cell? ⟨b, 5, none⟩ = some (.int .i64 ((oneP s g i x3).g : Int)) ∧ W.cell? ⟨b, 6, none⟩ = some (.int .i64 ((oneP s g i x3).i : Int)) ∧ W.cell? ⟨b, 7, none⟩ = some (.slice A1 32 c1))
      (first | assumption | exact HC8.out _ b0w | exact HC8.out _ hbW)
      (first
        | (go_at_call 12; (with_reducible refine (lone s g1 i x4 _).mono ?_); rintro e w9 ⟨v9, rfl, hv9, hb9⟩; (try dsimp only); have HV9 := Lib.hid hv9; have hbW := b0w.trans (hb9.mono b0w.size); clear hv9 hb9)
        | (go_at_call 17; have hc := (csameV (v := pv ((oneP s g1 i x4).s : Int) ((oneP s g1 i x4).g : Int) ((oneP s g1 i x4).i : Int) A0 32 c0) (v' := v9) (p := oneP s g1 i x4) (q := oneP s g1 i x4) ⟨A0, c0, rfl, HDA.out.below hbW⟩ HV9.out HKB.out HKB.out true ⟨fun _ => Pc.Alike.refl _, fun _ => rfl⟩); (with_reducible refine hc.mono ?_); clear hc; rintro e w4 ⟨rfl, hb4⟩; (try dsimp only); have hbW4 := hbW.trans (hb4.mono hbW.size); clear hb4 hbW HV9; have hbW := hbW4)
        | (go_at_call 12; (with_reducible refine (lone s g i x3 _).mono ?_); rintro e w5 ⟨v5, rfl, hv5, hb5⟩; (try dsimp only); have HV5 := Lib.hid hv5; have hbW5 := hbW.trans (hb5.mono hbW.size); clear hv5 hb5 hbW; have hbW := hbW5)
        | (go_at_call 17; have hc := (csameV (v := pv ((oneP s g i x3).s : Int) ((oneP s g i x3).g : Int) ((oneP s g i x3).i : Int) A1 32 c1) (v' := v5) (p := oneP s g i x3) (q := oneP s g i x3) ⟨A1, c1, rfl, HDB.out.below hbW⟩ HV5.out HKA.out HKA.out true ⟨fun _ => Pc.Alike.refl _, fun _ => rfl⟩); (with_reducible refine hc.mono ?_); clear hc; rintro e w6 ⟨rfl, hb6⟩; (try dsimp only); have hbW6 := hbW.trans (hb6.mono hbW.size); clear hb6 hbW HV5; have hbW := hbW6)
        | fail)
    all_goals
      go_wp2_with fail
      go_meet
      exact ⟨rfl, Lib.hid hbW⟩
  case rest =>
    obtain ⟨rfl, HWC⟩ := hcut
    have HP9 := Lib.hid (HP8.out.below HWC.out)
    have HB9 : Hid (Below H w wc) := Lib.hid (HB8.out.trans (HWC.out.mono HZ8.out))
    have HZ9 : Hid (H ≤ wc.heap.size) := Lib.hid (Nat.le_trans HZ8.out HWC.out.size)
    have HL9 := Lib.hid (HL8.out.below HWC.out)
    have HN9 : Hid (Nums wc A5 xs5) := Lib.hid (HNN.out.keep (by rw [HH.out]; exact HB9.out))
    have HCR := Lib.hid (dcrash A5 xs5 c5 HP9.out HN9.out (by rw [HLN.out]; exact hl) (by omega))
    rw [HLN.out] at HCR
    clear HP8 HB8 HZ8 HL8 HWC HC8 HDA HDB b0w
    go_wp2_with fail
    refine HCR.out.mono ?_
    rintro e w10 ⟨S10, rfl, hp10, hs10⟩
    try dsimp only
    have HP10 := Lib.hid hp10
    have HB10 := Lib.hid (Below.step HB9.out hs10 HB7.out.2 HZ9.out)
    have HZ10 : Hid (H ≤ w10.heap.size) := Lib.hid (Nat.le_trans HZ9.out hs10.turn.size)
    have HL10 := Lib.hid (HP9.out.pieces hs10.turn HL9.out)
    have HN10 : Hid (Nums w10 A5 xs5) := Lib.hid (HNN.out.keep (by rw [HH.out]; exact HB10.out.1))
    clear hp10 hs10 HP9 HB9 HZ9 HL9 HN9 HCR HB7
    go_wp2_with fail
    go_loopg [15, 89] n (fun q s15 s89 v => ∃ k : Nat, s15 = .bool (keepF (xs5.take k) 0) ∧ s89 = .int .i64 (k : Int) ∧ k ≤ n ∧ q = n - k ∧ w10 = v)
    case atStart => exact ⟨0, rfl, rfl, by omega, rfl, rfl⟩
    case round =>
      obtain ⟨k, rfl, rfl, hk, rfl, rfl⟩ := hrel
      by_cases hlt : k < n
      · have hlk : (k : Int) < (n : Int) := by omega
        obtain ⟨x, hx⟩ : ∃ x, xs5[k]? = some x := ⟨_, List.getElem?_eq_getElem (by rw [HLN.out]; exact hlt)⟩
        obtain ⟨gg, o, hA5, hgg, hcx⟩ := HN10.out k x hx
        have HKT := Lib.hid (keepF_take hx 0)
        subst hA5
        clear hx
        by_cases hkf : keepF (xs5.take k) 0 = true
        · rw [hkf] at HKT ⊢
          have HKT2 : Hid (keepF (xs5.take (k + 1)) 0 = true) := Lib.hid (by rw [HKT.out]; split <;> rfl)
          clear hkf
          go_wp2_with fail
          go_roundg (n - (k + 1))
          case measure => omega
          case rel => exact ⟨k + 1, by rw [HKT2.out], by go_num, by omega, rfl, rfl⟩
        · have hkf2 : keepF (xs5.take k) 0 = false := by simpa using hkf
          rw [hkf2] at HKT ⊢
          clear hkf hkf2
          by_cases hx0 : x = 0
          · subst hx0
            have HKT2 : Hid (keepF (xs5.take (k + 1)) 0 = true) := Lib.hid (by rw [HKT.out]; decide)
            go_wp2_with fail
            go_roundg (n - (k + 1))
            case measure => omega
            case rel => exact ⟨k + 1, by rw [HKT2.out], by go_num, by omega, rfl, rfl⟩
          · have ex : (x == 0) = false := beq_eq_false_iff_ne.2 hx0
            have HKT2 : Hid (keepF (xs5.take (k + 1)) 0 = false) := Lib.hid (by rw [HKT.out, if_neg (fun e => hx0 (by have : ((0 : Nat) : Int) = 0 := rfl; omega))])
            clear hx0
            go_wp2_with fail
            go_roundg (n - (k + 1))
            case measure => omega
            case rel => exact ⟨k + 1, by rw [HKT2.out], by go_num, by omega, rfl, rfl⟩
      · obtain rfl : k = n := by omega
        have HKE : Hid (keepF (xs5.take k) 0 = keepF xs5 0) := Lib.hid (by rw [List.take_of_length_le (by rw [HLN.out]; exact Nat.le_refl _)])
        have HCO := Lib.hid (crash_one HE5.out (atP (oneP s g1 i x4)) (pcS (oneP s g1 i x4)) (keepF xs5))
        rw [← HKE.out] at HCO
        obtain ⟨b, c, A0, A1, c0, c1, hvl, _, hd0, hd1, hC8⟩ := HL10.out.two
        injection hvl with q1 q2 q3
        injection q1 with q1
        injection q1 with q1
        subst q1
        have HDA := Lib.hid hd0
        have HC8 := Lib.hid hC8
        clear hd0 hd1 hC8 q2 q3
        by_cases hkf : keepF (xs5.take k) 0 = true
        · rw [hkf] at HCO ⊢
          rw [if_pos rfl] at HCO
          have HD10 := Lib.hid (HD7.out.of_now HCO.out)
          have HG10 := Lib.hid (cgetD HP10.out HD10.out (by omega) s hs)
          have H2 := two_both (s := s) (g := g) (i := i) (a := x3) (b := x4) (fun _ => none)
          rw [HG1.out] at H2
          rw [H2] at HG10
          clear hkf H2
          go_wp2_with fail
          refine HG10.out.mono ?_
          rintro e w11 ⟨v11, rfl, hl11, hb11⟩
          try dsimp only
          obtain ⟨b2, c2, A2, A3, c3, c4, hv11, _, hd2, hd3, hC82⟩ := hl11.two
          subst hv11
          have HDC := Lib.hid (HDA.out.below hb11)
          have HDD := Lib.hid hd2
          have HDE := Lib.hid hd3
          have HC82 := Lib.hid hC82
          have HC8' := Lib.hid (fun (W : World) (hW : Below w11.heap.size w11 W) => HC8.out W (hb11.trans (hW.mono hb11.size)))
          have HB11 : Hid (Below H w w11) := Lib.hid (HB10.out.1.trans (hb11.mono HZ10.out))
          have HZ11 : Hid (H ≤ w11.heap.size) := Lib.hid (Nat.le_trans HZ10.out hb11.size)
          have b0w := below_drewN 1 w11
          clear hl11 hb11 hd2 hd3 hC82 HC8 HDA
          go_wp2_with fail
          go_region_held (fun W => W.cell? ⟨b2, 0, none⟩ = some (.int .i64 ((oneP s g1 i x4).s : Int)) ∧ W.cell? ⟨b2, 1, none⟩ = some (.int .i64 ((oneP s g1 i x4).g : Int)) ∧ W.cell? ⟨b2, 2, none⟩ = some (.int .i64 ((oneP s g1 i x4).i : Int)) ∧ W.cell? ⟨b2, 3, none⟩ = some (.slice A2 32 c3) ∧ W.cell? ⟨b2, 4, none⟩ = some (.int .i64 ((oneP s g i x3).s : Int)) ∧ W.cell? ⟨b2, 5, none⟩ = some (.int .i64 ((oneP s g i x3).g : Int)) ∧ W.cell? ⟨b2, 6, none⟩ = some (.int .i64 ((oneP s g i x3).i : Int)) ∧ W.cell? ⟨b2, 7, none⟩ = some (.slice A3 32 c4) ∧ W.cell? ⟨b, 0, none⟩ = some (.int .i64 ((oneP s g1 i x4).s : Int)) ∧ W.cell? ⟨b, 1, none⟩ = some (.int .i64 ((oneP s g1 i x4).g : Int)) ∧ W.cell? ⟨b, 2, none⟩ = some (.int .i64 ((oneP s g1 i x4).i : Int)) ∧ W.cell? ⟨b, 3, none⟩ = some (.slice A0 32 c0) ∧ W.cell? ⟨b, 4, none⟩ = some (.int .i64 ((oneP s g i x3).s : Int)) ∧ W.cell? ⟨b, 5, none⟩ = some (.int .i64 ((oneP s g i x3).g : Int)) ∧ W.cell? ⟨b, 6, none⟩ = some (.int .i64 ((oneP s g i x3).i : Int)) ∧ W.cell? ⟨b, 7, none⟩ = some (.slice A1 32 c1))
            (first | assumption | exact ⟨(HC82.out _ b0w).1, (HC82.out _ b0w).2.1, (HC82.out _ b0w).2.2.1, (HC82.out _ b0w).2.2.2.1, (HC82.out _ b0w).2.2.2.2.1, (HC82.out _ b0w).2.2.2.2.2.1, (HC82.out _ b0w).2.2.2.2.2.2.1, (HC82.out _ b0w).2.2.2.2.2.2.2, HC8'.out _ b0w⟩ | exact ⟨(HC82.out _ hbW).1, (HC82.out _ hbW).2.1, (HC82.out _ hbW).2.2.1, (HC82.out _ hbW).2.2.2.1, (HC82.out _ hbW).2.2.2.2.1, (HC82.out _ hbW).2.2.2.2.2.1, (HC82.out _ hbW).2.2.2.2.2.2.1, (HC82.out _ hbW).2.2.2.2.2.2.2, HC8'.out _ hbW⟩)
            (first
              | (go_at_call 12; (with_reducible refine (lone s g i x3 _).mono ?_); rintro e w9 ⟨v9, rfl, hv9, hb9⟩; (try dsimp only); have HV9 := Lib.hid hv9; have hbW := b0w.trans (hb9.mono b0w.size); clear hv9 hb9)
              | (go_at_call 17; have hc := (csameV (v := pv ((oneP s g i x3).s : Int) ((oneP s g i x3).g : Int) ((oneP s g i x3).i : Int) A3 32 c4) (v' := v9) (p := oneP s g i x3) (q := oneP s g i x3) ⟨A3, c4, rfl, HDE.out.below hbW⟩ HV9.out HKA.out HKA.out true ⟨fun _ => Pc.Alike.refl _, fun _ => rfl⟩); (with_reducible refine hc.mono ?_); clear hc; rintro e w12 ⟨rfl, hb4⟩; (try dsimp only); have hbW4 := hbW.trans (hb4.mono hbW.size); clear hb4 hbW; have hbW := hbW4)
              | (go_at_call 17; have hc := (csameV (v := pv ((oneP s g1 i x4).s : Int) ((oneP s g1 i x4).g : Int) ((oneP s g1 i x4).i : Int) A2 32 c3) (v' := pv ((oneP s g1 i x4).s : Int) ((oneP s g1 i x4).g : Int) ((oneP s g1 i x4).i : Int) A0 32 c0) (p := oneP s g1 i x4) (q := oneP s g1 i x4) ⟨A2, c3, rfl, HDD.out.below hbW⟩ ⟨A0, c0, rfl, HDC.out.below hbW⟩ HKB.out HKB.out true ⟨fun _ => Pc.Alike.refl _, fun _ => rfl⟩); (with_reducible refine hc.mono ?_); clear hc; rintro e w13 ⟨rfl, hb4⟩; (try dsimp only); have hbW4 := hbW.trans (hb4.mono hbW.size); clear hb4 hbW; have hbW := hbW4)
              | fail)
          all_goals
            go_wp2_with fail
            go_ret
            exact ⟨rfl, HB11.out.trans (hbW.mono HZ11.out)⟩
        · have hkf2 : keepF (xs5.take k) 0 = false := by simpa using hkf
          rw [hkf2] at HCO ⊢
          rw [if_neg (by decide)] at HCO
          have HD10 := Lib.hid (HD5.out.of_now HCO.out)
          have HG10 := Lib.hid (cgetD HP10.out HD10.out (by omega) s hs)
          rw [two_one] at HG10
          clear hkf hkf2
          go_wp2_with fail
          refine HG10.out.mono ?_
          rintro e w11 ⟨v11, rfl, hl11, hb11⟩
          try dsimp only
          obtain ⟨b2, c2, A2, c3, hv11, _, hd2, hC82⟩ := hl11.one
          subst hv11
          have HDE := Lib.hid hd2
          have HC82 := Lib.hid hC82
          have HB11 : Hid (Below H w w11) := Lib.hid (HB10.out.1.trans (hb11.mono HZ10.out))
          have HZ11 : Hid (H ≤ w11.heap.size) := Lib.hid (Nat.le_trans HZ10.out hb11.size)
          have b0w := below_drewN 1 w11
          clear hl11 hb11 hd2 hC82 HC8 HDA
          go_wp2_with fail
          have wr0 : IntKind.i64.wrap 0 = 0 := by decide
          refine wp_region_held_drew (S := (fun W => W.cell? ⟨b2, 0, none⟩ = some (.int .i64 ((oneP s g i x3).s : Int)) ∧ W.cell? ⟨b2, 1, none⟩ = some (.int .i64 ((oneP s g i x3).g : Int)) ∧ W.cell? ⟨b2, 2, none⟩ = some (.int .i64 ((oneP s g i x3).i : Int)) ∧ W.cell? ⟨b2, 3, none⟩ = some (.slice A2 32 c3))) (by kernel_rfl) ?_ (fun hHeld => ?_)
          · exact HC82.out _ b0w
          refine wpAnyH_take (i := 0) (v := ?_) rfl (by kernel_rfl) (by kernel_rfl) (by kernel_rfl) (fun _ _ _ h => h) (Or.inl ⟨by rfl, ?_⟩) (by assumption) ?_
          rotate_left
          · intro w hSw; (try dsimp only at hSw); go_simp; (try with_reducible rfl)
          simp only [Act.put, List.getElem_toArray, List.getElem_cons_zero, List.setIfInBounds_toArray, List.set_cons_zero, List.set_cons_succ]
          refine wpAnyH_take (i := 1) (v := ?_) rfl (by kernel_rfl) (by kernel_rfl) (by kernel_rfl) (fun _ _ _ h => h) (Or.inl ⟨by rfl, ?_⟩) (by assumption) ?_
          rotate_left
          · intro w hSw; (try dsimp only at hSw); go_simp; (try with_reducible rfl)
          simp only [Act.put, List.getElem_toArray, List.getElem_cons_zero, List.getElem_cons_succ, List.setIfInBounds_toArray, List.set_cons_zero, List.set_cons_succ]
          refine wpAnyH_take (i := 2) (v := ?_) rfl (by kernel_rfl) (by kernel_rfl) (by kernel_rfl) (fun _ _ _ h => h) (Or.inl ⟨by rfl, ?_⟩) (by assumption) ?_
          rotate_left
          · intro w hSw; (try dsimp only at hSw); go_simp; (try with_reducible rfl)
          simp only [Act.put, List.getElem_toArray, List.getElem_cons_zero, List.getElem_cons_succ, List.setIfInBounds_toArray, List.set_cons_zero, List.set_cons_succ]
          refine wpAnyH_take (i := 3) (v := ?_) rfl (by kernel_rfl) (by kernel_rfl) (by kernel_rfl) (fun _ _ _ h => h) (Or.inl ⟨by rfl, ?_⟩) (by assumption) ?_
          rotate_left
          · intro w hSw; (try dsimp only at hSw); go_simp; (try with_reducible rfl)
          simp only [Act.put, List.getElem_toArray, List.getElem_cons_zero, List.getElem_cons_succ, List.setIfInBounds_toArray, List.set_cons_zero, List.set_cons_succ]
          refine wpAnyH_take (i := 4) (v := ?_) rfl (by kernel_rfl) (by kernel_rfl) (by kernel_rfl) (fun _ _ _ h => h) (Or.inl ⟨by rfl, ?_⟩) (by assumption) ?_
          rotate_left
          · intro w hSw; (try dsimp only at hSw); go_simp; (try with_reducible rfl)
          simp only [Act.put, List.getElem_toArray, List.getElem_cons_zero, List.getElem_cons_succ, List.setIfInBounds_toArray, List.set_cons_zero, List.set_cons_succ]
          refine wpAnyH_take (i := 5) (v := ?_) rfl (by kernel_rfl) (by kernel_rfl) (by kernel_rfl) (fun _ _ _ h => h) (Or.inl ⟨by rfl, ?_⟩) (by assumption) ?_
          rotate_left
          · intro w hSw; (try dsimp only at hSw); go_simp; (try with_reducible rfl)
          simp only [Act.put, List.getElem_toArray, List.getElem_cons_zero, List.getElem_cons_succ, List.setIfInBounds_toArray, List.set_cons_zero, List.set_cons_succ]
          refine wpAnyH_take (i := 6) (v := ?_) rfl (by kernel_rfl) (by kernel_rfl) (by kernel_rfl) (fun _ _ _ h => h) (Or.inl ⟨by rfl, ?_⟩) (by assumption) ?_
          rotate_left
          · intro w hSw; (try dsimp only at hSw); go_simp; (try with_reducible rfl)
          simp only [Act.put, List.getElem_toArray, List.getElem_cons_zero, List.getElem_cons_succ, List.setIfInBounds_toArray, List.set_cons_zero, List.set_cons_succ]
          refine wpAnyH_take (i := 7) (v := ?_) rfl (by kernel_rfl) (by kernel_rfl) (by kernel_rfl) (fun _ _ _ h => h) (Or.inl ⟨by rfl, ?_⟩) (by assumption) ?_
          rotate_left
          · intro w hSw; (try dsimp only at hSw); go_simp; (try with_reducible rfl)
          simp only [Act.put, List.getElem_toArray, List.getElem_cons_zero, List.getElem_cons_succ, List.setIfInBounds_toArray, List.set_cons_zero, List.set_cons_succ]
          refine wpAnyH_take (i := 8) (v := ?_) rfl (by kernel_rfl) (by kernel_rfl) (by kernel_rfl) (fun _ _ _ h => h) (Or.inl ⟨by rfl, ?_⟩) (by assumption) ?_
          rotate_left
          · intro w hSw; (try dsimp only at hSw); go_simp; (try with_reducible rfl)
          simp only [Act.put, List.getElem_toArray, List.getElem_cons_zero, List.getElem_cons_succ, List.setIfInBounds_toArray, List.set_cons_zero, List.set_cons_succ]
          refine wpAnyH_take (i := 9) (v := ?_) rfl (by kernel_rfl) (by kernel_rfl) (by kernel_rfl) (fun _ _ _ h => h) (Or.inl ⟨by rfl, ?_⟩) (by assumption) ?_
          rotate_left
          · intro w hSw; (try dsimp only at hSw); go_simp; (try with_reducible rfl)
          simp only [Act.put, List.getElem_toArray, List.getElem_cons_zero, List.getElem_cons_succ, List.setIfInBounds_toArray, List.set_cons_zero, List.set_cons_succ]
          refine wpAnyH_take (i := 10) (v := ?_) rfl (by kernel_rfl) (by kernel_rfl) (by kernel_rfl) (fun _ _ _ h => h) (Or.inl ⟨by rfl, ?_⟩) (by assumption) ?_
          rotate_left
          · intro w hSw; (try dsimp only at hSw); go_simp; (try with_reducible rfl)
          simp only [Act.put, List.getElem_toArray, List.getElem_cons_zero, List.getElem_cons_succ, List.setIfInBounds_toArray, List.set_cons_zero, List.set_cons_succ]
          refine wpAnyH_take (i := 11) (v := ?_) rfl (by kernel_rfl) (by kernel_rfl) (by kernel_rfl) (fun _ _ _ h => h) (Or.inl ⟨by rfl, ?_⟩) (by assumption) ?_
          rotate_left
          · intro w hSw; (try dsimp only at hSw); go_simp; (try with_reducible rfl)
          simp only [Act.put, List.getElem_toArray, List.getElem_cons_zero, List.getElem_cons_succ, List.setIfInBounds_toArray, List.set_cons_zero, List.set_cons_succ]
          refine wpAnyH_take (i := 12) (v := ?_) rfl (by kernel_rfl) (by kernel_rfl) (by kernel_rfl) (fun _ _ _ h => h) (Or.inl ⟨by rfl, ?_⟩) (by assumption) ?_
          rotate_left
          · intro w hSw; (try dsimp only at hSw); go_simp; (try with_reducible rfl)
          simp only [Act.put, List.getElem_toArray, List.getElem_cons_zero, List.getElem_cons_succ, List.setIfInBounds_toArray, List.set_cons_zero, List.set_cons_succ]
          refine wpAnyH_take (i := 13) (v := ?_) rfl (by kernel_rfl) (by kernel_rfl) (by kernel_rfl) (fun _ _ _ h => h) (Or.inl ⟨by rfl, ?_⟩) (by assumption) ?_
          rotate_left
          · intro w hSw; (try dsimp only at hSw); go_simp; (try with_reducible rfl)
          simp only [Act.put, List.getElem_toArray, List.getElem_cons_zero, List.getElem_cons_succ, List.setIfInBounds_toArray, List.set_cons_zero, List.set_cons_succ]
          refine wpAnyH_ready (rs := [14]) (by kernel_rfl) (by simp) ?_
          refine AllReadyH.cons rfl (fun K hK => ?_) AllReadyH.nil
          go_simp
          go_wp2_with fail
          refine (lone s g i x3 _).mono ?_
          rintro e w9 ⟨v9, rfl, hv9, hb9⟩
          try dsimp only
          have HV9 := Lib.hid hv9
          have hbW := b0w.trans (hb9.mono b0w.size)
          clear hv9 hb9
          refine hK.out _ _ ?_ (fun hHeld2 => ?_)
          · (try dsimp only); exact HC82.out _ hbW
          clear hK K hHeld
          have hHeld := hHeld2
          clear hHeld2
          refine wpAnyH_ready (rs := [15]) (by kernel_rfl) (by simp) ?_
          refine AllReadyH.cons rfl (fun K hK => ?_) AllReadyH.nil
          go_simp
          go_wp2_with fail
          have hc := (csameV (v := pv ((oneP s g i x3).s : Int) ((oneP s g i x3).g : Int) ((oneP s g i x3).i : Int) A2 32 c3) (v' := v9) (p := oneP s g i x3) (q := oneP s g i x3) ⟨A2, c3, rfl, HDE.out.below hbW⟩ HV9.out HKA.out HKA.out true ⟨fun _ => Pc.Alike.refl _, fun _ => rfl⟩)
          refine hc.mono ?_
          clear hc
          rintro e w12 ⟨rfl, hb4⟩
          try dsimp only
          have hbW4 := hbW.trans (hb4.mono hbW.size)
          clear hb4 hbW
          have hbW := hbW4
          clear hbW4
          refine hK.out _ _ ?_ (fun hHeld2 => ?_)
          · (try dsimp only); exact HC82.out _ hbW
          clear hK K hHeld
          have hHeld := hHeld2
          clear hHeld2
          refine wpAnyH_take (i := 16) (v := ?_) rfl (by kernel_rfl) (by kernel_rfl) (by kernel_rfl) (fun _ _ _ h => h) (Or.inl ⟨by rfl, ?_⟩) (by assumption) ?_
          rotate_left
          · intro w hSw; (try dsimp only at hSw); go_simp; (try with_reducible rfl)
          simp only [Act.put, List.getElem_toArray, List.getElem_cons_zero, List.getElem_cons_succ, List.setIfInBounds_toArray, List.set_cons_zero, List.set_cons_succ]
          refine wpAnyH_take (i := 17) (v := ?_) rfl (by kernel_rfl) (by kernel_rfl) (by kernel_rfl) (fun _ _ _ h => h) (Or.inl ⟨by rfl, ?_⟩) (by assumption) ?_
          rotate_left
          · intro w hSw; (try dsimp only at hSw); go_simp; (try with_reducible rfl)
          simp only [Act.put, List.getElem_toArray, List.getElem_cons_zero, List.getElem_cons_succ, List.setIfInBounds_toArray, List.set_cons_zero, List.set_cons_succ]
          refine wpAnyH_take (i := 18) (v := ?_) rfl (by kernel_rfl) (by kernel_rfl) (by kernel_rfl) (fun _ _ _ h => h) (Or.inl ⟨by rfl, ?_⟩) (by assumption) ?_
          rotate_left
          · intro w hSw; (try dsimp only at hSw); go_simp; (try with_reducible rfl)
          simp only [Act.put, List.getElem_toArray, List.getElem_cons_zero, List.getElem_cons_succ, List.setIfInBounds_toArray, List.set_cons_zero, List.set_cons_succ]
          refine wpAnyH_take (i := 19) (v := ?_) rfl (by kernel_rfl) (by kernel_rfl) (by kernel_rfl) (fun _ _ _ h => h) (Or.inl ⟨by rfl, ?_⟩) (by assumption) ?_
          rotate_left
          · intro w hSw; (try dsimp only at hSw); go_simp; (try with_reducible rfl)
          simp only [Act.put, List.getElem_toArray, List.getElem_cons_zero, List.getElem_cons_succ, List.setIfInBounds_toArray, List.set_cons_zero, List.set_cons_succ]
          refine wpAnyH_take (i := 20) (v := ?_) rfl (by kernel_rfl) (by kernel_rfl) (by kernel_rfl) (fun _ _ _ h => h) (Or.inl ⟨by rfl, ?_⟩) (by assumption) ?_
          rotate_left
          · intro w hSw; (try dsimp only at hSw); go_simp; (try with_reducible rfl)
          simp only [Act.put, List.getElem_toArray, List.getElem_cons_zero, List.getElem_cons_succ, List.setIfInBounds_toArray, List.set_cons_zero, List.set_cons_succ]
          refine wpAnyH_take (i := 21) (v := ?_) rfl (by kernel_rfl) (by kernel_rfl) (by kernel_rfl) (fun _ _ _ h => h) (Or.inl ⟨by rfl, ?_⟩) (by assumption) ?_
          rotate_left
          · intro w hSw; (try dsimp only at hSw); go_simp; (try with_reducible rfl)
          simp only [Act.put, List.getElem_toArray, List.getElem_cons_zero, List.getElem_cons_succ, List.setIfInBounds_toArray, List.set_cons_zero, List.set_cons_succ]
          refine wpAnyH_take (i := 22) (v := ?_) rfl (by kernel_rfl) (by kernel_rfl) (by kernel_rfl) (fun _ _ _ h => h) (Or.inl ⟨by rfl, ?_⟩) (by assumption) ?_
          rotate_left
          · intro w hSw; (try dsimp only at hSw); go_simp; (try with_reducible rfl)
          simp only [Act.put, List.getElem_toArray, List.getElem_cons_zero, List.getElem_cons_succ, List.setIfInBounds_toArray, List.set_cons_zero, List.set_cons_succ]
          refine wpAnyH_take (i := 23) (v := ?_) rfl (by kernel_rfl) (by kernel_rfl) (by kernel_rfl) (fun _ _ _ h => h) (Or.inl ⟨by rfl, ?_⟩) (by assumption) ?_
          rotate_left
          · intro w hSw; (try dsimp only at hSw); go_simp; (try with_reducible rfl)
          simp only [Act.put, List.getElem_toArray, List.getElem_cons_zero, List.getElem_cons_succ, List.setIfInBounds_toArray, List.set_cons_zero, List.set_cons_succ]
          refine wpAnyH_take (i := 24) (v := ?_) rfl (by kernel_rfl) (by kernel_rfl) (by kernel_rfl) (fun _ _ _ h => h) (Or.inl ⟨by rfl, ?_⟩) (by assumption) ?_
          rotate_left
          · intro w hSw; (try dsimp only at hSw); go_simp; (try with_reducible rfl)
          simp only [Act.put, List.getElem_toArray, List.getElem_cons_zero, List.getElem_cons_succ, List.setIfInBounds_toArray, List.set_cons_zero, List.set_cons_succ]
          refine wpAnyH_take (i := 25) (v := ?_) rfl (by kernel_rfl) (by kernel_rfl) (by kernel_rfl) (fun _ _ _ h => h) (Or.inl ⟨by rfl, ?_⟩) (by assumption) ?_
          rotate_left
          · intro w hSw; (try dsimp only at hSw); go_simp; (try with_reducible rfl)
          simp only [Act.put, List.getElem_toArray, List.getElem_cons_zero, List.getElem_cons_succ, List.setIfInBounds_toArray, List.set_cons_zero, List.set_cons_succ]
          refine wpAnyH_take (i := 26) (v := ?_) rfl (by kernel_rfl) (by kernel_rfl) (by kernel_rfl) (fun _ _ _ h => h) (Or.inl ⟨by rfl, ?_⟩) (by assumption) ?_
          rotate_left
          · intro w hSw; (try dsimp only at hSw); go_simp; (try with_reducible rfl)
          simp only [Act.put, List.getElem_toArray, List.getElem_cons_zero, List.getElem_cons_succ, List.setIfInBounds_toArray, List.set_cons_zero, List.set_cons_succ]
          refine wpAnyH_take (i := 27) (v := ?_) rfl (by kernel_rfl) (by kernel_rfl) (by kernel_rfl) (fun _ _ _ h => h) (Or.inl ⟨by rfl, ?_⟩) (by assumption) ?_
          rotate_left
          · intro w hSw; (try dsimp only at hSw); go_simp; (try with_reducible rfl)
          simp only [Act.put, List.getElem_toArray, List.getElem_cons_zero, List.getElem_cons_succ, List.setIfInBounds_toArray, List.set_cons_zero, List.set_cons_succ]
          refine wpAnyH_take (i := 28) rfl (by kernel_rfl) (by kernel_rfl) (by kernel_rfl) (fun _ _ _ h => h) (Or.inr ⟨by rfl, rfl⟩) (by assumption) ?_
          simp only [Act.put, List.getElem_toArray, List.getElem_cons_zero, List.getElem_cons_succ, List.setIfInBounds_toArray, List.set_cons_zero, List.set_cons_succ]
          refine wpAnyH_take (i := 29) rfl (by kernel_rfl) (by kernel_rfl) (by kernel_rfl) (fun _ _ _ h => h) (Or.inr ⟨by rfl, rfl⟩) (by assumption) ?_
          simp only [Act.put, List.getElem_toArray, List.getElem_cons_zero, List.getElem_cons_succ, List.setIfInBounds_toArray, List.set_cons_zero, List.set_cons_succ]
          refine wpAnyH_take (i := 30) rfl (by kernel_rfl) (by kernel_rfl) (by kernel_rfl) (fun _ _ _ h => h) (Or.inr ⟨by rfl, rfl⟩) (by assumption) ?_
          simp only [Act.put, List.getElem_toArray, List.getElem_cons_zero, List.getElem_cons_succ, List.setIfInBounds_toArray, List.set_cons_zero, List.set_cons_succ]
          refine wpAnyH_take (i := 31) rfl (by kernel_rfl) (by kernel_rfl) (by kernel_rfl) (fun _ _ _ h => h) (Or.inr ⟨by rfl, rfl⟩) (by assumption) ?_
          simp only [Act.put, List.getElem_toArray, List.getElem_cons_zero, List.getElem_cons_succ, List.setIfInBounds_toArray, List.set_cons_zero, List.set_cons_succ]
          refine wpAnyH_take (i := 32) rfl (by kernel_rfl) (by kernel_rfl) (by kernel_rfl) (fun _ _ _ h => h) (Or.inr ⟨by rfl, rfl⟩) (by assumption) ?_
          simp only [Act.put, List.getElem_toArray, List.getElem_cons_zero, List.getElem_cons_succ, List.setIfInBounds_toArray, List.set_cons_zero, List.set_cons_succ]
          refine wpAnyH_take (i := 33) rfl (by kernel_rfl) (by kernel_rfl) (by kernel_rfl) (fun _ _ _ h => h) (Or.inr ⟨by rfl, rfl⟩) (by assumption) ?_
          simp only [Act.put, List.getElem_toArray, List.getElem_cons_zero, List.getElem_cons_succ, List.setIfInBounds_toArray, List.set_cons_zero, List.set_cons_succ]
          refine wpAnyH_take (i := 34) rfl (by kernel_rfl) (by kernel_rfl) (by kernel_rfl) (fun _ _ _ h => h) (Or.inr ⟨by rfl, rfl⟩) (by assumption) ?_
          simp only [Act.put, List.getElem_toArray, List.getElem_cons_zero, List.getElem_cons_succ, List.setIfInBounds_toArray, List.set_cons_zero, List.set_cons_succ]
          refine wpAnyH_take (i := 35) (v := ?_) rfl (by kernel_rfl) (by kernel_rfl) (by kernel_rfl) (fun _ _ _ h => h) (Or.inl ⟨by rfl, ?_⟩) (by assumption) ?_
          rotate_left
          · intro w hSw; (try dsimp only at hSw); go_simp; (try with_reducible rfl)
          simp only [Act.put, List.getElem_toArray, List.getElem_cons_zero, List.getElem_cons_succ, List.setIfInBounds_toArray, List.set_cons_zero, List.set_cons_succ]
          refine wpAnyH_take (i := 36) (v := ?_) rfl (by kernel_rfl) (by kernel_rfl) (by kernel_rfl) (fun _ _ _ h => h) (Or.inl ⟨by rfl, ?_⟩) (by assumption) ?_
          rotate_left
          · intro w hSw; (try dsimp only at hSw); go_simp; (try with_reducible rfl)
          simp only [Act.put, List.getElem_toArray, List.getElem_cons_zero, List.getElem_cons_succ, List.setIfInBounds_toArray, List.set_cons_zero, List.set_cons_succ]
          refine wpAnyH_take (i := 37) (v := ?_) rfl (by kernel_rfl) (by kernel_rfl) (by kernel_rfl) (fun _ _ _ h => h) (Or.inl ⟨by rfl, ?_⟩) (by assumption) ?_
          rotate_left
          · intro w hSw; (try dsimp only at hSw); go_simp; (try with_reducible rfl)
          simp only [Act.put, List.getElem_toArray, List.getElem_cons_zero, List.getElem_cons_succ, List.setIfInBounds_toArray, List.set_cons_zero, List.set_cons_succ]
          refine wpAnyH_done (by kernel_rfl) ?_ _
          all_goals
            go_wp2_with fail
            go_ret
            exact ⟨rfl, HB11.out.trans (hbW.mono HZ11.out)⟩
end Go.Proofs.Yticaoknplpgjlaa
