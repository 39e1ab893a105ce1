import Derived.Test.YtofmilkjhnkgjaaNd9
import Derived.Test.YtofmilkjhnkgjaaNdQ
import Derived.Test.YtofmilkjhnkgjaaChG
import Derived.Test.YtofmilkjhnkgjaaD9
import Derived.Deep.RegionHeld
namespace Go.Proofs.Ytofmilkjhnkgjaa
open Go.RowKit Go.Sort
set_option maxRecDepth 100000
set_option maxHeartbeats 4000000

/-! What a law knows of a node's pieces. -/
def LatS (D : Nat → Ct) (s : Nat) : Option Pc → Prop
  | none => (D (2 * s)).pc? = none ∧ (D (2 * s + 1)).pc? = none
  | some q => q.Ok ∧ ∃ k, (k = 2 * s ∨ k = 2 * s + 1) ∧ D k = .pc q ∧ ∀ k' p', (k' = 2 * s ∨ k' = 2 * s + 1) → k' ≠ k → D k' = .pc p' → p'.g < q.g
structure LaI (D : Nat → Ct) (i : Nat) (f : Nat → Option Pc) : Prop where
  le : ∀ k p, D k = .pc p → p.g ≤ i
  st : ∀ s, s < 5 → LatS D s (f s)
theorem LaI.new : LaI (fun _ => .no) 0 (fun _ => none) := ⟨fun k p h => (by cases h), fun s _ => ⟨rfl, rfl⟩⟩
theorem LaI.lost {D : Nat → Ct} {i : Nat} {f : Nat → Option Pc} (h : LaI D i f) : LaI D (i + 1) f := ⟨fun k p e => Nat.le_succ_of_le (h.le k p e), h.st⟩
theorem LaI.put {D : Nat → Ct} {i : Nat} {f : Nat → Option Pc} (h : LaI D i f) {x : Pc} (hx : x.Ok) (hg : x.g = i + 1) : LaI (updC D (atP x, .pc x)) (i + 1) (fun s => if s = x.s then some x else f s) := by
  refine ⟨fun k p e => ?_, fun s hs => ?_⟩
  · unfold updC at e
    split at e
    · cases e; omega
    · exact Nat.le_succ_of_le (h.le k p e)
  · by_cases e : s = x.s
    · rw [if_pos e]
      refine ⟨hx, atP x, by unfold atP; omega, by unfold updC; rw [if_pos rfl], fun k' p' hk' hne e' => ?_⟩
      unfold updC at e'
      rw [if_neg hne] at e'
      have := h.le k' p' e'
      omega
    · rw [if_neg e]
      have h1 : updC D (atP x, .pc x) (2 * s) = D (2 * s) := by unfold updC; exact if_neg (by dsimp only; unfold atP; omega)
      have h2 : updC D (atP x, .pc x) (2 * s + 1) = D (2 * s + 1) := by unfold updC; exact if_neg (by dsimp only; unfold atP; omega)
      have := h.st s hs
      cases hf : f s with
      | none =>
        rw [hf] at this
        exact ⟨by rw [h1]; exact this.1, by rw [h2]; exact this.2⟩
      | some q =>
        rw [hf] at this
        obtain ⟨a, k, b, c, d⟩ := this
        have hk : updC D (atP x, .pc x) k = D k := by rcases b with rfl | rfl; exact h1; exact h2
        refine ⟨a, k, b, hk.trans c, fun k' p' hk' hne e' => d k' p' hk' hne ?_⟩
        rcases hk' with rfl | rfl
        · rw [← h1]; exact e'
        · rw [← h2]; exact e'
theorem LatS.none_ {D : Nat → Ct} {s : Nat} (h : LatS D s none) : two (D (2 * s)).pc? (D (2 * s + 1)).pc? = [] := by
  obtain ⟨a, b⟩ := h
  rw [a, b]
  rfl
theorem LatS.top {D : Nat → Ct} {s : Nat} {q : Pc} (h : LatS D s (some q)) : ∃ l, two (D (2 * s)).pc? (D (2 * s + 1)).pc? = q :: l := by
  obtain ⟨_, k, hk, he, hl⟩ := h
  unfold two
  rcases hk with rfl | rfl
  · rw [he]
    cases hb : (D (2 * s + 1)).pc? with
    | none => exact ⟨[], rfl⟩
    | some y =>
      have := hl (2 * s + 1) y (Or.inr rfl) (by omega) (pc?_some hb)
      show ∃ l, srt [q, y] = q :: l
      rw [srt2, if_neg (by omega)]
      exact ⟨[y], rfl⟩
  · rw [he]
    cases hb : (D (2 * s)).pc? with
    | none => exact ⟨[], rfl⟩
    | some y =>
      have := hl (2 * s) y (Or.inl rfl) (by omega) (pc?_some hb)
      show ∃ l, srt [y, q] = q :: l
      rw [srt2, if_pos (by omega)]
      exact ⟨[y], rfl⟩
theorem Quiet.mono {a : Ns} {D : Nat → Ct} {m b b' : Nat} (h : Quiet a D m b) (hb : b ≤ b') : Quiet a D m b' := ⟨h.t, h.nw, h.last, Nat.le_trans h.boot hb⟩
def LaL (w : World) (n p i mp : Nat) (v : World) : Prop := ∃ a D f, NdL w n p a v ∧ Quiet a D i (1 + i) ∧ MPL v mp i f ∧ w.heap.size ≤ mp ∧ LaI D i f
theorem LaL.below {w : World} {n p i mp : Nat} {v v' : World} (h : LaL w n p i mp v) (b : Below v.heap.size v v') : LaL w n p i mp v' := by
  obtain ⟨a, D, f, h1, h2, h3, h4, h5⟩ := h
  exact ⟨a, D, f, h1.below b, h2, h3.below b, h4, h5⟩
theorem nodeLast (A0 : Option Addr) (L : List RQ) (c0 : Nat) (A1 : Option Addr) (xs : List Int) (c1 : Nat) (lose : Bool) (w : World) (hR : RQsIn w A0 L) (hl : L.length ≤ 9223372036854775807) (hN : Nums w A1 xs) (hl1 : xs.length ≤ 9223372036854775807) :
    Calls Try.prog 5 #[.slice A0 L.length c0, .slice A1 xs.length c1, .bool lose] w fun e w' => e = .returned (.bool true) ∧ Below w.heap.size w w' := by
  have hf0 := rep_f0
  have hf2 := rep_f2
  have hmk : ∀ W : World, Sem.run Try.prog (Instr.makeMap 47 none) W = .ok (.map (some W.heap.size)) (W.alloc (.map #[] 0)) := fun W => run_makeMap _ W
  have HN := Lib.hid (nl_new (Below.refl w.heap.size w))
  have HRQ := Lib.hid hR
  have HNN := Lib.hid hN
  have HL1 := Lib.hid hl1
  obtain ⟨m, hm⟩ : ∃ m, L.length = m := ⟨_, rfl⟩
  rw [hm] at hl ⊢
  have HM := Lib.hid hm
  obtain ⟨m1, hm1⟩ : ∃ m1, xs.length = m1 := ⟨_, rfl⟩
  rw [hm1]
  have HM1 := Lib.hid hm1
  obtain ⟨m25, hm25⟩ : ∃ m25, m25 = min m 25 := ⟨_, rfl⟩
  have l25 : m25 ≤ 25 := by omega
  have lm : m25 ≤ m := by omega
  have H25 : Hid (∀ i : Nat, i = m25 → m ≤ i ∨ 25 ≤ i) := Lib.hid (by omega)
  clear hN hR hm hm25 hl1 hm1
  go_enter Try.func5, Try.ntmps5
  go_wp2_with fail
  refine HN.out.mono ?_
  rintro e w1 ⟨n, p, rfl, hn1⟩
  try dsimp only
  have HN1 := Lib.hid hn1
  have HK := Lib.hid (lknown10 w1)
  clear hn1 HN
  go_wp2_with fail
  refine HK.out.mono ?_
  rintro e w2 ⟨rfl, hb2⟩
  try dsimp only
  have HN2 := Lib.hid (HN1.out.below hb2)
  obtain ⟨w3, hw3⟩ : ∃ w3, w2.alloc (.map #[] 0) = w3 := ⟨_, rfl⟩
  have HW3 := Lib.hid hw3
  obtain ⟨mp, hmp⟩ : ∃ mp, w2.heap.size = mp := ⟨_, rfl⟩
  have HMP := Lib.hid hmp
  have hb3 : Below w2.heap.size w2 w3 := by rw [← hw3]; exact (Below.refl _ _).alloc (Nat.le_refl _) _
  have HV0 : Hid (LaL w n p 0 mp w3) := Lib.hid ⟨_, _, _, HN2.out.below hb3, Quiet.new, by rw [← hw3, ← hmp]; exact MPL.made w2, by rw [← hmp]; exact HN2.out.blw.size, LaI.new⟩
  clear hb2 hb3 hw3 hmp HK HN1 HN2
  go_upto_region 5 with fail
  rw [HW3.out, HMP.out]
  clear HW3 HMP
  go_wp2_with fail
  go_loopg [9] 25 (fun q s9 v => ∃ i : Nat, s9 = .int .i64 (i : Int) ∧ i ≤ m25 ∧ q = 25 - i ∧ Hid (LaL w n p i mp v))
  case atStart => exact ⟨0, rfl, by omega, rfl, HV0⟩
  case round =>
    obtain ⟨i, rfl, hi, rfl, HV⟩ := hrel
    clear HV0
    by_cases hlt : i < m25
    · obtain ⟨a, D, f, ha, hq, hmap, hmpB, hla⟩ := HV.out
      have HA := Lib.hid ha
      have HQ := Lib.hid hq
      have HMAP := Lib.hid hmap
      have HMPB := Lib.hid hmpB
      have HLA := Lib.hid hla
      have hl1 : (i : Int) < (m : Int) := by omega
      have hl2 : (i : Int) < 25 := by omega
      have him : i < m := by omega
      have hi25 : Hid (i < 25) := Lib.hid (by omega)
      obtain ⟨x, hx⟩ : ∃ x, L[i]? = some x := ⟨_, List.getElem?_eq_getElem (by rw [HM.out]; exact him)⟩
      obtain ⟨g0, o0, hA0, hg0, k0, k1, k2, k3, k4, k5⟩ := HRQ.out i x hx
      subst hA0
      have HCE : Hid (∀ v, Below w.heap.size w v → v.cell? ⟨g0, o0 + i * 6 + 1, none⟩ = some (.int .i64 x.stripe) ∧ v.cell? ⟨g0, o0 + i * 6 + 3, none⟩ = some (.int .i64 x.index) ∧ v.cell? ⟨g0, o0 + i * 6 + 4, none⟩ = some (.int .i64 x.seed) ∧ v.cell? ⟨g0, o0 + i * 6 + 5, none⟩ = some (.int .i64 x.bend)) := Lib.hid (fun v hb => ⟨(hb.cell (p := ⟨g0, o0 + i * 6 + 1, none⟩) hg0).trans k1, (hb.cell (p := ⟨g0, o0 + i * 6 + 3, none⟩) hg0).trans k3, (hb.cell (p := ⟨g0, o0 + i * 6 + 4, none⟩) hg0).trans k4, (hb.cell (p := ⟨g0, o0 + i * 6 + 5, none⟩) hg0).trans k5⟩)
      clear hx hg0 k0 k1 k2 k3 k4 k5 ha hq hmap hmpB hla HV
      obtain ⟨s5, hs5, hpk⟩ := rpickN x.stripe 5 (by omega) (by omega)
      have HPK : Hid (∀ W, Calls Try.prog 16 #[.int .i64 x.stripe, .int .i64 5] W fun e w' => e = .returned (.int .i64 (s5 : Int)) ∧ w' = W) := Lib.hid hpk
      obtain ⟨ix, hix, hix6⟩ : ∃ ix : Nat, x.index % 6 = (ix : Int) ∧ ix < 6 := ⟨(x.index % 6).toNat, by have := Int.emod_nonneg x.index (show (6 : Int) ≠ 0 by omega); omega, by have := Int.emod_nonneg x.index (show (6 : Int) ≠ 0 by omega); have := Int.emod_lt_of_pos x.index (show (0 : Int) < 6 by omega); omega⟩
      have HGP : Hid (∀ W, Calls Try.prog 17 #[.int .i64 (s5 : Int), .int .i64 (i : Int), .int .i64 x.index, .int .i64 x.seed, .int .i64 0] W (GPRet (s5 : Int) (1 + (i : Int) % 9) (ix : Int) 32 x.seed W)) := Lib.hid (fun W => by
        have h := gpiece0 (s5 : Int) (i : Int) x.index x.seed 0 W rfl rfl rfl rfl rfl
        rw [hix, show (s5 : Int) % 40 = (s5 : Int) by omega] at h
        exact h)
      have HBL : Hid (Below w.heap.size w wr) := Lib.hid HA.out.blw
      have HB1 : Hid (∀ W, Below wr.heap.size wr W → Below w.heap.size w W) := Lib.hid (fun W hW => HBL.out.trans (hW.mono HBL.out.size))
      obtain ⟨G9, hG9⟩ : ∃ G9, 1 + (i : Int) % 9 = G9 := ⟨_, rfl⟩
      rw [hG9] at HGP
      clear hpk hix hG9
      go_upto_region 8 with fail
      go_cut [10] from 33 to 50 (fun s10 wx => ∃ pb gb, s10 = .pointer (some ⟨pb, 0, none⟩) ∧ Hid (PV wx pb (s5 : Int) G9 (ix : Int) (some ⟨gb, 0, none⟩) 32 32 ∧ Blk8 wx gb 32 (bytesF x.seed) ∧ Below wr.heap.size wr wx ∧ wr.heap.size ≤ pb))
      case first =>
        have BD : Hid (Below wr.heap.size wr wr.drew) := Lib.hid (below_drewN 1 wr)
        have BA : Hid (∀ o, Below wr.heap.size wr (wr.alloc o).drew) := Lib.hid (fun o => ((Below.refl _ _).alloc (Nat.le_refl _) o).drew)
        have HV0 : Hid (PV (wr.alloc (.cells #[.int .i64 0, .int .i64 0, .int .i64 0, .slice none 0 0] 44)).drew wr.heap.size 0 0 0 none 0 0) := Lib.hid (PV.new wr 0 0 0 none 0 0)
        go_wp2_with fail
        go_region_held (fun W => W.cell? ⟨g0, o0 + i * 6 + 1, none⟩ = some (.int .i64 x.stripe) ∧ W.cell? ⟨g0, o0 + i * 6 + 3, none⟩ = some (.int .i64 x.index) ∧ W.cell? ⟨g0, o0 + i * 6 + 4, none⟩ = some (.int .i64 x.seed) ∧ W.cell? ⟨g0, o0 + i * 6 + 5, none⟩ = some (.int .i64 x.bend))
          (first | (with_reducible assumption) | (with_reducible exact HCE.out _ (HB1.out _ BD.out)) | (with_reducible exact HCE.out _ (HB1.out _ (BA.out _))) | (with_reducible exact HCE.out _ (HB1.out _ hbW)) | (with_reducible exact HCE.out _ (HB1.out _ (hbW.alloc hbW.size _))) | (with_reducible exact HCE.out _ (HB1.out _ (below_put4 hbW HLE.out _ _ _ _))))
          (first
            | (go_at_call 16; (with_reducible refine (HPK.out _).mono ?_); rintro e w' ⟨rfl, rfl⟩; (try dsimp only))
            | (go_at_call 17; (with_reducible refine (HGP.out wr.drew).mono ?_); rintro e w5 ⟨gb, rfl, kb, hb5, hl5⟩; (try dsimp only); have hbW := BD.out.trans (hb5.mono BD.out.size); have KB := Lib.hid kb; clear kb hb5 hl5)
            | (go_at_call 17; (with_reducible refine (HGP.out _).mono ?_); rintro e w5 ⟨gb, rfl, kb, hb5, hl5⟩; (try dsimp only); have hbW := (BA.out _).trans (hb5.mono (BA.out _).size); have HV5 := Lib.hid (HV0.out.below hb5); have HLE := Lib.hid (Nat.le_refl wr.heap.size); have vf := HV5.out.f; have v0 := HV5.out.c0; have v1 := HV5.out.c1; have v2 := HV5.out.c2; have v3 := HV5.out.c3; have KB := Lib.hid kb; clear kb hb5 hl5)
            | fail)
        all_goals
          go_wp2_with fail
          go_meet
          first
            | exact ⟨_, gb, rfl, Lib.hid ⟨HV5.out.put, KB.out.far4 HV5.out, below_put4 hbW (Nat.le_refl _) _ _ _ _, Nat.le_refl _⟩⟩
            | exact ⟨_, gb, rfl, Lib.hid ⟨PV.new _ _ _ _ _ _ _, KB.out.below ((Below.refl _ _).alloc (Nat.le_refl _) _), hbW.alloc hbW.size _, hbW.size⟩⟩
      case rest =>
        obtain ⟨pb, gb, rfl, HC⟩ := hcut
        have HPV := Lib.hid HC.out.1
        have HKB := Lib.hid HC.out.2.1
        have HBC := Lib.hid HC.out.2.2.1
        have HPB : Hid (w.heap.size ≤ pb) := Lib.hid (Nat.le_trans HBL.out.size HC.out.2.2.2)
        have HAc := Lib.hid (HA.out.below HBC.out)
        have HMc := Lib.hid (HMAP.out.below HBC.out)
        clear HC HPK HGP HB1
        obtain ⟨g1, hg1⟩ : ∃ g1, i + 1 = g1 := ⟨_, rfl⟩
        have HG1 := Lib.hid hg1
        have hwg : IntKind.i64.wrap (1 + (i : Int)) = (g1 : Int) := by rw [IntWalk.i64_in _ (by omega)]; omega
        have hwg2 : IntKind.i64.wrap ((i : Int) + 1) = (g1 : Int) := by rw [IntWalk.i64_in _ (by omega)]; omega
        obtain ⟨y1, hy1⟩ : ∃ y1, wc.setCell ⟨pb, 1, none⟩ (.int .i64 (g1 : Int)) = y1 := ⟨_, rfl⟩
        have HY1 := Lib.hid hy1
        have HP1 : Hid (PV y1 pb (s5 : Int) (g1 : Int) (ix : Int) (some ⟨gb, 0, none⟩) 32 32) := Lib.hid (by rw [← hy1]; exact HPV.out.put_g)
        have HK1 : Hid (Blk8 y1 gb 32 (bytesF x.seed)) := Lib.hid (by rw [← hy1]; exact HKB.out.far HPV.out (by decide))
        have HA1 : Hid (NdL w n p a y1) := Lib.hid (by rw [← hy1]; exact HAc.out.set HPV.out HPB.out (by decide) (by decide) (by decide) (by decide) (by decide) (by decide) (by decide))
        have HM1 : Hid (MPL y1 mp i f) := Lib.hid (by rw [← hy1]; exact HMc.out.set HPV.out (by decide))
        have v1 := HPV.out.c1
        have vf := HPV.out.f
        clear hy1 hg1
        go_upto_region 10 with fail
        rw [HY1.out]
        clear HY1 v1 vf HPV HKB HBC HAc HMc HA HMAP
        have p0 := HP1.out.c0
        have p1 := HP1.out.c1
        have p2 := HP1.out.c2
        have p3 := HP1.out.c3
        have HPT := Lib.hid (nl_put HA1.out HQ.out (by have := hi25.out; omega) s5 g1 ix (bytesF x.seed) (some ⟨gb, 0, none⟩) 32 (DatN.blk HK1.out) (fun j _ => bytesF_lt _ j) (by omega) (by have := HG1.out; omega) (by have := HG1.out; have := hi25.out; omega) hix6)
        unfold rqv at HPT
        go_wp2_with fail
        refine HPT.out.mono ?_
        rintro e v2 ⟨B9, c9, D9, d9, b, rfl, hn2, hp2, hk2⟩
        unfold rpv
        try dsimp only
        have HN2 := Lib.hid hn2
        have HPP := Lib.hid hp2
        have HP2 := Lib.hid (HP1.out.keepN hk2)
        have HK2 := Lib.hid (HK1.out.keepN hk2)
        have HM2 := Lib.hid (HM1.out.keepN hk2)
        obtain ⟨q1, q2, q3, q4⟩ := HCE.out v2 HN2.out.blw
        have HOK : Hid ((pcAt s5 g1 ix (bytesF x.seed)).Ok) := Lib.hid ⟨by show s5 < 40; omega, by show 1 ≤ g1; have := HG1.out; omega, by show g1 ≤ _; have := HG1.out; have := hi25.out; omega, hix6, fun j _ => bytesF_lt _ j⟩
        clear hn2 hp2 hk2 HPT HP1 HK1 HM1 HA1 p0 p1 p2 p3 q1 q2 q3
        by_cases he : x.bend.tmod 2 = 0
        · have e2 : (x.bend.tmod 2 == 0) = true := beq_iff_eq.2 he
          clear he
          have HFL := Lib.hid (nl_flushP HN2.out HPP.out (by have := hi25.out; omega))
          unfold rqv at HFL
          go_wp2_with fail
          refine HFL.out.mono ?_
          rintro e v3 ⟨B4, c4, D4, d4, a6, rfl, hn3, hq3, _, hk3⟩
          unfold rpv
          try dsimp only
          have HN3 := Lib.hid hn3
          have HQ3 := Lib.hid hq3
          have HP3 := Lib.hid (HP2.out.keepN hk3)
          have HK3 := Lib.hid (HK2.out.keepN hk3)
          have HM3 := Lib.hid (HM2.out.keepN hk3)
          clear hn3 hq3 hk3 HFL HN2 HPP HP2 HK2 HM2 q4
          obtain ⟨q1, q2, q3, q4⟩ := HCE.out v3 HN3.out.blw
          clear q1 q2 q3
          have p0 := HP3.out.c0
          have p1 := HP3.out.c1
          have p2 := HP3.out.c2
          have p3 := HP3.out.c3
          obtain ⟨fv, hmp, hfv⟩ := HM3.out
          have HMP := Lib.hid hmp
          have HFV := Lib.hid hfv
          clear hmp hfv
          go_wp2_with (refine mapP_put _ rfl (.tmp 88) (.tmp 90) (.tmp 91) rfl mp i s5 _ fv rfl rfl rfl HMP.out (by omega) (by omega) ?_; intro v4 hm4 hg4; have HM4 := Lib.hid hm4; have HG4 := Lib.hid hg4; clear hm4 hg4)
          go_roundg (25 - (i + 1))
          case measure => omega
          case rel =>
            obtain ⟨es, clock, hb⟩ := HMP.out.block
            refine ⟨i + 1, by have := HG1.out; go_num, by omega, rfl, Lib.hid ⟨_, _, _, HN3.out.map hb HMPB.out HG4.out, HQ3.out.mono (by omega), MPL.put HFV.out ⟨es, clock, hb⟩ HM4.out HG4.out (q := pcAt s5 g1 ix (bytesF x.seed)) ⟨_, _, rfl, Dat.blk HK3.out⟩, HMPB.out, HLA.out.put HOK.out HG1.out.symm⟩⟩
        · have e2 : (x.bend.tmod 2 == 0) = false := beq_eq_false_iff_ne.2 he
          clear he
          have HCR := Lib.hid (nl_crashP0 HN2.out HPP.out (by have := hi25.out; omega) (by have := hi25.out; omega))
          go_wp2_with fail
          refine HCR.out.mono ?_
          rintro e v3 ⟨a6, rfl, hn3, hq3, _, hk3⟩
          try dsimp only
          have HN3 := Lib.hid hn3
          have HQ3 := Lib.hid hq3
          have HM3 := Lib.hid (HM2.out.keepN hk3)
          clear hn3 hq3 hk3 HCR HN2 HPP HP2 HK2 HM2 q4
          go_wp2_with fail
          go_roundg (25 - (i + 1))
          case measure => omega
          case rel =>
            obtain ⟨fv, hmp, hfv⟩ := HM3.out
            exact ⟨i + 1, by have := HG1.out; go_num, by omega, rfl, Lib.hid ⟨_, _, _, HN3.out, HQ3.out.mono (by omega), ⟨fv, (by obtain ⟨D', hD, h2⟩ := hmp; exact ⟨D', hD.mono (Nat.le_succ _), h2⟩), hfv⟩, HMPB.out, HLA.out.lost⟩⟩
    · obtain rfl : i = m25 := by omega
      obtain ⟨a, D, f, ha, hq, hmap, hmpB, hla⟩ := HV.out
      have HCR0 := Lib.hid (nl_crashQ ha hq (by omega) (by omega) A1 xs c1 (HNN.out.keep ha.blw) HL1.out)
      rw [HM1.out] at HCR0
      have HMAP := Lib.hid hmap
      have HLA := Lib.hid hla
      by_cases him : i < m
      · have hl1 : (i : Int) < (m : Int) := by omega
        have hl2 : ¬ (i : Int) < 25 := by rcases H25.out i rfl with h | h <;> omega
        clear ha hq hmap hmpB hla HV
        go_wp2_with fail
        refine HCR0.out.mono ?_
        rintro e v1 ⟨b1, rfl, hn1, hq1, _, hk1⟩
        try dsimp only
        have HN1 := Lib.hid hn1
        have HQ1 := Lib.hid hq1
        have HM1b := Lib.hid (HMAP.out.keepN hk1)
        clear hn1 hq1 hk1 HCR0 HMAP
        cases lose with
        | true =>
          have HLS := Lib.hid (nl_loseQ HN1.out HQ1.out (by omega) (by omega))
          go_wp2_with fail
          refine HLS.out.mono ?_
          rintro e v9 ⟨b9, rfl, hn9, hq9, _, hk9⟩
          try dsimp only
          have HN9 := Lib.hid hn9
          have HQ9 := Lib.hid hq9
          have HM9 := Lib.hid (HM1b.out.keepN hk9)
          clear hn9 hq9 hk9 HLS HN1 HQ1 HM1b
          have HV9 : Hid (NdL w n p b9 v9 ∧ MPL v9 mp i f) := Lib.hid ⟨HN9.out, HM9.out⟩
          clear HN9 HM9
          go_wp2_with fail
          go_loopg [11] 5 (fun q s11 v => ∃ s : Nat, s11 = .int .i64 (s : Int) ∧ s ≤ 5 ∧ q = 5 - s ∧ Hid (NdL w n p b9 v ∧ MPL v mp i f))
          case atStart => exact ⟨0, rfl, by omega, rfl, HV9⟩
          case round =>
            obtain ⟨s, rfl, hs, rfl, HV⟩ := hrel
            clear HV9
            by_cases hlt : s < 5
            · have hl5 : (s : Int) < 5 := by omega
              have hws : IntKind.i64.wrap ((s : Int) + 1) = ((s + 1 : Nat) : Int) := by rw [IntWalk.i64_in _ (by omega)]; omega
              have HGT := Lib.hid (nl_get HV.out.1 HQ9.out (by omega) s (by omega))
              unfold rqv at HGT
              go_wp2_with fail
              refine HGT.out.mono ?_
              rintro e v2 ⟨B2, lp, c2, E2, e2, rfl, hn2, hlp, hpl, hk2⟩
              unfold rpv
              try dsimp only
              have HN2 := Lib.hid hn2
              have HPL2 := Lib.hid hpl
              have HM2 := Lib.hid (HV.out.2.keepN hk2)
              clear hn2 hpl hk2 HGT HV
              obtain ⟨fv, hmp, hfv⟩ := HM2.out
              have hlk := hmp.look (show s < 1000 by omega)
              have hcase := hfv s (by omega)
              clear hmp hfv
              rcases hcase with ⟨hf, hv⟩ | ⟨q, val, hf, hv, hpc⟩
              · rw [hv] at hlk
                dsimp only at hlk
                have hnil : two ((fun _ => Ct.no) (2 * s)).pc? ((fun _ => Ct.no) (2 * s + 1)).pc? = [] := rfl
                rw [hnil] at hlp
                obtain rfl : lp = 0 := hlp
                have HBZ : Hid (∀ o, NdL w n p b9 (v2.alloc o) ∧ MPL (v2.alloc o) mp i f) := Lib.hid (fun o => ⟨HN2.out.below ((Below.refl _ _).alloc (Nat.le_refl _) _), HM2.out.below ((Below.refl _ _).alloc (Nat.le_refl _) _)⟩)
                clear hnil hf hv
                go_wp2_with fail
                go_roundg (5 - (s + 1))
                case measure => omega
                case rel => exact ⟨s + 1, rfl, by omega, rfl, Lib.hid (HBZ.out _)⟩
              · rw [hv] at hlk
                obtain ⟨Av, cv, rfl, hdv⟩ := hpc
                dsimp only at hlk
                unfold pv at hlk
                have hnil : two ((fun _ => Ct.no) (2 * s)).pc? ((fun _ => Ct.no) (2 * s + 1)).pc? = [] := rfl
                rw [hnil] at hlp
                obtain rfl : lp = 0 := hlp
                have HBZ : Hid (∀ o, NdL w n p b9 (v2.alloc o) ∧ MPL (v2.alloc o) mp i f) := Lib.hid (fun o => ⟨HN2.out.below ((Below.refl _ _).alloc (Nat.le_refl _) _), HM2.out.below ((Below.refl _ _).alloc (Nat.le_refl _) _)⟩)
                clear hnil hf hv hdv
                go_wp2_with fail
                go_roundg (5 - (s + 1))
                case measure => omega
                case rel => exact ⟨s + 1, rfl, by omega, rfl, Lib.hid (HBZ.out _)⟩
            · obtain rfl : s = 5 := by omega
              have HB := Lib.hid HV.out.1.blw
              go_wp2_with fail
              go_ret
              exact ⟨rfl, HB.out⟩
        | false =>
          have HN9 := HN1
          have HQ9 := HQ1
          have HM9 := HM1b
          clear HN1 HQ1 HM1b
          have HV9 : Hid (NdL w n p b1 v1 ∧ MPL v1 mp i f) := Lib.hid ⟨HN9.out, HM9.out⟩
          clear HN9 HM9
          go_wp2_with fail
          go_loopg [11] 5 (fun q s11 v => ∃ s : Nat, s11 = .int .i64 (s : Int) ∧ s ≤ 5 ∧ q = 5 - s ∧ Hid (NdL w n p b1 v ∧ MPL v mp i f))
          case atStart => exact ⟨0, rfl, by omega, rfl, HV9⟩
          case round =>
            obtain ⟨s, rfl, hs, rfl, HV⟩ := hrel
            clear HV9
            by_cases hlt : s < 5
            · have hl5 : (s : Int) < 5 := by omega
              have hws : IntKind.i64.wrap ((s : Int) + 1) = ((s + 1 : Nat) : Int) := by rw [IntWalk.i64_in _ (by omega)]; omega
              have HGT := Lib.hid (nl_get HV.out.1 HQ9.out (by omega) s (by omega))
              unfold rqv at HGT
              go_wp2_with fail
              refine HGT.out.mono ?_
              rintro e v2 ⟨B2, lp, c2, E2, e2, rfl, hn2, hlp, hpl, hk2⟩
              unfold rpv
              try dsimp only
              have HN2 := Lib.hid hn2
              have HPL2 := Lib.hid hpl
              have HM2 := Lib.hid (HV.out.2.keepN hk2)
              clear hn2 hpl hk2 HGT HV
              obtain ⟨fv, hmp, hfv⟩ := HM2.out
              have hlk := hmp.look (show s < 1000 by omega)
              have hcase := hfv s (by omega)
              clear hmp hfv
              rcases hcase with ⟨hf, hv⟩ | ⟨q, val, hf, hv, hpc⟩
              · rw [hv] at hlk
                dsimp only at hlk
                have hnil : two (D (2 * s)).pc? (D (2 * s + 1)).pc? = [] := LatS.none_ (by have := HLA.out.st s hlt; rw [hf] at this; exact this)
                rw [hnil] at hlp
                obtain rfl : lp = 0 := hlp
                have HBZ : Hid (∀ o, NdL w n p b1 (v2.alloc o) ∧ MPL (v2.alloc o) mp i f) := Lib.hid (fun o => ⟨HN2.out.below ((Below.refl _ _).alloc (Nat.le_refl _) _), HM2.out.below ((Below.refl _ _).alloc (Nat.le_refl _) _)⟩)
                clear hnil hf hv
                go_wp2_with fail
                go_roundg (5 - (s + 1))
                case measure => omega
                case rel => exact ⟨s + 1, rfl, by omega, rfl, Lib.hid (HBZ.out _)⟩
              · rw [hv] at hlk
                obtain ⟨Av, cv, rfl, hdv⟩ := hpc
                dsimp only at hlk
                unfold pv at hlk
                obtain ⟨lq, hq1⟩ := LatS.top (by have := HLA.out.st s hlt; rw [hf] at this; exact this : LatS D s (some q))
                rw [hq1] at hlp
                have HPLq : Hid (PL v2 wr.heap.size (.slice B2 lp c2) (q :: lq)) := Lib.hid (by have := HPL2.out; rw [hq1] at this; exact this)
                have HQO : Hid (∀ j, j < 32 → q.D j < 256) := Lib.hid (by have := HLA.out.st s hlt; rw [hf] at this; exact this.1.2.2.2.2)
                obtain ⟨bp, cp, A7, d7, hB2, _, hbl, z0, z1, z2, z3, hd7⟩ := HPLq.out.at (i := 0) rfl
                injection hB2 with eB1 eB2 eB3
                subst eB1 eB3
                clear eB2
                have hlp0 : ((lp : Int) == 0) = false := beq_eq_false_iff_ne.2 (by rw [hlp]; simp only [List.length_cons]; omega)
                have hlp1 : (0 : Int) < (lp : Int) := by rw [hlp]; simp only [List.length_cons]; omega
                have hlp2 : 0 < lp := by rw [hlp]; simp
                have hlp3 : (lp == 0) = false := beq_eq_false_iff_ne.2 (by omega)
                obtain ⟨x13, hx13⟩ : ∃ x13, v2.alloc (.cells #[.int .i64 (q.s : Int), .int .i64 (q.g : Int), .int .i64 (q.i : Int), .slice Av 32 cv] 44) = x13 := ⟨_, rfl⟩
                have HX13 := Lib.hid hx13
                obtain ⟨a13, ha13⟩ : ∃ a13, v2.heap.size = a13 := ⟨_, rfl⟩
                have HA13 := Lib.hid ha13
                have hb13 : Below v2.heap.size v2 x13 := by rw [← hx13]; exact (Below.refl _ _).alloc (Nat.le_refl _) _
                have HP13 : Hid (PV x13 a13 (q.s : Int) (q.g : Int) (q.i : Int) Av 32 cv) := Lib.hid (by rw [← hx13, ← ha13]; exact PV.new v2 _ _ _ _ _ _)
                have HN13 := Lib.hid (HN2.out.below hb13)
                have HM13 := Lib.hid (HM2.out.below hb13)
                have HD7 := Lib.hid (hd7.below hb13)
                have HDV := Lib.hid (hdv.below hb13)
                have HBL7 : Hid (bp < x13.heap.size) := Lib.hid (Nat.lt_of_lt_of_le hbl hb13.size)
                have Z : Hid (x13.cell? ⟨bp, 0, none⟩ = some (.int .i64 (q.s : Int)) ∧ x13.cell? ⟨bp, 1, none⟩ = some (.int .i64 (q.g : Int)) ∧ x13.cell? ⟨bp, 2, none⟩ = some (.int .i64 (q.i : Int)) ∧ x13.cell? ⟨bp, 3, none⟩ = some (.slice A7 32 d7)) := Lib.hid ⟨(hb13.cell (p := ⟨bp, 0, none⟩) hbl).trans z0, (hb13.cell (p := ⟨bp, 1, none⟩) hbl).trans z1, (hb13.cell (p := ⟨bp, 2, none⟩) hbl).trans z2, (hb13.cell (p := ⟨bp, 3, none⟩) hbl).trans z3⟩
                have HKS : Hid (∀ W, Below x13.heap.size x13 W → W.cell? ⟨bp, 0, none⟩ = some (.int .i64 (q.s : Int)) ∧ W.cell? ⟨bp, 1, none⟩ = some (.int .i64 (q.g : Int)) ∧ W.cell? ⟨bp, 2, none⟩ = some (.int .i64 (q.i : Int)) ∧ W.cell? ⟨bp, 3, none⟩ = some (.slice A7 32 d7) ∧ W.cell? ⟨a13, 0, none⟩ = some (.int .i64 (q.s : Int)) ∧ W.cell? ⟨a13, 1, none⟩ = some (.int .i64 (q.g : Int)) ∧ W.cell? ⟨a13, 2, none⟩ = some (.int .i64 (q.i : Int)) ∧ W.cell? ⟨a13, 3, none⟩ = some (.slice Av 32 cv)) := Lib.hid (fun W hW => ⟨(hW.cell (p := ⟨bp, 0, none⟩) HBL7.out).trans Z.out.1, (hW.cell (p := ⟨bp, 1, none⟩) HBL7.out).trans Z.out.2.1, (hW.cell (p := ⟨bp, 2, none⟩) HBL7.out).trans Z.out.2.2.1, (hW.cell (p := ⟨bp, 3, none⟩) HBL7.out).trans Z.out.2.2.2, (HP13.out.keepB hW).c0, (HP13.out.keepB hW).c1, (HP13.out.keepB hW).c2, (HP13.out.keepB hW).c3⟩)
                have HSM := Lib.hid (rsameV (w := x13.drew) (v := pv (q.s : Int) (q.g : Int) (q.i : Int) A7 32 d7) (v' := pv (q.s : Int) (q.g : Int) (q.i : Int) Av 32 cv) (p := q) (q := q) ⟨A7, d7, rfl, HD7.out.below (below_drewN 1 x13)⟩ ⟨Av, cv, rfl, HDV.out.below (below_drewN 1 x13)⟩ HQO.out HQO.out true ⟨fun _ => Pc.Alike.refl _, fun _ => rfl⟩)
                unfold pv at HSM
                have BD : Hid (Below x13.heap.size x13 x13.drew) := Lib.hid (below_drewN 1 x13)
                clear hx13 ha13 hb13 hd7 hdv hbl z0 z1 z2 z3 hf hv hq1 hlp HPLq HPL2
                go_upto_region 25 with fail
                rw [HX13.out, HA13.out]
                clear HX13 HA13 hlk
                go_upto_region 28 with fail
                go_region_held (fun W => W.cell? ⟨bp, 0, none⟩ = some (.int .i64 (q.s : Int)) ∧ W.cell? ⟨bp, 1, none⟩ = some (.int .i64 (q.g : Int)) ∧ W.cell? ⟨bp, 2, none⟩ = some (.int .i64 (q.i : Int)) ∧ W.cell? ⟨bp, 3, none⟩ = some (.slice A7 32 d7) ∧ W.cell? ⟨a13, 0, none⟩ = some (.int .i64 (q.s : Int)) ∧ W.cell? ⟨a13, 1, none⟩ = some (.int .i64 (q.g : Int)) ∧ W.cell? ⟨a13, 2, none⟩ = some (.int .i64 (q.i : Int)) ∧ W.cell? ⟨a13, 3, none⟩ = some (.slice Av 32 cv))
                  (first | (with_reducible assumption) | (with_reducible exact HKS.out _ BD.out) | (with_reducible exact HKS.out _ hbW))
                  (first
                    | (go_at_call 18; (with_reducible refine HSM.out.mono ?_); rintro e w5 ⟨rfl, hb5⟩; (try dsimp only); have hbW := BD.out.trans (hb5.mono BD.out.size); clear hb5)
                    | fail)
                have HN14 := Lib.hid (HN13.out.below hbW)
                have HM14 := Lib.hid (HM13.out.below hbW)
                clear hbW HN13 HM13
                go_wp2_with fail
                go_roundg (5 - (s + 1))
                case measure => omega
                case rel => exact ⟨s + 1, rfl, by omega, rfl, Lib.hid ⟨HN14.out, HM14.out⟩⟩
            · obtain rfl : s = 5 := by omega
              have HB := Lib.hid HV.out.1.blw
              go_wp2_with fail
              go_ret
              exact ⟨rfl, HB.out⟩
      · have hl1 : ¬ (i : Int) < (m : Int) := by omega
        clear ha hq hmap hmpB hla HV
        go_wp2_with fail
        refine HCR0.out.mono ?_
        rintro e v1 ⟨b1, rfl, hn1, hq1, _, hk1⟩
        try dsimp only
        have HN1 := Lib.hid hn1
        have HQ1 := Lib.hid hq1
        have HM1b := Lib.hid (HMAP.out.keepN hk1)
        clear hn1 hq1 hk1 HCR0 HMAP
        cases lose with
        | true =>
          have HLS := Lib.hid (nl_loseQ HN1.out HQ1.out (by omega) (by omega))
          go_wp2_with fail
          refine HLS.out.mono ?_
          rintro e v9 ⟨b9, rfl, hn9, hq9, _, hk9⟩
          try dsimp only
          have HN9 := Lib.hid hn9
          have HQ9 := Lib.hid hq9
          have HM9 := Lib.hid (HM1b.out.keepN hk9)
          clear hn9 hq9 hk9 HLS HN1 HQ1 HM1b
          have HV9 : Hid (NdL w n p b9 v9 ∧ MPL v9 mp i f) := Lib.hid ⟨HN9.out, HM9.out⟩
          clear HN9 HM9
          go_wp2_with fail
          go_loopg [11] 5 (fun q s11 v => ∃ s : Nat, s11 = .int .i64 (s : Int) ∧ s ≤ 5 ∧ q = 5 - s ∧ Hid (NdL w n p b9 v ∧ MPL v mp i f))
          case atStart => exact ⟨0, rfl, by omega, rfl, HV9⟩
          case round =>
            obtain ⟨s, rfl, hs, rfl, HV⟩ := hrel
            clear HV9
            by_cases hlt : s < 5
            · have hl5 : (s : Int) < 5 := by omega
              have hws : IntKind.i64.wrap ((s : Int) + 1) = ((s + 1 : Nat) : Int) := by rw [IntWalk.i64_in _ (by omega)]; omega
              have HGT := Lib.hid (nl_get HV.out.1 HQ9.out (by omega) s (by omega))
              unfold rqv at HGT
              go_wp2_with fail
              refine HGT.out.mono ?_
              rintro e v2 ⟨B2, lp, c2, E2, e2, rfl, hn2, hlp, hpl, hk2⟩
              unfold rpv
              try dsimp only
              have HN2 := Lib.hid hn2
              have HPL2 := Lib.hid hpl
              have HM2 := Lib.hid (HV.out.2.keepN hk2)
              clear hn2 hpl hk2 HGT HV
              obtain ⟨fv, hmp, hfv⟩ := HM2.out
              have hlk := hmp.look (show s < 1000 by omega)
              have hcase := hfv s (by omega)
              clear hmp hfv
              rcases hcase with ⟨hf, hv⟩ | ⟨q, val, hf, hv, hpc⟩
              · rw [hv] at hlk
                dsimp only at hlk
                have hnil : two ((fun _ => Ct.no) (2 * s)).pc? ((fun _ => Ct.no) (2 * s + 1)).pc? = [] := rfl
                rw [hnil] at hlp
                obtain rfl : lp = 0 := hlp
                have HBZ : Hid (∀ o, NdL w n p b9 (v2.alloc o) ∧ MPL (v2.alloc o) mp i f) := Lib.hid (fun o => ⟨HN2.out.below ((Below.refl _ _).alloc (Nat.le_refl _) _), HM2.out.below ((Below.refl _ _).alloc (Nat.le_refl _) _)⟩)
                clear hnil hf hv
                go_wp2_with fail
                go_roundg (5 - (s + 1))
                case measure => omega
                case rel => exact ⟨s + 1, rfl, by omega, rfl, Lib.hid (HBZ.out _)⟩
              · rw [hv] at hlk
                obtain ⟨Av, cv, rfl, hdv⟩ := hpc
                dsimp only at hlk
                unfold pv at hlk
                have hnil : two ((fun _ => Ct.no) (2 * s)).pc? ((fun _ => Ct.no) (2 * s + 1)).pc? = [] := rfl
                rw [hnil] at hlp
                obtain rfl : lp = 0 := hlp
                have HBZ : Hid (∀ o, NdL w n p b9 (v2.alloc o) ∧ MPL (v2.alloc o) mp i f) := Lib.hid (fun o => ⟨HN2.out.below ((Below.refl _ _).alloc (Nat.le_refl _) _), HM2.out.below ((Below.refl _ _).alloc (Nat.le_refl _) _)⟩)
                clear hnil hf hv hdv
                go_wp2_with fail
                go_roundg (5 - (s + 1))
                case measure => omega
                case rel => exact ⟨s + 1, rfl, by omega, rfl, Lib.hid (HBZ.out _)⟩
            · obtain rfl : s = 5 := by omega
              have HB := Lib.hid HV.out.1.blw
              go_wp2_with fail
              go_ret
              exact ⟨rfl, HB.out⟩
        | false =>
          have HN9 := HN1
          have HQ9 := HQ1
          have HM9 := HM1b
          clear HN1 HQ1 HM1b
          have HV9 : Hid (NdL w n p b1 v1 ∧ MPL v1 mp i f) := Lib.hid ⟨HN9.out, HM9.out⟩
          clear HN9 HM9
          go_wp2_with fail
          go_loopg [11] 5 (fun q s11 v => ∃ s : Nat, s11 = .int .i64 (s : Int) ∧ s ≤ 5 ∧ q = 5 - s ∧ Hid (NdL w n p b1 v ∧ MPL v mp i f))
          case atStart => exact ⟨0, rfl, by omega, rfl, HV9⟩
          case round =>
            obtain ⟨s, rfl, hs, rfl, HV⟩ := hrel
            clear HV9
            by_cases hlt : s < 5
            · have hl5 : (s : Int) < 5 := by omega
              have hws : IntKind.i64.wrap ((s : Int) + 1) = ((s + 1 : Nat) : Int) := by rw [IntWalk.i64_in _ (by omega)]; omega
              have HGT := Lib.hid (nl_get HV.out.1 HQ9.out (by omega) s (by omega))
              unfold rqv at HGT
              go_wp2_with fail
              refine HGT.out.mono ?_
              rintro e v2 ⟨B2, lp, c2, E2, e2, rfl, hn2, hlp, hpl, hk2⟩
              unfold rpv
              try dsimp only
              have HN2 := Lib.hid hn2
              have HPL2 := Lib.hid hpl
              have HM2 := Lib.hid (HV.out.2.keepN hk2)
              clear hn2 hpl hk2 HGT HV
              obtain ⟨fv, hmp, hfv⟩ := HM2.out
              have hlk := hmp.look (show s < 1000 by omega)
              have hcase := hfv s (by omega)
              clear hmp hfv
              rcases hcase with ⟨hf, hv⟩ | ⟨q, val, hf, hv, hpc⟩
              · rw [hv] at hlk
                dsimp only at hlk
                have hnil : two (D (2 * s)).pc? (D (2 * s + 1)).pc? = [] := LatS.none_ (by have := HLA.out.st s hlt; rw [hf] at this; exact this)
                rw [hnil] at hlp
                obtain rfl : lp = 0 := hlp
                have HBZ : Hid (∀ o, NdL w n p b1 (v2.alloc o) ∧ MPL (v2.alloc o) mp i f) := Lib.hid (fun o => ⟨HN2.out.below ((Below.refl _ _).alloc (Nat.le_refl _) _), HM2.out.below ((Below.refl _ _).alloc (Nat.le_refl _) _)⟩)
                clear hnil hf hv
                go_wp2_with fail
                go_roundg (5 - (s + 1))
                case measure => omega
                case rel => exact ⟨s + 1, rfl, by omega, rfl, Lib.hid (HBZ.out _)⟩
              · rw [hv] at hlk
                obtain ⟨Av, cv, rfl, hdv⟩ := hpc
                dsimp only at hlk
                unfold pv at hlk
                obtain ⟨lq, hq1⟩ := LatS.top (by have := HLA.out.st s hlt; rw [hf] at this; exact this : LatS D s (some q))
                rw [hq1] at hlp
                have HPLq : Hid (PL v2 wr.heap.size (.slice B2 lp c2) (q :: lq)) := Lib.hid (by have := HPL2.out; rw [hq1] at this; exact this)
                have HQO : Hid (∀ j, j < 32 → q.D j < 256) := Lib.hid (by have := HLA.out.st s hlt; rw [hf] at this; exact this.1.2.2.2.2)
                obtain ⟨bp, cp, A7, d7, hB2, _, hbl, z0, z1, z2, z3, hd7⟩ := HPLq.out.at (i := 0) rfl
                injection hB2 with eB1 eB2 eB3
                subst eB1 eB3
                clear eB2
                have hlp0 : ((lp : Int) == 0) = false := beq_eq_false_iff_ne.2 (by rw [hlp]; simp only [List.length_cons]; omega)
                have hlp1 : (0 : Int) < (lp : Int) := by rw [hlp]; simp only [List.length_cons]; omega
                have hlp2 : 0 < lp := by rw [hlp]; simp
                have hlp3 : (lp == 0) = false := beq_eq_false_iff_ne.2 (by omega)
                obtain ⟨x13, hx13⟩ : ∃ x13, v2.alloc (.cells #[.int .i64 (q.s : Int), .int .i64 (q.g : Int), .int .i64 (q.i : Int), .slice Av 32 cv] 44) = x13 := ⟨_, rfl⟩
                have HX13 := Lib.hid hx13
                obtain ⟨a13, ha13⟩ : ∃ a13, v2.heap.size = a13 := ⟨_, rfl⟩
                have HA13 := Lib.hid ha13
                have hb13 : Below v2.heap.size v2 x13 := by rw [← hx13]; exact (Below.refl _ _).alloc (Nat.le_refl _) _
                have HP13 : Hid (PV x13 a13 (q.s : Int) (q.g : Int) (q.i : Int) Av 32 cv) := Lib.hid (by rw [← hx13, ← ha13]; exact PV.new v2 _ _ _ _ _ _)
                have HN13 := Lib.hid (HN2.out.below hb13)
                have HM13 := Lib.hid (HM2.out.below hb13)
                have HD7 := Lib.hid (hd7.below hb13)
                have HDV := Lib.hid (hdv.below hb13)
                have HBL7 : Hid (bp < x13.heap.size) := Lib.hid (Nat.lt_of_lt_of_le hbl hb13.size)
                have Z : Hid (x13.cell? ⟨bp, 0, none⟩ = some (.int .i64 (q.s : Int)) ∧ x13.cell? ⟨bp, 1, none⟩ = some (.int .i64 (q.g : Int)) ∧ x13.cell? ⟨bp, 2, none⟩ = some (.int .i64 (q.i : Int)) ∧ x13.cell? ⟨bp, 3, none⟩ = some (.slice A7 32 d7)) := Lib.hid ⟨(hb13.cell (p := ⟨bp, 0, none⟩) hbl).trans z0, (hb13.cell (p := ⟨bp, 1, none⟩) hbl).trans z1, (hb13.cell (p := ⟨bp, 2, none⟩) hbl).trans z2, (hb13.cell (p := ⟨bp, 3, none⟩) hbl).trans z3⟩
                have HKS : Hid (∀ W, Below x13.heap.size x13 W → W.cell? ⟨bp, 0, none⟩ = some (.int .i64 (q.s : Int)) ∧ W.cell? ⟨bp, 1, none⟩ = some (.int .i64 (q.g : Int)) ∧ W.cell? ⟨bp, 2, none⟩ = some (.int .i64 (q.i : Int)) ∧ W.cell? ⟨bp, 3, none⟩ = some (.slice A7 32 d7) ∧ W.cell? ⟨a13, 0, none⟩ = some (.int .i64 (q.s : Int)) ∧ W.cell? ⟨a13, 1, none⟩ = some (.int .i64 (q.g : Int)) ∧ W.cell? ⟨a13, 2, none⟩ = some (.int .i64 (q.i : Int)) ∧ W.cell? ⟨a13, 3, none⟩ = some (.slice Av 32 cv)) := Lib.hid (fun W hW => ⟨(hW.cell (p := ⟨bp, 0, none⟩) HBL7.out).trans Z.out.1, (hW.cell (p := ⟨bp, 1, none⟩) HBL7.out).trans Z.out.2.1, (hW.cell (p := ⟨bp, 2, none⟩) HBL7.out).trans Z.out.2.2.1, (hW.cell (p := ⟨bp, 3, none⟩) HBL7.out).trans Z.out.2.2.2, (HP13.out.keepB hW).c0, (HP13.out.keepB hW).c1, (HP13.out.keepB hW).c2, (HP13.out.keepB hW).c3⟩)
                have HSM := Lib.hid (rsameV (w := x13.drew) (v := pv (q.s : Int) (q.g : Int) (q.i : Int) A7 32 d7) (v' := pv (q.s : Int) (q.g : Int) (q.i : Int) Av 32 cv) (p := q) (q := q) ⟨A7, d7, rfl, HD7.out.below (below_drewN 1 x13)⟩ ⟨Av, cv, rfl, HDV.out.below (below_drewN 1 x13)⟩ HQO.out HQO.out true ⟨fun _ => Pc.Alike.refl _, fun _ => rfl⟩)
                unfold pv at HSM
                have BD : Hid (Below x13.heap.size x13 x13.drew) := Lib.hid (below_drewN 1 x13)
                clear hx13 ha13 hb13 hd7 hdv hbl z0 z1 z2 z3 hf hv hq1 hlp HPLq HPL2
                go_upto_region 25 with fail
                rw [HX13.out, HA13.out]
                clear HX13 HA13 hlk
                go_upto_region 28 with fail
                go_region_held (fun W => W.cell? ⟨bp, 0, none⟩ = some (.int .i64 (q.s : Int)) ∧ W.cell? ⟨bp, 1, none⟩ = some (.int .i64 (q.g : Int)) ∧ W.cell? ⟨bp, 2, none⟩ = some (.int .i64 (q.i : Int)) ∧ W.cell? ⟨bp, 3, none⟩ = some (.slice A7 32 d7) ∧ W.cell? ⟨a13, 0, none⟩ = some (.int .i64 (q.s : Int)) ∧ W.cell? ⟨a13, 1, none⟩ = some (.int .i64 (q.g : Int)) ∧ W.cell? ⟨a13, 2, none⟩ = some (.int .i64 (q.i : Int)) ∧ W.cell? ⟨a13, 3, none⟩ = some (.slice Av 32 cv))
                  (first | (with_reducible assumption) | (with_reducible exact HKS.out _ BD.out) | (with_reducible exact HKS.out _ hbW))
                  (first
                    | (go_at_call 18; (with_reducible refine HSM.out.mono ?_); rintro e w5 ⟨rfl, hb5⟩; (try dsimp only); have hbW := BD.out.trans (hb5.mono BD.out.size); clear hb5)
                    | fail)
                have HN14 := Lib.hid (HN13.out.below hbW)
                have HM14 := Lib.hid (HM13.out.below hbW)
                clear hbW HN13 HM13
                go_wp2_with fail
                go_roundg (5 - (s + 1))
                case measure => omega
                case rel => exact ⟨s + 1, rfl, by omega, rfl, Lib.hid ⟨HN14.out, HM14.out⟩⟩
            · obtain rfl : s = 5 := by omega
              have HB := Lib.hid HV.out.1.blw
              go_wp2_with fail
              go_ret
              exact ⟨rfl, HB.out⟩
end Go.Proofs.Ytofmilkjhnkgjaa
