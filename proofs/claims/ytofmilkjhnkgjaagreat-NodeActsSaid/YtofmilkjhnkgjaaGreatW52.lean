import Derived.Test.YtofmilkjhnkgjaaGreatW49
import Derived.Test.YtofmilkjhnkgjaaGreatW50
import Derived.Test.YtofmilkjhnkgjaaGreatW51
import Derived.Deep.RegionHeld
import Derived.BigQuiet
namespace Go.Proofs.YtofmilkjhnkgjaaGreat
open Go.RowKit Go.Sort
set_option maxRecDepth 100000
set_option maxHeartbeats 20000000

/-! NodeActs. -/
/-- An act, as it came in. -/
structure AC where
  what : Int
  x0 : Int
  x1 : Int
  x2 : Int
  x3 : Int
  x4 : Int
  x5 : Int
  ka : Option Addr
  ks : List Int
  kc : Nat
def ACsIn (w : World) (a : Option Addr) (L : List AC) : Prop := ∀ (i : Nat) (x : AC), L[i]? = some x → ∃ g o, a = some ⟨g, o, none⟩ ∧ g < w.heap.size ∧ w.cell? ⟨g, o + i * 8, none⟩ = some (.int .i64 x.what) ∧ w.cell? ⟨g, o + i * 8 + 1, none⟩ = some (.int .i64 x.x0) ∧ w.cell? ⟨g, o + i * 8 + 2, none⟩ = some (.int .i64 x.x1) ∧ w.cell? ⟨g, o + i * 8 + 3, none⟩ = some (.int .i64 x.x2) ∧ w.cell? ⟨g, o + i * 8 + 4, none⟩ = some (.int .i64 x.x3) ∧ w.cell? ⟨g, o + i * 8 + 5, none⟩ = some (.int .i64 x.x4) ∧ w.cell? ⟨g, o + i * 8 + 6, none⟩ = some (.int .i64 x.x5) ∧ w.cell? ⟨g, o + i * 8 + 7, none⟩ = some (.slice x.ka x.ks.length x.kc) ∧ Nums w x.ka x.ks ∧ x.ks.length ≤ 9223372036854775807
/-- Both nodes, of one state. -/
structure NB (w0 : World) (n p n' p' : Nat) (a : Ns) (v : World) : Prop where
  l : NdL w0 n p a v
  r : NdLR w0 n' p' a v
section
variable {w0 v v' : World} {n p n' p' : Nat} {a : Ns}
theorem NB.more (h : NB w0 n p n' p' a v) (b : Below v.heap.size v v') : NB w0 n p n' p' a v' := ⟨h.l.below b, h.r.below b⟩
theorem NB.blw (h : NB w0 n p n' p' a v) : Below w0.heap.size w0 v := h.l.blw
theorem NB.cells (h : NB w0 n p n' p' a v) : v.cell? ⟨n', 0, none⟩ = some (.pointer (some ⟨p', 0, none⟩)) ∧ v.cell? ⟨n', 2, none⟩ = some (.int .i64 (a.boot : Int)) ∧ v.cell? ⟨p', 2, none⟩ = some (.int .i64 (a.nw : Int)) := by
  obtain ⟨b, S, h1, h3, h4⟩ := h.r
  refine ⟨h1.nb.c0, h1.nb.c2, ?_⟩
  obtain ⟨dv, pv, hv, _⟩ := h1.plt
  exact hv.c2
end
def NA (w0 : World) (n p n' p' i : Nat) (v : World) : Prop := ∃ a : Ns, NB w0 n p n' p' a v ∧ a.nw ≤ i ∧ a.last ≤ i ∧ a.boot ≤ i + 1
theorem nums_old {w : World} {A : Option Addr} {xs : List Int} (h : Nums w A xs) : 0 < xs.length → ∀ g o, A = some ⟨g, o, none⟩ → g < w.heap.size := by
  intro h0 g o e
  obtain ⟨g', o', e', hg, _⟩ := h 0 xs[0] (List.getElem?_eq_getElem h0)
  rw [e] at e'
  cases e'
  exact hg
theorem Ns.act_boot (a : Ns) (q : Rq) : (a.act q).1.boot = a.boot := by
  unfold Ns.act Ns.log
  repeat' split
  all_goals rfl
theorem nodeActs (A : Option Addr) (L : List AC) (c1 : Nat) (w : World) (hL : ACsIn w A L) (hl : L.length ≤ 9223372036854775807) :
    Calls Tryz.prog 3 #[.slice A L.length c1] w fun e w' => e = .returned (.bool true) ∧ Below w.heap.size w w' := by
  have HLL := Lib.hid hL
  obtain ⟨m, hm⟩ : ∃ m, L.length = m := ⟨_, rfl⟩
  rw [hm] at hl ⊢
  have HM := Lib.hid hm
  obtain ⟨nn, hn⟩ : ∃ nn, nn = min m 50 := ⟨_, rfl⟩
  have n50 : nn ≤ 50 := by omega
  have nm : nn ≤ m := by omega
  have HNN : Hid (∀ i : Nat, i = nn → m ≤ i ∨ 50 ≤ i) := Lib.hid (by omega)
  clear hL hm hn
  go_enter Tryz.func3, Tryz.ntmps3
  go_wp2_with fail
  refine (nl_new (Below.refl _ _)).mono ?_
  rintro e w1 ⟨nd, p, rfl, h1⟩
  try dsimp only
  have H1 := Lib.hid h1
  clear h1
  go_wp2_with fail
  refine (lknown10 w1).mono ?_
  rintro e w2 ⟨rfl, b2⟩
  try dsimp only
  have H2 := Lib.hid (H1.out.below b2)
  clear b2 H1
  go_wp2_with fail
  refine (nlr_new H2.out.blw).mono ?_
  rintro e w3 ⟨nr, pr, rfl, h3, b3⟩
  try dsimp only
  have HM3 : Hid (NA w nd p nr pr 0 w3) := Lib.hid ⟨Ns.new, ⟨H2.out.below b3, h3⟩, Nat.le_refl _, Ns.new_ok.2, Nat.le_refl _⟩
  clear h3 b3 H2
  go_wp2_with fail
  go_loopg [5] nn (fun q s5 v => ∃ i : Nat, s5 = .int .i64 (i : Int) ∧ i ≤ nn ∧ q = nn - i ∧ Hid (NA w nd p nr pr i v))
  case atStart => exact ⟨0, rfl, by omega, rfl, HM3⟩
  case round =>
    obtain ⟨i, rfl, hi, rfl, HS⟩ := hrel
    clear HM3
    obtain ⟨a, hb, hnw, hla_, hbo⟩ := HS.out
    have HB := Lib.hid hb
    clear HS hb
    generalize wr = v at *
    by_cases hlt : i < nn
    · have t1 : (i : Int) < (m : Int) := by omega
      have t2 : (i : Int) < 50 := by omega
      obtain ⟨x, hx⟩ : ∃ x, L[i]? = some x := ⟨_, List.getElem?_eq_getElem (by rw [HM.out]; omega)⟩
      obtain ⟨xw, x0, x1, x2, x3, x4, x5, xa, xs, xc⟩ := x
      obtain ⟨g, o, rfl, hg, f0, f1, f2, f3, f4, f5, f6, f7, hk, hkl⟩ := HLL.out i _ hx
      have e0 := (HB.out.blw.cell (p := ⟨g, o + i * 8, none⟩) hg).trans f0
      have e1 := (HB.out.blw.cell (p := ⟨g, o + i * 8 + 1, none⟩) hg).trans f1
      have e2 := (HB.out.blw.cell (p := ⟨g, o + i * 8 + 2, none⟩) hg).trans f2
      have e3 := (HB.out.blw.cell (p := ⟨g, o + i * 8 + 3, none⟩) hg).trans f3
      have e4 := (HB.out.blw.cell (p := ⟨g, o + i * 8 + 4, none⟩) hg).trans f4
      have e5 := (HB.out.blw.cell (p := ⟨g, o + i * 8 + 5, none⟩) hg).trans f5
      have e6 := (HB.out.blw.cell (p := ⟨g, o + i * 8 + 6, none⟩) hg).trans f6
      have e7 := (HB.out.blw.cell (p := ⟨g, o + i * 8 + 7, none⟩) hg).trans f7
      have HKS := Lib.hid hk
      have HKL := Lib.hid hkl
      clear hx f0 f1 f2 f3 f4 f5 f6 f7 hk hkl hg
      dsimp only at e0 e1 e2 e3 e4 e5 e6 e7 HKS HKL
      obtain ⟨ml, hml⟩ : ∃ ml, xs.length = ml := ⟨_, rfl⟩
      rw [hml] at e7
      have HML := Lib.hid hml
      clear hml
      obtain ⟨ty, lty, hty⟩ := rpickN xw 14 (by omega) (by omega)
      have HTY := Lib.hid hty
      clear hty
      go_wp2_with fail
      refine (HTY.out _).mono ?_
      rintro e w' ⟨rfl, rfl⟩
      try dsimp only
      have HB4 := Lib.hid (HB.out.more ((Below.refl _ _).alloc (Nat.le_refl _) (.cells #[.int .i64 xw, .int .i64 x0, .int .i64 x1, .int .i64 x2, .int .i64 x3, .int .i64 x4, .int .i64 x5, .slice xa ml xc] 32)))
      have HL4 : Hid ((v.alloc (.cells #[.int .i64 xw, .int .i64 x0, .int .i64 x1, .int .i64 x2, .int .i64 x3, .int .i64 x4, .int .i64 x5, .slice xa ml xc] 32)).heap[v.heap.size]? = some (.cells #[.int .i64 xw, .int .i64 x0, .int .i64 x1, .int .i64 x2, .int .i64 x3, .int .i64 x4, .int .i64 x5, .slice xa ml xc] 32 (0, 0))) := Lib.hid (alloc_block _ _)
      have HN4 := Lib.hid HB.out.l.ok
      clear HB e0 e1 e2 e3 e4 e5 e6 e7
      generalize v.alloc (.cells #[.int .i64 xw, .int .i64 x0, .int .i64 x1, .int .i64 x2, .int .i64 x3, .int .i64 x4, .int .i64 x5, .slice xa ml xc] 32) = v4 at *
      generalize v.heap.size = la at *
      go_upto_block 2 with fail
      go_cut [2, 7] from 36 to 67 (fun s2 s7 wx => Hid (NA w nd p nr pr (i + 1) wx))
      case first =>
        rcases (show ty = 12 ∨ ty = 13 ∨ ty < 12 by omega) with rfl | rfl | hty
        · have c7 : v4.cell? ⟨la, 7, none⟩ = some (.slice xa ml xc) := cell_of_block HL4.out
          have HC1 := Lib.hid (nl_crash HB4.out.l xa xs xc (HKS.out.keep HB4.out.blw) HKL.out (by omega) (by omega) (by omega))
          rw [HML.out] at HC1
          go_wp2_with fail
          refine HC1.out.mono ?_
          rintro e w5 ⟨rfl, hn5, hk5⟩
          try dsimp only
          have HR5 := Lib.hid (HB4.out.r.turned hk5 hn5.blw)
          have HN5 := Lib.hid hn5
          have HC2 := Lib.hid (nlr_crash HR5.out HN4.out xa xs xc (HKS.out.keep hn5.blw) HKL.out (nums_old HKS.out) (by omega) (by omega) (by omega))
          rw [HML.out] at HC2
          have d7 : w5.cell? ⟨la, 7, none⟩ = some (.slice xa ml xc) := cell_of_block ((hk5.cells HL4.out (notNd (by decide) (by decide) (by decide) (by decide) (by decide) (by decide))).trans HL4.out)
          clear hn5 hk5 HC1 c7
          go_wp2_with fail
          refine HC2.out.mono ?_
          rintro e w6 ⟨rfl, hr6, hk6⟩
          try dsimp only
          have HE : Hid (NA w nd p nr pr (i + 1) w6) := Lib.hid ⟨a.crash xs, ⟨HN5.out.turnedR hk6 hr6.blw, hr6⟩, by show a.nw ≤ _; omega, Nat.le_trans (HN4.out.crash xs).2 (by omega), by show a.boot + 1 ≤ _; omega⟩
          clear hr6 hk6 HC2 d7 HN5 HR5 HB4 HL4
          go_wp2_with fail
          go_meet
          case rel => exact HE
        · have c6 : v4.cell? ⟨la, 6, none⟩ = some (.int .i64 x5) := cell_of_block HL4.out
          by_cases h5 : x5.tmod 4 = 0
          · have t5 : (x5.tmod 4 == 0) = true := by rw [beq_iff_eq]; exact h5
            clear h5
            have HC1 := Lib.hid (nl_lose HB4.out.l (by omega) (by omega))
            go_wp2_with fail
            refine HC1.out.mono ?_
            rintro e w5 ⟨rfl, hn5, hk5⟩
            try dsimp only
            have HR5 := Lib.hid (HB4.out.r.turned hk5 hn5.blw)
            have HN5 := Lib.hid hn5
            have HC2 := Lib.hid (nlr_lose HR5.out (by omega) (by omega))
            clear hn5 hk5 HC1 c6 t5
            go_wp2_with fail
            refine HC2.out.mono ?_
            rintro e w6 ⟨rfl, hr6, hk6⟩
            try dsimp only
            have HE : Hid (NA w nd p nr pr (i + 1) w6) := Lib.hid ⟨a.lose, ⟨HN5.out.turnedR hk6 hr6.blw, hr6⟩, by show a.nw ≤ _; omega, Nat.le_trans Ns.Ok.lose.2 (by omega), by show a.boot + 1 ≤ _; omega⟩
            clear hr6 hk6 HC2 HN5 HR5 HB4 HL4
            go_wp2_with fail
            go_meet
            case rel => exact HE
          · have t5 : (x5.tmod 4 == 0) = false := by rw [beq_eq_false_iff_ne]; exact h5
            have HE : Hid (NA w nd p nr pr (i + 1) v4) := Lib.hid ⟨a, HB4.out, by omega, by omega, by omega⟩
            clear h5
            go_wp2_with fail
            go_meet
            case rel => exact HE
        · have q12 : ((ty : Int) == 12) = false := by rw [beq_eq_false_iff_ne]; omega
          have q13 : ((ty : Int) == 13) = false := by rw [beq_eq_false_iff_ne]; omega
          have c1 : v4.cell? ⟨la, 1, none⟩ = some (.int .i64 x0) := cell_of_block HL4.out
          have c2 : v4.cell? ⟨la, 2, none⟩ = some (.int .i64 x1) := cell_of_block HL4.out
          have c3 : v4.cell? ⟨la, 3, none⟩ = some (.int .i64 x2) := cell_of_block HL4.out
          have c4 : v4.cell? ⟨la, 4, none⟩ = some (.int .i64 x3) := cell_of_block HL4.out
          have c5 : v4.cell? ⟨la, 5, none⟩ = some (.int .i64 x4) := cell_of_block HL4.out
          have c6 : v4.cell? ⟨la, 6, none⟩ = some (.int .i64 x5) := cell_of_block HL4.out
          have HRQ := Lib.hid (rreq x0 x1 x2 x3 x4 x5 v4)
          unfold rawv at HRQ
          go_wp2_with fail
          refine HRQ.out.mono ?_
          rintro e w5 ⟨q, Aq, cq, rfl, hd, hD, hb5⟩
          try dsimp only
          have HD := Lib.hid hD
          have HB5 := Lib.hid (HB4.out.more hb5)
          obtain ⟨w6, hw6⟩ : ∃ w6, w5.alloc (.cells #[.int .i64 q.k, .int .i64 q.s, .int .i64 q.g, .int .i64 q.i, .slice Aq q.n cq] 37) = w6 := ⟨_, rfl⟩
          have HW6 := Lib.hid hw6
          obtain ⟨lq, hlq⟩ : ∃ lq, w5.heap.size = lq := ⟨_, rfl⟩
          have HLQ := Lib.hid hlq
          have hb6 : Below w5.heap.size w5 w6 := by rw [← hw6]; exact (Below.refl _ _).alloc (Nat.le_refl _) _
          have hd6 : Below w5.heap.size w5 w6.drew := hb6.trans ((below_drewN 1 w6 : Below w6.heap.size w6 w6.drew).mono hb6.size)
          have HQ6 : Hid (QV w6.drew lq q.k q.s q.g q.i Aq q.n cq) := Lib.hid (((by rw [← hw6]; exact QV.of_new hlq : QV w6 lq q.k q.s q.g q.i Aq q.n cq)).below (below_drewN 1 w6))
          have HB6 := Lib.hid (HB5.out.more hd6)
          have HD6 : Hid (DatN w6.drew Aq q.n q.D) := Lib.hid (hd.below hd6)
          obtain ⟨x, hx⟩ : ∃ x, a.act q = x := ⟨_, rfl⟩
          obtain ⟨⟨hps, hpd⟩, his, hid_⟩ := HN4.out.rep q
          have HAX := Lib.hid (HN4.out.act (q := q) HD.out)
          rw [hx] at hps hpd his hid_ HAX
          have HPS := Lib.hid hps
          have HPD := Lib.hid hpd
          have HIS := Lib.hid his
          have HID := Lib.hid hid_
          have HX := Lib.hid hx
          have HDP := Lib.hid (nl_do HB6.out.l q Aq cq HD6.out HD.out (by omega) (by omega))
          have HDR := Lib.hid (nlr_do HB6.out.r HN4.out q Aq cq HD6.out HD.out (by omega) (by omega))
          rw [hx] at HDP HDR
          have HK6 : Hid ((fun W : World => W.cell? ⟨lq, 0, none⟩ = some (.int .i64 q.k) ∧ W.cell? ⟨lq, 1, none⟩ = some (.int .i64 q.s) ∧ W.cell? ⟨lq, 2, none⟩ = some (.int .i64 q.g) ∧ W.cell? ⟨lq, 3, none⟩ = some (.int .i64 q.i) ∧ W.cell? ⟨lq, 4, none⟩ = some (.slice Aq q.n cq)) w6.drew) := Lib.hid HQ6.out.cells
          try dsimp only at HK6
          have HEA : Hid (x.1.nw ≤ i + 1 ∧ x.1.last ≤ i + 1 ∧ x.1.boot ≤ i + 1 + 1) := Lib.hid ⟨by have := HAX.out.2.2; omega, by have := HAX.out.2.1; omega, by
            have e : x.1.boot = a.boot := by
              rw [← HX.out]
              exact Ns.act_boot a q
            omega⟩
          unfold rqv at HDP HDR
          clear c1 c2 c3 c4 c5 c6 hw6 hlq hb6 hd6 hd hD hb5 hps hpd his hid_ hx HRQ HB4 HL4 HB5
          go_upto_region 11 with fail
          rw [HW6.out, HLQ.out]
          go_wp2_with fail
          go_region_held (fun W => W.cell? ⟨lq, 0, none⟩ = some (.int .i64 q.k) ∧ W.cell? ⟨lq, 1, none⟩ = some (.int .i64 q.s) ∧ W.cell? ⟨lq, 2, none⟩ = some (.int .i64 q.g) ∧ W.cell? ⟨lq, 3, none⟩ = some (.int .i64 q.i) ∧ W.cell? ⟨lq, 4, none⟩ = some (.slice Aq q.n cq))
            (first | (with_reducible assumption) | (with_reducible exact HK6.out) | (with_reducible exact HK7.out) | (with_reducible exact HK8.out) | (with_reducible exact HK9.out))
            (first
              | (go_at_call 14; (with_reducible refine HDP.out.mono ?_); rintro e w7 ⟨B7, b7, C7, d7, rfl, hp7, hl7, hn7, hk7⟩; (try dsimp only); have HP7 := Lib.hid hp7; have HL7 := Lib.hid hl7; have HN7 := Lib.hid hn7; have HR7 := Lib.hid (HB6.out.r.turned hk7 hn7.blw); have HQ7 := Lib.hid (HQ6.out.keep (hk7.cells HQ6.out (notNd (by decide) (by decide) (by decide) (by decide) (by decide) (by decide)))); have HK7 : Hid ((fun W : World => W.cell? ⟨lq, 0, none⟩ = some (.int .i64 q.k) ∧ W.cell? ⟨lq, 1, none⟩ = some (.int .i64 q.s) ∧ W.cell? ⟨lq, 2, none⟩ = some (.int .i64 q.g) ∧ W.cell? ⟨lq, 3, none⟩ = some (.int .i64 q.i) ∧ W.cell? ⟨lq, 4, none⟩ = some (.slice Aq q.n cq)) w7) := Lib.hid HQ7.out.cells; (try dsimp only at HK7); have HDR7 := Lib.hid (nlr_do HR7.out HN4.out q Aq cq (hk7.b.datN HD6.out) HD.out (by omega) (by omega)); rw [HX.out] at HDR7; unfold rqv at HDR7; clear hp7 hl7 hn7 hk7)
              | (go_at_call 15; (with_reducible refine HDR7.out.mono ?_); rintro e w8 ⟨B8, b8, C8, d8, rfl, hp8, hl8, hr8, hk8⟩; (try dsimp only); have HB8 : Hid (NB w nd p nr pr x.1 w8) := Lib.hid ⟨HN7.out.turnedR hk8 hr8.blw, hr8⟩; have HQ8 := Lib.hid (HQ7.out.keep (hk8.cells HQ7.out (notNdR (by decide) (by decide) (by decide) (by decide) (by decide)))); have HK8 : Hid ((fun W : World => W.cell? ⟨lq, 0, none⟩ = some (.int .i64 q.k) ∧ W.cell? ⟨lq, 1, none⟩ = some (.int .i64 q.s) ∧ W.cell? ⟨lq, 2, none⟩ = some (.int .i64 q.g) ∧ W.cell? ⟨lq, 3, none⟩ = some (.int .i64 q.i) ∧ W.cell? ⟨lq, 4, none⟩ = some (.slice Aq q.n cq)) w8) := Lib.hid HQ8.out.cells; (try dsimp only at HK8); have HSM := Lib.hid (rsamerep (code := (x.2.code : Int)) (boot := (x.1.boot : Int)) (hk8.b.pl HP7.out) hp8 (hk8.b.li HL7.out) hl8 HPD.out HID.out (Nat.le_trans HPS.out (by decide)) (Nat.le_trans HIS.out (by decide))); unfold rpv at HSM; clear hp8 hl8 hr8 hk8)
              | (go_at_call 15; (with_reducible refine HDR.out.mono ?_); rintro e w7 ⟨B7, b7, C7, d7, rfl, hp7, hl7, hr7, hk7⟩; (try dsimp only); have HP7 := Lib.hid hp7; have HL7 := Lib.hid hl7; have HR7 := Lib.hid hr7; have HN7 := Lib.hid (HB6.out.l.turnedR hk7 hr7.blw); have HQ7 := Lib.hid (HQ6.out.keep (hk7.cells HQ6.out (notNdR (by decide) (by decide) (by decide) (by decide) (by decide)))); have HK7 : Hid ((fun W : World => W.cell? ⟨lq, 0, none⟩ = some (.int .i64 q.k) ∧ W.cell? ⟨lq, 1, none⟩ = some (.int .i64 q.s) ∧ W.cell? ⟨lq, 2, none⟩ = some (.int .i64 q.g) ∧ W.cell? ⟨lq, 3, none⟩ = some (.int .i64 q.i) ∧ W.cell? ⟨lq, 4, none⟩ = some (.slice Aq q.n cq)) w7) := Lib.hid HQ7.out.cells; (try dsimp only at HK7); have HDP7 := Lib.hid (nl_do HN7.out q Aq cq (hk7.b.datN HD6.out) HD.out (by omega) (by omega)); rw [HX.out] at HDP7; unfold rqv at HDP7; clear hp7 hl7 hr7 hk7)
              | (go_at_call 14; (with_reducible refine HDP7.out.mono ?_); rintro e w8 ⟨B8, b8, C8, d8, rfl, hp8, hl8, hn8, hk8⟩; (try dsimp only); have HB8 : Hid (NB w nd p nr pr x.1 w8) := Lib.hid ⟨hn8, HR7.out.turned hk8 hn8.blw⟩; have HQ8 := Lib.hid (HQ7.out.keep (hk8.cells HQ7.out (notNd (by decide) (by decide) (by decide) (by decide) (by decide) (by decide)))); have HK8 : Hid ((fun W : World => W.cell? ⟨lq, 0, none⟩ = some (.int .i64 q.k) ∧ W.cell? ⟨lq, 1, none⟩ = some (.int .i64 q.s) ∧ W.cell? ⟨lq, 2, none⟩ = some (.int .i64 q.g) ∧ W.cell? ⟨lq, 3, none⟩ = some (.int .i64 q.i) ∧ W.cell? ⟨lq, 4, none⟩ = some (.slice Aq q.n cq)) w8) := Lib.hid HQ8.out.cells; (try dsimp only at HK8); have HSM := Lib.hid (rsamerep (code := (x.2.code : Int)) (boot := (x.1.boot : Int)) hp8 (hk8.b.pl HP7.out) hl8 (hk8.b.li HL7.out) HPD.out HID.out (Nat.le_trans HPS.out (by decide)) (Nat.le_trans HIS.out (by decide))); unfold rpv at HSM; clear hp8 hl8 hn8 hk8)
              | (go_at_call 13; (with_reducible refine HSM.out.mono ?_); rintro e w9 ⟨rfl, hb9⟩; (try dsimp only); have HE : Hid (NA w nd p nr pr (i + 1) w9) := Lib.hid ⟨x.1, HB8.out.more hb9, HEA.out⟩; have HK9 : Hid ((fun W : World => W.cell? ⟨lq, 0, none⟩ = some (.int .i64 q.k) ∧ W.cell? ⟨lq, 1, none⟩ = some (.int .i64 q.s) ∧ W.cell? ⟨lq, 2, none⟩ = some (.int .i64 q.g) ∧ W.cell? ⟨lq, 3, none⟩ = some (.int .i64 q.i) ∧ W.cell? ⟨lq, 4, none⟩ = some (.slice Aq q.n cq)) w9) := Lib.hid (HQ8.out.below hb9).cells; (try dsimp only at HK9); clear hb9)
              | fail)
          all_goals
            go_wp2_with fail
            go_meet
            case rel => exact HE
      case rest =>
        clear HB4 HL4 HTY HKS HKL HN4 HML
        obtain ⟨a2, hb, n2, l2, o2⟩ := hcut.out
        clear hcut
        have HB := Lib.hid hb
        have HBT := Lib.hid (fun q => nl_boot (hb.l.below (below_drewN q wc)))
        have HPT := Lib.hid (fun q => nl_platter (hb.l.below (below_drewN q wc)))
        have HWT : Hid (∀ q, Calls Tryz.prog 18 #[.pointer (some ⟨p, 0, none⟩)] (wc.drewN q) fun e w' => e = .returned (.int .i64 (a2.nw : Int)) ∧ w' = wc.drewN q) := Lib.hid (fun q => by
          obtain ⟨S, hS⟩ := (hb.l.below (below_drewN q wc)).plt
          exact dwrites hS)
        have HCE := Lib.hid (fun q => (hb.more (below_drewN q wc)).cells)
        have y0 : ∀ q, (wc.drewN q).cell? ⟨nr, 0, none⟩ = some (.pointer (some ⟨pr, 0, none⟩)) := fun q => (HCE.out q).1
        have y1 : ∀ q, (wc.drewN q).cell? ⟨nr, 2, none⟩ = some (.int .i64 (a2.boot : Int)) := fun q => (HCE.out q).2.1
        have y2 : ∀ q, (wc.drewN q).cell? ⟨pr, 2, none⟩ = some (.int .i64 (a2.nw : Int)) := fun q => (HCE.out q).2.2
        have z0 := hb.cells.1
        have z1 := hb.cells.2.1
        have z2 := hb.cells.2.2
        clear hb
        go_upto_region 20 with fail
        go_wp2_with fail
        go_big_quiet (first | (go_at_call 16; exact Calls.quiet_of_same (HBT.out _)) | (go_at_call 17; exact Calls.quiet_of_same (HPT.out _)) | (go_at_call 18; exact Calls.quiet_of_same (HWT.out _)))
        have HE : Hid (NA w nd p nr pr (i + 1) (wc.drewN nq)) := Lib.hid ⟨a2, HB.out.more (below_drewN nq wc), n2, l2, o2⟩
        generalize wc.drewN nq = w9 at *
        go_wp2_with fail
        go_roundg (nn - (i + 1))
        case measure => omega
        case rel => exact ⟨i + 1, by go_num, by omega, rfl, HE⟩
    · obtain rfl : i = nn := by omega
      have HB0 := HB
      rcases HNN.out i rfl with hm | hm
      · have t1 : ¬ (i : Int) < (m : Int) := by omega
        have t2 : decide (i < m) = false := decide_eq_false (by omega)
        clear hm
        clear hlt HB
        go_wp2_with fail
        clear t1 t2
        go_loopg [8, 9, 10] 96 (fun q s8 s9 s10 v6 => ∃ k : Nat, s8 = .int .i64 (k : Int) ∧ k ≤ 96 ∧ q = 96 - k ∧ Hid (NB w nd p nr pr a v6))
        case atStart => exact ⟨0, rfl, by omega, rfl, HB0⟩
        case round =>
          obtain ⟨k, rfl, hk, rfl, HQ⟩ := hrel
          clear HB0
          generalize wr = v6 at *
          by_cases hlk : k < 96
          · have s3 : (k : Int) < 96 := by omega
            have HPL := Lib.hid (nl_platter HQ.out.l)
            have HRD : Hid (Calls Tryz.prog 19 #[.pointer (some ⟨p, 0, none⟩), .int .i64 (k : Int)] v6 (DReadRet (a.t.disk.now k) v6)) := Lib.hid (by
              obtain ⟨S, hS⟩ := HQ.out.l.plt
              exact dread k hS hlk)
            go_wp2_with fail
            refine HPL.out.mono ?_
            rintro e w' ⟨rfl, hw⟩
            obtain rfl := hw.symm
            go_wp2_with fail
            refine HRD.out.mono ?_
            rintro e w8 ⟨g8, c8, rfl, k8, b8, hg8, hc8⟩
            try dsimp only
            have HB8 := Lib.hid (HQ.out.more b8)
            have v8 : ∀ q, Sem.run Tryz.prog (convert 35 9 (.slice (some ⟨g8, 0, none⟩) 160 c8)) (w8.drewN q) = .ok (.string (bstr (a.t.disk.now k))) (w8.drewN q) := fun q => conv_rd (w := w8.drewN q) k8.rd
            have HR9 : Hid (∀ q, Calls Tryz.prog 20 #[.pointer (some ⟨pr, 0, none⟩), .int .i64 (k : Int)] (w8.drewN q) fun e w' => e = .returned (.string (bstr (a.t.disk.now k))) ∧ w' = w8.drewN q) := Lib.hid (fun q => by
              obtain ⟨S, hS⟩ := (HB8.out.r.below (below_drewN q w8)).plt
              exact rread k hS hlk (by omega))
            have HCE := Lib.hid (fun q => (HB8.out.more (below_drewN q w8)).cells)
            have y0 : ∀ q, (w8.drewN q).cell? ⟨nr, 0, none⟩ = some (.pointer (some ⟨pr, 0, none⟩)) := fun q => (HCE.out q).1
            have z0 := HB8.out.cells.1
            clear k8 b8 hg8 hc8 HRD HPL HQ
            generalize bstr (a.t.disk.now k) = str at *
            go_upto_region 26 with fail
            go_wp2_with fail
            go_big_quiet ((go_at_call 20; exact Calls.quiet_of_same (HR9.out _)))
            have HE : Hid (NB w nd p nr pr a (w8.drewN nq)) := Lib.hid (HB8.out.more (below_drewN nq w8))
            clear v8 HR9 HCE y0 z0 HB8
            generalize w8.drewN nq = w9 at *
            go_wp2_with fail
            go_roundg (96 - (k + 1))
            case measure => omega
            case rel => exact ⟨k + 1, by go_num, by omega, rfl, HE⟩
          · obtain rfl : k = 96 := by omega
            have HE : Hid (Below w.heap.size w v6) := Lib.hid HQ.out.blw
            clear hlk
            go_wp2_with fail
            go_ret
            exact ⟨rfl, HE.out⟩
      · by_cases hm2 : m ≤ i
        · have t1 : ¬ (i : Int) < (m : Int) := by omega
          have t2 : decide (i < m) = false := decide_eq_false (by omega)
          clear hm hm2
          clear hlt HB
          go_wp2_with fail
          clear t1 t2
          go_loopg [8, 9, 10] 96 (fun q s8 s9 s10 v6 => ∃ k : Nat, s8 = .int .i64 (k : Int) ∧ k ≤ 96 ∧ q = 96 - k ∧ Hid (NB w nd p nr pr a v6))
          case atStart => exact ⟨0, rfl, by omega, rfl, HB0⟩
          case round =>
            obtain ⟨k, rfl, hk, rfl, HQ⟩ := hrel
            clear HB0
            generalize wr = v6 at *
            by_cases hlk : k < 96
            · have s3 : (k : Int) < 96 := by omega
              have HPL := Lib.hid (nl_platter HQ.out.l)
              have HRD : Hid (Calls Tryz.prog 19 #[.pointer (some ⟨p, 0, none⟩), .int .i64 (k : Int)] v6 (DReadRet (a.t.disk.now k) v6)) := Lib.hid (by
                obtain ⟨S, hS⟩ := HQ.out.l.plt
                exact dread k hS hlk)
              go_wp2_with fail
              refine HPL.out.mono ?_
              rintro e w' ⟨rfl, hw⟩
              obtain rfl := hw.symm
              go_wp2_with fail
              refine HRD.out.mono ?_
              rintro e w8 ⟨g8, c8, rfl, k8, b8, hg8, hc8⟩
              try dsimp only
              have HB8 := Lib.hid (HQ.out.more b8)
              have v8 : ∀ q, Sem.run Tryz.prog (convert 35 9 (.slice (some ⟨g8, 0, none⟩) 160 c8)) (w8.drewN q) = .ok (.string (bstr (a.t.disk.now k))) (w8.drewN q) := fun q => conv_rd (w := w8.drewN q) k8.rd
              have HR9 : Hid (∀ q, Calls Tryz.prog 20 #[.pointer (some ⟨pr, 0, none⟩), .int .i64 (k : Int)] (w8.drewN q) fun e w' => e = .returned (.string (bstr (a.t.disk.now k))) ∧ w' = w8.drewN q) := Lib.hid (fun q => by
                obtain ⟨S, hS⟩ := (HB8.out.r.below (below_drewN q w8)).plt
                exact rread k hS hlk (by omega))
              have HCE := Lib.hid (fun q => (HB8.out.more (below_drewN q w8)).cells)
              have y0 : ∀ q, (w8.drewN q).cell? ⟨nr, 0, none⟩ = some (.pointer (some ⟨pr, 0, none⟩)) := fun q => (HCE.out q).1
              have z0 := HB8.out.cells.1
              clear k8 b8 hg8 hc8 HRD HPL HQ
              generalize bstr (a.t.disk.now k) = str at *
              go_upto_region 26 with fail
              go_wp2_with fail
              go_big_quiet ((go_at_call 20; exact Calls.quiet_of_same (HR9.out _)))
              have HE : Hid (NB w nd p nr pr a (w8.drewN nq)) := Lib.hid (HB8.out.more (below_drewN nq w8))
              clear v8 HR9 HCE y0 z0 HB8
              generalize w8.drewN nq = w9 at *
              go_wp2_with fail
              go_roundg (96 - (k + 1))
              case measure => omega
              case rel => exact ⟨k + 1, by go_num, by omega, rfl, HE⟩
            · obtain rfl : k = 96 := by omega
              have HE : Hid (Below w.heap.size w v6) := Lib.hid HQ.out.blw
              clear hlk
              go_wp2_with fail
              go_ret
              exact ⟨rfl, HE.out⟩
        · have t1 : (i : Int) < (m : Int) := by omega
          have t2 : ¬ (i : Int) < 50 := by omega
          clear hm hm2
          clear hlt HB
          go_wp2_with fail
          clear t1 t2
          go_loopg [8, 9, 10] 96 (fun q s8 s9 s10 v6 => ∃ k : Nat, s8 = .int .i64 (k : Int) ∧ k ≤ 96 ∧ q = 96 - k ∧ Hid (NB w nd p nr pr a v6))
          case atStart => exact ⟨0, rfl, by omega, rfl, HB0⟩
          case round =>
            obtain ⟨k, rfl, hk, rfl, HQ⟩ := hrel
            clear HB0
            generalize wr = v6 at *
            by_cases hlk : k < 96
            · have s3 : (k : Int) < 96 := by omega
              have HPL := Lib.hid (nl_platter HQ.out.l)
              have HRD : Hid (Calls Tryz.prog 19 #[.pointer (some ⟨p, 0, none⟩), .int .i64 (k : Int)] v6 (DReadRet (a.t.disk.now k) v6)) := Lib.hid (by
                obtain ⟨S, hS⟩ := HQ.out.l.plt
                exact dread k hS hlk)
              go_wp2_with fail
              refine HPL.out.mono ?_
              rintro e w' ⟨rfl, hw⟩
              obtain rfl := hw.symm
              go_wp2_with fail
              refine HRD.out.mono ?_
              rintro e w8 ⟨g8, c8, rfl, k8, b8, hg8, hc8⟩
              try dsimp only
              have HB8 := Lib.hid (HQ.out.more b8)
              have v8 : ∀ q, Sem.run Tryz.prog (convert 35 9 (.slice (some ⟨g8, 0, none⟩) 160 c8)) (w8.drewN q) = .ok (.string (bstr (a.t.disk.now k))) (w8.drewN q) := fun q => conv_rd (w := w8.drewN q) k8.rd
              have HR9 : Hid (∀ q, Calls Tryz.prog 20 #[.pointer (some ⟨pr, 0, none⟩), .int .i64 (k : Int)] (w8.drewN q) fun e w' => e = .returned (.string (bstr (a.t.disk.now k))) ∧ w' = w8.drewN q) := Lib.hid (fun q => by
                obtain ⟨S, hS⟩ := (HB8.out.r.below (below_drewN q w8)).plt
                exact rread k hS hlk (by omega))
              have HCE := Lib.hid (fun q => (HB8.out.more (below_drewN q w8)).cells)
              have y0 : ∀ q, (w8.drewN q).cell? ⟨nr, 0, none⟩ = some (.pointer (some ⟨pr, 0, none⟩)) := fun q => (HCE.out q).1
              have z0 := HB8.out.cells.1
              clear k8 b8 hg8 hc8 HRD HPL HQ
              generalize bstr (a.t.disk.now k) = str at *
              go_upto_region 26 with fail
              go_wp2_with fail
              go_big_quiet ((go_at_call 20; exact Calls.quiet_of_same (HR9.out _)))
              have HE : Hid (NB w nd p nr pr a (w8.drewN nq)) := Lib.hid (HB8.out.more (below_drewN nq w8))
              clear v8 HR9 HCE y0 z0 HB8
              generalize w8.drewN nq = w9 at *
              go_wp2_with fail
              go_roundg (96 - (k + 1))
              case measure => omega
              case rel => exact ⟨k + 1, by go_num, by omega, rfl, HE⟩
            · obtain rfl : k = 96 := by omega
              have HE : Hid (Below w.heap.size w v6) := Lib.hid HQ.out.blw
              clear hlk
              go_wp2_with fail
              go_ret
              exact ⟨rfl, HE.out⟩
end Go.Proofs.YtofmilkjhnkgjaaGreat
