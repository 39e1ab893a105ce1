import Derived.Test.YtelmcchleclklaaGreatV48
import Derived.Test.YtelmcchleclklaaGreatV47
import Derived.Test.YtelmcchleclklaaGreatV24
namespace Go.Proofs.YtelmcchleclklaaGreat
open Go.RowKit Go.Sort
set_option maxRecDepth 100000
set_option maxHeartbeats 20000000

theorem LI.at3 {w : World} {B : Nat} {v : Value} {l : List It} {i : Nat} {p : It} (h : LI w B v l) (hi : l[i]? = some p) : ∃ b c A d, v = .slice (some ⟨b, 0, none⟩) l.length c ∧ b < w.heap.size ∧ w.cell? ⟨b, i * 3, none⟩ = some (.int .i64 (p.s : Int)) ∧ w.cell? ⟨b, i * 3 + 1, none⟩ = some (.int .i64 (p.g : Int)) ∧ w.cell? ⟨b, i * 3 + 2, none⟩ = some (.slice A 128 d) ∧ DatI w A p.D := by
 rcases h.pl with ⟨rfl, _⟩ | ⟨b, c, cur, rfl, _, hh, hx⟩
 ·simp at hi
 ·obtain ⟨A, d, a0, a1, a2, ad⟩ := hx i p hi
  have ck : ∀ (k : Nat) (x : Value), cur[k]? = some x → w.cell? ⟨b, k, none⟩ = some x := fun k x hk => by simp [World.cell?, hh, hk]
  exact ⟨b, c, A, d, rfl, heap_lt hh, ck _ _ a0, ck _ _ a1, ck _ _ a2, ad⟩
theorem Ep.Inv.crash {e : Ep} (h : e.Inv) (n : Nat) : ({ e with w := e.w.setN n ((e.w.N n).crash []) } : Ep).Inv := by
 refine h.step (R := fun _ _ => False) (U := fun _ => False) ⟨fun j x => ?_, fun j st g D _ x => ?_, fun j st g i _ _ x => ?_⟩ (fun _ _ _ f => f) (fun _ _ _ f => f)
 ·by_cases e2 : j = n
  ·subst e2; rw [Wp.at_]; exact Ns.Wf.crash _ _
  ·rw [Wp.far _ _ e2]; exact x
 ·by_cases e2 : j = n
  ·subst e2; rw [Wp.at_]; exact x.crash _
  ·rw [Wp.far _ _ e2]; exact x
 ·by_cases e2 : j = n
  ·subst e2; rw [Wp.at_]; exact x.crash _
  ·rw [Wp.far _ _ e2]; exact x
theorem Wp.Fit.crash0 {s : Wp} {i n : Nat} (h : s.Fit (1000 * i)) (hn : n < 8) : (s.setN n ((s.N n).crash [])).Fit (1000 * (i + 1)) := by
 have h1 := h.mono (m' := 1000 * (i + 1)) (by omega)
 obtain ⟨a1, a2, a3, a4⟩ := h.1.crash hn []
 exact ⟨h1.1.setN a1 (by omega) (by omega) (by omega), h1.2⟩

theorem engineChunks (a : Option Addr) (L : List A14) (c : Nat) (w : World) (hL : A14sIn w a L) (hm : L.length ≤ 9223372036854775807) :
  Calls Tryz.prog 3 #[.slice a L.length c] w fun e w' => e = .returned (.bool true) ∧ Below w.heap.size w w' := by
 have HLL := Lib.hid hL
 obtain ⟨m, hml⟩ : ∃ m, L.length = m := ⟨_, rfl⟩
 rw [hml] at hm ⊢
 have HM := Lib.hid hml
 obtain ⟨nn, hnn⟩ : ∃ nn, nn = min m 22 := ⟨_, rfl⟩
 have n22 : nn ≤ 22 := by omega
 have nm : nn ≤ m := by omega
 have HNN : Hid (∀ i : Nat, i = nn → m ≤ i ∨ 22 ≤ i) := Lib.hid (by omega)
 clear hnn hL hml
 have q1 := we_eqlNil
 have q2 := we_neqNil
 have q3 := we_eqlNilNil
 have q4 := we_neqNilNil
 have hmk : ∀ W : World, Sem.run Tryz.prog (Instr.makeMap 28 none) W = .ok (.map (some W.heap.size)) (W.alloc (.map #[] 0)) := fun W => run_makeMap _ W
 go_enter Tryz.func3, Tryz.ntmps3
 go_wp2_with fail
 refine (lbegin w).mono ?_
 rintro e w1 ⟨g, nd, p, rfl, L1, b1⟩
 try dsimp only
 have HL1 := Lib.hid L1
 obtain ⟨lim, hlim⟩ : ∃ lim, w1.heap.size = lim := ⟨_, rfl⟩
 rw [hlim] at HL1
 clear L1 b1 hlim
 go_wp2_with fail
 refine (lknown14 w1).mono ?_
 rintro e w2 ⟨rfl, b2⟩
 try dsimp only
 have HL2 := Lib.hid (HL1.out.below b2)
 clear b2 HL1
 go_upto_region 6 with fail
 obtain ⟨mb, hmb⟩ : ∃ mb, w2.heap.size = mb := ⟨_, rfl⟩
 obtain ⟨w3, hw3⟩ : ∃ w3, w2.alloc (.map #[] 0) = w3 := ⟨_, rfl⟩
 have HT3 : Hid (CS w g nd p lim 0 mb (Ep.new Wp.new) (fun _ => none) w3) := Lib.hid (by
  rw [← hw3, ← hmb]
  exact ⟨HL2.out.below ((Below.refl _ _).alloc (Nat.le_refl _) _), Ep.Inv.new (fun _ _ => Ns.Wf.new), Wp.Fit.new, (fun st => by show 1 ≤ 1 + 0; omega), (by show (0 : Nat) ≤ 1000; omega), ⟨.map [], 0, World.ownsMap_made w2 Tryz.prog _ _, MapF.nil, Nat.le_refl _⟩, HL2.out.limLe, LaM.none_ _, fun s b d h => by cases h⟩)
 rw [hw3, hmb]
 clear hw3 hmb HL2
 go_loopg [6] nn (fun q s6 v => ∃ i : Nat, s6 = .int .i64 (i : Int) ∧ i ≤ nn ∧ q = nn - i ∧ Hid (∃ e f, CS w g nd p lim i mb e f v))
 case atStart => exact ⟨0, rfl, by omega, rfl, Lib.hid ⟨_, _, HT3.out⟩⟩
 case round =>
  obtain ⟨i, rfl, hi, rfl, HS⟩ := hrel
  clear HT3
  generalize wr = v at *
  by_cases hlt : i < nn
  ·have t1 : (i : Int) < (m : Int) := by omega
   have t2 : (i : Int) < 22 := by omega
   obtain ⟨e, f, hts⟩ := HS.out
   have HT := Lib.hid hts
   clear HS hts
   obtain ⟨x, hx⟩ : ∃ x, L[i]? = some x := ⟨_, List.getElem?_eq_getElem (by rw [HM.out]; omega)⟩
   obtain ⟨xw, xs, xd, xn, fa, fs, fc, ka, ks, kc⟩ := x
   obtain ⟨ga, o, rfl, hg, f0, f1, f2, f3, f4, f5, hnf, _, hlf, _⟩ := HLL.out i _ hx
   have e0 := (HT.out.le.wl.blw.cell (p := ⟨ga, o + i * 6, none⟩) hg).trans f0
   have e1 := (HT.out.le.wl.blw.cell (p := ⟨ga, o + i * 6 + 1, none⟩) hg).trans f1
   have e2 := (HT.out.le.wl.blw.cell (p := ⟨ga, o + i * 6 + 2, none⟩) hg).trans f2
   have e3 := (HT.out.le.wl.blw.cell (p := ⟨ga, o + i * 6 + 3, none⟩) hg).trans f3
   have e4 := (HT.out.le.wl.blw.cell (p := ⟨ga, o + i * 6 + 4, none⟩) hg).trans f4
   have e5 := (HT.out.le.wl.blw.cell (p := ⟨ga, o + i * 6 + 5, none⟩) hg).trans f5
   have HNF : Hid (Nums w fa fs ∧ fs.length ≤ 9223372036854775807) := Lib.hid ⟨hnf, hlf⟩
   clear hx f0 f1 f2 f3 f4 f5 hg hnf hlf
   dsimp only at e0 e1 e2 e3 e4 e5
   obtain ⟨fl, hfl⟩ : ∃ fl, fs.length = fl := ⟨_, rfl⟩
   have HFL := Lib.hid hfl
   rw [hfl] at e4
   clear hfl
   generalize ks.length = kl at *
   obtain ⟨st, lst, hst⟩ := rpickN xs 4 (by omega) (by omega)
   obtain ⟨n, ln, hn⟩ := rpickN xn 8 (by omega) (by omega)
   obtain ⟨ty, lty, hty⟩ := rpickN xw 12 (by omega) (by omega)
   have HST := Lib.hid hst
   have HND := Lib.hid hn
   have HTY := Lib.hid hty
   clear hst hn hty
   go_wp2_with fail
   refine (HST.out _).mono ?_
   rintro en w' ⟨rfl, hw⟩
   obtain rfl := hw.symm
   try dsimp only
   have HT4 := Lib.hid (HT.out.below ((Below.refl _ _).alloc (Nat.le_refl _) (.cells #[.int .i64 xw, .int .i64 xs, .int .i64 xd, .int .i64 xn, .slice fa fl fc, .slice ka kl kc] 31)))
   have HA4 : Hid ((v.alloc (.cells #[.int .i64 xw, .int .i64 xs, .int .i64 xd, .int .i64 xn, .slice fa fl fc, .slice ka kl kc] 31)).heap[v.heap.size]? = some (.cells #[.int .i64 xw, .int .i64 xs, .int .i64 xd, .int .i64 xn, .slice fa fl fc, .slice ka kl kc] 31 (0, 0))) := Lib.hid (alloc_block _ _)
   clear HT e0 e1 e2 e3 e4 e5
   generalize v.alloc (.cells #[.int .i64 xw, .int .i64 xs, .int .i64 xd, .int .i64 xn, .slice fa fl fc, .slice ka kl kc] 31) = v4 at *
   generalize v.heap.size = la at *
   have c3 : v4.cell? ⟨la, 3, none⟩ = some (.int .i64 xn) := cell_of_block HA4.out
   go_wp2_with fail
   refine (HND.out _).mono ?_
   rintro en w' ⟨rfl, hw⟩
   obtain rfl := hw.symm
   try dsimp only
   clear c3
   have c0 : v4.cell? ⟨la, 0, none⟩ = some (.int .i64 xw) := cell_of_block HA4.out
   go_wp2_with fail
   refine (HTY.out _).mono ?_
   rintro en w' ⟨rfl, hw⟩
   obtain rfl := hw.symm
   try dsimp only
   clear c0 HST HND HTY
   go_upto_block 2 with fail
   go_cut [11] from 35 to 205 (fun s11 wx => Hid (∃ e f, CS w g nd p lim (i + 1) mb e f wx))
   case first =>
    rcases (show ty < 7 ∨ ty = 7 ∨ ty = 8 ∨ ty = 9 ∨ 9 < ty by omega) with hk | rfl | rfl | rfl | hk
    ·as_aux_lemma =>
     have k1 : (ty : Int) < 7 := by omega
     have c2 : v4.cell? ⟨la, 2, none⟩ = some (.int .i64 xd) := cell_of_block HA4.out
     go_wp2_with fail
     refine (cbytes xd 128 128 rfl v4 (by omega)).mono ?_
     rintro en w5 ⟨bb, rfl, B5, b5, _⟩
     try dsimp only
     have HT5 := Lib.hid (HT4.out.below b5)
     have HB5 : Hid (DatN w5 (some ⟨bb, 0, none⟩) 128 (bytesF xd)) := Lib.hid B5.dat
     have HWR := Lib.hid (le_write HT5.out.le (m := 1000 * i) HT5.out.fit (by omega) (fun st => by have := HT5.out.nx st; omega) (st := st) (by omega) (some ⟨bb, 0, none⟩) 128 (bytesF xd) HB5.out (fun j _ => bytesF_lt xd j))
     clear B5 b5 c2 HT4 HA4
     go_wp2_with fail
     refine HWR.out.mono ?_
     rintro en w6 ⟨u, rfl, L6, K6, E6⟩
     try dsimp only
     cases hr : (e.write encK st (bytesF xd)).2 with
     | none =>
      rw [hr] at E6
      obtain rfl : u = .nilIface := E6
      obtain ⟨w7, hrun, hc⟩ := (HT5.out.good lst bb xd HB5.out L6 K6 hr).store (by omega)
      have HX : Hid (∃ e f, CS w g nd p lim (i + 1) mb e f w7) := Lib.hid ⟨_, _, hc⟩
      clear L6 K6 hr hc HWR HT5 HB5
      go_wp2_with fail
      go_meet
      case rel => exact HX
     | some er =>
      rw [hr] at E6
      obtain ⟨ut, ux, rfl⟩ := EV.iface (show EV w6 u _ _ _ from E6)
      have HX : Hid (∃ e f, CS w g nd p lim (i + 1) mb e f w6) := Lib.hid ⟨_, _, HT5.out.fail lst xd L6 K6 (by rw [hr]; simp)⟩
      clear L6 K6 E6 hr HWR HT5 HB5
      go_wp2_with fail
      go_meet
      case rel => exact HX
    ·as_aux_lemma =>
     have c4 : v4.cell? ⟨la, 4, none⟩ = some (.slice fa fl fc) := cell_of_block HA4.out
     have HFA : Hid (Calls Tryz.prog 11 #[.slice fa fl fc, .int .i64 25] v4 (FatesRetN 25 v4)) := Lib.hid (by
      rw [← HFL.out]
      exact hfatesN 25 (by omega) fa fs fc v4 (HNF.out.1.keep HT4.out.le.wl.blw) HNF.out.2)
     go_wp2_with fail
     refine HFA.out.mono ?_
     rintro en w5 ⟨A5, c5, F5, rfl, l5, lc5, N5, b5⟩
     try dsimp only
     have HT5 := Lib.hid (HT4.out.below b5)
     have HWF := Lib.hid (wl_fates HT5.out.le.wl HT5.out.fl A5 F5 c5 N5 (by omega) lc5)
     obtain ⟨m5, hm5⟩ : ∃ m5, F5.length = m5 := ⟨_, rfl⟩
     rw [hm5] at HWF ⊢
     clear c4 HFA b5 N5 lc5 HT4 HA4
     go_wp2_with fail
     refine HWF.out.mono ?_
     rintro en w6 ⟨rfl, W6, K6⟩
     try dsimp only
     have HX : Hid (∃ e f, CS w g nd p lim (i + 1) mb e f w6) := Lib.hid ⟨_, _, HT5.out.wire W6 K6 (by
      obtain ⟨D, n, h1, h2, h3⟩ := HT5.out.mp
      obtain ⟨es, ck, hb⟩ := ownsS_block h1
      exact (K6.2 mb _ hb (fun cs t fr e => by cases e)).trans hb.symm) (HT5.out.inv.same rfl) (Wp.Fit.mono (s := { e.w with F := e.w.F ++ F5.take (1000 - e.w.F.length) }) (m := 1000 * i) (HT5.out.fit.congr rfl rfl rfl) (by omega)) (by
      show (e.w.F ++ F5.take (1000 - e.w.F.length)).length ≤ 1000
      rw [List.length_append, List.length_take]
      have := HT5.out.fl
      omega)⟩
     clear W6 K6 HWF HT5
     go_wp2_with fail
     go_meet
     case rel => exact HX
    ·as_aux_lemma =>
     have HW := Lib.hid (wl_down HT4.out.le.wl (n := n) ln true)
     go_wp2_with fail
     refine HW.out.mono ?_
     rintro en w6 ⟨rfl, W6, K6⟩
     try dsimp only
     have HX : Hid (∃ e f, CS w g nd p lim (i + 1) mb e f w6) := Lib.hid ⟨_, _, HT4.out.wire W6 (KeepF.of K6) (by
      obtain ⟨D, n, h1, h2, h3⟩ := HT4.out.mp
      obtain ⟨es, ck, hb⟩ := ownsS_block h1
      exact (K6.2 mb _ hb (fun cs t fr e => by cases e)).trans hb.symm) (HT4.out.inv.same rfl) (Wp.Fit.mono (s := e.w.setD n true) (m := 1000 * i) (HT4.out.fit.congr rfl rfl rfl) (by omega)) HT4.out.fl⟩
     clear W6 K6 HW HT4 HA4
     go_wp2_with fail
     go_meet
     case rel => exact HX
    ·as_aux_lemma =>
     have HW := Lib.hid (wl_down HT4.out.le.wl (n := n) ln false)
     go_wp2_with fail
     refine HW.out.mono ?_
     rintro en w6 ⟨rfl, W6, K6⟩
     try dsimp only
     have HX : Hid (∃ e f, CS w g nd p lim (i + 1) mb e f w6) := Lib.hid ⟨_, _, HT4.out.wire W6 (KeepF.of K6) (by
      obtain ⟨D, n, h1, h2, h3⟩ := HT4.out.mp
      obtain ⟨es, ck, hb⟩ := ownsS_block h1
      exact (K6.2 mb _ hb (fun cs t fr e => by cases e)).trans hb.symm) (HT4.out.inv.same rfl) (Wp.Fit.mono (s := e.w.setD n false) (m := 1000 * i) (HT4.out.fit.congr rfl rfl rfl) (by omega)) HT4.out.fl⟩
     clear W6 K6 HW HT4 HA4
     go_wp2_with fail
     go_meet
     case rel => exact HX
    ·as_aux_lemma =>
     have k1 : ¬ (ty : Int) < 7 := by omega
     have k2 : ¬ (ty : Int) = 7 := by omega
     have k3 : ¬ (ty : Int) = 8 := by omega
     have k4 : ¬ (ty : Int) = 9 := by omega
     have HN := Lib.hid (wl_node HT4.out.le.wl (n := n) ln)
     have hw9 := HT4.out.fit.1.nw n ln
     have hl9 := HT4.out.fit.1.last n ln
     have hb9 := HT4.out.fit.1.boot n ln
     have HW := Lib.hid (wl_crash0 HT4.out.le.wl (n := n) ln (by omega) (by omega) (by omega))
     go_wp2_with fail
     refine HN.out.mono ?_
     rintro en w' ⟨rfl, hw⟩
     obtain rfl := hw.symm
     try dsimp only
     go_wp2_with fail
     refine HW.out.mono ?_
     rintro en w6 ⟨rfl, W6, K6⟩
     try dsimp only
     have HX : Hid (∃ e f, CS w g nd p lim (i + 1) mb e f w6) := Lib.hid ⟨_, _, HT4.out.wire W6 (KeepF.of K6) (by
      obtain ⟨D, n, h1, h2, h3⟩ := HT4.out.mp
      obtain ⟨es, ck, hb⟩ := ownsS_block h1
      exact (K6.2 mb _ hb (fun cs t fr e => by cases e)).trans hb.symm) (HT4.out.inv.crash n) (HT4.out.fit.crash0 ln) HT4.out.fl⟩
     clear W6 K6 HW HN HT4 HA4
     go_wp2_with fail
     go_meet
     case rel => exact HX
   case rest =>
    obtain ⟨e, f, hcs⟩ := hcut.out
    have HC := Lib.hid hcs
    obtain ⟨D, n0, o1, o2, _⟩ := hcs.mp
    have HO1 := Lib.hid o1
    have HO2 := Lib.hid o2
    clear hcut hcs o1 o2 HT4 HA4 HNF HFL
    generalize wc = v5 at *
    go_wp2_with (at_range; refine wpList_range_own _ rfl _ 28 rfl 3 33 lawIntB Tryz.underlying28 RdSl mb n0 D rfl HO1.out ?_; intro w5 hrg0 hg0 hs0)
    try go_frame
    have HR0 := Lib.hid (CR.start HC.out HO2.out hg0 hrg0)
    clear hrg0 hg0 hs0 HO1 HO2 HC
    generalize v5.heap.size = r at *
    go_loopg [12, 13] (Maps.size D) (fun q s12 s13 wv => ∃ left : Lit → Bool, Hid (CR w g nd p lim (i + 1) mb r n0 q e f D left wv))
    case atStart => exact ⟨_, HR0⟩
    case round =>
     obtain ⟨left, HR⟩ := hrel
     generalize wr = wv at *
     clear HR0
     go_wp2_with (at_next; refine wpList_next_ranges _ rfl _ rfl 3 lawIntB RdSl (Value.int .i64) (fun b : Nat => Value.slice (some ⟨b, 0, none⟩) 128 128) (fun key kl hkey => by obtain ⟨x, rfl, _⟩ := Maps.keyOf_int_inv Tryz.underlying3 hkey; exact ⟨x, rfl⟩) (fun v y hv => by obtain ⟨b, rfl, _⟩ := RdSl_inv hv; exact ⟨b, rfl⟩) mb r n0 D left _ rfl HR.out.rg ?_ ?_)
     ·intro _ _
      go_wp2_with fail
      go_roundg (nn - (i + 1))
      case measure => omega
      case rel => exact ⟨i + 1, by go_num, by omega, rfl, Lib.hid ⟨e, f, HR.out.cs⟩⟩
     ·intro x cb kl ya yb w6 cnt1 hkey hlk hv hat hrg1 hlt1 hg1 hs1 hen
      obtain ⟨x', ex, rfl, hwx⟩ := Maps.keyOf_int_inv Tryz.underlying3 hkey
      injection ex with _ ex
      obtain rfl := ex
      have hy : ya = .lit (.int .i64 (cb : Int)) := by
       rw [RdSl_mk] at hv
       injection hv with hv
       injection hv with hv _
       exact hv.symm
      obtain ⟨s, d, rfl, s4, hf⟩ := HR.out.key hlk (fun z => (hat z).trans hy)
      have HF := Lib.hid hf
      have HR6 := Lib.hid (HR.out.step hg1 hrg1 (fun x hx => by rw [Bool.and_eq_true] at hx; exact hx.1))
      generalize hl1 : (fun z => left z && !z.sameKey (Lit.int .i64 (s : Int))) = left1 at *
      clear hkey hlk hv hat hrg1 hg1 hs1 hy hf HR hwx hl1
      go_wp2_with fail
      go_loopg [14, 15, 16] 8 (fun q s14 s15 s16 wn => ∃ n : Nat, s14 = .int .i64 ((sumT (cC1 e s) n : Nat) : Int) ∧ s15 = .int .i64 ((sumT (cI1 e s (bytesF d)) n : Nat) : Int) ∧ s16 = .int .i64 (n : Int) ∧ n ≤ 8 ∧ q = 8 - n ∧ Hid (CR w g nd p lim (i + 1) mb r n0 cnt1 e f D left1 wn))
      case atStart => exact ⟨0, rfl, rfl, rfl, by omega, rfl, HR6⟩
      case round =>
       obtain ⟨n, rfl, rfl, rfl, hn, rfl, HN⟩ := hrel
       generalize wr = wn at *
       clear HR6
       by_cases hnl : n < 8
       ·have t8 : (n : Int) < 8 := by omega
        have HND := Lib.hid (wl_node HN.out.cs.le.wl (n := n) hnl)
        have HIX := Lib.hid (rindex (s : Int) (n : Int) wn)
        rw [idx_eq (by omega) hnl] at HIX
        have hC1 := sumT_le (fun k => cC1_le e s k) n
        have hI1 := sumT_le (fun k => cI1_le e s (bytesF d) k) n
        obtain ⟨C1, hCC⟩ : ∃ C1, sumT (cC1 e s) n = C1 := ⟨_, rfl⟩
        obtain ⟨I1, hII⟩ : ∃ I1, sumT (cI1 e s (bytesF d)) n = I1 := ⟨_, rfl⟩
        have HCC := Lib.hid hCC
        have HII := Lib.hid hII
        rw [hCC] at hC1
        rw [hII] at hI1
        rw [hCC, hII]
        clear hCC hII
        by_cases hx : idxN s n < 6
        ·rw [if_pos hx] at HIX
         obtain ⟨k6, hk6⟩ : ∃ k6, idxN s n = k6 := ⟨_, rfl⟩
         have HK6 := Lib.hid hk6
         rw [hk6] at HIX hx
         clear hk6
         have t0 : (0 : Int) ≤ (k6 : Int) := by omega
         go_wp2_with fail
         refine HND.out.mono ?_
         rintro en w' ⟨rfl, hw⟩
         obtain rfl := hw.symm
         try dsimp only
         go_wp2_with fail
         refine HIX.out.mono ?_
         rintro en w' ⟨rfl, hw⟩
         obtain rfl := hw.symm
         try dsimp only
         have hw9 := HN.out.cs.fit.1.nw n hnl
         have hl9 := HN.out.cs.fit.1.last n hnl
         have HDO := Lib.hid (wl_do HN.out.cs.le.wl hnl (qGt s) none 0 DatN.none_ (fun _ hj => absurd hj (by show ¬ _ < 0; omega)) (by omega) (by omega))
         rw [Ns.act_gt _ (show s < 40 by omega)] at HDO
         dsimp only at HDO
         rw [Wp.setN_self] at HDO
         unfold qGt at HDO
         go_wp2_with fail
         refine HDO.out.mono ?_
         rintro en w7 ⟨xr, rfl, ⟨A7, c7, A8, c8, rfl, P7, _⟩, W7, K7⟩
         try dsimp only
         dsimp only at P7
         obtain ⟨Lp, hLp⟩ : ∃ Lp, (e.w.N n).pcs s = Lp := ⟨_, rfl⟩
         have hl2 : Lp.length ≤ 2 := by rw [← hLp]; exact pcs_le _ _
         have HLP := Lib.hid hLp
         rw [hLp] at P7 ⊢
         obtain ⟨l1, hl1⟩ : ∃ l1, Lp.length = l1 := ⟨_, rfl⟩
         have HL1 := Lib.hid hl1
         have HP7 : Hid (CR w g nd p lim (i + 1) mb r n0 cnt1 e f D left1 w7 ∧ PL w7 wn.heap.size (.slice A7 Lp.length c7) Lp) := Lib.hid ⟨HN.out.ask W7 K7, P7⟩
         obtain ⟨B7, hB7⟩ : ∃ B7, wn.heap.size = B7 := ⟨_, rfl⟩
         rw [hl1, hB7] at HP7
         rw [hl1] at hl2 ⊢
         clear hLp hl1 P7 W7 K7 hB7 HDO HIX HND HN
         as_aux_lemma =>
          unfold rpv
          have q6 := rep_f2
          go_wp2_with fail
          clear q6
          go_loopg [121, 14] l1 (fun q s121 s14 wz => ∃ k : Nat, s121 = .int .i64 (k : Int) ∧ k ≤ l1 ∧ q = l1 - k ∧ s14 = .int .i64 ((C1 + (Lp.take k).countP (cPc (e.w.N n) s (e.gen s) k6) : Nat) : Int) ∧ Hid (CR w g nd p lim (i + 1) mb r n0 cnt1 e f D left1 wz ∧ PL wz B7 (.slice A7 l1 c7) Lp))
          case atStart => exact ⟨0, rfl, by omega, rfl, by simp, HP7⟩
          case round =>
           obtain ⟨k, rfl, hk, rfl, rfl, HZ⟩ := hrel
           generalize wr = wo at *
           clear HP7
           obtain ⟨Ck, hCk⟩ : ∃ Ck, (Lp.take k).countP (cPc (e.w.N n) s (e.gen s) k6) = Ck := ⟨_, rfl⟩
           have hCk2 : Ck ≤ 2 := by rw [← hCk]; exact Nat.le_trans (countP_le _ _ _) (by rw [HL1.out]; omega)
           have HCK := Lib.hid hCk
           rw [hCk]
           clear hCk
           by_cases hkl : k < l1
           ·have t9 : (k : Int) < (l1 : Int) := by omega
            obtain ⟨z, hz⟩ : ∃ z, Lp[k]? = some z := ⟨_, List.getElem?_eq_getElem (by rw [HL1.out]; exact hkl)⟩
            obtain ⟨b, c', Az, cz, hv, _, hbl, z0, z1, z2, z3, hdz⟩ := HZ.out.2.at hz
            rw [HL1.out] at hv
            cases hv
            rw [Nat.mul_comm] at z0 z1 z2 z3
            have HNX : Hid ((Lp.take (k + 1)).countP (cPc (e.w.N n) s (e.gen s) k6) = Ck + (if cPc (e.w.N n) s (e.gen s) k6 z = true then 1 else 0)) := Lib.hid (by rw [countP_take hz, HCK.out])
            obtain ⟨Q, hQ⟩ : ∃ Q, wo.heap.size = Q := ⟨_, rfl⟩
            obtain ⟨w4, hw4⟩ : ∃ w4, wo.alloc (.cells #[.int .i64 (z.s : Int), .int .i64 (z.g : Int), .int .i64 (z.i : Int), .slice Az 32 cz] 52) = w4 := ⟨_, rfl⟩
            have B4 : Below wo.heap.size wo w4 := by rw [← hw4]; exact (Below.refl _ _).alloc (Nat.le_refl _) _
            have p4 : PV w4 Q (z.s : Int) (z.g : Int) (z.i : Int) Az 32 cz := by rw [← hw4, ← hQ]; exact PV.new _ _ _ _ _ _ _
            obtain ⟨zg, hzg⟩ : ∃ zg, z.g = zg := ⟨_, rfl⟩
            obtain ⟨zi, hzi⟩ : ∃ zi, z.i = zi := ⟨_, rfl⟩
            obtain ⟨pz, hpz⟩ : ∃ pz, cPc (e.w.N n) s (e.gen s) k6 z = pz := ⟨_, rfl⟩
            rw [hpz] at HNX
            obtain ⟨gn, hgn⟩ : ∃ gn, e.gen s = gn := ⟨_, rfl⟩
            obtain ⟨pb, hpb⟩ : ∃ pb, decide (2 * s + gn % 2 ∈ (e.w.N n).t.pend.map (·.1)) = pb := ⟨_, rfl⟩
            have HPZ : Hid ((decide (zg = gn) && decide (zi = k6) && !pb) = pz) := Lib.hid (by rw [← hpz, ← hpb, ← hgn, ← hzg, ← hzi]; rfl)
            have HG0 : Hid (Calls Tryz.prog 17 #[.pointer (some ⟨p, 0, none⟩), .int .i64 (s : Int)] w4.drew fun en w' => en = .returned (.int .i64 (gn : Int)) ∧ w' = w4.drew) := Lib.hid (by rw [← hgn]; exact le_gen (((HZ.out.1.below B4).below (bel_drew w4)).cs.le) (by omega))
            have HGq : Hid (∀ q, Calls Tryz.prog 17 #[.pointer (some ⟨p, 0, none⟩), .int .i64 (s : Int)] (w4.drewN q) fun en w' => en = .returned (.int .i64 (gn : Int)) ∧ w' = w4.drewN q) := Lib.hid (fun q => by rw [← hgn]; exact le_gen (((HZ.out.1.below B4).below (below_drewN q w4)).cs.le) (by omega))
            have HZ4 : Hid (Zd w g nd p lim (i + 1) mb r n0 cnt1 e f D left1 w4 B7 (.slice (some ⟨b, 0, none⟩) l1 c7) Lp Q zg zi) := Lib.hid ⟨HZ.out.1.below B4, HZ.out.2.below B4, by rw [← hzg]; exact p4.c1, by rw [← hzi]; exact p4.c2⟩
            have y1 := HZ4.out.2.2.1
            have y2 := HZ4.out.2.2.2
            have HQ := Lib.hid hQ
            have HV4 := Lib.hid hw4
            rw [hzg, hzi] at HV4
            have HPB0 : Hid (decide (2 * s + gn % 2 ∈ (e.w.N n).t.pend.map (·.1)) = pb) := Lib.hid hpb
            rw [hzg] at z1
            rw [hzi] at z2
            clear hz hdz hQ hw4 B4 p4 hzg hzi hpz hpb hgn HZ
            go_upto_region 36 with fail
            try rw [HV4.out, HQ.out]
            clear HV4 HQ z0 z1 z2 z3 hbl
            go_cut [121, 147] from 121 to 150 (fun s121 s147 wx => s121 = .int .i64 (k : Int) ∧ s147 = .bool pz ∧ Hid (Zd w g nd p lim (i + 1) mb r n0 cnt1 e f D left1 wx B7 (.slice (some ⟨b, 0, none⟩) l1 c7) Lp Q zg zi))
            case first =>
             by_cases hg1 : zg = gn
             ·subst hg1
              by_cases hi1 : zi = k6
              ·subst hi1
               have HPZ2 : Hid ((!pb) = pz) := Lib.hid (by have := HPZ.out; simpa using this)
               have HZD : Hid (Zd w g nd p lim (i + 1) mb r n0 cnt1 e f D left1 w4.drew B7 (.slice (some ⟨b, 0, none⟩) l1 c7) Lp Q zg zi) := Lib.hid (HZ4.out.below2 (bel_drew w4))
               have hw9 := HZ4.out.1.cs.fit.1.nw n hnl
               obtain ⟨pp, h1, h2⟩ := wl_pendp HZD.out.1.cs.le.wl hnl (by omega)
               have HPT := Lib.hid h1
               have HPE := Lib.hid h2
               have HPL : Hid ((ksOf (e.w.N n).t.disk.pend).length ≤ 1000000000) := Lib.hid (HZ4.out.1.cs.pendlen hnl (by omega))
               have HPB : Hid (pb = true ↔ 2 * (s : Int) + (zg : Int) % 2 ∈ ksOf (e.w.N n).t.disk.pend) := Lib.hid (by
                rw [← HPB0.out, decide_eq_true_iff, show 2 * (s : Int) + (zg : Int) % 2 = ((2 * s + zg % 2 : Nat) : Int) by omega, ksOf_mem])
               clear h1 h2 y1 y2 HGq hw9
               refine wp_region_held_drew (S := (fun W => W.cell? ⟨Q, 1, none⟩ = some (.int .i64 (zg : Int)) ∧ W.cell? ⟨Q, 2, none⟩ = some (.int .i64 (zi : Int)))) (by as_aux_lemma => kernel_rfl) ?_ (fun hHeld => ?_)
               ·exact HZD.out.2.2
               refine wpAnyH_take (i := 0) (v := ?_) rfl (by as_aux_lemma => kernel_rfl) (by as_aux_lemma => kernel_rfl) (by as_aux_lemma => kernel_rfl) (fun _ _ _ h => h) (Or.inl ⟨by as_aux_lemma => kernel_rfl, ?_⟩) (by assumption) ?_
               rotate_left
               ·intro w hSw; (try dsimp only at hSw); go_simp; (try with_reducible rfl)
               simp only [Act.put, List.getElem_toArray, List.getElem_cons_zero, List.setIfInBounds_toArray, List.set_cons_zero, List.set_cons_succ]
               refine wpAnyH_take (i := 1) (v := ?_) rfl (by as_aux_lemma => kernel_rfl) (by as_aux_lemma => kernel_rfl) (by as_aux_lemma => kernel_rfl) (fun _ _ _ h => h) (Or.inl ⟨by as_aux_lemma => kernel_rfl, ?_⟩) (by assumption) ?_
               rotate_left
               ·intro w hSw; (try dsimp only at hSw); go_simp; (try with_reducible rfl)
               simp only [Act.put, List.getElem_toArray, List.getElem_cons_zero, List.getElem_cons_succ, List.setIfInBounds_toArray, List.set_cons_zero, List.set_cons_succ]
               refine wpAnyH_take (i := 2) (v := ?_) rfl (by as_aux_lemma => kernel_rfl) (by as_aux_lemma => kernel_rfl) (by as_aux_lemma => kernel_rfl) (fun _ _ _ h => h) (Or.inl ⟨by as_aux_lemma => kernel_rfl, ?_⟩) (by assumption) ?_
               rotate_left
               ·intro w hSw; (try dsimp only at hSw); go_simp; (try with_reducible rfl)
               simp only [Act.put, List.getElem_toArray, List.getElem_cons_zero, List.getElem_cons_succ, List.setIfInBounds_toArray, List.set_cons_zero, List.set_cons_succ]
               refine wpAnyH_take (i := 3) (v := ?_) rfl (by as_aux_lemma => kernel_rfl) (by as_aux_lemma => kernel_rfl) (by as_aux_lemma => kernel_rfl) (fun _ _ _ h => h) (Or.inl ⟨by as_aux_lemma => kernel_rfl, ?_⟩) (by assumption) ?_
               rotate_left
               ·intro w hSw; (try dsimp only at hSw); go_simp; (try with_reducible rfl)
               simp only [Act.put, List.getElem_toArray, List.getElem_cons_zero, List.getElem_cons_succ, List.setIfInBounds_toArray, List.set_cons_zero, List.set_cons_succ]
               refine wpAnyH_ready (rs := [4]) (by as_aux_lemma => kernel_rfl) (by simp) ?_
               refine AllReadyH.cons rfl (fun K hK => ?_) AllReadyH.nil
               go_simp; go_at_call 17; (with_reducible refine HG0.out.mono ?_); rintro en wq ⟨rfl, hz⟩; obtain rfl := hz.symm; (try dsimp only)
               refine hK.out _ _ ?_ (fun hHeld2 => ?_)
               ·(try dsimp only); exact HZD.out.2.2
               clear hK K hHeld
               have hHeld := hHeld2
               clear hHeld2
               refine wpAnyH_take (i := 5) (v := ?_) rfl (by as_aux_lemma => kernel_rfl) (by as_aux_lemma => kernel_rfl) (by as_aux_lemma => kernel_rfl) (fun _ _ _ h => h) (Or.inl ⟨by as_aux_lemma => kernel_rfl, ?_⟩) (by assumption) ?_
               rotate_left
               ·intro w hSw; (try dsimp only at hSw); go_simp; (try with_reducible rfl)
               simp only [Act.put, List.getElem_toArray, List.getElem_cons_zero, List.getElem_cons_succ, List.setIfInBounds_toArray, List.set_cons_zero, List.set_cons_succ]
               refine wpAnyH_take (i := 6) (v := ?_) rfl (by as_aux_lemma => kernel_rfl) (by as_aux_lemma => kernel_rfl) (by as_aux_lemma => kernel_rfl) (fun _ _ _ h => h) (Or.inl ⟨by as_aux_lemma => kernel_rfl, ?_⟩) (by assumption) ?_
               rotate_left
               ·intro w hSw; (try dsimp only at hSw); go_simp; (try with_reducible rfl)
               simp only [Act.put, List.getElem_toArray, List.getElem_cons_zero, List.getElem_cons_succ, List.setIfInBounds_toArray, List.set_cons_zero, List.set_cons_succ]
               refine wpAnyH_take (i := 7) (v := ?_) rfl (by as_aux_lemma => kernel_rfl) (by as_aux_lemma => kernel_rfl) (by as_aux_lemma => kernel_rfl) (fun _ _ _ h => h) (Or.inl ⟨by as_aux_lemma => kernel_rfl, ?_⟩) (by assumption) ?_
               rotate_left
               ·intro w hSw; (try dsimp only at hSw); go_simp; (try with_reducible rfl)
               simp only [Act.put, List.getElem_toArray, List.getElem_cons_zero, List.getElem_cons_succ, List.setIfInBounds_toArray, List.set_cons_zero, List.set_cons_succ]
               refine wpAnyH_take (i := 8) (v := ?_) rfl (by as_aux_lemma => kernel_rfl) (by as_aux_lemma => kernel_rfl) (by as_aux_lemma => kernel_rfl) (fun _ _ _ h => h) (Or.inl ⟨by as_aux_lemma => kernel_rfl, ?_⟩) (by assumption) ?_
               rotate_left
               ·intro w hSw; (try dsimp only at hSw); go_simp; (try with_reducible rfl)
               simp only [Act.put, List.getElem_toArray, List.getElem_cons_zero, List.getElem_cons_succ, List.setIfInBounds_toArray, List.set_cons_zero, List.set_cons_succ]
               refine wpAnyH_take (i := 9) (v := ?_) rfl (by as_aux_lemma => kernel_rfl) (by as_aux_lemma => kernel_rfl) (by as_aux_lemma => kernel_rfl) (fun _ _ _ h => h) (Or.inl ⟨by as_aux_lemma => kernel_rfl, ?_⟩) (by assumption) ?_
               rotate_left
               ·intro w hSw; (try dsimp only at hSw); go_simp; (try with_reducible rfl)
               simp only [Act.put, List.getElem_toArray, List.getElem_cons_zero, List.getElem_cons_succ, List.setIfInBounds_toArray, List.set_cons_zero, List.set_cons_succ]
               refine wpAnyH_take (i := 10) (v := ?_) rfl (by as_aux_lemma => kernel_rfl) (by as_aux_lemma => kernel_rfl) (by as_aux_lemma => kernel_rfl) (fun _ _ _ h => h) (Or.inl ⟨by as_aux_lemma => kernel_rfl, ?_⟩) (by assumption) ?_
               rotate_left
               ·intro w hSw; (try dsimp only at hSw); go_simp; (try with_reducible rfl)
               simp only [Act.put, List.getElem_toArray, List.getElem_cons_zero, List.getElem_cons_succ, List.setIfInBounds_toArray, List.set_cons_zero, List.set_cons_succ]
               refine wpAnyH_take (i := 11) (v := ?_) rfl (by as_aux_lemma => kernel_rfl) (by as_aux_lemma => kernel_rfl) (by as_aux_lemma => kernel_rfl) (fun _ _ _ h => h) (Or.inl ⟨by as_aux_lemma => kernel_rfl, ?_⟩) (by assumption) ?_
               rotate_left
               ·intro w hSw; (try dsimp only at hSw); go_simp; (try with_reducible rfl)
               simp only [Act.put, List.getElem_toArray, List.getElem_cons_zero, List.getElem_cons_succ, List.setIfInBounds_toArray, List.set_cons_zero, List.set_cons_succ]
               refine wpAnyH_take (i := 12) (v := ?_) rfl (by as_aux_lemma => kernel_rfl) (by as_aux_lemma => kernel_rfl) (by as_aux_lemma => kernel_rfl) (fun _ _ _ h => h) (Or.inl ⟨by as_aux_lemma => kernel_rfl, ?_⟩) (by assumption) ?_
               rotate_left
               ·intro w hSw; (try dsimp only at hSw); go_simp; (try with_reducible rfl)
               simp only [Act.put, List.getElem_toArray, List.getElem_cons_zero, List.getElem_cons_succ, List.setIfInBounds_toArray, List.set_cons_zero, List.set_cons_succ]
               refine wpAnyH_take (i := 13) (v := ?_) rfl (by as_aux_lemma => kernel_rfl) (by as_aux_lemma => kernel_rfl) (by as_aux_lemma => kernel_rfl) (fun _ _ _ h => h) (Or.inl ⟨by as_aux_lemma => kernel_rfl, ?_⟩) (by assumption) ?_
               rotate_left
               ·intro w hSw; (try dsimp only at hSw); go_simp; (try with_reducible rfl)
               simp only [Act.put, List.getElem_toArray, List.getElem_cons_zero, List.getElem_cons_succ, List.setIfInBounds_toArray, List.set_cons_zero, List.set_cons_succ]
               refine wpAnyH_take (i := 16) (v := ?_) rfl (by as_aux_lemma => kernel_rfl) (by as_aux_lemma => kernel_rfl) (by as_aux_lemma => kernel_rfl) (fun _ _ _ h => h) (Or.inl ⟨by as_aux_lemma => kernel_rfl, ?_⟩) (by assumption) ?_
               rotate_left
               ·intro w hSw; (try dsimp only at hSw); go_simp; (try with_reducible rfl)
               simp only [Act.put, List.getElem_toArray, List.getElem_cons_zero, List.getElem_cons_succ, List.setIfInBounds_toArray, List.set_cons_zero, List.set_cons_succ]
               refine wpAnyH_take (i := 17) (v := ?_) rfl (by as_aux_lemma => kernel_rfl) (by as_aux_lemma => kernel_rfl) (by as_aux_lemma => kernel_rfl) (fun _ _ _ h => h) (Or.inl ⟨by as_aux_lemma => kernel_rfl, ?_⟩) (by assumption) ?_
               rotate_left
               ·intro w hSw; (try dsimp only at hSw); go_simp; (try with_reducible rfl)
               simp only [Act.put, List.getElem_toArray, List.getElem_cons_zero, List.getElem_cons_succ, List.setIfInBounds_toArray, List.set_cons_zero, List.set_cons_succ]
               refine wpAnyH_take (i := 18) (v := ?_) rfl (by as_aux_lemma => kernel_rfl) (by as_aux_lemma => kernel_rfl) (by as_aux_lemma => kernel_rfl) (fun _ _ _ h => h) (Or.inl ⟨by as_aux_lemma => kernel_rfl, ?_⟩) (by assumption) ?_
               rotate_left
               ·intro w hSw; (try dsimp only at hSw); go_simp; (try with_reducible rfl)
               simp only [Act.put, List.getElem_toArray, List.getElem_cons_zero, List.getElem_cons_succ, List.setIfInBounds_toArray, List.set_cons_zero, List.set_cons_succ]
               refine wpAnyH_ready (rs := [14]) (by as_aux_lemma => kernel_rfl) (by simp) ?_
               refine AllReadyH.cons rfl (fun K hK => ?_) AllReadyH.nil
               go_simp; go_at_call 19; (with_reducible refine HPT.out.mono ?_); rintro en wq ⟨rfl, hz⟩; obtain rfl := hz.symm; (try dsimp only)
               refine hK.out _ _ ?_ (fun hHeld2 => ?_)
               ·(try dsimp only); exact HZD.out.2.2
               clear hK K hHeld
               have hHeld := hHeld2
               clear hHeld2
               refine wpAnyH_ready (rs := [15]) (by as_aux_lemma => kernel_rfl) (by simp) ?_
               refine AllReadyH.cons rfl (fun K hK => ?_) AllReadyH.nil
               go_simp; go_at_call 20; (with_reducible refine HPE.out.mono ?_); rintro en w8 ⟨A8', c8', rfl, o8, b8⟩; (try dsimp only); have HN8 := Lib.hid (own_nums o8).1; have HZ8 := Lib.hid (HZD.out.below2 b8); have y18 := HZ8.out.2.2.1; have y28 := HZ8.out.2.2.2; have HIN : Hid (Calls Tryz.prog 18 #[.slice A8' (ksOf (e.w.N n).t.disk.pend).length c8', .int .i64 (2 * (s : Int) + (zg : Int) % 2)] w8 fun e w' => e = .returned (.bool pb) ∧ Below w8.heap.size w8 w') := Lib.hid (lin A8' _ c8' _ w8 HN8.out HPL.out pb HPB.out); clear o8 b8 HPE HZD HN8
               refine hK.out _ _ ?_ (fun hHeld2 => ?_)
               ·(try dsimp only); exact ⟨y18, y28⟩
               clear hK K hHeld
               have hHeld := hHeld2
               clear hHeld2
               refine wpAnyH_ready (rs := [19]) (by as_aux_lemma => kernel_rfl) (by simp) ?_
               refine AllReadyH.cons rfl (fun K hK => ?_) AllReadyH.nil
               go_simp; go_at_call 21; (with_reducible refine (rplace (s : Int) (zg : Int) _ (by omega) (by omega) (by omega)).mono ?_); rintro en wq ⟨rfl, hz⟩; obtain rfl := hz.symm; (try dsimp only)
               refine hK.out _ _ ?_ (fun hHeld2 => ?_)
               ·(try dsimp only); exact ⟨y18, y28⟩
               clear hK K hHeld
               have hHeld := hHeld2
               clear hHeld2
               refine wpAnyH_ready (rs := [20]) (by as_aux_lemma => kernel_rfl) (by simp) ?_
               refine AllReadyH.cons rfl (fun K hK => ?_) AllReadyH.nil
               go_simp; go_at_call 18; (with_reducible refine HIN.out.mono ?_); rintro en w9 ⟨rfl, b9⟩; (try dsimp only); have HZ9 := Lib.hid (HZ8.out.below2 b9); clear b9 HIN HZ8
               refine hK.out _ _ ?_ (fun hHeld2 => ?_)
               ·(try dsimp only); exact HZ9.out.2.2
               clear hK K hHeld
               have hHeld := hHeld2
               clear hHeld2
               refine wpAnyH_take (i := 21) (v := ?_) rfl (by as_aux_lemma => kernel_rfl) (by as_aux_lemma => kernel_rfl) (by as_aux_lemma => kernel_rfl) (fun _ _ _ h => h) (Or.inl ⟨by as_aux_lemma => kernel_rfl, ?_⟩) (by assumption) ?_
               rotate_left
               ·intro w hSw; (try dsimp only at hSw); go_simp; (try with_reducible rfl)
               simp only [Act.put, List.getElem_toArray, List.getElem_cons_zero, List.getElem_cons_succ, List.setIfInBounds_toArray, List.set_cons_zero, List.set_cons_succ]
               refine wpAnyH_take (i := 22) (v := ?_) rfl (by as_aux_lemma => kernel_rfl) (by as_aux_lemma => kernel_rfl) (by as_aux_lemma => kernel_rfl) (fun _ _ _ h => h) (Or.inl ⟨by as_aux_lemma => kernel_rfl, ?_⟩) (by assumption) ?_
               rotate_left
               ·intro w hSw; (try dsimp only at hSw); go_simp; (try with_reducible rfl)
               simp only [Act.put, List.getElem_toArray, List.getElem_cons_zero, List.getElem_cons_succ, List.setIfInBounds_toArray, List.set_cons_zero, List.set_cons_succ]
               refine wpAnyH_done (by as_aux_lemma => kernel_rfl) ?_ _
               rotate_left
               (try simp only [List.setIfInBounds_toArray])
               go_wp2_with fail
               go_meet
               case rel => exact ⟨rfl, by rw [← HPZ2.out], HZ9⟩
              ·have hi2 : ¬ (zi : Int) = (k6 : Int) := by omega
               have hi3 : ((zi : Int) == (k6 : Int)) = false := by rw [beq_eq_false_iff_ne]; exact hi2
               go_big_quiet ((go_at_call 17; exact Calls.quiet_of_same (HGq.out _)))
               go_wp2_with fail
               go_meet
               case rel => exact ⟨rfl, by rw [← HPZ.out, decide_eq_false hi1]; simp, Lib.hid (HZ4.out.below2 (below_drewN _ w4))⟩
             ·have hg2 : ¬ (zg : Int) = (gn : Int) := by omega
              have hg3 : ((zg : Int) == (gn : Int)) = false := by rw [beq_eq_false_iff_ne]; exact hg2
              go_big_quiet ((go_at_call 17; exact Calls.quiet_of_same (HGq.out _)))
              go_wp2_with fail
              go_meet
              case rel => exact ⟨rfl, by rw [← HPZ.out, decide_eq_false hg1]; rfl, Lib.hid (HZ4.out.below2 (below_drewN _ w4))⟩
            case rest =>
             obtain ⟨rfl, rfl, HS9⟩ := hcut
             clear HZ4 HG0 HGq HPB0 HPZ y1 y2
             generalize wc = w9 at *
             cases pz with
             | true =>
              have hN1 : (Lp.take (k + 1)).countP (cPc (e.w.N n) s (e.gen s) k6) = Ck + 1 := HNX.out.trans (by rw [if_pos rfl])
              have HN1 := Lib.hid hN1
              clear hN1
              go_wp2_with fail
              go_roundg (l1 - (k + 1))
              case measure => omega
              case rel => exact ⟨k + 1, by go_num, by omega, rfl, by rw [HN1.out]; go_num, Lib.hid ⟨HS9.out.1, HS9.out.2.1⟩⟩
             | false =>
              have hN1 : (Lp.take (k + 1)).countP (cPc (e.w.N n) s (e.gen s) k6) = Ck := HNX.out.trans (by rw [if_neg (by decide)]; rfl)
              have HN1 := Lib.hid hN1
              clear hN1
              go_wp2_with fail
              go_roundg (l1 - (k + 1))
              case measure => omega
              case rel => exact ⟨k + 1, by go_num, by omega, rfl, by rw [HN1.out], Lib.hid ⟨HS9.out.1, HS9.out.2.1⟩⟩
           ·obtain rfl : k = l1 := by omega
            have hge : ¬ (k : Int) < (k : Int) := by omega
            have HCN : Hid (sumT (cC1 e s) (n + 1) = C1 + Ck) := Lib.hid (by
             rw [sumT_succ, HCC.out, ← HCK.out, List.take_of_length_le (Nat.le_of_eq HL1.out), ← HLP.out]
             unfold cC1
             rw [HK6.out, if_pos hx])
            obtain ⟨C2, hC2⟩ : ∃ C2, C1 + Ck = C2 := ⟨_, rfl⟩
            have hC9 : C2 ≤ 100 := by omega
            rw [hC2] at HCN ⊢
            obtain ⟨wz, hwz⟩ : ∃ wz : World, wz = wo := ⟨_, rfl⟩
            replace HZ := Lib.hid HZ.out.1
            rw [← hwz] at HZ ⊢
            clear hC2 hwz HCC HCK HLP HK6 hkl HL1
            as_aux_lemma =>
             obtain ⟨rr, hR1, hR2⟩ := wl_live HZ.out.cs.le.wl hnl
             have HR1 := Lib.hid hR1
             have HR2 := Lib.hid (hR2 wz (Below.refl _ _))
             obtain ⟨T, hT⟩ : ∃ T, (liveT (e.w.N n).R).map (·.2) = T := ⟨_, rfl⟩
             have HTT := Lib.hid hT
             rw [hT] at HR2
             have hT16 : T.length ≤ 16 := by rw [← hT, List.length_map]; exact liveT_le _
             clear hR1 hR2 hT
             go_wp2_with fail
             refine HR1.out.mono ?_
             rintro en w' ⟨rfl, hw⟩
             obtain rfl := hw.symm
             try dsimp only
             go_wp2_with fail
             refine HR2.out.mono ?_
             rintro en w7 ⟨B8, c8, rfl, I8, b8⟩
             try dsimp only
             obtain ⟨l2, hl2⟩ : ∃ l2, T.length = l2 := ⟨_, rfl⟩
             have HL2 := Lib.hid hl2
             have HP8 : Hid (CR w g nd p lim (i + 1) mb r n0 cnt1 e f D left1 w7 ∧ LI w7 wz.heap.size (.slice B8 T.length c8) T) := Lib.hid ⟨HZ.out.below b8, I8⟩
             obtain ⟨B9, hB9⟩ : ∃ B9, wz.heap.size = B9 := ⟨_, rfl⟩
             rw [hl2, hB9] at HP8
             rw [hl2] at hT16 ⊢
             clear hl2 I8 b8 hB9 HR1 HR2 HZ
             go_wp2_with fail
             go_loopg [155, 15] l2 (fun q s155 s15 wz => ∃ k : Nat, s155 = .int .i64 (k : Int) ∧ k ≤ l2 ∧ q = l2 - k ∧ s15 = .int .i64 ((I1 + (T.take k).countP (cIt s (e.gen s) (bytesF d)) : Nat) : Int) ∧ Hid (CR w g nd p lim (i + 1) mb r n0 cnt1 e f D left1 wz ∧ LI wz B9 (.slice B8 l2 c8) T))
             case atStart => exact ⟨0, rfl, by omega, rfl, by simp, HP8⟩
             case round =>
              obtain ⟨k, rfl, hk, rfl, rfl, HZ⟩ := hrel
              generalize wr = wo at *
              clear HP8
              obtain ⟨Ck, hCk⟩ : ∃ Ck, (T.take k).countP (cIt s (e.gen s) (bytesF d)) = Ck := ⟨_, rfl⟩
              have hCk2 : Ck ≤ 16 := by rw [← hCk]; exact Nat.le_trans (countP_le _ _ _) (by rw [HL2.out]; omega)
              have HCK := Lib.hid hCk
              rw [hCk]
              clear hCk
              by_cases hkl : k < l2
              ·have t9 : (k : Int) < (l2 : Int) := by omega
               obtain ⟨y, hy⟩ : ∃ y, T[k]? = some y := ⟨_, List.getElem?_eq_getElem (by rw [HL2.out]; exact hkl)⟩
               obtain ⟨b, c', Ay, cy, hv, _, a0, a1, a2, ad⟩ := HZ.out.2.at3 hy
               rw [HL2.out] at hv
               cases hv
               have HNX : Hid ((T.take (k + 1)).countP (cIt s (e.gen s) (bytesF d)) = Ck + (if cIt s (e.gen s) (bytesF d) y = true then 1 else 0)) := Lib.hid (by rw [countP_take hy, HCK.out])
               have HYB : Hid (∀ j, j < 128 → y.D j < 256) := Lib.hid (fun j hj => HZ.out.1.cs.itbytes hnl (by rw [HTT.out]; exact List.mem_of_getElem? hy) j hj)
               obtain ⟨Q, hQ⟩ : ∃ Q, wo.heap.size = Q := ⟨_, rfl⟩
               obtain ⟨w4, hw4⟩ : ∃ w4, wo.alloc (.cells #[.int .i64 (y.s : Int), .int .i64 (y.g : Int), .slice Ay 128 cy] 62) = w4 := ⟨_, rfl⟩
               have B4 : Below wo.heap.size wo w4 := by rw [← hw4]; exact (Below.refl _ _).alloc (Nat.le_refl _) _
               have hb4 : w4.heap[Q]? = some (.cells #[.int .i64 (y.s : Int), .int .i64 (y.g : Int), .slice Ay 128 cy] 62 (0, 0)) := by rw [← hw4, ← hQ]; exact alloc_block _ _
               have y0 : w4.cell? ⟨Q, 0, none⟩ = some (.int .i64 (y.s : Int)) := cell_of_block hb4
               have y1 : w4.cell? ⟨Q, 1, none⟩ = some (.int .i64 (y.g : Int)) := cell_of_block hb4
               have y2 : w4.cell? ⟨Q, 2, none⟩ = some (.slice Ay 128 cy) := cell_of_block hb4
               obtain ⟨ys, hys⟩ : ∃ ys, y.s = ys := ⟨_, rfl⟩
               obtain ⟨yg, hyg⟩ : ∃ yg, y.g = yg := ⟨_, rfl⟩
               obtain ⟨pz, hpz⟩ : ∃ pz, cIt s (e.gen s) (bytesF d) y = pz := ⟨_, rfl⟩
               rw [hpz] at HNX
               obtain ⟨gn, hgn⟩ : ∃ gn, e.gen s = gn := ⟨_, rfl⟩
               obtain ⟨pb, hpb⟩ : ∃ pb, decide ((List.range 128).map y.D = (List.range 128).map (bytesF d)) = pb := ⟨_, rfl⟩
               have HPZ : Hid ((decide (ys = s) && decide (yg = gn) && pb) = pz) := Lib.hid (by rw [← hpz, ← hpb, ← hgn, ← hys, ← hyg]; rfl)
               have HGq : Hid (∀ q, Calls Tryz.prog 17 #[.pointer (some ⟨p, 0, none⟩), .int .i64 (s : Int)] (w4.drewN q) fun en w' => en = .returned (.int .i64 (gn : Int)) ∧ w' = w4.drewN q) := Lib.hid (fun q => by rw [← hgn]; exact le_gen (((HZ.out.1.below B4).below (below_drewN q w4)).cs.le) (by omega))
               have HZ4 : Hid (CR w g nd p lim (i + 1) mb r n0 cnt1 e f D left1 w4 ∧ LI w4 B9 (.slice (some ⟨b, 0, none⟩) l2 c8) T) := Lib.hid ⟨HZ.out.1.below B4, HZ.out.2.below B4⟩
               have HYD : Hid (DatI w4 Ay y.D) := Lib.hid (ad.keep (fun g _ hg => B4.block g (heap_lt hg)))
               have HBD : Hid (DatN w4 (some ⟨cb, 0, none⟩) 128 (bytesF d)) := Lib.hid ((HZ4.out.1.cs.f4 s cb d HF.out).2)
               have hc1 : ∀ q, Sem.run Tryz.prog (convert 33 9 (.slice Ay 128 cy)) (w4.drewN q) = .ok (.string (strOf ((List.range 128).map y.D))) (w4.drewN q) := fun q => conv_rd ((HYD.out.keep (fun g _ hg => (below_drewN q w4).block g (heap_lt hg))).rd)
               have hc2 : ∀ q, Sem.run Tryz.prog (convert 33 9 (.slice (some ⟨cb, 0, none⟩) 128 128)) (w4.drewN q) = .ok (.string (strOf ((List.range 128).map (bytesF d)))) (w4.drewN q) := fun q => conv_rd ((HBD.out.keep (fun g _ hg => (below_drewN q w4).block g (heap_lt hg))).rd)
               have hsb : ((strOf ((List.range 128).map y.D)).toList == (strOf ((List.range 128).map (bytesF d))).toList) = pb := by
                rw [str_beq _ _ (bd_map HYB.out) (bd_map (fun j _ => bytesF_lt d j)), hpb]
               have HQ := Lib.hid hQ
               have HV4 := Lib.hid hw4
               rw [hys, hyg] at HV4
               rw [hys] at y0 a0
               rw [hyg] at y1 a1
               clear hy ad hQ hw4 B4 hb4 hys hyg hpz hpb hgn HZ HYD HBD HYB
               generalize (strOf ((List.range 128).map y.D)) = sA at *
               generalize (strOf ((List.range 128).map (bytesF d))) = sB at *
               go_upto_region 42 with fail
               try rw [HV4.out, HQ.out]
               clear HV4 HQ a0 a1 a2
               go_cut [155, 178] from 155 to 181 (fun s155 s178 wx => s155 = .int .i64 (k : Int) ∧ s178 = .bool pz ∧ Hid (CR w g nd p lim (i + 1) mb r n0 cnt1 e f D left1 wx ∧ LI wx B9 (.slice (some ⟨b, 0, none⟩) l2 c8) T))
               case first =>
                by_cases hs1 : ys = s
                ·subst hs1
                 by_cases hg1 : yg = gn
                 ·subst hg1
                  go_big_quiet ((go_at_call 17; exact Calls.quiet_of_same (HGq.out _)))
                  go_wp2_with fail
                  go_meet
                  case rel => exact ⟨rfl, by rw [← HPZ.out]; simp, Lib.hid ⟨HZ4.out.1.below (below_drewN _ w4), HZ4.out.2.below (below_drewN _ w4)⟩⟩
                 ·have hg2 : ¬ (yg : Int) = (gn : Int) := by omega
                  have hg3 : ((yg : Int) == (gn : Int)) = false := by rw [beq_eq_false_iff_ne]; exact hg2
                  go_big_quiet ((go_at_call 17; exact Calls.quiet_of_same (HGq.out _)))
                  go_wp2_with fail
                  go_meet
                  case rel => exact ⟨rfl, by rw [← HPZ.out, decide_eq_false hg1]; simp, Lib.hid ⟨HZ4.out.1.below (below_drewN _ w4), HZ4.out.2.below (below_drewN _ w4)⟩⟩
                ·have hs2 : ¬ (ys : Int) = (s : Int) := by omega
                 have hs3 : ((ys : Int) == (s : Int)) = false := by rw [beq_eq_false_iff_ne]; exact hs2
                 go_big_quiet (fail)
                 go_wp2_with fail
                 go_meet
                 case rel => exact ⟨rfl, by rw [← HPZ.out, decide_eq_false hs1]; rfl, Lib.hid ⟨HZ4.out.1.below (below_drewN _ w4), HZ4.out.2.below (below_drewN _ w4)⟩⟩
               case rest =>
                obtain ⟨rfl, rfl, HS9⟩ := hcut
                clear HZ4 HGq HPZ y0 y1 y2 hc1 hc2 hsb
                generalize wc = w9 at *
                cases pz with
                | true =>
                 have hN1 : (T.take (k + 1)).countP (cIt s (e.gen s) (bytesF d)) = Ck + 1 := HNX.out.trans (by rw [if_pos rfl])
                 have HN1 := Lib.hid hN1
                 clear hN1
                 go_wp2_with fail
                 go_roundg (l2 - (k + 1))
                 case measure => omega
                 case rel => exact ⟨k + 1, by go_num, by omega, rfl, by rw [HN1.out]; go_num, HS9⟩
                | false =>
                 have hN1 : (T.take (k + 1)).countP (cIt s (e.gen s) (bytesF d)) = Ck := HNX.out.trans (by rw [if_neg (by decide)]; rfl)
                 have HN1 := Lib.hid hN1
                 clear hN1
                 go_wp2_with fail
                 go_roundg (l2 - (k + 1))
                 case measure => omega
                 case rel => exact ⟨k + 1, by go_num, by omega, rfl, by rw [HN1.out], HS9⟩
              ·obtain rfl : k = l2 := by omega
               have hge : ¬ (k : Int) < (k : Int) := by omega
               have HIN : Hid (sumT (cI1 e s (bytesF d)) (n + 1) = I1 + Ck) := Lib.hid (by
                rw [sumT_succ, HII.out, ← HCK.out, List.take_of_length_le (Nat.le_of_eq HL2.out), ← HTT.out]
                rfl)
               have HZ1 := Lib.hid HZ.out.1
               clear HZ HII HCK HTT HL2 hkl
               go_wp2_with fail
               go_roundg (8 - (n + 1))
               case measure => omega
               case rel => exact ⟨n + 1, by rw [HCN.out], by rw [HIN.out]; go_num, by go_num, by omega, rfl, HZ1⟩
        ·rw [if_neg hx] at HIX
         have t0 : ¬ (0 : Int) ≤ -1 := by omega
         go_wp2_with fail
         refine HND.out.mono ?_
         rintro en w' ⟨rfl, hw⟩
         obtain rfl := hw.symm
         try dsimp only
         go_wp2_with fail
         refine HIX.out.mono ?_
         rintro en w' ⟨rfl, hw⟩
         obtain rfl := hw.symm
         try dsimp only
         have HCN : Hid (sumT (cC1 e s) (n + 1) = C1) := Lib.hid (by rw [sumT_succ, HCC.out]; unfold cC1; rw [if_neg hx]; rfl)
         have hC9 : C1 ≤ 100 := by omega
         have HZ := Lib.hid HN.out
         obtain ⟨wz, hwz⟩ : ∃ wz : World, wz = wn := ⟨_, rfl⟩
         rw [← hwz] at HZ ⊢
         generalize C1 = C2 at *
         clear hwz HIX HND HN hx HCC
         as_aux_lemma =>
          obtain ⟨rr, hR1, hR2⟩ := wl_live HZ.out.cs.le.wl hnl
          have HR1 := Lib.hid hR1
          have HR2 := Lib.hid (hR2 wz (Below.refl _ _))
          obtain ⟨T, hT⟩ : ∃ T, (liveT (e.w.N n).R).map (·.2) = T := ⟨_, rfl⟩
          have HTT := Lib.hid hT
          rw [hT] at HR2
          have hT16 : T.length ≤ 16 := by rw [← hT, List.length_map]; exact liveT_le _
          clear hR1 hR2 hT
          go_wp2_with fail
          refine HR1.out.mono ?_
          rintro en w' ⟨rfl, hw⟩
          obtain rfl := hw.symm
          try dsimp only
          go_wp2_with fail
          refine HR2.out.mono ?_
          rintro en w7 ⟨B8, c8, rfl, I8, b8⟩
          try dsimp only
          obtain ⟨l2, hl2⟩ : ∃ l2, T.length = l2 := ⟨_, rfl⟩
          have HL2 := Lib.hid hl2
          have HP8 : Hid (CR w g nd p lim (i + 1) mb r n0 cnt1 e f D left1 w7 ∧ LI w7 wz.heap.size (.slice B8 T.length c8) T) := Lib.hid ⟨HZ.out.below b8, I8⟩
          obtain ⟨B9, hB9⟩ : ∃ B9, wz.heap.size = B9 := ⟨_, rfl⟩
          rw [hl2, hB9] at HP8
          rw [hl2] at hT16 ⊢
          clear hl2 I8 b8 hB9 HR1 HR2 HZ
          go_wp2_with fail
          go_loopg [155, 15] l2 (fun q s155 s15 wz => ∃ k : Nat, s155 = .int .i64 (k : Int) ∧ k ≤ l2 ∧ q = l2 - k ∧ s15 = .int .i64 ((I1 + (T.take k).countP (cIt s (e.gen s) (bytesF d)) : Nat) : Int) ∧ Hid (CR w g nd p lim (i + 1) mb r n0 cnt1 e f D left1 wz ∧ LI wz B9 (.slice B8 l2 c8) T))
          case atStart => exact ⟨0, rfl, by omega, rfl, by simp, HP8⟩
          case round =>
           obtain ⟨k, rfl, hk, rfl, rfl, HZ⟩ := hrel
           generalize wr = wo at *
           clear HP8
           obtain ⟨Ck, hCk⟩ : ∃ Ck, (T.take k).countP (cIt s (e.gen s) (bytesF d)) = Ck := ⟨_, rfl⟩
           have hCk2 : Ck ≤ 16 := by rw [← hCk]; exact Nat.le_trans (countP_le _ _ _) (by rw [HL2.out]; omega)
           have HCK := Lib.hid hCk
           rw [hCk]
           clear hCk
           by_cases hkl : k < l2
           ·have t9 : (k : Int) < (l2 : Int) := by omega
            obtain ⟨y, hy⟩ : ∃ y, T[k]? = some y := ⟨_, List.getElem?_eq_getElem (by rw [HL2.out]; exact hkl)⟩
            obtain ⟨b, c', Ay, cy, hv, _, a0, a1, a2, ad⟩ := HZ.out.2.at3 hy
            rw [HL2.out] at hv
            cases hv
            have HNX : Hid ((T.take (k + 1)).countP (cIt s (e.gen s) (bytesF d)) = Ck + (if cIt s (e.gen s) (bytesF d) y = true then 1 else 0)) := Lib.hid (by rw [countP_take hy, HCK.out])
            have HYB : Hid (∀ j, j < 128 → y.D j < 256) := Lib.hid (fun j hj => HZ.out.1.cs.itbytes hnl (by rw [HTT.out]; exact List.mem_of_getElem? hy) j hj)
            obtain ⟨Q, hQ⟩ : ∃ Q, wo.heap.size = Q := ⟨_, rfl⟩
            obtain ⟨w4, hw4⟩ : ∃ w4, wo.alloc (.cells #[.int .i64 (y.s : Int), .int .i64 (y.g : Int), .slice Ay 128 cy] 62) = w4 := ⟨_, rfl⟩
            have B4 : Below wo.heap.size wo w4 := by rw [← hw4]; exact (Below.refl _ _).alloc (Nat.le_refl _) _
            have hb4 : w4.heap[Q]? = some (.cells #[.int .i64 (y.s : Int), .int .i64 (y.g : Int), .slice Ay 128 cy] 62 (0, 0)) := by rw [← hw4, ← hQ]; exact alloc_block _ _
            have y0 : w4.cell? ⟨Q, 0, none⟩ = some (.int .i64 (y.s : Int)) := cell_of_block hb4
            have y1 : w4.cell? ⟨Q, 1, none⟩ = some (.int .i64 (y.g : Int)) := cell_of_block hb4
            have y2 : w4.cell? ⟨Q, 2, none⟩ = some (.slice Ay 128 cy) := cell_of_block hb4
            obtain ⟨ys, hys⟩ : ∃ ys, y.s = ys := ⟨_, rfl⟩
            obtain ⟨yg, hyg⟩ : ∃ yg, y.g = yg := ⟨_, rfl⟩
            obtain ⟨pz, hpz⟩ : ∃ pz, cIt s (e.gen s) (bytesF d) y = pz := ⟨_, rfl⟩
            rw [hpz] at HNX
            obtain ⟨gn, hgn⟩ : ∃ gn, e.gen s = gn := ⟨_, rfl⟩
            obtain ⟨pb, hpb⟩ : ∃ pb, decide ((List.range 128).map y.D = (List.range 128).map (bytesF d)) = pb := ⟨_, rfl⟩
            have HPZ : Hid ((decide (ys = s) && decide (yg = gn) && pb) = pz) := Lib.hid (by rw [← hpz, ← hpb, ← hgn, ← hys, ← hyg]; rfl)
            have HGq : Hid (∀ q, Calls Tryz.prog 17 #[.pointer (some ⟨p, 0, none⟩), .int .i64 (s : Int)] (w4.drewN q) fun en w' => en = .returned (.int .i64 (gn : Int)) ∧ w' = w4.drewN q) := Lib.hid (fun q => by rw [← hgn]; exact le_gen (((HZ.out.1.below B4).below (below_drewN q w4)).cs.le) (by omega))
            have HZ4 : Hid (CR w g nd p lim (i + 1) mb r n0 cnt1 e f D left1 w4 ∧ LI w4 B9 (.slice (some ⟨b, 0, none⟩) l2 c8) T) := Lib.hid ⟨HZ.out.1.below B4, HZ.out.2.below B4⟩
            have HYD : Hid (DatI w4 Ay y.D) := Lib.hid (ad.keep (fun g _ hg => B4.block g (heap_lt hg)))
            have HBD : Hid (DatN w4 (some ⟨cb, 0, none⟩) 128 (bytesF d)) := Lib.hid ((HZ4.out.1.cs.f4 s cb d HF.out).2)
            have hc1 : ∀ q, Sem.run Tryz.prog (convert 33 9 (.slice Ay 128 cy)) (w4.drewN q) = .ok (.string (strOf ((List.range 128).map y.D))) (w4.drewN q) := fun q => conv_rd ((HYD.out.keep (fun g _ hg => (below_drewN q w4).block g (heap_lt hg))).rd)
            have hc2 : ∀ q, Sem.run Tryz.prog (convert 33 9 (.slice (some ⟨cb, 0, none⟩) 128 128)) (w4.drewN q) = .ok (.string (strOf ((List.range 128).map (bytesF d)))) (w4.drewN q) := fun q => conv_rd ((HBD.out.keep (fun g _ hg => (below_drewN q w4).block g (heap_lt hg))).rd)
            have hsb : ((strOf ((List.range 128).map y.D)).toList == (strOf ((List.range 128).map (bytesF d))).toList) = pb := by
             rw [str_beq _ _ (bd_map HYB.out) (bd_map (fun j _ => bytesF_lt d j)), hpb]
            have HQ := Lib.hid hQ
            have HV4 := Lib.hid hw4
            rw [hys, hyg] at HV4
            rw [hys] at y0 a0
            rw [hyg] at y1 a1
            clear hy ad hQ hw4 B4 hb4 hys hyg hpz hpb hgn HZ HYD HBD HYB
            generalize (strOf ((List.range 128).map y.D)) = sA at *
            generalize (strOf ((List.range 128).map (bytesF d))) = sB at *
            go_upto_region 42 with fail
            try rw [HV4.out, HQ.out]
            clear HV4 HQ a0 a1 a2
            go_cut [155, 178] from 155 to 181 (fun s155 s178 wx => s155 = .int .i64 (k : Int) ∧ s178 = .bool pz ∧ Hid (CR w g nd p lim (i + 1) mb r n0 cnt1 e f D left1 wx ∧ LI wx B9 (.slice (some ⟨b, 0, none⟩) l2 c8) T))
            case first =>
             by_cases hs1 : ys = s
             ·subst hs1
              by_cases hg1 : yg = gn
              ·subst hg1
               go_big_quiet ((go_at_call 17; exact Calls.quiet_of_same (HGq.out _)))
               go_wp2_with fail
               go_meet
               case rel => exact ⟨rfl, by rw [← HPZ.out]; simp, Lib.hid ⟨HZ4.out.1.below (below_drewN _ w4), HZ4.out.2.below (below_drewN _ w4)⟩⟩
              ·have hg2 : ¬ (yg : Int) = (gn : Int) := by omega
               have hg3 : ((yg : Int) == (gn : Int)) = false := by rw [beq_eq_false_iff_ne]; exact hg2
               go_big_quiet ((go_at_call 17; exact Calls.quiet_of_same (HGq.out _)))
               go_wp2_with fail
               go_meet
               case rel => exact ⟨rfl, by rw [← HPZ.out, decide_eq_false hg1]; simp, Lib.hid ⟨HZ4.out.1.below (below_drewN _ w4), HZ4.out.2.below (below_drewN _ w4)⟩⟩
             ·have hs2 : ¬ (ys : Int) = (s : Int) := by omega
              have hs3 : ((ys : Int) == (s : Int)) = false := by rw [beq_eq_false_iff_ne]; exact hs2
              go_big_quiet (fail)
              go_wp2_with fail
              go_meet
              case rel => exact ⟨rfl, by rw [← HPZ.out, decide_eq_false hs1]; rfl, Lib.hid ⟨HZ4.out.1.below (below_drewN _ w4), HZ4.out.2.below (below_drewN _ w4)⟩⟩
            case rest =>
             obtain ⟨rfl, rfl, HS9⟩ := hcut
             clear HZ4 HGq HPZ y0 y1 y2 hc1 hc2 hsb
             generalize wc = w9 at *
             cases pz with
             | true =>
              have hN1 : (T.take (k + 1)).countP (cIt s (e.gen s) (bytesF d)) = Ck + 1 := HNX.out.trans (by rw [if_pos rfl])
              have HN1 := Lib.hid hN1
              clear hN1
              go_wp2_with fail
              go_roundg (l2 - (k + 1))
              case measure => omega
              case rel => exact ⟨k + 1, by go_num, by omega, rfl, by rw [HN1.out]; go_num, HS9⟩
             | false =>
              have hN1 : (T.take (k + 1)).countP (cIt s (e.gen s) (bytesF d)) = Ck := HNX.out.trans (by rw [if_neg (by decide)]; rfl)
              have HN1 := Lib.hid hN1
              clear hN1
              go_wp2_with fail
              go_roundg (l2 - (k + 1))
              case measure => omega
              case rel => exact ⟨k + 1, by go_num, by omega, rfl, by rw [HN1.out], HS9⟩
           ·obtain rfl : k = l2 := by omega
            have hge : ¬ (k : Int) < (k : Int) := by omega
            have HIN : Hid (sumT (cI1 e s (bytesF d)) (n + 1) = I1 + Ck) := Lib.hid (by
             rw [sumT_succ, HII.out, ← HCK.out, List.take_of_length_le (Nat.le_of_eq HL2.out), ← HTT.out]
             rfl)
            have HZ1 := Lib.hid HZ.out.1
            clear HZ HII HCK HTT HL2 hkl
            go_wp2_with fail
            go_roundg (8 - (n + 1))
            case measure => omega
            case rel => exact ⟨n + 1, by rw [HCN.out], by rw [HIN.out]; go_num, by go_num, by omega, rfl, HZ1⟩
       ·obtain rfl : n = 8 := by omega
        as_aux_lemma =>
         have HCH : Hid ((e.pend s).isSome = false → sumT (cC1 e s) 8 = 6) := Lib.hid (fun hp => HN.out.cs.chunks HF.out hp)
         have HIT : Hid ((e.pend s).isSome = true → 3 ≤ sumT (cI1 e s (bytesF d)) 8) := Lib.hid (fun hp => HN.out.cs.ints HF.out hp)
         obtain ⟨C8, hC8⟩ : ∃ C8, sumT (cC1 e s) 8 = C8 := ⟨_, rfl⟩
         obtain ⟨I8, hI8⟩ : ∃ I8, sumT (cI1 e s (bytesF d)) 8 = I8 := ⟨_, rfl⟩
         rw [hC8] at HCH
         rw [hI8] at HIT
         rw [hC8, hI8]
         clear hC8 hI8
         obtain ⟨pd, hpd⟩ : ∃ pd, (e.pend s).isSome = pd := ⟨_, rfl⟩
         have HPD := Lib.hid (le_pending HN.out.cs.le)
         obtain ⟨ds, hds⟩ : ∃ ds, listE (fun k => (e.pend k).isSome) = ds := ⟨_, rfl⟩
         have HDS : Hid (ds.length ≤ 40 ∧ (pd = true ↔ (s : Int) ∈ ds)) := Lib.hid (by
          rw [← hds]
          refine ⟨listE_len _, ?_⟩
          rw [listE_mem, hpd]
          exact ⟨fun h => ⟨by omega, h⟩, fun h => h.2⟩)
         rw [hds] at HPD
         rw [hpd] at HCH HIT
         clear hds hpd
         go_wp2_with fail
         refine HPD.out.mono ?_
         rintro en w7 ⟨A7, c7, rfl, N7, b7⟩
         try dsimp only
         have HN7 := Lib.hid (HN.out.below b7)
         have HLI := Lib.hid (lin A7 ds c7 (s : Int) w7 N7 (by have := HDS.out.1; omega) pd HDS.out.2)
         obtain ⟨m7, hm7⟩ : ∃ m7, ds.length = m7 := ⟨_, rfl⟩
         rw [hm7] at HLI ⊢
         clear N7 b7 HPD HN hm7 HDS
         go_wp2_with fail
         refine HLI.out.mono ?_
         rintro en w8 ⟨rfl, b8⟩
         try dsimp only
         have HN8 := Lib.hid (HN7.out.below b8)
         clear b8 HLI HN7
         cases pd with
         | true =>
          have h3 : ¬ (I8 : Int) < 3 := by have := HIT.out rfl; omega
          go_wp2_with fail
          go_roundg cnt1
          case measure => exact hlt1
          case rel => exact ⟨_, HN8⟩
         | false =>
          have h6 : C8 = 6 := HCH.out rfl
          subst h6
          have HDB := Lib.hid (le_doubt HN8.out.cs.le)
          obtain ⟨db, hdb⟩ : ∃ db, e.doubt s = db := ⟨_, rfl⟩
          obtain ⟨ds2, hds⟩ : ∃ ds, listE e.doubt = ds := ⟨_, rfl⟩
          have HDS : Hid (ds2.length ≤ 40 ∧ (db = true ↔ (s : Int) ∈ ds2)) := Lib.hid (by
           rw [← hds]
           refine ⟨listE_len _, ?_⟩
           rw [listE_mem, hdb]
           exact ⟨fun h => ⟨by omega, h⟩, fun h => h.2⟩)
          rw [hds] at HDB
          clear hds hdb
          go_wp2_with fail
          refine HDB.out.mono ?_
          rintro en w9 ⟨A9, c9, rfl, N9, b9⟩
          try dsimp only
          have HN9 := Lib.hid (HN8.out.below b9)
          have HLJ := Lib.hid (lin A9 ds2 c9 (s : Int) w9 N9 (by have := HDS.out.1; omega) db HDS.out.2)
          obtain ⟨m9, hm9⟩ : ∃ m9, ds2.length = m9 := ⟨_, rfl⟩
          rw [hm9] at HLJ ⊢
          clear N9 b9 HDB HN8 hm9 HDS
          go_wp2_with fail
          refine HLJ.out.mono ?_
          rintro en wa ⟨rfl, ba⟩
          try dsimp only
          have HNa := Lib.hid (HN9.out.below ba)
          clear ba HLJ HN9
          cases db with
          | true =>
           go_wp2_with fail
           go_roundg cnt1
           case measure => exact hlt1
           case rel => exact ⟨_, HNa⟩
          | false =>
           go_wp2_with fail
           go_roundg cnt1
           case measure => exact hlt1
           case rel => exact ⟨_, HNa⟩
  ·obtain rfl : i = nn := by omega
   obtain ⟨e, f, hcs⟩ := HS.out
   have HX : Hid (Below w.heap.size w v) := Lib.hid hcs.le.wl.blw
   have HWI := Lib.hid (le_wire hcs.le)
   have q5 := kw_peq g
   clear HS hlt hcs
   by_cases hm2 : m ≤ i
   ·have t1 : ¬ (i : Int) < (m : Int) := by omega
    have t2 : decide (i < m) = false := decide_eq_false (by omega)
    go_wp2_with fail
    refine HWI.out.mono ?_
    rintro en w7 ⟨rfl, b7⟩
    try dsimp only
    have HX7 := Lib.hid (HX.out.trans (b7.mono HX.out.size))
    clear b7 HWI HX
    go_wp2_with fail
    go_ret
    exact ⟨rfl, HX7.out⟩
   ·have t1 : (i : Int) < (m : Int) := by omega
    have t2 : ¬ (i : Int) < 22 := by have := HNN.out i rfl; omega
    go_wp2_with fail
    refine HWI.out.mono ?_
    rintro en w7 ⟨rfl, b7⟩
    try dsimp only
    have HX7 := Lib.hid (HX.out.trans (b7.mono HX.out.size))
    clear b7 HWI HX
    go_wp2_with fail
    go_ret
    exact ⟨rfl, HX7.out⟩
end Go.Proofs.YtelmcchleclklaaGreat
