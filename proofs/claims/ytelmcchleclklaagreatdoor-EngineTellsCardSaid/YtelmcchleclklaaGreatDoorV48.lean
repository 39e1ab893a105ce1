import Derived.Test.YtelmcchleclklaaGreatDoorV47
namespace Go.Proofs.YtelmcchleclklaaGreatDoor
open Go.RowKit Go.Sort
set_option maxRecDepth 100000
set_option maxHeartbeats 20000000

theorem engineTells (a : Option Addr) (L : List A14) (c : Nat) (w : World) (hL : A14sIn w a L) (hm : L.length ≤ 9223372036854775807) (hE : ErrType w) :
  Calls Tryz.prog 5 #[.slice a L.length c] w fun e w' => e = .returned (.bool true) ∧ Below w.heap.size w w' := by
 have HE := Lib.hid hE
 have HLL := Lib.hid hL
 obtain ⟨m, hml⟩ : ∃ m, L.length = m := ⟨_, rfl⟩
 rw [hml] at hm ⊢
 have HM := Lib.hid hml
 obtain ⟨nn, hnn⟩ : ∃ nn, nn = min m 25 := ⟨_, rfl⟩
 have n25 : nn ≤ 25 := by omega
 have nm : nn ≤ m := by omega
 have HNN : Hid (∀ i : Nat, i = nn → m ≤ i ∨ 25 ≤ i) := Lib.hid (by omega)
 clear hnn hL hml hE
 have q1 := we_eqlNil
 have q2 := we_neqNil
 have q3 := we_eqlNilNil
 have q4 := we_neqNilNil
 have hmk : ∀ W : World, Sem.run Tryz.prog (Instr.makeMap 63 none) W = .ok (.map (some W.heap.size)) (W.alloc (.map #[] 0)) := fun W => run_makeMap _ W
 go_enter Tryz.func5, Tryz.ntmps5
 go_wp2_with fail
 refine (lbegin w).mono ?_
 rintro e w1 ⟨g, nd, p, rfl, L1, b1⟩
 try dsimp only
 have HL1 := Lib.hid L1
 obtain ⟨lim, hlim⟩ : ∃ lim, w1.heap.size = lim := ⟨_, rfl⟩
 rw [hlim] at HL1
 clear L1 b1 hlim
 go_wp2_with fail
 refine (lknown14 w1).mono ?_
 rintro e w2 ⟨rfl, b2⟩
 try dsimp only
 have HL2 := Lib.hid (HL1.out.below b2)
 clear b2 HL1
 go_upto_region 6 with fail
 obtain ⟨mb, hmb⟩ : ∃ mb, w2.heap.size = mb := ⟨_, rfl⟩
 obtain ⟨w3, hw3⟩ : ∃ w3, w2.alloc (.map #[] 0) = w3 := ⟨_, rfl⟩
 have HT3 : Hid (TS w g nd p lim 0 mb (Ep.new Wp.new) [] 0 0 w3) := Lib.hid (by
  rw [← hw3, ← hmb]
  exact ⟨HL2.out.below ((Below.refl _ _).alloc (Nat.le_refl _) _), ⟨.map [], 0, World.ownsMap_made w2 Tryz.prog _ _, OffD.nil, Nat.le_refl _⟩, HL2.out.limLe, Ep.Tl.new, Wp.Fit.new, (fun c _ => by simp [Ep.new, Wp.new]), (fun c hc => by cases hc), Nat.le_refl _, Nat.le_refl _, Or.inl rfl⟩)
 rw [hw3, hmb]
 clear hw3 hmb HL2
 go_loopg [5, 6] nn (fun q s5 s6 v => ∃ i : Nat, s6 = .int .i64 (i : Int) ∧ i ≤ nn ∧ q = nn - i ∧ Hid (TSx w g nd p lim i s5 v))
 case atStart => exact ⟨0, rfl, by omega, rfl, Lib.hid ⟨mb, _, _, _, _, rfl, HT3.out⟩⟩
 case round =>
  obtain ⟨i, rfl, hi, rfl, HS⟩ := hrel
  clear HT3
  generalize wr = v at *
  by_cases hlt : i < nn
  ·have t1 : (i : Int) < (m : Int) := by omega
   have t2 : (i : Int) < 25 := by omega
   obtain ⟨mb, e, l, F, Dn, hs5, hts⟩ := HS.out
   obtain rfl := hs5
   have HT := Lib.hid hts
   clear HS hts
   obtain ⟨x, hx⟩ : ∃ x, L[i]? = some x := ⟨_, List.getElem?_eq_getElem (by rw [HM.out]; omega)⟩
   obtain ⟨xw, xs, xd, xn, fa, fs, fc, ka, ks, kc⟩ := x
   obtain ⟨ga, o, rfl, hg, f0, f1, f2, f3, f4, f5, _⟩ := HLL.out i _ hx
   have e0 := (HT.out.le.wl.blw.cell (p := ⟨ga, o + i * 6, none⟩) hg).trans f0
   have e1 := (HT.out.le.wl.blw.cell (p := ⟨ga, o + i * 6 + 1, none⟩) hg).trans f1
   have e2 := (HT.out.le.wl.blw.cell (p := ⟨ga, o + i * 6 + 2, none⟩) hg).trans f2
   have e3 := (HT.out.le.wl.blw.cell (p := ⟨ga, o + i * 6 + 3, none⟩) hg).trans f3
   have e4 := (HT.out.le.wl.blw.cell (p := ⟨ga, o + i * 6 + 4, none⟩) hg).trans f4
   have e5 := (HT.out.le.wl.blw.cell (p := ⟨ga, o + i * 6 + 5, none⟩) hg).trans f5
   clear hx f0 f1 f2 f3 f4 f5 hg
   dsimp only at e0 e1 e2 e3 e4 e5
   generalize fs.length = fl at *
   generalize ks.length = kl at *
   obtain ⟨st, lst, hst⟩ := rpickN xs 5 (by omega) (by omega)
   obtain ⟨ty, lty, hty⟩ := rpickN xw 12 (by omega) (by omega)
   have HST := Lib.hid hst
   have HTY := Lib.hid hty
   clear hst hty
   go_upto_block 1 with fail
   go_cut [2, 5, 7, 8, 9, 10, 11, 12, 13, 15, 16, 17, 19, 20, 21, 23, 24, 25] from 47 to 240 (fun s2 s5 s7 s8 s9 s10 s11 s12 s13 s15 s16 s17 s19 s20 s21 s23 s24 s25 wx => Hid (TSx w g nd p lim (i + 1) s5 wx))
   case first =>
    go_wp2_with fail
    refine (HST.out _).mono ?_
    rintro en w' ⟨rfl, hw⟩
    obtain rfl := hw.symm
    try dsimp only
    have HT4 := Lib.hid (HT.out.below ((Below.refl _ _).alloc (Nat.le_refl _) (.cells #[.int .i64 xw, .int .i64 xs, .int .i64 xd, .int .i64 xn, .slice fa fl fc, .slice ka kl kc] 54)))
    have HA4 : Hid ((v.alloc (.cells #[.int .i64 xw, .int .i64 xs, .int .i64 xd, .int .i64 xn, .slice fa fl fc, .slice ka kl kc] 54)).heap[v.heap.size]? = some (.cells #[.int .i64 xw, .int .i64 xs, .int .i64 xd, .int .i64 xn, .slice fa fl fc, .slice ka kl kc] 54 (0, 0))) := Lib.hid (alloc_block _ _)
    clear HT e0 e1 e2 e3 e4 e5
    generalize v.alloc (.cells #[.int .i64 xw, .int .i64 xs, .int .i64 xd, .int .i64 xn, .slice fa fl fc, .slice ka kl kc] 54) = v4 at *
    generalize v.heap.size = la at *
    have HGN := Lib.hid (le_gen HT4.out.le (st := st) (by omega))
    have c0 : v4.cell? ⟨la, 0, none⟩ = some (.int .i64 xw) := cell_of_block HA4.out
    go_wp2_with fail
    refine HGN.out.mono ?_
    rintro en w' ⟨rfl, hw⟩
    obtain rfl := hw.symm
    try dsimp only
    go_wp2_with fail
    refine (HTY.out _).mono ?_
    rintro en w' ⟨rfl, hw⟩
    obtain rfl := hw.symm
    try dsimp only
    clear c0 HGN HST HTY
    rcases (show ty < 5 ∨ (5 ≤ ty ∧ ty < 8) ∨ (8 ≤ ty ∧ ty < 11) ∨ ty = 11 by omega) with hk | hk | hk | rfl
    ·have k1 : (ty : Int) < 5 := by omega
     have c2 : v4.cell? ⟨la, 2, none⟩ = some (.int .i64 xd) := cell_of_block HA4.out
     go_wp2_with fail
     refine (cbytes xd 128 128 rfl v4 (by omega)).mono ?_
     rintro en w5 ⟨bb, rfl, B5, b5, _⟩
     try dsimp only
     have HT5 := Lib.hid (HT4.out.below b5)
     have HB5 := Lib.hid B5
     clear B5 b5 c2
     have HWR := Lib.hid (le_write HT5.out.le (m := 20000 * i) HT5.out.fit (by omega) (HT5.out.nx (by omega)) (st := st) (by omega) (some ⟨bb, 0, none⟩) 128 (bytesF xd) HB5.out.dat (fun j _ => bytesF_lt xd j))
     have HTW := Lib.hid (HT5.out.tl.write (by omega) lst encK (bytesF xd))
     have HFT : Hid ((e.write encK st (bytesF xd)).1.w.Fit (20000 * i + 564)) := Lib.hid (Ep.fit_write (m := 20000 * i) HT5.out.fit (fun j _ => bytesF_lt xd j) (fun i j _ => encK_lt' _ i j))
     have HFW : Hid (∀ l, (e.write encK st (bytesF xd)).2 = some l → l.length ≤ 8) := Lib.hid (fun l h => Ep.write_few encK e st (bytesF xd) h)
     obtain ⟨x, hx⟩ : ∃ x, e.write encK st (bytesF xd) = x := ⟨_, rfl⟩
     rw [hx] at HWR HTW HFT HFW
     clear hx
     go_wp2_with fail
     refine HWR.out.mono ?_
     rintro en w6 ⟨u, rfl, L6, K6, E6⟩
     try dsimp only
     obtain ⟨W1, W2, W3, W4⟩ := HTW.out
     have HW1 := Lib.hid W1
     have hmp : ∃ D n, w6.ownsMap Tryz.prog 3 (plainElem Tryz.prog 4) mb n D ∧ OffD D l ∧ n ≤ i := by
      obtain ⟨D, n, h1, h2, h3⟩ := HT5.out.mp
      obtain ⟨es, ck, hb⟩ := ownsMap_block h1
      exact ⟨D, n, ownsMap_keep h1 (K6.map hb HT5.out.lm), h2, h3⟩
     have hdn : ∀ c, c < 8 → (x.1.w.dn c = true ↔ c ∈ l) := fun c hc => by rw [W1.dn]; exact HT5.out.dn c hc
     cases hr : x.2 with
     | none =>
      rw [hr] at E6
      obtain rfl : u = .nilIface := E6
      as_aux_lemma =>
       have HT6 : Hid (TS w g nd p lim (i + 1) mb x.1 l F Dn w6) := Lib.hid (by
        have h := HT5.out
        obtain ⟨D, n, h1, h2, h3⟩ := hmp
        have t := W2 hr
        exact ⟨L6, ⟨D, n, h1, h2, by omega⟩, h.lm, ⟨t.inv, t.calm, t.lo, t.up, t.at3, fun st => by have := t.nk st; omega, t.pl, t.ps⟩, HFT.out.mono (by omega), hdn, h.l8, by have := h.cn; omega, h.ll, h.f3⟩)
       have HO : Hid (e.gen st < x.1.gen st ∧ x.1.doubt st = false) := Lib.hid ⟨(W1.ok hr).1, (W1.ok hr).2.1⟩
       clear L6 K6 W1 W2 W3 W4 hmp hdn HWR HTW HFT HFW HT5 HB5 HT4 HA4 HW1
       obtain ⟨g1, hg1⟩ : ∃ g1, e.gen st = g1 := ⟨_, rfl⟩
       obtain ⟨g2, hg2⟩ : ∃ g2, x.1.gen st = g2 := ⟨_, rfl⟩
       have g12 : (g1 : Int) < (g2 : Int) := by have := HO.out.1; omega
       have HG2 := Lib.hid hg2
       rw [hg1]
       go_wp2_with fail
       refine (Tr.stripe_nil w6).mono ?_
       rintro en w7 ⟨rfl, b7⟩
       try dsimp only
       have HT7 := Lib.hid (HT6.out.below b7)
       clear b7 HT6
       have HGq : Hid (∀ q, Calls Tryz.prog 21 #[.pointer (some ⟨p, 0, none⟩), .int .i64 (st : Int)] (w7.drewN q) fun en w' => en = .returned (.int .i64 (g2 : Int)) ∧ w' = w7.drewN q) := Lib.hid (fun q => by rw [← HG2.out]; exact le_gen (HT7.out.below (below_drewN q w7)).le (by omega))
       clear hg1 hg2
       go_upto_region 29 with fail
       go_wp2_with fail
       go_big_quiet ((go_at_call 21; exact Calls.quiet_of_same (HGq.out _)))
       have HT8 := Lib.hid (HT7.out.below (below_drewN nq w7))
       clear HT7 HGq
       generalize w7.drewN nq = w8 at *
       go_wp2_with fail
       refine (Tr.nodes_nil w8).mono ?_
       rintro en w9 ⟨rfl, b9⟩
       try dsimp only
       have HT9 := Lib.hid (HT8.out.below b9)
       clear b9 HT8
       go_wp2_with fail
       go_loopg [149, 15] 0 (fun q s149 s15 vv => s149 = .int .i64 0 ∧ q = 0 ∧ vv = w9)
       case atStart => exact ⟨rfl, rfl, rfl⟩
       case round =>
        obtain ⟨rfl, rfl, hv⟩ := hrel
        generalize wr = v9 at *
        obtain rfl := hv
        have HDB := Lib.hid (le_doubt HT9.out.le)
        obtain ⟨ds, hds⟩ : ∃ ds, listE x.1.doubt = ds := ⟨_, rfl⟩
        have HDS : Hid (ds.length ≤ 40 ∧ (false = true ↔ (st : Int) ∈ ds)) := Lib.hid (by
         rw [← hds]
         refine ⟨listE_len _, (fun h => by cases h), fun h => ?_⟩
         have := (listE_mem.1 h).2
         rw [HO.out.2] at this
         cases this)
        rw [hds] at HDB
        clear hds
        go_wp2_with fail
        refine HDB.out.mono ?_
        rintro en va ⟨Ad, cd, rfl, nd', ba⟩
        try dsimp only
        have HTa := Lib.hid (HT9.out.below ba)
        have HLI := Lib.hid (lin Ad ds cd (st : Int) va nd' (by have := HDS.out.1; omega) false HDS.out.2)
        clear ba nd' HDB HT9
        go_wp2_with fail
        refine HLI.out.mono ?_
        rintro en vb ⟨rfl, bb'⟩
        try dsimp only
        have HTb := Lib.hid (HTa.out.below bb')
        clear bb' HTa HLI
        obtain ⟨Dm, nm', o1, o2, o3⟩ := HTb.out.mp
        obtain ⟨sz, hsz⟩ : ∃ sz, Maps.size Dm = sz := ⟨_, rfl⟩
        have hln : (Builtin.len_ #[63] 3 #[.map (some mb)]).run Tryz.prog vb = .ok (.int .i64 (sz : Int)) vb := by rw [← hsz]; exact World.ownsMap.len o1 Tryz.underlying63 _
        clear o1 o2 o3 hsz
        by_cases hz : sz ≤ 2
        ·have z1 : (sz : Int) ≤ 2 := by omega
         go_wp2_with fail
         go_meet
         case rel => exact Lib.hid ⟨mb, _, _, _, _, rfl, HTb.out⟩
        ·have z1 : ¬ (sz : Int) ≤ 2 := by omega
         go_wp2_with fail
         go_meet
         case rel => exact Lib.hid ⟨mb, _, _, _, _, rfl, HTb.out⟩
     | some er =>
      as_aux_lemma =>
       obtain ⟨ut, ux, rfl⟩ := EV.iface (show EV w6 u _ _ _ by rw [hr] at E6; exact E6)
       have HN : Hid (x.1.gen st = e.gen st ∧ x.1.doubt st = true ∧ er ≠ [] ∧ ∀ z ∈ er, z.1 < 8 ∧ ((z.2 = 4 ∧ e.w.dn z.1 = true) ∨ z.2 = 6)) := Lib.hid (by
        obtain ⟨h1, h2, _, h4, h5⟩ := W1.no er hr
        exact ⟨h1, h2, h4, h5⟩)
       have HT6 : Hid (3 ≤ l.length ∧ TS w g nd p lim (i + 1) mb x.1 l (F + 1) Dn w6) := Lib.hid (by
        have h := HT5.out
        obtain ⟨D, n, h1, h2, h3⟩ := hmp
        have t := W3 (by rw [hr]; simp)
        obtain ⟨k, hk, hk2⟩ := W4 l (fun n hn hd => (h.dn n hn).1 hd) (by rw [hr]; simp)
        have hc := h.cn
        have hl := h.ll
        have hf := h.f3
        have h3l : 3 ≤ l.length := by omega
        exact ⟨h3l, L6, ⟨D, n, h1, h2, by omega⟩, h.lm, ⟨t.inv, t.calm, t.lo, t.up, t.at3, fun st => by have := t.nk st; omega, t.pl, t.ps⟩, HFT.out.mono (by omega), hdn, h.l8, by omega, h.ll, Or.inr (by omega)⟩)
       rw [hr] at E6
       have HE6 : Hid (EV w6 (.iface ut ux) (er.map (fun z => (z.2 : Int))) (er.map (fun z => (z.1 : Int))) [(st : Int)]) := Lib.hid E6
       have HFE : Hid (er.length ≤ 8) := Lib.hid (HFW.out er hr)
       have HL3 := Lib.hid HT6.out.1
       clear L6 K6 W1 W2 W3 W4 hmp hdn HWR HTW HFT HB5 HT4 HA4 HW1 E6 HFW hr
       obtain ⟨g1, hg1⟩ : ∃ g1, e.gen st = g1 := ⟨_, rfl⟩
       have HG1 : Hid (x.1.gen st = g1) := Lib.hid (by rw [← hg1]; exact HN.out.1)
       have HDN : Hid (∀ c, c < 8 → (e.w.dn c = true ↔ c ∈ l)) := Lib.hid HT5.out.dn
       have hgg : ¬ (g1 : Int) < (g1 : Int) := by omega
       have hne1 : ((g1 : Int) != (g1 : Int)) = false := by simp
       have hne2 : ((st : Int) != (st : Int)) = false := by simp
       rw [hg1]
       clear hg1 HT5
       have HSR : Hid (Calls Tryz.prog 16 #[.iface ut ux] w6 fun e w' => e = .returned (.tuple #[.int .i64 (st : Int), .bool true]) ∧ Below w6.heap.size w6 w') := Lib.hid (en_stripe HE6.out (HE.out.below HT6.out.2.le.wl.blw HE.out.lt))
       go_wp2_with fail
       refine HSR.out.mono ?_
       rintro en w7 ⟨rfl, b7⟩
       try dsimp only
       have HT7 : Hid (TS w g nd p lim (i + 1) mb x.1 l (F + 1) Dn w7.drew) := Lib.hid ((HT6.out.2.below b7).below (bel_drew w7))
       have HE7 := Lib.hid ((HE6.out.below b7).below (bel_drew w7))
       clear b7 HSR HE6
       have HG7 : Hid (Calls Tryz.prog 21 #[.pointer (some ⟨p, 0, none⟩), .int .i64 (st : Int)] w7.drew fun en w' => en = .returned (.int .i64 (g1 : Int)) ∧ w' = w7.drew) := Lib.hid (by rw [← HG1.out]; exact le_gen HT7.out.le (by omega))
       have HD7 := Lib.hid (le_doubt HT7.out.le)
       obtain ⟨ds, hds⟩ : ∃ ds, listE x.1.doubt = ds := ⟨_, rfl⟩
       have HDS : Hid (ds.length ≤ 40 ∧ (true = true ↔ (st : Int) ∈ ds)) := Lib.hid (by
        rw [← hds]
        exact ⟨listE_len _, (fun _ => listE_mem.2 ⟨by omega, HN.out.2.1⟩), (fun _ => rfl)⟩)
       rw [hds] at HD7
       clear hds
       go_upto_region 29 with fail
       refine wp_region_held_drew (S := (fun _ => True)) (by as_aux_lemma => kernel_rfl) ?_ (fun hHeld => ?_)
       ·trivial
       refine wpAnyH_take (i := 0) (v := ?_) rfl (by as_aux_lemma => kernel_rfl) (by as_aux_lemma => kernel_rfl) (by as_aux_lemma => kernel_rfl) (fun _ _ _ h => h) (Or.inl ⟨by as_aux_lemma => kernel_rfl, ?_⟩) (by assumption) ?_
       rotate_left
       ·intro w hSw; (try dsimp only at hSw); go_simp; (try with_reducible rfl)
       simp only [Act.put, List.getElem_toArray, List.getElem_cons_zero, List.setIfInBounds_toArray, List.set_cons_zero, List.set_cons_succ]
       refine wpAnyH_take (i := 1) (v := ?_) rfl (by as_aux_lemma => kernel_rfl) (by as_aux_lemma => kernel_rfl) (by as_aux_lemma => kernel_rfl) (fun _ _ _ h => h) (Or.inl ⟨by as_aux_lemma => kernel_rfl, ?_⟩) (by assumption) ?_
       rotate_left
       ·intro w hSw; (try dsimp only at hSw); go_simp; (try with_reducible rfl)
       simp only [Act.put, List.getElem_toArray, List.getElem_cons_zero, List.getElem_cons_succ, List.setIfInBounds_toArray, List.set_cons_zero, List.set_cons_succ]
       refine wpAnyH_take (i := 2) (v := ?_) rfl (by as_aux_lemma => kernel_rfl) (by as_aux_lemma => kernel_rfl) (by as_aux_lemma => kernel_rfl) (fun _ _ _ h => h) (Or.inl ⟨by as_aux_lemma => kernel_rfl, ?_⟩) (by assumption) ?_
       rotate_left
       ·intro w hSw; (try dsimp only at hSw); go_simp; (try with_reducible rfl)
       simp only [Act.put, List.getElem_toArray, List.getElem_cons_zero, List.getElem_cons_succ, List.setIfInBounds_toArray, List.set_cons_zero, List.set_cons_succ]
       refine wpAnyH_take (i := 3) (v := ?_) rfl (by as_aux_lemma => kernel_rfl) (by as_aux_lemma => kernel_rfl) (by as_aux_lemma => kernel_rfl) (fun _ _ _ h => h) (Or.inl ⟨by as_aux_lemma => kernel_rfl, ?_⟩) (by assumption) ?_
       rotate_left
       ·intro w hSw; (try dsimp only at hSw); go_simp; (try with_reducible rfl)
       simp only [Act.put, List.getElem_toArray, List.getElem_cons_zero, List.getElem_cons_succ, List.setIfInBounds_toArray, List.set_cons_zero, List.set_cons_succ]
       refine wpAnyH_take (i := 5) (v := ?_) rfl (by as_aux_lemma => kernel_rfl) (by as_aux_lemma => kernel_rfl) (by as_aux_lemma => kernel_rfl) (fun _ _ _ h => h) (Or.inl ⟨by as_aux_lemma => kernel_rfl, ?_⟩) (by assumption) ?_
       rotate_left
       ·intro w hSw; (try dsimp only at hSw); go_simp; (try with_reducible rfl)
       simp only [Act.put, List.getElem_toArray, List.getElem_cons_zero, List.getElem_cons_succ, List.setIfInBounds_toArray, List.set_cons_zero, List.set_cons_succ]
       refine wpAnyH_ready (rs := [4]) (by as_aux_lemma => kernel_rfl) (by simp) ?_
       refine AllReadyH.cons rfl (fun K hK => ?_) AllReadyH.nil
       go_simp; go_at_call 21; (with_reducible refine HG7.out.mono ?_); rintro en wz ⟨rfl, hz⟩; obtain rfl := hz.symm; (try dsimp only)
       refine hK.out _ _ ?_ (fun hHeld2 => ?_)
       ·(try dsimp only); all_goals trivial
       clear hK K hHeld
       have hHeld := hHeld2
       clear hHeld2
       refine wpAnyH_take (i := 6) (v := ?_) rfl (by as_aux_lemma => kernel_rfl) (by as_aux_lemma => kernel_rfl) (by as_aux_lemma => kernel_rfl) (fun _ _ _ h => h) (Or.inl ⟨by as_aux_lemma => kernel_rfl, ?_⟩) (by assumption) ?_
       rotate_left
       ·intro w hSw; (try dsimp only at hSw); go_simp; (try with_reducible rfl)
       simp only [Act.put, List.getElem_toArray, List.getElem_cons_zero, List.getElem_cons_succ, List.setIfInBounds_toArray, List.set_cons_zero, List.set_cons_succ]
       refine wpAnyH_take (i := 7) (v := ?_) rfl (by as_aux_lemma => kernel_rfl) (by as_aux_lemma => kernel_rfl) (by as_aux_lemma => kernel_rfl) (fun _ _ _ h => h) (Or.inl ⟨by as_aux_lemma => kernel_rfl, ?_⟩) (by assumption) ?_
       rotate_left
       ·intro w hSw; (try dsimp only at hSw); go_simp; (try with_reducible rfl)
       simp only [Act.put, List.getElem_toArray, List.getElem_cons_zero, List.getElem_cons_succ, List.setIfInBounds_toArray, List.set_cons_zero, List.set_cons_succ]
       refine wpAnyH_take (i := 8) (v := ?_) rfl (by as_aux_lemma => kernel_rfl) (by as_aux_lemma => kernel_rfl) (by as_aux_lemma => kernel_rfl) (fun _ _ _ h => h) (Or.inl ⟨by as_aux_lemma => kernel_rfl, ?_⟩) (by assumption) ?_
       rotate_left
       ·intro w hSw; (try dsimp only at hSw); go_simp; (try with_reducible rfl)
       simp only [Act.put, List.getElem_toArray, List.getElem_cons_zero, List.getElem_cons_succ, List.setIfInBounds_toArray, List.set_cons_zero, List.set_cons_succ]
       refine wpAnyH_take (i := 9) (v := ?_) rfl (by as_aux_lemma => kernel_rfl) (by as_aux_lemma => kernel_rfl) (by as_aux_lemma => kernel_rfl) (fun _ _ _ h => h) (Or.inl ⟨by as_aux_lemma => kernel_rfl, ?_⟩) (by assumption) ?_
       rotate_left
       ·intro w hSw; (try dsimp only at hSw); go_simp; (try with_reducible rfl)
       simp only [Act.put, List.getElem_toArray, List.getElem_cons_zero, List.getElem_cons_succ, List.setIfInBounds_toArray, List.set_cons_zero, List.set_cons_succ]
       refine wpAnyH_take (i := 10) (v := ?_) rfl (by as_aux_lemma => kernel_rfl) (by as_aux_lemma => kernel_rfl) (by as_aux_lemma => kernel_rfl) (fun _ _ _ h => h) (Or.inl ⟨by as_aux_lemma => kernel_rfl, ?_⟩) (by assumption) ?_
       rotate_left
       ·intro w hSw; (try dsimp only at hSw); go_simp; (try with_reducible rfl)
       simp only [Act.put, List.getElem_toArray, List.getElem_cons_zero, List.getElem_cons_succ, List.setIfInBounds_toArray, List.set_cons_zero, List.set_cons_succ]
       refine wpAnyH_take (i := 11) (v := ?_) rfl (by as_aux_lemma => kernel_rfl) (by as_aux_lemma => kernel_rfl) (by as_aux_lemma => kernel_rfl) (fun _ _ _ h => h) (Or.inl ⟨by as_aux_lemma => kernel_rfl, ?_⟩) (by assumption) ?_
       rotate_left
       ·intro w hSw; (try dsimp only at hSw); go_simp; (try with_reducible rfl)
       simp only [Act.put, List.getElem_toArray, List.getElem_cons_zero, List.getElem_cons_succ, List.setIfInBounds_toArray, List.set_cons_zero, List.set_cons_succ]
       refine wpAnyH_take (i := 12) (v := ?_) rfl (by as_aux_lemma => kernel_rfl) (by as_aux_lemma => kernel_rfl) (by as_aux_lemma => kernel_rfl) (fun _ _ _ h => h) (Or.inl ⟨by as_aux_lemma => kernel_rfl, ?_⟩) (by assumption) ?_
       rotate_left
       ·intro w hSw; (try dsimp only at hSw); go_simp; (try with_reducible rfl)
       simp only [Act.put, List.getElem_toArray, List.getElem_cons_zero, List.getElem_cons_succ, List.setIfInBounds_toArray, List.set_cons_zero, List.set_cons_succ]
       refine wpAnyH_take (i := 13) (v := ?_) rfl (by as_aux_lemma => kernel_rfl) (by as_aux_lemma => kernel_rfl) (by as_aux_lemma => kernel_rfl) (fun _ _ _ h => h) (Or.inl ⟨by as_aux_lemma => kernel_rfl, ?_⟩) (by assumption) ?_
       rotate_left
       ·intro w hSw; (try dsimp only at hSw); go_simp; (try with_reducible rfl)
       simp only [Act.put, List.getElem_toArray, List.getElem_cons_zero, List.getElem_cons_succ, List.setIfInBounds_toArray, List.set_cons_zero, List.set_cons_succ]
       refine wpAnyH_take (i := 14) (v := ?_) rfl (by as_aux_lemma => kernel_rfl) (by as_aux_lemma => kernel_rfl) (by as_aux_lemma => kernel_rfl) (fun _ _ _ h => h) (Or.inl ⟨by as_aux_lemma => kernel_rfl, ?_⟩) (by assumption) ?_
       rotate_left
       ·intro w hSw; (try dsimp only at hSw); go_simp; (try with_reducible rfl)
       simp only [Act.put, List.getElem_toArray, List.getElem_cons_zero, List.getElem_cons_succ, List.setIfInBounds_toArray, List.set_cons_zero, List.set_cons_succ]
       refine wpAnyH_take (i := 15) (v := ?_) rfl (by as_aux_lemma => kernel_rfl) (by as_aux_lemma => kernel_rfl) (by as_aux_lemma => kernel_rfl) (fun _ _ _ h => h) (Or.inl ⟨by as_aux_lemma => kernel_rfl, ?_⟩) (by assumption) ?_
       rotate_left
       ·intro w hSw; (try dsimp only at hSw); go_simp; (try with_reducible rfl)
       simp only [Act.put, List.getElem_toArray, List.getElem_cons_zero, List.getElem_cons_succ, List.setIfInBounds_toArray, List.set_cons_zero, List.set_cons_succ]
       refine wpAnyH_take (i := 16) (v := ?_) rfl (by as_aux_lemma => kernel_rfl) (by as_aux_lemma => kernel_rfl) (by as_aux_lemma => kernel_rfl) (fun _ _ _ h => h) (Or.inl ⟨by as_aux_lemma => kernel_rfl, ?_⟩) (by assumption) ?_
       rotate_left
       ·intro w hSw; (try dsimp only at hSw); go_simp; (try with_reducible rfl)
       simp only [Act.put, List.getElem_toArray, List.getElem_cons_zero, List.getElem_cons_succ, List.setIfInBounds_toArray, List.set_cons_zero, List.set_cons_succ]
       refine wpAnyH_take (i := 17) (v := ?_) rfl (by as_aux_lemma => kernel_rfl) (by as_aux_lemma => kernel_rfl) (by as_aux_lemma => kernel_rfl) (fun _ _ _ h => h) (Or.inl ⟨by as_aux_lemma => kernel_rfl, ?_⟩) (by assumption) ?_
       rotate_left
       ·intro w hSw; (try dsimp only at hSw); go_simp; (try with_reducible rfl)
       simp only [Act.put, List.getElem_toArray, List.getElem_cons_zero, List.getElem_cons_succ, List.setIfInBounds_toArray, List.set_cons_zero, List.set_cons_succ]
       refine wpAnyH_take (i := 18) (v := ?_) rfl (by as_aux_lemma => kernel_rfl) (by as_aux_lemma => kernel_rfl) (by as_aux_lemma => kernel_rfl) (fun _ _ _ h => h) (Or.inl ⟨by as_aux_lemma => kernel_rfl, ?_⟩) (by assumption) ?_
       rotate_left
       ·intro w hSw; (try dsimp only at hSw); go_simp; (try with_reducible rfl)
       simp only [Act.put, List.getElem_toArray, List.getElem_cons_zero, List.getElem_cons_succ, List.setIfInBounds_toArray, List.set_cons_zero, List.set_cons_succ]
       refine wpAnyH_take (i := 19) (v := ?_) rfl (by as_aux_lemma => kernel_rfl) (by as_aux_lemma => kernel_rfl) (by as_aux_lemma => kernel_rfl) (fun _ _ _ h => h) (Or.inl ⟨by as_aux_lemma => kernel_rfl, ?_⟩) (by assumption) ?_
       rotate_left
       ·intro w hSw; (try dsimp only at hSw); go_simp; (try with_reducible rfl)
       simp only [Act.put, List.getElem_toArray, List.getElem_cons_zero, List.getElem_cons_succ, List.setIfInBounds_toArray, List.set_cons_zero, List.set_cons_succ]
       refine wpAnyH_take (i := 20) (v := ?_) rfl (by as_aux_lemma => kernel_rfl) (by as_aux_lemma => kernel_rfl) (by as_aux_lemma => kernel_rfl) (fun _ _ _ h => h) (Or.inl ⟨by as_aux_lemma => kernel_rfl, ?_⟩) (by assumption) ?_
       rotate_left
       ·intro w hSw; (try dsimp only at hSw); go_simp; (try with_reducible rfl)
       simp only [Act.put, List.getElem_toArray, List.getElem_cons_zero, List.getElem_cons_succ, List.setIfInBounds_toArray, List.set_cons_zero, List.set_cons_succ]
       refine wpAnyH_take (i := 22) (v := ?_) rfl (by as_aux_lemma => kernel_rfl) (by as_aux_lemma => kernel_rfl) (by as_aux_lemma => kernel_rfl) (fun _ _ _ h => h) (Or.inl ⟨by as_aux_lemma => kernel_rfl, ?_⟩) (by assumption) ?_
       rotate_left
       ·intro w hSw; (try dsimp only at hSw); go_simp; (try with_reducible rfl)
       simp only [Act.put, List.getElem_toArray, List.getElem_cons_zero, List.getElem_cons_succ, List.setIfInBounds_toArray, List.set_cons_zero, List.set_cons_succ]
       refine wpAnyH_ready (rs := [21]) (by as_aux_lemma => kernel_rfl) (by simp) ?_
       refine AllReadyH.cons rfl (fun K hK => ?_) AllReadyH.nil
       go_simp; go_at_call 17; (with_reducible refine HD7.out.mono ?_); rintro en w8 ⟨Ad, cd, rfl, n8, b8⟩; (try dsimp only); have HT8 := Lib.hid (HT7.out.below b8); have HE8 := Lib.hid (HE7.out.below b8); have HI8 := Lib.hid (lin Ad ds cd (st : Int) w8 n8 (by have := HDS.out.1; omega) true HDS.out.2); clear n8 b8 HD7
       refine hK.out _ _ ?_ (fun hHeld2 => ?_)
       ·(try dsimp only); all_goals trivial
       clear hK K hHeld
       have hHeld := hHeld2
       clear hHeld2
       refine wpAnyH_ready (rs := [23]) (by as_aux_lemma => kernel_rfl) (by simp) ?_
       refine AllReadyH.cons rfl (fun K hK => ?_) AllReadyH.nil
       go_simp; go_at_call 30; (with_reducible refine HI8.out.mono ?_); rintro en w9 ⟨rfl, b9⟩; (try dsimp only); have HT9 := Lib.hid (HT8.out.below b9); have HE9 := Lib.hid (HE8.out.below b9); have HG9 : Hid (Calls Tryz.prog 21 #[.pointer (some ⟨p, 0, none⟩), .int .i64 (st : Int)] w9 fun en w' => en = .returned (.int .i64 (g1 : Int)) ∧ w' = w9) := Lib.hid (by rw [← HG1.out]; exact le_gen HT9.out.le (by omega)); clear b9 HI8
       refine hK.out _ _ ?_ (fun hHeld2 => ?_)
       ·(try dsimp only); all_goals trivial
       clear hK K hHeld
       have hHeld := hHeld2
       clear hHeld2
       refine wpAnyH_take (i := 24) (v := ?_) rfl (by as_aux_lemma => kernel_rfl) (by as_aux_lemma => kernel_rfl) (by as_aux_lemma => kernel_rfl) (fun _ _ _ h => h) (Or.inl ⟨by as_aux_lemma => kernel_rfl, ?_⟩) (by assumption) ?_
       rotate_left
       ·intro w hSw; (try dsimp only at hSw); go_simp; (try with_reducible rfl)
       simp only [Act.put, List.getElem_toArray, List.getElem_cons_zero, List.getElem_cons_succ, List.setIfInBounds_toArray, List.set_cons_zero, List.set_cons_succ]
       refine wpAnyH_take (i := 25) (v := ?_) rfl (by as_aux_lemma => kernel_rfl) (by as_aux_lemma => kernel_rfl) (by as_aux_lemma => kernel_rfl) (fun _ _ _ h => h) (Or.inl ⟨by as_aux_lemma => kernel_rfl, ?_⟩) (by assumption) ?_
       rotate_left
       ·intro w hSw; (try dsimp only at hSw); go_simp; (try with_reducible rfl)
       simp only [Act.put, List.getElem_toArray, List.getElem_cons_zero, List.getElem_cons_succ, List.setIfInBounds_toArray, List.set_cons_zero, List.set_cons_succ]
       refine wpAnyH_take (i := 26) (v := ?_) rfl (by as_aux_lemma => kernel_rfl) (by as_aux_lemma => kernel_rfl) (by as_aux_lemma => kernel_rfl) (fun _ _ _ h => h) (Or.inl ⟨by as_aux_lemma => kernel_rfl, ?_⟩) (by assumption) ?_
       rotate_left
       ·intro w hSw; (try dsimp only at hSw); go_simp; (try with_reducible rfl)
       simp only [Act.put, List.getElem_toArray, List.getElem_cons_zero, List.getElem_cons_succ, List.setIfInBounds_toArray, List.set_cons_zero, List.set_cons_succ]
       refine wpAnyH_take (i := 27) (v := ?_) rfl (by as_aux_lemma => kernel_rfl) (by as_aux_lemma => kernel_rfl) (by as_aux_lemma => kernel_rfl) (fun _ _ _ h => h) (Or.inl ⟨by as_aux_lemma => kernel_rfl, ?_⟩) (by assumption) ?_
       rotate_left
       ·intro w hSw; (try dsimp only at hSw); go_simp; (try with_reducible rfl)
       simp only [Act.put, List.getElem_toArray, List.getElem_cons_zero, List.getElem_cons_succ, List.setIfInBounds_toArray, List.set_cons_zero, List.set_cons_succ]
       refine wpAnyH_take (i := 28) (v := ?_) rfl (by as_aux_lemma => kernel_rfl) (by as_aux_lemma => kernel_rfl) (by as_aux_lemma => kernel_rfl) (fun _ _ _ h => h) (Or.inl ⟨by as_aux_lemma => kernel_rfl, ?_⟩) (by assumption) ?_
       rotate_left
       ·intro w hSw; (try dsimp only at hSw); go_simp; (try with_reducible rfl)
       simp only [Act.put, List.getElem_toArray, List.getElem_cons_zero, List.getElem_cons_succ, List.setIfInBounds_toArray, List.set_cons_zero, List.set_cons_succ]
       refine wpAnyH_take (i := 30) (v := ?_) rfl (by as_aux_lemma => kernel_rfl) (by as_aux_lemma => kernel_rfl) (by as_aux_lemma => kernel_rfl) (fun _ _ _ h => h) (Or.inl ⟨by as_aux_lemma => kernel_rfl, ?_⟩) (by assumption) ?_
       rotate_left
       ·intro w hSw; (try dsimp only at hSw); go_simp; (try with_reducible rfl)
       simp only [Act.put, List.getElem_toArray, List.getElem_cons_zero, List.getElem_cons_succ, List.setIfInBounds_toArray, List.set_cons_zero, List.set_cons_succ]
       refine wpAnyH_ready (rs := [29]) (by as_aux_lemma => kernel_rfl) (by simp) ?_
       refine AllReadyH.cons rfl (fun K hK => ?_) AllReadyH.nil
       go_simp; go_at_call 21; (with_reducible refine HG9.out.mono ?_); rintro en wz ⟨rfl, hz⟩; obtain rfl := hz.symm; (try dsimp only)
       refine hK.out _ _ ?_ (fun hHeld2 => ?_)
       ·(try dsimp only); all_goals trivial
       clear hK K hHeld
       have hHeld := hHeld2
       clear hHeld2
       refine wpAnyH_take (i := 31) (v := ?_) rfl (by as_aux_lemma => kernel_rfl) (by as_aux_lemma => kernel_rfl) (by as_aux_lemma => kernel_rfl) (fun _ _ _ h => h) (Or.inl ⟨by as_aux_lemma => kernel_rfl, ?_⟩) (by assumption) ?_
       rotate_left
       ·intro w hSw; (try dsimp only at hSw); go_simp; (try with_reducible rfl)
       simp only [Act.put, List.getElem_toArray, List.getElem_cons_zero, List.getElem_cons_succ, List.setIfInBounds_toArray, List.set_cons_zero, List.set_cons_succ]
       refine wpAnyH_take (i := 32) (v := ?_) rfl (by as_aux_lemma => kernel_rfl) (by as_aux_lemma => kernel_rfl) (by as_aux_lemma => kernel_rfl) (fun _ _ _ h => h) (Or.inl ⟨by as_aux_lemma => kernel_rfl, ?_⟩) (by assumption) ?_
       rotate_left
       ·intro w hSw; (try dsimp only at hSw); go_simp; (try with_reducible rfl)
       simp only [Act.put, List.getElem_toArray, List.getElem_cons_zero, List.getElem_cons_succ, List.setIfInBounds_toArray, List.set_cons_zero, List.set_cons_succ]
       refine wpAnyH_take (i := 33) (v := ?_) rfl (by as_aux_lemma => kernel_rfl) (by as_aux_lemma => kernel_rfl) (by as_aux_lemma => kernel_rfl) (fun _ _ _ h => h) (Or.inl ⟨by as_aux_lemma => kernel_rfl, ?_⟩) (by assumption) ?_
       rotate_left
       ·intro w hSw; (try dsimp only at hSw); go_simp; (try with_reducible rfl)
       simp only [Act.put, List.getElem_toArray, List.getElem_cons_zero, List.getElem_cons_succ, List.setIfInBounds_toArray, List.set_cons_zero, List.set_cons_succ]
       refine wpAnyH_take (i := 34) (v := ?_) rfl (by as_aux_lemma => kernel_rfl) (by as_aux_lemma => kernel_rfl) (by as_aux_lemma => kernel_rfl) (fun _ _ _ h => h) (Or.inl ⟨by as_aux_lemma => kernel_rfl, ?_⟩) (by assumption) ?_
       rotate_left
       ·intro w hSw; (try dsimp only at hSw); go_simp; (try with_reducible rfl)
       simp only [Act.put, List.getElem_toArray, List.getElem_cons_zero, List.getElem_cons_succ, List.setIfInBounds_toArray, List.set_cons_zero, List.set_cons_succ]
       refine wpAnyH_done (by as_aux_lemma => kernel_rfl) ?_ _
       rotate_left
       have HNO := Lib.hid (en_nodes HE9.out (by rw [List.length_map]; have := HFE.out; omega))
       go_wp2_with fail
       refine HNO.out.mono ?_
       rintro en wa ⟨u9, rfl, ho9, ba⟩
       obtain ⟨A9, c9, h9, _⟩ := own_form ho9
       obtain rfl := h9
       try dsimp only
       have HTa := Lib.hid (HT9.out.below ba)
       have HEa := Lib.hid (HE9.out.below ba)
       have HNM := Lib.hid (own_nums ho9).1
       obtain ⟨m9, hm9⟩ : ∃ m9, (er.map (fun z => (z.1 : Int))).length = m9 := ⟨_, rfl⟩
       have HM9 : Hid (er.length = m9) := Lib.hid (by rw [← hm9, List.length_map])
       have m98 : m9 ≤ 8 := by have := HFE.out; have := HM9.out; omega
       rw [hm9]
       clear hm9 ho9 ba HNO HT9 HE9 HG9
       go_wp2_with fail
       go_loopg [149, 15] m9 (fun q s149 s15 vv => ∃ j : Nat, s149 = .int .i64 (j : Int) ∧ j ≤ m9 ∧ q = m9 - j ∧ Hid (Below wa.heap.size wa vv))
       case atStart => exact ⟨0, rfl, by omega, rfl, Lib.hid (Below.refl _ _)⟩
       case round =>
        obtain ⟨j, rfl, hj, rfl, HB⟩ := hrel
        generalize wr = vb at *
        by_cases hlt : j < m9
        ·have t1 : (j : Int) < (m9 : Int) := by omega
         obtain ⟨z, hz⟩ : ∃ z, er[j]? = some z := ⟨_, List.getElem?_eq_getElem (by rw [HM9.out]; exact hlt)⟩
         obtain ⟨z1, z2⟩ := z
         have HZ := Lib.hid (HN.out.2.2.2 _ (List.mem_of_getElem? hz))
         have HZM := Lib.hid (List.mem_of_getElem? hz)
         obtain ⟨ga9, o9, hA9, hg9, hc9⟩ := HNM.out j (z1 : Int) (by rw [List.getElem?_map, hz]; rfl)
         obtain rfl := hA9
         have cz := (HB.out.cell (p := ⟨ga9, o9 + j, none⟩) hg9).trans hc9
         have hlk := (HTa.out.below HB.out).look (c := z1) (by have := HZ.out.1; omega)
         clear hz hg9 hc9
         by_cases hin : z1 ∈ l
         ·rw [decide_eq_true hin] at hlk
          clear hin
          go_wp2_with fail
          go_roundg (m9 - (j + 1))
          case measure => omega
          case rel => exact ⟨j + 1, by go_num, by omega, rfl, HB⟩
         ·rw [decide_eq_false hin] at hlk
          have HIS : Hid (Calls Tryz.prog 31 #[.iface ut ux, .int .i64 6] vb fun e w' => e = .returned (.bool true) ∧ Below vb.heap.size vb w') := Lib.hid (by
           have h6 : (6 : Int) ∈ er.map (fun z => (z.2 : Int)) := by
            rcases HZ.out.2 with ⟨_, hd⟩ | h6
            ·exact absurd ((HDN.out z1 HZ.out.1).1 hd) hin
            ·exact List.mem_map.2 ⟨_, HZM.out, by have : z2 = 6 := h6; rw [this]; rfl⟩
           have h := en_is 6 (HEa.out.below HB.out)
           rw [hasCode_mem h6] at h
           exact h)
          clear hin
          go_wp2_with fail
          refine HIS.out.mono ?_
          rintro en wq ⟨rfl, bq⟩
          try dsimp only
          have HBq := Lib.hid (HB.out.trans (bq.mono HB.out.size))
          clear bq HIS
          go_wp2_with fail
          go_roundg (m9 - (j + 1))
          case measure => omega
          case rel => exact ⟨j + 1, by go_num, by omega, rfl, HBq⟩
        ·obtain rfl : j = m9 := by omega
         have HTv := Lib.hid (HTa.out.below HB.out)
         obtain ⟨Dm, nm', o1, o2, o3⟩ := HTv.out.mp
         obtain ⟨sz, hsz⟩ : ∃ sz, Maps.size Dm = sz := ⟨_, rfl⟩
         have hln : (Builtin.len_ #[63] 3 #[.map (some mb)]).run Tryz.prog vb = .ok (.int .i64 (sz : Int)) vb := by rw [← hsz]; exact World.ownsMap.len o1 Tryz.underlying63 _
         have z1 : ¬ (sz : Int) ≤ 2 := by have := o2.size; have := HL3.out; omega
         clear o1 o2 o3 hsz hlt
         go_wp2_with fail
         go_meet
         case rel => exact Lib.hid ⟨mb, _, _, _, _, rfl, HTv.out⟩
    ·as_aux_lemma =>
      have k1 : ¬ (ty : Int) < 5 := by omega
      have k2 : (ty : Int) < 8 := by omega
      have HRD := Lib.hid (le_read HT4.out.le (m := 20000 * i) HT4.out.fit (by omega) (HT4.out.nx (by omega)) (st := st) (by omega))
      have HTR := Lib.hid (HT4.out.tl.read (by omega) lst encK decK)
      have HFT : Hid ((e.read encK decK st).1.w.Fit (20000 * i + 582)) := Lib.hid (HT4.out.le.fit_read HT4.out.fit (by omega))
      have HFW : Hid (∀ l, (e.read encK decK st).2 = .no l → l.length ≤ 8) := Lib.hid (fun l h => Ep.read_few encK decK e st h)
      obtain ⟨x, hx⟩ : ∃ x, e.read encK decK st = x := ⟨_, rfl⟩
      rw [hx] at HRD HTR HFT HFW
      clear hx
      go_wp2_with fail
      refine HRD.out.mono ?_
      rintro en w6 ⟨r, u, rfl, L6, K6, E6⟩
      try dsimp only
      obtain ⟨W1, ⟨F', f1, f2, f3⟩, W4⟩ := HTR.out
      have hmp : ∃ D n, w6.ownsMap Tryz.prog 3 (plainElem Tryz.prog 4) mb n D ∧ OffD D l ∧ n ≤ i := by
       obtain ⟨D, n, h1, h2, h3⟩ := HT4.out.mp
       obtain ⟨es, ck, hb⟩ := ownsMap_block h1
       exact ⟨D, n, ownsMap_keep h1 (K6.map hb HT4.out.lm), h2, h3⟩
      have hdn : ∀ c, c < 8 → (x.1.w.dn c = true ↔ c ∈ l) := fun c hc => by rw [W1.dn]; exact HT4.out.dn c hc
      rcases E6 with ⟨er, hr, rfl, hev⟩ | ⟨D, P, k, hr, rfl, rfl, _, _, _⟩
      rotate_left
      ·obtain rfl : F' = F := f3 ⟨D, hr⟩
       have HT6 : Hid (TS w g nd p lim (i + 1) mb x.1 l F' Dn w6) := Lib.hid (by
        have h := HT4.out
        obtain ⟨D, n, h1, h2, h3⟩ := hmp
        have t := f2
        exact ⟨L6, ⟨D, n, h1, h2, by omega⟩, h.lm, ⟨t.inv, t.calm, t.lo, t.up, t.at3, fun st => by have := t.nk st; omega, t.pl, t.ps⟩, HFT.out.mono (by omega), hdn, h.l8, by have := h.cn; omega, h.ll, h.f3⟩)
       have HO : Hid (e.gen st ≤ x.1.gen st ∧ x.1.doubt st = false) := Lib.hid ⟨W1.gen, W1.ok D hr⟩
       clear L6 K6 W1 W4 f1 f2 f3 hmp hdn HRD HTR HFT HT4 HA4
       obtain ⟨g1, hg1⟩ : ∃ g1, e.gen st = g1 := ⟨_, rfl⟩
       obtain ⟨g2, hg2⟩ : ∃ g2, x.1.gen st = g2 := ⟨_, rfl⟩
       have g12 : ¬ (g2 : Int) < (g1 : Int) := by have := HO.out.1; omega
       have HG2 := Lib.hid hg2
       rw [hg1]
       clear hg1 hg2
       go_wp2_with fail
       refine (Tr.nodes_nil w6).mono ?_
       rintro en w9 ⟨rfl, b9⟩
       try dsimp only
       have HT9 := Lib.hid (HT6.out.below b9)
       clear b9 HT6
       go_wp2_with fail
       go_loopg [192, 19] 0 (fun q s192 s19 vv => s192 = .int .i64 0 ∧ q = 0 ∧ vv = w9)
       case atStart => exact ⟨rfl, rfl, rfl⟩
       case round =>
        obtain ⟨rfl, rfl, hv⟩ := hrel
        generalize wr = v9 at *
        obtain rfl := hv
        have HGN := Lib.hid (le_gen HT9.out.le (st := st) (by omega))
        rw [HG2.out] at HGN
        have HDB := Lib.hid (le_doubt HT9.out.le)
        obtain ⟨ds, hds⟩ : ∃ ds, listE x.1.doubt = ds := ⟨_, rfl⟩
        have HDS : Hid (ds.length ≤ 40 ∧ (false = true ↔ (st : Int) ∈ ds)) := Lib.hid (by
         rw [← hds]
         refine ⟨listE_len _, (fun h => by cases h), fun h => ?_⟩
         have := (listE_mem.1 h).2
         rw [HO.out.2] at this
         cases this)
        rw [hds] at HDB
        clear hds
        go_wp2_with fail
        refine HGN.out.mono ?_
        rintro en w' ⟨rfl, hw⟩
        obtain rfl := hw.symm
        try dsimp only
        go_wp2_with fail
        refine HDB.out.mono ?_
        rintro en va ⟨Ad, cd, rfl, nd', ba⟩
        try dsimp only
        have HTa := Lib.hid (HT9.out.below ba)
        have HLI := Lib.hid (lin Ad ds cd (st : Int) va nd' (by have := HDS.out.1; omega) false HDS.out.2)
        clear ba nd' HDB HT9 HGN
        go_wp2_with fail
        refine HLI.out.mono ?_
        rintro en vb ⟨rfl, bb'⟩
        try dsimp only
        have HTb := Lib.hid (HTa.out.below bb')
        clear bb' HTa HLI
        obtain ⟨Dm, nm', o1, o2, o3⟩ := HTb.out.mp
        obtain ⟨sz, hsz⟩ : ∃ sz, Maps.size Dm = sz := ⟨_, rfl⟩
        have hln : (Builtin.len_ #[63] 3 #[.map (some mb)]).run Tryz.prog vb = .ok (.int .i64 (sz : Int)) vb := by rw [← hsz]; exact World.ownsMap.len o1 Tryz.underlying63 _
        clear o1 o2 o3 hsz
        by_cases hz : sz ≤ 2
        ·have z1 : (sz : Int) ≤ 2 := by omega
         go_wp2_with fail
         go_meet
         case rel => exact Lib.hid ⟨mb, _, _, _, _, rfl, HTb.out⟩
        ·have z1 : ¬ (sz : Int) ≤ 2 := by omega
         go_wp2_with fail
         go_meet
         case rel => exact Lib.hid ⟨mb, _, _, _, _, rfl, HTb.out⟩
      ·obtain ⟨ut, ux, rfl⟩ := hev.iface
       have HN := Lib.hid (W1.no er hr)
       have HT6 : Hid (3 ≤ l.length ∧ TS w g nd p lim (i + 1) mb x.1 l F' Dn w6) := Lib.hid (by
        have h := HT4.out
        obtain ⟨D, n, h1, h2, h3⟩ := hmp
        have t := f2
        have hc := h.cn
        have hl := h.ll
        have hf := h.f3
        have h3l : 3 ≤ l.length := by
         rcases Nat.lt_or_ge l.length 3 with hlt | hge
         ·obtain ⟨k, hk, hk2⟩ := W4 l (by omega) (fun n hn hd => (h.dn n hn).1 hd) ⟨er, hr⟩
          omega
         ·exact hge
        exact ⟨h3l, L6, ⟨D, n, h1, h2, by omega⟩, h.lm, ⟨t.inv, t.calm, t.lo, t.up, t.at3, fun st => by have := t.nk st; omega, t.pl, t.ps⟩, HFT.out.mono (by omega), hdn, h.l8, by omega, h.ll, Or.inr (by omega)⟩)
       have HE6 : Hid (EV w6 (.iface ut ux) (er.map (fun z => (z.2 : Int))) (er.map (fun z => (z.1 : Int))) [(st : Int)]) := Lib.hid hev
       have HO : Hid (e.gen st ≤ x.1.gen st) := Lib.hid W1.gen
       have HDN : Hid (∀ c, c < 8 → (e.w.dn c = true ↔ c ∈ l)) := Lib.hid HT4.out.dn
       have HFE := Lib.hid (HFW.out er hr)
       have HNO := Lib.hid (en_nodes HE6.out (by rw [List.length_map]; have := HFE.out; omega))
       clear L6 K6 W1 W4 f1 f2 f3 hmp hdn HRD HTR HFT HFW HT4 HA4 hev hr
       obtain ⟨g1, hg1⟩ : ∃ g1, e.gen st = g1 := ⟨_, rfl⟩
       obtain ⟨g2, hg2⟩ : ∃ g2, x.1.gen st = g2 := ⟨_, rfl⟩
       have g12 : ¬ (g2 : Int) < (g1 : Int) := by have := HO.out; omega
       have HG2 := Lib.hid hg2
       rw [hg1]
       clear hg1 hg2
       go_wp2_with fail
       refine HNO.out.mono ?_
       rintro en w9 ⟨u9, rfl, ho9, b9⟩
       obtain ⟨A9, c9, h9, _⟩ := own_form ho9
       obtain rfl := h9
       try dsimp only
       have HT9 := Lib.hid (HT6.out.2.below b9)
       have HL3 := Lib.hid HT6.out.1
       have HE9 := Lib.hid (HE6.out.below b9)
       have HNM := Lib.hid (own_nums ho9).1
       obtain ⟨m9, hm9⟩ : ∃ m9, (er.map (fun z => (z.1 : Int))).length = m9 := ⟨_, rfl⟩
       have HM9 : Hid (er.length = m9) := Lib.hid (by rw [← hm9, List.length_map])
       have m98 : m9 ≤ 8 := by have := HFE.out; have := HM9.out; omega
       rw [hm9]
       clear hm9 ho9 b9 HT6 HE6 HNO
       go_wp2_with fail
       go_loopg [192, 19] m9 (fun q s192 s19 vv => ∃ j : Nat, s192 = .int .i64 (j : Int) ∧ j ≤ m9 ∧ q = m9 - j ∧ Hid (Below w9.heap.size w9 vv))
       case atStart => exact ⟨0, rfl, by omega, rfl, Lib.hid (Below.refl _ _)⟩
       case round =>
        obtain ⟨j, rfl, hj, rfl, HB⟩ := hrel
        generalize wr = v9 at *
        by_cases hlt : j < m9
        ·have t1 : (j : Int) < (m9 : Int) := by omega
         obtain ⟨z, hz⟩ : ∃ z, er[j]? = some z := ⟨_, List.getElem?_eq_getElem (by rw [HM9.out]; exact hlt)⟩
         obtain ⟨z1, z2⟩ := z
         have HZ := Lib.hid (HN.out.2 _ (List.mem_of_getElem? hz))
         have HZM := Lib.hid (List.mem_of_getElem? hz)
         obtain ⟨ga9, o9, hA9, hg9, hc9⟩ := HNM.out j (z1 : Int) (by rw [List.getElem?_map, hz]; rfl)
         obtain rfl := hA9
         have cz := (HB.out.cell (p := ⟨ga9, o9 + j, none⟩) hg9).trans hc9
         have hlk := (HT9.out.below HB.out).look (c := z1) (by have := HZ.out.1; omega)
         clear hz hg9 hc9
         by_cases hin : z1 ∈ l
         ·rw [decide_eq_true hin] at hlk
          clear hin
          go_wp2_with fail
          go_roundg (m9 - (j + 1))
          case measure => omega
          case rel => exact ⟨j + 1, by go_num, by omega, rfl, HB⟩
         ·rw [decide_eq_false hin] at hlk
          have HIS : Hid (Calls Tryz.prog 31 #[.iface ut ux, .int .i64 6] v9 fun e w' => e = .returned (.bool true) ∧ Below v9.heap.size v9 w') := Lib.hid (by
           have h6 : (6 : Int) ∈ er.map (fun z => (z.2 : Int)) := by
            rcases HZ.out.2 with ⟨_, hd⟩ | h6
            ·exact absurd ((HDN.out z1 HZ.out.1).1 hd) hin
            ·exact List.mem_map.2 ⟨_, HZM.out, by have : z2 = 6 := h6; rw [this]; rfl⟩
           have h := en_is 6 (HE9.out.below HB.out)
           rw [hasCode_mem h6] at h
           exact h)
          clear hin
          go_wp2_with fail
          refine HIS.out.mono ?_
          rintro en wq ⟨rfl, bq⟩
          try dsimp only
          have HBq := Lib.hid (HB.out.trans (bq.mono HB.out.size))
          clear bq HIS
          go_wp2_with fail
          go_roundg (m9 - (j + 1))
          case measure => omega
          case rel => exact ⟨j + 1, by go_num, by omega, rfl, HBq⟩
        ·obtain rfl : j = m9 := by omega
         have HTv := Lib.hid (HT9.out.below HB.out)
         have HGN := Lib.hid (le_gen HTv.out.le (st := st) (by omega))
         rw [HG2.out] at HGN
         obtain ⟨Dm, nm', o1, o2, o3⟩ := HTv.out.mp
         obtain ⟨sz, hsz⟩ : ∃ sz, Maps.size Dm = sz := ⟨_, rfl⟩
         have hln : (Builtin.len_ #[63] 3 #[.map (some mb)]).run Tryz.prog v9 = .ok (.int .i64 (sz : Int)) v9 := by rw [← hsz]; exact World.ownsMap.len o1 Tryz.underlying63 _
         have z1 : ¬ (sz : Int) ≤ 2 := by have := o2.size; have := HL3.out; omega
         clear o1 o2 o3 hsz hlt
         go_wp2_with fail
         refine HGN.out.mono ?_
         rintro en w' ⟨rfl, hw⟩
         obtain rfl := hw.symm
         try dsimp only
         go_wp2_with fail
         go_meet
         case rel => exact Lib.hid ⟨mb, _, _, _, _, rfl, HTv.out⟩
    ·as_aux_lemma =>
      have k1 : ¬ (ty : Int) < 5 := by omega
      have k2 : ¬ (ty : Int) < 8 := by omega
      have k3 : (ty : Int) < 11 := by omega
      obtain ⟨n, ln, hn⟩ := rpickN xn 8 (by omega) (by omega)
      have HND := Lib.hid hn
      clear hn
      have c3 : v4.cell? ⟨la, 3, none⟩ = some (.int .i64 xn) := cell_of_block HA4.out
      have i24 : i ≤ 24 := by omega
      obtain ⟨v5, hrun5, g5, L5, D5, n5, o5, m5, z5⟩ := HT4.out.store i24 ln
      go_wp2_with fail
      refine (HND.out _).mono ?_
      rintro en w' ⟨rfl, hw⟩
      obtain rfl := hw.symm
      try dsimp only
      clear c3
      have HL5 := Lib.hid L5
      have HM5 := Lib.hid (And.intro o5 (And.intro m5 z5))
      have HT5 := Lib.hid HT4.out
      clear L5 o5 m5 z5 g5
      go_wp2_with fail
      refine (wl_down HL5.out.wl (n := n) ln true).mono ?_
      rintro en w6 ⟨rfl, W6, K6⟩
      try dsimp only
      have HX : Hid (TSx w g nd p lim (i + 1) (.map (some mb)) w6) := Lib.hid (by
       obtain ⟨o5, m5, z5⟩ := HM5.out
       have h := HT5.out
       obtain ⟨es, ck, hb⟩ := ownsMap_block o5
       refine ⟨mb, { e with w := e.w.setD n true }, (if n ∈ l then l else n :: l), F, Dn + 1, rfl, ⟨HL5.out.wire W6 (KeepF.of K6), ⟨D5, n5, ownsMap_keep o5 ((K6.2 mb _ hb (fun cs t fr e => by cases e)).trans hb.symm), m5, z5⟩, h.lm, ?_, ?_, fun c hc => ?_, fun c hc => ?_, by have := h.cn; omega, ?_, ?_⟩⟩
       ·have t := h.next.tl.same (s := e.w.setD n true) rfl ⟨h.tl.calm.F, h.tl.calm.dead, h.tl.calm.fuse⟩
        exact t
       ·exact Wp.Fit.mono (s := e.w.setD n true) (m := 20000 * i) (h.fit.congr rfl rfl rfl) (by omega)
       ·show (if c = n then true else e.w.dn c) = true ↔ _
        by_cases ec : c = n
        ·subst ec
         rw [if_pos rfl]
         refine ⟨fun _ => ?_, fun _ => rfl⟩
         split
         ·assumption
         ·exact List.mem_cons_self ..
        ·rw [if_neg ec, h.dn c hc]
         split
         ·exact Iff.rfl
         ·simp [ec]
       ·split at hc
        ·exact h.l8 c hc
        ·rcases List.mem_cons.1 hc with rfl | hc
         ·exact ln
         ·exact h.l8 c hc
       ·have := h.ll
        split
        ·omega
        ·show l.length + 1 ≤ Dn + 1
         omega
       ·have := h.f3
        omega)
      clear W6 K6 HM5 HT5 HL5
      go_wp2_with fail
      go_meet
      case rel => exact HX
    ·as_aux_lemma =>
      obtain ⟨D, nn0, o1, o2, o3⟩ := HT4.out.mp
      have HO1 := Lib.hid o1
      have HO2 := Lib.hid o2
      have HT := Lib.hid HT4.out
      have hF25 : F ≤ 25 := by have := HT4.out.cn; omega
      have hrl : lim ≤ v4.heap.size := HT4.out.le.limLe
      clear o1 o2 o3 HT4 HA4
      go_wp2_with (at_range; refine wpList_range_own _ rfl _ 63 rfl 3 4 lawIntB Tryz.underlying63 _ mb nn0 D rfl HO1.out ?_; intro w5 hrg0 hg0 hs0)
      try go_frame
      have HD0 : Hid (TD w g nd p lim i e l (Maps.has D) w5 e.w) := Lib.hid (TD.start HT.out HO2.out (HT.out.le.below ⟨hg0.os, hg0.tape, hg0.output, hg0.size, fun k hk => hg0.block k hk (by simp)⟩))
      have HR0 := Lib.hid hrg0
      clear hrg0 hg0 hs0 HO1 HO2
      generalize v4.heap.size = r at *
      go_loopg [21] (Maps.size D) (fun q s21 wv => ∃ (left : Lit → Bool) (s : Wp), Hid (TD w g nd p lim i e l left wv s) ∧ Hid (wv.ranges Tryz.prog 3 (plainElem Tryz.prog 4) mb r nn0 D left q))
      case atStart => exact ⟨_, _, HD0, HR0⟩
      case round =>
       obtain ⟨left, s, HD, HR⟩ := hrel
       generalize wr = wv at *
       clear HD0 HR0
       go_wp2_with (at_next; refine wpList_next_ranges _ rfl _ rfl 3 lawIntB (plainElem Tryz.prog 4) (Value.int .i64) (fun k : Nat => Value.bool (decide (k = 1))) (fun key kl hkey => by obtain ⟨x, rfl, _⟩ := Maps.keyOf_int_inv Tryz.underlying3 hkey; exact ⟨x, rfl⟩) (fun v y hv => plainElem_bool_invN Tryz.underlying4 hv) mb r nn0 D left _ rfl HR.out ?_ ?_)
       ·intro _ hl0
        have HP0 := Lib.hid (TP.start HT.out HD.out hl0)
        obtain ⟨nb, hnb⟩ : ∃ nb, wv.heap.size = nb := ⟨_, rfl⟩
        obtain ⟨w6, hw6⟩ : ∃ w6, wv.alloc (.map #[] 0) = w6 := ⟨_, rfl⟩
        obtain ⟨e0, he0⟩ : ∃ e0 : Ep, { e with w := s } = e0 := ⟨_, rfl⟩
        rw [he0] at HP0
        have HOm : Hid (w6.ownsMap Tryz.prog 3 (plainElem Tryz.prog 4) nb 0 (.map [] : DataW Unit)) := Lib.hid (by rw [← hw6, ← hnb]; exact World.ownsMap_made wv Tryz.prog _ _)
        have HP6 := Lib.hid (HP0.out.to (HP0.out.le.below (v' := w6) (by rw [← hw6]; exact (Below.refl _ _).alloc (Nat.le_refl _) _)))
        have hlb : lim ≤ nb := by rw [← hnb]; exact HP0.out.le.limLe
        have hep : e0.pend = e.pend := by rw [← he0]
        have HPD := Lib.hid (le_pendingT HP6.out.le)
        rw [hep] at HPD
        obtain ⟨Lp, hLp⟩ : ∃ Lp, listE (fun k => (e.pend k).isSome) = Lp := ⟨_, rfl⟩
        have hpl := HP6.out.tl.pl
        rw [hep] at hpl
        have HL5 : Hid (Lp.length ≤ 5 ∧ ∀ (j : Nat) (x : Int), Lp[j]? = some x → ∃ k : Nat, k < 5 ∧ x = (k : Int)) := Lib.hid (by
         rw [← hLp]
         refine ⟨listE_five (fun k hk => hpl k hk), fun j x hx => ?_⟩
         obtain ⟨k, _, hk, ex⟩ := listE_at hx
         exact ⟨k, hpl k hk, ex⟩)
        rw [hLp] at HPD HP6
        clear hLp hpl hep HP0 HD HR hl0 he0
        go_upto_region 17 with fail
        clear hw6 hnb
        go_wp2_with fail
        refine HPD.out.mono ?_
        rintro en w7 ⟨A7, c7, rfl, own7, b7⟩
        try dsimp only
        have HP7 : Hid (TP w g nd p lim F (1 + 10 * i + 2 * 0) (20000 * i + 1146 * 0) e0 (Lp.drop 0) w7) := Lib.hid (HP6.out.to (HP6.out.le.below b7))
        have HM7 : Hid (w7.ownsRow w6.heap.size 3 1 (.slice A7 Lp.length c7) Lp.length (intsV Lp) ∧ w7.ownsMap Tryz.prog 3 (plainElem Tryz.prog 4) nb 0 (.map [] : DataW Unit)) := Lib.hid ⟨own7, by
         obtain ⟨es, ck, hb⟩ := ownsMap_block HOm.out
         exact ownsMap_keep HOm.out (b7.block nb (heap_lt hb))⟩
        obtain ⟨B7, hB7⟩ : ∃ B7, w6.heap.size = B7 := ⟨_, rfl⟩
        rw [hB7] at HM7
        obtain ⟨m7, hm7⟩ : ∃ m7, Lp.length = m7 := ⟨_, rfl⟩
        have HML := Lib.hid hm7
        have m75 : m7 ≤ 5 := by have := HL5.out.1; omega
        rw [hm7] at HM7 ⊢
        clear own7 b7 hB7 hm7 HPD HOm HP6
        go_wp2_with fail
        go_loopg [73, 23, 24, 25] m7 (fun q s73 s23 s24 s25 vv => ∃ (j : Nat) (e1 : Ep), s73 = .int .i64 (j : Int) ∧ j ≤ m7 ∧ q = m7 - j ∧ Hid (TP w g nd p lim F (1 + 10 * i + 2 * j) (20000 * i + 1146 * j) e1 (Lp.drop j) vv) ∧ Hid (vv.ownsRow B7 3 1 (.slice A7 m7 c7) m7 (intsV Lp) ∧ vv.ownsMap Tryz.prog 3 (plainElem Tryz.prog 4) nb 0 (.map [] : DataW Unit)))
        case atStart => exact ⟨0, e0, rfl, by omega, rfl, HP7, HM7⟩
        case round =>
         obtain ⟨j, e1, rfl, hj, rfl, HP, HM⟩ := hrel
         generalize wr = va at *
         clear HP7 HM7
         by_cases hjl : j < m7
         ·have t3 : (j : Int) < (m7 : Int) := by omega
          obtain ⟨xi, hxi⟩ : ∃ xi, Lp[j]? = some xi := ⟨_, List.getElem?_eq_getElem (by rw [HML.out]; exact hjl)⟩
          obtain ⟨k, hk5, rfl⟩ := HL5.out.2 j xi hxi
          have HDR : Hid (Lp.drop j = (k : Int) :: Lp.drop (j + 1)) := Lib.hid (by
           obtain ⟨h1, h2⟩ := List.getElem?_eq_some_iff.1 hxi
           rw [List.drop_eq_getElem_cons h1, h2])
          have own8 := HM.out.1
          rw [← HML.out] at own8
          obtain ⟨ga7, o7, hA7, hg7, hc7⟩ := (own_nums own8).1 j (k : Int) hxi
          obtain rfl := hA7
          have cz := hc7
          have HRD := Lib.hid (le_read HP.out.le HP.out.fit (by omega) (fun st => by have := HP.out.tl.nk st; omega) (st := k) (by omega))
          have HTR := Lib.hid (HP.out.read hF25 (by omega) hk5 (by rw [HDR.out]; exact List.mem_cons_self ..))
          obtain ⟨x, hx⟩ : ∃ x, e1.read encK decK k = x := ⟨_, rfl⟩
          rw [hx] at HRD HTR
          clear hx hxi hg7 hc7 own8
          go_wp2_with fail
          refine HRD.out.mono ?_
          rintro en vb ⟨r8, u8, rfl, L8, K8, E8⟩
          try dsimp only
          obtain ⟨T1, T2⟩ := HTR.out
          rcases E8 with ⟨er, hr, _⟩ | ⟨Dd, Pp, kk, hr, rfl, rfl, hdat, hkk, hD⟩
          ·exact absurd hr (T1 er)
          ·have HP8 := Lib.hid (T2 vb L8)
           have HM8 : Hid (vb.ownsRow B7 3 1 (.slice (some ⟨ga7, o7, none⟩) m7 c7) m7 (intsV Lp) ∧ vb.ownsMap Tryz.prog 3 (plainElem Tryz.prog 4) nb 0 (.map [] : DataW Unit)) := Lib.hid ⟨own_keepE HM.out.1 K8, by
            obtain ⟨es, ck, hb⟩ := ownsMap_block HM.out.2
            exact ownsMap_keep HM.out.2 (K8.map hb hlb)⟩
           have HWR := Lib.hid (le_write HP8.out.le HP8.out.fit (by omega) (fun st => by have := HP8.out.tl.nk st; omega) (st := k) (by omega) Pp kk Dd hdat hD)
           have HTW := Lib.hid (HP8.out.write hF25 (by omega) hk5 hD (ps' := Lp.drop (j + 1)) (fun k' h1 h2 => by
            rw [HDR.out] at h1
            rcases List.mem_cons.1 h1 with h1 | h1
            ·exact absurd (by omega) h2
            ·exact h1))
           obtain ⟨y, hy⟩ : ∃ y, x.1.write encK k Dd = y := ⟨_, rfl⟩
           rw [hy] at HWR HTW
           clear hy hr L8 K8 hdat hkk hD T1 T2 HRD HTR HP HM HDR
           go_wp2_with fail
           refine HWR.out.mono ?_
           rintro en vc ⟨u9, rfl, L9, K9, E9⟩
           try dsimp only
           obtain ⟨T1, T2⟩ := HTW.out
           rw [T1] at E9
           obtain rfl : u9 = .nilIface := E9
           have HP9 : Hid (TP w g nd p lim F (1 + 10 * i + 2 * (j + 1)) (20000 * i + 1146 * (j + 1)) y.1 (Lp.drop (j + 1)) vc) := Lib.hid ((T2 vc L9).cast (by omega) (by omega))
           have HM9 : Hid (vc.ownsRow B7 3 1 (.slice (some ⟨ga7, o7, none⟩) m7 c7) m7 (intsV Lp) ∧ vc.ownsMap Tryz.prog 3 (plainElem Tryz.prog 4) nb 0 (.map [] : DataW Unit)) := Lib.hid ⟨own_keepE HM8.out.1 K9, by
            obtain ⟨es, ck, hb⟩ := ownsMap_block HM8.out.2
            exact ownsMap_keep HM8.out.2 (K9.map hb hlb)⟩
           clear L9 K9 T1 T2 HWR HTW HP8 HM8
           go_wp2_with fail
           go_roundg (m7 - (j + 1))
           case measure => omega
           case rel => exact ⟨j + 1, y.1, by go_num, by omega, rfl, HP9, HM9⟩
         ·obtain rfl : j = m7 := by omega
          have HE : Hid (listE (fun k => (e1.pend k).isSome) = [] ∧ TS w g nd p lim (i + 1) nb e1 [] F Dn va) := Lib.hid (by
           have h1 := HP.out
           rw [List.drop_of_length_le (Nat.le_of_eq HML.out)] at h1
           exact TP.done HT.out h1 (by omega) (by omega) hlb HM.out.2 (by omega))
          have HPD2 := Lib.hid (le_pending HE.out.2.le)
          rw [HE.out.1] at HPD2
          clear hjl HP HM
          go_wp2_with fail
          refine HPD2.out.mono ?_
          rintro en vb ⟨A8, c8, rfl, _, b8⟩
          try dsimp only
          have HTE := Lib.hid (HE.out.2.below b8)
          clear b8 HPD2
          go_wp2_with fail
          go_meet
          case rel => exact Lib.hid ⟨nb, _, _, _, _, rfl, HTE.out⟩
       ·intro x c kl ya yb w6 cnt1 hkey hlk hv hat hrg1 hlt1 hg1 hs1 hen
        obtain ⟨x', ex, rfl, hwx⟩ := Maps.keyOf_int_inv Tryz.underlying3 hkey
        injection ex with _ ex
        obtain rfl := ex
        obtain ⟨c0, hc0, rfl⟩ := HD.out.lf x hlk
        have hc8 := HT.out.l8 c0 hc0
        have HL6 : Hid (LE w w6 g nd p lim { e with w := s }) := Lib.hid (by
         obtain ⟨sn, sq, sc, hit⟩ := ranges_iter HR.out
         exact HD.out.le.other (fun cs t fr e2 => by rw [hit] at e2; cases e2) hrl hg1)
        have HR1 := Lib.hid hrg1
        have HW := Lib.hid (wl_down HL6.out.wl (n := c0) hc8 false)
        clear hkey hlk hv hat hrg1 hg1 hs1
        go_wp2_with fail
        refine HW.out.mono ?_
        rintro en w7 ⟨rfl, W7, K7⟩
        try dsimp only
        have HD7 := Lib.hid (HD.out.step (c := c0) (HL6.out.wire W7 (KeepF.of K7)))
        have HR7 : Hid (w7.ranges Tryz.prog 3 (plainElem Tryz.prog 4) mb r nn0 D (fun z => left z && !z.sameKey (ikB c0)) cnt1) := Lib.hid (by
         obtain ⟨es, ck, hb⟩ := ranges_map HR1.out
         obtain ⟨sn, sq, sc, hit⟩ := ranges_iter HR1.out
         exact ranges_keep HR1.out ((K7.2 mb _ hb (fun cs t fr e => by cases e)).trans hb.symm) ((K7.2 r _ hit (fun cs t fr e => by cases e)).trans hit.symm))
        clear W7 K7 HW HL6 HR1 HD HR
        go_wp2_with fail
        go_roundg cnt1
        case measure => exact hlt1
        case rel => exact ⟨_, _, HD7, HR7⟩
   case rest =>
    go_wp2_with fail
    go_roundg (nn - (i + 1))
    case measure => omega
    case rel => exact ⟨i + 1, by go_num, by omega, rfl, hcut⟩
  ·obtain rfl : i = nn := by omega
   have HX : Hid (Below w.heap.size w v) := Lib.hid (by
    obtain ⟨mb, e, l, F, Dn, _, hts⟩ := HS.out
    exact hts.le.wl.blw)
   clear HS hlt
   by_cases hm2 : m ≤ i
   ·have t1 : ¬ (i : Int) < (m : Int) := by omega
    have t2 : decide (i < m) = false := decide_eq_false (by omega)
    go_wp2_with fail
    go_ret
    exact ⟨rfl, HX.out⟩
   ·have t1 : (i : Int) < (m : Int) := by omega
    have t2 : ¬ (i : Int) < 25 := by have := HNN.out i rfl; omega
    go_wp2_with fail
    go_ret
    exact ⟨rfl, HX.out⟩
end Go.Proofs.YtelmcchleclklaaGreatDoor
