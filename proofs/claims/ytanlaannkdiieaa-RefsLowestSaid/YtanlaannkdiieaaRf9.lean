import Derived.Test.YtanlaannkdiieaaRf8
namespace Go.Proofs.Ytanlaannkdiieaa.Pk
open Go.RowKit Go.Sort
set_option maxRecDepth 100000
set_option maxHeartbeats 4000000

theorem RL.add {w0 w w' : World} {rb mb : Nat} {s : RfS} (h : RL w0 w rb s []) (b : Below w.heap.size w w') (h1 : w.heap.size ≤ mb) (h2 : mb < w'.heap.size) : RL w0 w' rb s [mb] := by
  obtain ⟨F, hm, hb, hs, hF, hG⟩ := h
  exact ⟨F, hm.below b, hb.trans (b.mono hs), Nat.le_trans hs b.size, hF, fun k hk => by rw [List.mem_singleton.1 hk]; exact ⟨fun e => by have := hm.lt mb e; omega, h2⟩⟩
theorem RL.map {w0 w w' : World} {rb mb : Nat} {s : RfS} (h : RL w0 w rb s [mb]) (hm0 : w0.heap.size ≤ mb) (t : w.mapTurned w' mb) : RL w0 w' rb s [mb] := by
  obtain ⟨F, hm, hb, hs, hF, hG⟩ := h
  have T : Turn [mb] w w' := Turn.map t (by simp)
  refine ⟨F, hm.keep T (fun k hk e => (hG mb (by simp)).1 (by rw [List.mem_singleton.1 e] at hk; exact hk)), hb.trans ⟨T.os, T.tape, T.output, T.size, fun k hk => T.block k (Nat.lt_of_lt_of_le hk hs) (by simp; omega)⟩, Nat.le_trans hs T.size, hF, fun k hk => ⟨(hG k hk).1, Nat.lt_of_lt_of_le (hG k hk).2 T.size⟩⟩

/-- RefsLowest. -/
theorem refsLowest (first count : Int) (A : Option Addr) (cap : Nat) (xs : List Int) (w : World) (hL : Nums w A xs) (hm : xs.length ≤ 9223372036854775807) :
    Calls Try.prog 4 #[.int .i64 first, .int .i64 count, .slice A xs.length cap] w fun e w' => e = .returned (.bool true) ∧ Below w.heap.size w w' := by
  obtain ⟨p, hp, HP⟩ := rpickN first 100 (by decide) (by decide)
  obtain ⟨q, hq, HQ⟩ := rpickN count 40 (by decide) (by decide)
  have HP := Lib.hid HP
  have HQ := Lib.hid HQ
  have HL := Lib.hid hL
  obtain ⟨a, ha⟩ : ∃ a, 1 + p = a := ⟨_, rfl⟩
  obtain ⟨c, hc⟩ : ∃ c, 1 + q = c := ⟨_, rfl⟩
  have ea : (1 : Int) + (p : Int) = (a : Int) := by omega
  have ec : (1 : Int) + (q : Int) = (c : Int) := by omega
  have ba : 1 ≤ a ∧ a ≤ 100 := by omega
  have bc : 1 ≤ c ∧ c ≤ 40 := by omega
  obtain ⟨n, hn⟩ : ∃ n, xs.length = n := ⟨_, rfl⟩
  have HN := Lib.hid hn
  rw [hn] at hm ⊢
  have HPK : Hid (∀ x W, Calls Try.prog 15 #[.int .i64 x, .int .i64 (c : Int)] W fun e w' => (∃ r : Nat, r < c ∧ e = .returned (.int .i64 (r : Int))) ∧ w' = W) := Lib.hid (fun x W => by
    obtain ⟨r, hr, h⟩ := rpickN x c (by omega) (by omega)
    exact (h W).mono (by rintro e w' ⟨rfl, hw⟩; exact ⟨⟨r, hr, rfl⟩, hw⟩))
  have hmk : ∀ W : World, Sem.run Try.prog (Instr.makeMap 32 none) W = .ok (.map (some W.heap.size)) (W.alloc (.map #[] 0)) := fun W => run_makeMap _ W
  clear hL hn ha hc
  go_enter Try.func4, Try.ntmps4
  go_wp2_with fail
  refine (HP.out w).mono ?_
  rintro e wx ⟨rfl, hwx⟩
  rw [hwx]
  clear hwx wx
  go_wp2_with fail
  refine (HQ.out w).mono ?_
  rintro e wx ⟨rfl, hwx⟩
  rw [hwx]
  clear hwx wx
  go_wp2_with fail
  clear ea ec
  have HNW := Lib.hid (rl_new a (a + c - 1) (a : Int) ((a : Int) + (c : Int) - 1) w w (by omega) (by omega) (Below.refl _ _) (Nat.le_refl _))
  rw [show a + c - 1 + 1 - a = c by omega, ← sT_zero] at HNW
  refine HNW.out.mono ?_
  rintro e w1 ⟨ra, rfl, h⟩
  have H1 := Lib.hid h
  clear h HNW
  go_wp2_with fail
  refine (lknown16 _).mono ?_
  rintro e w2 ⟨rfl, b2⟩
  have H2 := Lib.hid (H1.out.below b2)
  clear b2 H1
  go_wp2_with fail
  obtain ⟨F, h⟩ := H2.out.rd
  refine (rf_free h).mono ?_
  rintro e wx ⟨rfl, rfl⟩
  clear h F
  have e0 : (sT a 0 c []).S.length = c := by rw [sT_zero]; exact rng_len a c
  rw [e0]
  clear e0
  go_wp2_with fail
  go_loopg [8] (c + 1) (fun q s8 v => ∃ i : Nat, s8 = .int .i64 (i : Int) ∧ i ≤ c ∧ q = c + 1 - i ∧ Hid (RL w v ra (sT a i c []) []))
  case atStart => exact ⟨0, rfl, by omega, rfl, H2⟩
  case round =>
    obtain ⟨i, rfl, hi, rfl, HR⟩ := hrel
    generalize wr = v at *
    clear H2
    by_cases hlt : i < c
    · have t1 : (i : Int) < (c : Int) := by omega
      have HC := Lib.hid (rl_of HR.out (fun F h => rf_take_yes h (sT_S hlt []) (by show i - 0 ≤ 1000000; omega)))
      rw [sT_took hlt] at HC
      have e1 : ((a + i : Nat) : Int) = (a : Int) + (i : Int) := by omega
      rw [e1] at HC
      clear HR e1
      go_wp2_with fail
      refine HC.out.mono ?_
      rintro e w5 ⟨rfl, h, -⟩
      have H5 := Lib.hid h
      clear h HC
      go_wp2_with fail
      go_roundg (c + 1 - (i + 1))
      case measure => omega
      case rel => exact ⟨i + 1, by simp, by omega, rfl, H5⟩
    · have hip : i = c := by omega
      subst hip
      have t1 : ¬ (i : Int) < (i : Int) := by omega
      obtain ⟨mb, hmb⟩ : ∃ mb, v.heap.size = mb := ⟨_, rfl⟩
      obtain ⟨w3, hw3⟩ : ∃ w3, v.alloc (.map #[] 0) = w3 := ⟨_, rfl⟩
      have bv : Below v.heap.size v w3 := by rw [← hw3]; exact (Below.refl _ _).alloc (Nat.le_refl _) _
      have HG3 : Hid (GM w3 mb (.map []) []) := Lib.hid (by rw [← hw3, ← hmb]; exact GM.made v)
      have HR3 : Hid (RL w w3 ra (sT a i i []) [mb]) := Lib.hid (HR.out.add bv (by omega) HG3.out.lt)
      have HM0 : Hid (w.heap.size ≤ mb) := Lib.hid (by obtain ⟨_, _, _, hs, _⟩ := HR.out; omega)
      have HV3 := Lib.hid hw3
      have HMB := Lib.hid hmb
      clear hw3 hmb bv HR
      go_upto_region 13 with fail
      rw [HV3.out, HMB.out]
      clear HV3
      go_wp2_with fail
      go_loopg [12] 31 (fun q s12 v => ∃ (j : Nat) (H : List Int) (D : DataW Unit), s12 = .int .i64 (j : Int) ∧ j ≤ 30 ∧ j ≤ n ∧ q = 31 - j ∧ H.length ≤ j ∧ Hid (RL w v ra (sT a i i H) [mb] ∧ GM v mb D H ∧ (∀ x ∈ H, (a : Int) ≤ x ∧ x < (a : Int) + (i : Int))))
      case atStart => exact ⟨0, [], _, rfl, by omega, by omega, rfl, Nat.le_refl _, Lib.hid ⟨HR3.out, HG3.out, fun x hx => by cases hx⟩⟩
      case round =>
        obtain ⟨j, H, D, rfl, hj, hjn, rfl, hjH, HS⟩ := hrel
        generalize wr = v at *
        clear HR3 HG3
        by_cases hlt : j < n ∧ j < 30
        · have t1 : (j : Int) < (n : Int) := by omega
          have t2 : (j : Int) < 30 := by omega
          obtain ⟨x, hx⟩ : ∃ x, xs[j]? = some x := ⟨_, List.getElem?_eq_getElem (by rw [HN.out]; exact hlt.1)⟩
          obtain ⟨g, o, rfl, hg, hcell⟩ := HL.out j x hx
          have hend : Below w.heap.size w v := HS.out.1.end_
          have hc2 : v.cell? ⟨g, o + j, none⟩ = some (.int .i64 x) := (hend.cell (p := ⟨g, o + j, none⟩) hg).trans hcell
          clear hx hg hcell hend
          go_wp2_with fail
          refine (HPK.out x v).mono ?_
          rintro e wx ⟨⟨r, hr, rfl⟩, rfl⟩
          generalize hwx : wx = v at *
          clear hwx hc2
          have wi : I64 ((a : Int) + (r : Int)) := by constructor <;> omega
          obtain ⟨id, hid⟩ : ∃ id : Int, (a : Int) + (r : Int) = id := ⟨_, rfl⟩
          obtain ⟨b, hb⟩ : ∃ b, decide (id ∈ H) = b := ⟨_, rfl⟩
          have hR1 : RL w v.drew ra (sT a i i H) [mb] := HS.out.1.below (below_drewN 1 v)
          have hG1 : GM v.drew mb D H := HS.out.2.1.keep rfl
          have hbd := HS.out.2.2
          have HC := Lib.hid (rl_of hR1 (fun F h => rf_drop ((a : Int) + (r : Int)) wi h (by rw [sT_f hr]; split <;> omega) (by show i - H.length ≤ 1000000; omega) (by show H.length ≤ 1000000; omega)))
          rw [sT_drop hr, sT_f hr] at HC
          have hanswer : decide ((if ((a : Int) + (r : Int)) ∈ H then 0 else 1) ≠ 0) = !b := by
            rw [hid, ← hb]
            by_cases e : id ∈ H <;> simp [e]
          rw [hanswer, hid] at HC
          rw [hid] at wi
          obtain ⟨H', hH'⟩ : ∃ H' : List Int, (if id ∈ H then H else H ++ [id]) = H' := ⟨_, rfl⟩
          rw [hH'] at HC
          have hH'l : H'.length ≤ j + 1 := by
            rw [← hH']
            split
            · omega
            · rw [List.length_append, List.length_singleton]; omega
          have hH'b : ∀ x ∈ H', (a : Int) ≤ x ∧ x < (a : Int) + (i : Int) := fun x hx => by
            rw [← hH'] at hx
            split at hx
            · exact hbd x hx
            · rcases List.mem_append.1 hx with y | y
              · exact hbd x y
              · rw [List.mem_singleton.1 y]; omega
          have HH' := Lib.hid hH'
          have HB' := Lib.hid hH'b
          have hq : ((!b) == b) = false := by cases b <;> rfl
          have hl0 := hG1.look wi
          rw [hb] at hl0
          have HG1 := Lib.hid hG1
          have HWI := Lib.hid wi
          have HBB := Lib.hid hb
          clear hR1 hG1 hbd hanswer hH' hH'b wi hb HS HPK
          go_wp2_with fail
          clear hid
          go_region_held (fun W => Sem.run Try.prog (Instr.lookup 32 (.map (some mb)) (.int .i64 id) false) W = .ok (.bool b) W)
            (first | assumption | exact hl2)
            (first | (go_at_call 11; (with_reducible refine HC.out.mono ?_); rintro e w5 ⟨rfl, h5, k5⟩; (try dsimp only); have HR5 := Lib.hid h5; have HG5 := Lib.hid (HG1.out.keep (k5 mb (by simp))); have hl2 : Sem.run Try.prog (Instr.lookup 32 (.map (some mb)) (.int .i64 id) false) w5 = .ok (.bool b) w5 := by have := HG5.out.look HWI.out; rw [HBB.out] at this; exact this) | fail)
          all_goals
            go_wp2_with (at_mapUpdate; refine wpList_mapUpdate_in _ rfl _ _ _ 32 rfl 3 4 law3 Try.underlying32 _ mb (Maps.size D) D rfl HG5.out.own (by rw [HG5.out.size]; unfold maxLen; omega) _ _ (Pk.key id) rfl rfl (Maps.keyOf_int_mk Try.underlying3 (wf_of HWI.out)) (bvl true) [] (plainElem_bool (H := Unit) Try.underlying4 true) ?_; intro w6 hown6 hturn6; have HG6 := Lib.hid (HG5.out.put hown6); have HR6 := Lib.hid (HR5.out.map HM0.out hturn6); clear hown6 hturn6)
            go_roundg (31 - (j + 1))
            case measure => omega
            case rel => exact ⟨j + 1, H', _, by simp, by omega, by omega, rfl, hH'l, Lib.hid ⟨HR6.out, by have := HG6.out; rw [HH'.out] at this; exact this, HB'.out⟩⟩
        · have HTK := Lib.hid (rl_of HS.out.1 (fun F h => rf_take_no h (sT_end a i H)))
          have hh : H.length ≤ 30 := by omega
          obtain ⟨m, hmm⟩ : ∃ m, H.length = m := ⟨_, rfl⟩
          have HMM := Lib.hid hmm
          have hsz : Maps.size D = m := by rw [HS.out.2.1.size]; exact hmm
          rw [hmm] at hh
          have HG0 := Lib.hid HS.out.2.1
          have HB0 := Lib.hid HS.out.2.2
          have hsplit : ¬ (j : Int) < (n : Int) ∨ ((j : Int) < (n : Int) ∧ ¬ (j : Int) < 30) := by omega
          have hmne : ((m : Int) != (m : Int)) = false := by simp
          clear hmm HS hlt
          rcases hsplit with t1 | ⟨t1, t2⟩
          all_goals
            go_wp2_with fail
            refine HTK.out.mono ?_
            rintro e w5 ⟨rfl, h5, k5⟩
            have HR5 := Lib.hid h5
            have HG5 := Lib.hid (HG0.out.keep (k5 mb (by simp)))
            clear h5 k5 HTK HG0
            go_wp2_with fail
            obtain ⟨F, h⟩ := HR5.out.rd
            refine (rf_held h).mono ?_
            rintro e wx ⟨rfl, rfl⟩
            clear h F
            have em : (sT a i i H).H.length = m := HMM.out
            rw [em]
            clear em
            have hlen : Sem.run Try.prog (Builtin.len_ #[32] 3 #[.map (some mb)]) wx = .ok (.int .i64 (m : Int)) wx := by
              have := HG5.out.own.len Try.underlying32 3
              rw [hsz] at this
              exact this
            have HST := Lib.hid (rl_of HR5.out (fun F h => rf_settle h (by rw [sT_end]; show 0 + H.length ≤ 1000; have := HMM.out; omega)))
            clear HR5
            go_wp2_with fail
            refine HST.out.mono ?_
            rintro e w7 ⟨rfl, h7, k7⟩
            have HG7 := Lib.hid (HG5.out.keep (k7 mb (by simp)))
            have HL7 : Hid (∃ s, RL w w7 ra s [mb] ∧ s.S = fl a (a + i - a) H ∧ s.H = [] ∧ s.n ≤ 100 + (a - a)) := Lib.hid ⟨_, h7, by
              show H.foldl putI (sT a i i H).S = _
              rw [sT_end]
              rw [Nat.add_sub_cancel_left]
              exact settle_fl HB0.out, rfl, by show i - H.length ≤ _; omega⟩
            clear h7 k7 HST HG5 hlen hmne
            go_wp2_with fail
            go_loopg [16] (i + 1) (fun q s16 v => ∃ t : Nat, s16 = .int .i64 (t : Int) ∧ a ≤ t ∧ t ≤ a + i ∧ q = a + i + 1 - t ∧ Hid (GM v mb D H ∧ ∃ s, RL w v ra s [mb] ∧ s.S = fl t (a + i - t) H ∧ s.H = [] ∧ s.n ≤ 100 + (t - a)))
            case atStart => exact ⟨a, rfl, by omega, by omega, by omega, Lib.hid ⟨HG7.out, HL7.out⟩⟩
            case round =>
              obtain ⟨t, rfl, hat, hk, rfl, HS⟩ := hrel
              generalize wr = v at *
              clear HG7 HL7
              by_cases hlt : t < a + i
              · have t1 : (t : Int) < (a : Int) + (i : Int) := by omega
                obtain ⟨HG8, s, HR8, hs1, hs2, hs3⟩ := HS.out
                have wi : I64 (t : Int) := by constructor <;> omega
                have hlk := HG8.look wi
                have HG8 := Lib.hid HG8
                have HR8 := Lib.hid HR8
                have HE2 := Lib.hid hs2
                have e1 : a + i - t = (a + i - (t + 1)) + 1 := by omega
                rw [e1] at hs1
                clear HS e1 wi
                by_cases hmem : (t : Int) ∈ H
                · rw [decide_eq_true hmem] at hlk
                  rw [fl_yes hmem] at hs1
                  have HTK := Lib.hid (rl_of HR8.out (fun F h => rf_take_yes (id := (t : Int)) h hs1 (by omega)))
                  have HE1 : Hid ((s.took (t : Int)).S = fl (t + 1) (a + i - (t + 1)) H) := Lib.hid (by show s.S.tail = _; rw [hs1]; rfl)
                  have HE3 : Hid ((s.took (t : Int)).n ≤ 100 + (t + 1 - a)) := Lib.hid (by show s.n + _ ≤ _; split <;> omega)
                  clear hs1 hs2 hs3 hmem HR8
                  go_wp2_with fail
                  refine HTK.out.mono ?_
                  rintro e w9 ⟨rfl, h9, k9⟩
                  have HS9 : Hid (GM w9 mb D H ∧ ∃ s, RL w w9 ra s [mb] ∧ s.S = fl (t + 1) (a + i - (t + 1)) H ∧ s.H = [] ∧ s.n ≤ 100 + (t + 1 - a)) := Lib.hid ⟨HG8.out.keep (k9 mb (by simp)), _, h9, HE1.out, HE2.out, HE3.out⟩
                  clear h9 k9 HTK hlk
                  go_wp2_with fail
                  go_roundg (a + i + 1 - (t + 1))
                  case measure => omega
                  case rel => exact ⟨t + 1, by simp, by omega, by omega, rfl, HS9⟩
                · rw [decide_eq_false hmem] at hlk
                  rw [fl_no hmem] at hs1
                  have HS9 : Hid (GM v mb D H ∧ ∃ s, RL w v ra s [mb] ∧ s.S = fl (t + 1) (a + i - (t + 1)) H ∧ s.H = [] ∧ s.n ≤ 100 + (t + 1 - a)) := Lib.hid ⟨HG8.out, s, HR8.out, hs1, hs2, by omega⟩
                  clear hs1 hs2 hs3 hmem HR8 HG8 HE2
                  go_wp2_with fail
                  go_roundg (a + i + 1 - (t + 1))
                  case measure => omega
                  case rel => exact ⟨t + 1, by simp, by omega, by omega, rfl, HS9⟩
              · have hki : t = a + i := by omega
                subst hki
                have t1 : ¬ ((a + i : Nat) : Int) < (a : Int) + (i : Int) := by omega
                obtain ⟨_, s, HR8, hs1, hs2, _⟩ := HS.out
                have HR8 := Lib.hid HR8
                have e1 : s.S.length = 0 := by rw [hs1, Nat.sub_self]; rfl
                have e2 : s.H.length = 0 := by rw [hs2]; rfl
                clear HS hs1 hs2
                go_wp2_with fail
                obtain ⟨F, h⟩ := HR8.out.rd
                refine (rf_free h).mono ?_
                rintro e wz ⟨rfl, rfl⟩
                clear h F
                rw [e1]
                go_wp2_with fail
                obtain ⟨F, h⟩ := HR8.out.rd
                refine (rf_held h).mono ?_
                rintro e wz ⟨rfl, rfl⟩
                clear h F
                rw [e2]
                go_wp2_with fail
                go_ret
                exact ⟨rfl, HR8.out.end_⟩
end Go.Proofs.Ytanlaannkdiieaa.Pk
