import Derived.Test.YtbifpjdkljibeaaDoorW
namespace Go.Proofs.YtbifpjdkljibeaaDoor
open Go.RowKit Go.Extern.Stop Go.Stop Go.Extern Go.Extern.Rtype

theorem join_empty (v : Value) (w : World) (base : Nat) (hown : w.ownsRow base 24 1 v 0 []) : Calls Tryd.prog 10 #[v] w fun e w' => e = .returned .nilIface ∧ Below w.heap.size w w' := by
  obtain ⟨_, a, c, rfl, hh⟩ := holds_of hown
  have hj := join10 a [] c w (by decide) (fun x hx => by cases hx) hh
  refine Calls.mono hj ?_
  rintro e w' ⟨hb, ⟨_, he⟩ | ⟨y, hy, _⟩ | ⟨h2, _⟩⟩
  · exact ⟨he, hb⟩
  · cases hy
  · simp [alive] at h2

theorem codeOf_rep (i : Nat) (h : 1 ≤ i) : codeOf (List.replicate i 5) = 5 := by
  obtain ⟨k, rfl⟩ : ∃ k, i = k + 1 := ⟨i - 1, by omega⟩
  rfl
theorem has5_rep (i : Nat) (h : 1 ≤ i) : hasCode 5 (List.replicate i 5) = true := by
  unfold hasCode
  rw [List.contains_iff_mem, List.mem_replicate]
  exact ⟨by omega, rfl⟩
theorem has4_rep (i : Nat) : hasCode 4 (List.replicate i 5) = false := by
  unfold hasCode
  rw [Bool.eq_false_iff]
  intro h
  rw [List.contains_iff_mem, List.mem_replicate] at h
  omega

set_option maxRecDepth 100000 in
set_option maxHeartbeats 2000000 in
theorem causeNodes6 (a1 a2 : Option Addr) (xs ps : List Int) (c1 c2 : Nat) (stripe : Int) (w : World) (hE : ErrType w) 
    (hn1 : Nums w a1 xs) (hn2 : Nums w a2 ps) :
    Calls Tryd.prog 6 #[.slice a1 xs.length c1, .slice a2 ps.length c2, .int .i64 stripe] w fun e w' => e = .returned (.bool true) ∧ Below w.heap.size w w' := by
  have h0 : 0 < w.heap.size := cell?_lt hE
  have HN := Lib.hid (And.intro hn1 (And.intro hn2 hE))
  clear hn1 hn2 hE
  obtain ⟨i0, hi, hz0, hz1, hz2⟩ := info_parts info24
  obtain ⟨j0, hj, hy0, hy1, hy2⟩ := info_parts info3
  go_enter Tryd.func6, Tryd.ntmps6
  go_wp2_with fail
  refine (known8 _ HN.out.2.2).mono ?_
  rintro e w1 ⟨rfl, hb1⟩
  have HB1 := Lib.hid hb1
  clear hb1
  go_wp2_with fail
  go_loopg [7, 8, 9] 20 (fun q s7 s8 s9 wr => ∃ i : Nat, s9 = .int .i64 i ∧ i ≤ xs.length ∧ i ≤ 20 ∧ q = 20 - i ∧ Hid (LoopP w.heap.size w stripe (wantOf xs i) (wantOf xs i) i s7 s8 wr))
  case atStart =>
    refine ⟨0, rfl, Nat.zero_le _, by omega, rfl, Lib.hid ⟨World.ownsRow_nil _ _ _ _, HN.out.2.2.below HB1.out, HB1.out, [], 1, World.ownsRow_nil _ _ _ _, by simp, fun j z hz => by simp at hz, rfl, rfl, by simp⟩⟩
  case round =>
    obtain ⟨i, rfl, hi1, hi2, rfl, HR⟩ := hrel
    have hsz := HR.out.size (Nat.le_refl _)
    by_cases hlt : i < xs.length
    · by_cases h20 : i < 20
      · have hz : xs[i]? = some xs[i] := List.getElem?_eq_getElem hlt
        generalize xs[i] = x at hz
        obtain ⟨g, o, rfl, hg, hc⟩ := HN.out.1 i x hz
        have k1 : wr.cell? ⟨g, o + i, none⟩ = some (.int .i64 x) := by rw [HR.out.below.cell (p := ⟨g, o + i, none⟩) hg]; exact hc
        have HZ := Lib.hid hz
        have hwl := want_len xs i hi1
        have HWL := Lib.hid hwl
        have hw20 : (wantOf xs i).length ≤ 20 := by omega
        clear hz hc hwl
        go_wp2_with (first | (go_at_call 20; refine (pick_any x 50 (by omega) (by omega) _).mono ?_; rintro e w' ⟨rfl, rfl⟩) | (at_builtin; refine append_mine _ rfl (.tmp 31) (.tmp 33) 44 rfl w.heap.size 3 j0 (.int .i64 0) 1 8 Tryd.underlying44 hj hy0 hy1 hy2 rfl (by decide) _ (wantOf xs i).length _ rfl (HR.out.want.alloc _) ⟨wr.heap.size, 0, none⟩ 1 1 [.int .i64 (x % 50)] rfl rfl ?c1 ?c2 ?c3 ?c4 ?c5 ?c6 ?_))
        case c1 =>
          intro j u hj
          cases j with
          | zero => cases hj; simp [Addr.add, go_sem]
          | succ j => simp at hj
        case c2 => intro u hu; rw [List.mem_singleton.1 hu]; rfl
        case c3 => unfold maxLen; omega
        case c4 => omega
        case c5 => simp; omega
        case c6 => omega
        intro v8 w2 ho2 hg2 _
        have hl2 := (HR.out.more hsz ((Below.refl _ wr).alloc (Nat.le_refl _) (.cells #[.int .i64 (x % 50)] 3))).wanted (by simp; omega) h0 ho2 hg2
        rw [← want_snoc xs i x HZ.out] at hl2
        have HR2 := Lib.hid hl2
        have hsz2 := hl2.size (Nat.le_refl _)
        clear ho2 hg2 hl2
        go_wp2_with fail
        refine (atNode_err 1 (x % 50) _ _ _ _ _ (errno_err _ _ 5)).mono ?_
        rintro e w3 ⟨b, rfl, hb3, hw3, hh3, _⟩
        have hl3 := HR2.out.more hsz2 hw3
        obtain ⟨zs, d, e4, e5, e6, e7, e8, e9⟩ := (hl3.more (hl3.size (Nat.le_refl _)) ((Below.refl _ w3).alloc (Nat.le_refl _) (.cells #[.iface 32 (.pointer (some ⟨b, 0, none⟩))] 24))).es
        have hzl : zs.length ≤ 20 := by omega
        have HR3 := Lib.hid (And.intro hl3 (And.intro e4 (And.intro e5 (And.intro e6 (And.intro e7 (And.intro e8 e9))))))
        have H3 := Lib.hid (And.intro hb3 (And.intro hw3 hh3))
        have hsz3 := hl3.size (Nat.le_refl _)
        have hne : u7.ownBlock ≠ some b := by
          intro e
          obtain ⟨zs', d', q4, _⟩ := HR2.out.es
          have := (q4.lt b e).2
          omega
        have HNE := Lib.hid hne
        clear hl3 e4 e5 e6 e7 e8 e9 hb3 hw3 hh3 hne
        go_wp2_with (at_builtin; refine append_mine _ rfl (.tmp 35) (.tmp 39) 29 rfl w.heap.size 24 i0 .nilIface 1 16 Tryd.underlying29 hi hz0 hz1 hz2 rfl (by decide) _ zs.length _ rfl HR3.out.2.1 ⟨w3.heap.size, 0, none⟩ 1 1 [.iface 32 (.pointer (some ⟨b, 0, none⟩))] rfl rfl ?d1 ?d2 ?d3 ?d4 ?d5 ?d6 ?_)
        case d1 =>
          intro j u hj
          cases j with
          | zero => cases hj; simp [Addr.add, go_sem]
          | succ j => simp at hj
        case d2 => intro u hu; rw [List.mem_singleton.1 hu]; rfl
        case d3 => unfold maxLen; omega
        case d4 => omega
        case d5 => simp; omega
        case d6 => omega
        intro v7 w4 ho4 hg4 hm4
        have hl4 : LoopP w.heap.size w stripe (wantOf xs (i + 1)) (wantOf xs (i + 1)) (i + 1) v7 v8 w4 := by
          have hm := HR3.out.1.more hsz3 ((Below.refl _ w3).alloc (Nat.le_refl _) (.cells #[.iface 32 (.pointer (some ⟨b, 0, none⟩))] 24))
          rw [want_snoc xs i x HZ.out] at hm ⊢
          exact LoopP.put (by simp; omega) h0 hm.want hm.err hm.below HR3.out.2.1 HR3.out.2.2.1 HR3.out.2.2.2.1 HR3.out.2.2.2.2.1 HR3.out.2.2.2.2.2.1 HR3.out.2.2.2.2.2.2 HNE.out (by rw [Below.heap_alloc _ _ _ (heap_lt H3.out.2.2)]; exact H3.out.2.2) ho4 hg4 (by simpa only [World.size_alloc] using hm4)
        have HR4 := Lib.hid hl4
        have hsz4 := hl4.size (Nat.le_refl _)
        clear ho4 hg4 hm4 hl4
        by_cases hpl : i < ps.length
        · have hpz : ps[i]? = some ps[i] := List.getElem?_eq_getElem hpl
          generalize ps[i] = p at hpz
          obtain ⟨g2, o2, rfl, hg2, hc2⟩ := HN.out.2.1 i p hpz
          have k2 : w4.cell? ⟨g2, o2 + i, none⟩ = some (.int .i64 p) := by rw [HR4.out.below.cell (p := ⟨g2, o2 + i, none⟩) hg2]; exact hc2
          clear hpz hc2
          by_cases hmod : p.tmod 3 = 0
          · have hm1 : (p.tmod 3 == 0) = true := by rw [hmod]; rfl
            clear hmod
            go_wp2_with fail
            obtain ⟨zs', d', e4, e5, e6, e7, e8, e9⟩ := HR4.out.es
            have hne : zs' ≠ [] := by
              rintro rfl
              rw [List.replicate_succ] at e7
              cases e7
            refine (join_trees v7 zs' _ _ d' e4 (by omega) _ (fun _ => True) e6 hne (fun _ _ _ => trivial) (fun _ _ => trivial)).mono ?_
            rintro e w5 ⟨u, ns, rfl, hb5, he5, hn5, _⟩
            have HR5 := Lib.hid (And.intro (HR4.out.more hsz4 hb5) (And.intro he5 (And.intro hn5 (And.intro e7 (And.intro e8 e9)))))
            clear e4 e5 e6 e7 e8 e9 hne hb5 he5 hn5
            go_wp2_with fail
            refine (ofStripe_err _ stripe _ _ _ _ _ HR5.out.2.1.err).mono ?_
            rintro e w6 ⟨b2, rfl, hb6, hw6, hh6, _⟩
            have hsz5 := HR5.out.1.size (Nat.le_refl _)
            have hl6 := (HR5.out.1.more hsz5 hw6).one (by omega) ((HR5.out.1.more hsz5 hw6).size (Nat.le_refl _)) h0 hh6 (HR5.out.2.1.keep (fun _ _ _ => trivial) (fun k c t _ hk _ => Rest_any hw6 hk)) HR5.out.2.2.2.1 (by rw [HR5.out.2.2.1]; exact HR5.out.2.2.2.2.1) HR5.out.2.2.2.2.2
            have HR6 := Lib.hid hl6
            clear hl6 hb6 hw6 hh6
            go_wp2_with fail
            go_roundg (20 - (i + 1))
            case measure => omega
            case rel => exact ⟨i + 1, by go_num, by omega, by omega, rfl, HR6⟩
          · have hm1 : (p.tmod 3 == 0) = false := by rw [beq_eq_false_iff_ne]; exact hmod
            clear hmod
            go_wp2_with fail
            go_roundg (20 - (i + 1))
            case measure => omega
            case rel => exact ⟨i + 1, by go_num, by omega, by omega, rfl, HR4⟩
        · go_wp2_with fail
          go_roundg (20 - (i + 1))
          case measure => omega
          case rel => exact ⟨i + 1, by go_num, by omega, by omega, rfl, HR4⟩
      · have HLT := Lib.hid hlt
        have hwl := want_len xs i hi1
        obtain ⟨a8, c8, rfl, hnum⟩ := nums_of HR.out.want
        have HNUM := Lib.hid hnum
        clear hnum
        by_cases hi0 : i = 0
        · exact absurd hi0 (by omega)
        · have hi00 : 1 ≤ i := by omega
          have hlen0 : (((wantOf xs i).length : Int) == 0) = false := by rw [beq_eq_false_iff_ne]; omega
          have hw100 : (wantOf xs i).length ≤ 100000 := by omega
          have HWL := Lib.hid hwl
          clear hwl hi0
          obtain ⟨zs', d', e4, e5, e6, e7, e8, e9⟩ := HR.out.es
          have hne : zs' ≠ [] := by
            rintro rfl
            obtain ⟨k, rfl⟩ : ∃ k, i = k + 1 := ⟨i - 1, by omega⟩
            rw [List.replicate_succ] at e7
            cases e7
          have hjt := join_trees u7 zs' _ _ d' e4 (by omega) _ (fun _ => True) e6 hne (fun _ _ _ => trivial) (fun _ _ => trivial)
          rw [e7, e8] at hjt
          have HJT := Lib.hid hjt
          have HSS := Lib.hid e9
          clear e4 e5 e6 e7 e8 e9 hne hjt
          have q1 := eqlNil
          have q2 := neqNil
          go_wp2_with fail
          refine HJT.out.mono ?_
          rintro e w5 ⟨u, ns, rfl, hb5, he5, hn5, _⟩
          obtain ⟨tu, xu, rfl⟩ := he5.iface
          have HR5 := Lib.hid (And.intro (HR.out.below.trans (hb5.mono hsz)) (And.intro he5.err (And.intro hn5 (And.intro (HR.out.err.below hb5) hb5))))
          clear hb5 he5 hn5
          go_wp2_with fail
          refine (stripe_any _ _ _ _ _ _ HR5.out.2.1 HR5.out.2.2.2.1).mono ?_
          rintro e w6 ⟨rfl, hb6⟩
          have HR6 := Lib.hid (And.intro (HR5.out.1.trans (hb6.mono (HR5.out.1.size))) (And.intro ((HR5.out.2.1.below hb6).mono hb6.size) (And.intro (HR5.out.2.2.2.1.below hb6) (HR5.out.2.2.2.2.trans (hb6.mono HR5.out.2.2.2.2.size)))))
          clear hb6
          generalize hsso : (zs'.map (·.2.2.2)).flatten = sso
          have HSO := Lib.hid hsso
          clear hsso
          go_wp2_with fail
          refine (nodes18 _ _ _ _ _ _ HR6.out.2.1 (by rw [HR5.out.2.2.1]; omega)).mono ?_
          rw [HR5.out.2.2.1]
          rintro e w7 ⟨un, rfl, ho7, hb7⟩
          obtain ⟨a9, c9, rfl, hnum9⟩ := nums_of ho7
          have HR7 := Lib.hid (And.intro (HR6.out.1.trans (hb7.mono HR6.out.1.size)) (And.intro ((HR6.out.2.1.below hb7).mono hb7.size) (And.intro (HR6.out.2.2.1.below hb7) (And.intro (HR6.out.2.2.2.trans (hb7.mono HR6.out.2.2.2.size)) hnum9))))
          clear hb7 hnum9 ho7
          go_wp2_with fail
          refine (same21 a9 a8 (wantOf xs i) (wantOf xs i) c9 c8 _ (by omega) HR7.out.2.2.2.2 (fun j y hy => by
            obtain ⟨g9, o9, q1, q2, q3⟩ := HNUM.out j y hy
            exact ⟨g9, o9, q1, Nat.lt_of_lt_of_le q2 HR7.out.2.2.2.1.size, by rw [HR7.out.2.2.2.1.cell (p := ⟨g9, o9 + j, none⟩) q2]; exact q3⟩)).mono ?_
          rintro e w8 ⟨he8, hb8⟩
          have hsm : sameB (wantOf xs i) (wantOf xs i) = true := decide_eq_true rfl
          rw [hsm] at he8
          subst he8
          have HR8 := Lib.hid (And.intro (HR7.out.1.trans (hb8.mono HR7.out.1.size)) (And.intro ((HR7.out.2.1.below hb8).mono hb8.size) (HR7.out.2.2.1.below hb8)))
          clear hb8 hsm
          go_wp2_with fail
          refine (code_any _ _ _ _ _ _ HR8.out.2.1 HR8.out.2.2).mono ?_
          rintro e w9 ⟨he9, hb9⟩
          rw [codeOf_rep i hi00] at he9
          subst he9
          have HR9 := Lib.hid (And.intro (HR8.out.1.trans (hb9.mono HR8.out.1.size)) ((HR8.out.2.1.below hb9).mono hb9.size))
          clear hb9
          go_wp2_with fail
          refine (cis_any _ _ _ _ _ _ 5 HR9.out.2).mono ?_
          rintro e w10 ⟨he10, hb10⟩
          rw [has5_rep i hi00] at he10
          subst he10
          have HR10 := Lib.hid (And.intro (HR9.out.1.trans (hb10.mono HR9.out.1.size)) ((HR9.out.2.below hb10).mono hb10.size))
          clear hb10
          go_wp2_with fail
          refine (cis_any _ _ _ _ _ _ 4 HR10.out.2).mono ?_
          rintro e w11 ⟨he11, hb11⟩
          rw [has4_rep i] at he11
          subst he11
          have HR11 := Lib.hid (HR10.out.1.trans (hb11.mono HR10.out.1.size))
          clear hb11
          cases sso with
          | nil =>
            have hs1 : stripeIs [] = false := rfl
            go_wp2_with fail
            go_ret
            exact ⟨rfl, HR11.out⟩
          | cons s0 sr =>
            have hs1 : stripeIs (s0 :: sr) = true := rfl
            have hs2 : stripeOf (s0 :: sr) = stripe := HSS.out s0 (by rw [HSO.out]; exact List.mem_cons_self)
            go_wp2_with fail
            go_ret
            exact ⟨rfl, HR11.out⟩
    · have HLT := Lib.hid hlt
      have hwl := want_len xs i hi1
      obtain ⟨a8, c8, rfl, hnum⟩ := nums_of HR.out.want
      have HNUM := Lib.hid hnum
      clear hnum
      by_cases hi0 : i = 0
      · subst hi0
        obtain ⟨zs', d', e4, e5, _⟩ := HR.out.es
        have hz0' : zs' = [] := List.eq_nil_of_length_eq_zero (by omega)
        subst hz0'
        clear e5
        have hw0 : wantOf xs 0 = [] := rfl
        rw [hw0]
        clear hwl hw0
        have q1 := eqlNilNil
        go_wp2_with fail
        refine (join_empty u7 _ _ e4).mono ?_
        rintro e w5 ⟨rfl, hb5⟩
        have HB5 := Lib.hid (HR.out.below.trans (hb5.mono hsz))
        clear hb5 e4
        go_wp2_with fail
        go_ret
        exact ⟨rfl, HB5.out⟩
      · have hi00 : 1 ≤ i := by omega
        have hlen0 : (((wantOf xs i).length : Int) == 0) = false := by rw [beq_eq_false_iff_ne]; omega
        have hw100 : (wantOf xs i).length ≤ 100000 := by omega
        have HWL := Lib.hid hwl
        clear hwl hi0
        obtain ⟨zs', d', e4, e5, e6, e7, e8, e9⟩ := HR.out.es
        have hne : zs' ≠ [] := by
          rintro rfl
          obtain ⟨k, rfl⟩ : ∃ k, i = k + 1 := ⟨i - 1, by omega⟩
          rw [List.replicate_succ] at e7
          cases e7
        have hjt := join_trees u7 zs' _ _ d' e4 (by omega) _ (fun _ => True) e6 hne (fun _ _ _ => trivial) (fun _ _ => trivial)
        rw [e7, e8] at hjt
        have HJT := Lib.hid hjt
        have HSS := Lib.hid e9
        clear e4 e5 e6 e7 e8 e9 hne hjt
        have q1 := eqlNil
        have q2 := neqNil
        go_wp2_with fail
        refine HJT.out.mono ?_
        rintro e w5 ⟨u, ns, rfl, hb5, he5, hn5, _⟩
        obtain ⟨tu, xu, rfl⟩ := he5.iface
        have HR5 := Lib.hid (And.intro (HR.out.below.trans (hb5.mono hsz)) (And.intro he5.err (And.intro hn5 (And.intro (HR.out.err.below hb5) hb5))))
        clear hb5 he5 hn5
        go_wp2_with fail
        refine (stripe_any _ _ _ _ _ _ HR5.out.2.1 HR5.out.2.2.2.1).mono ?_
        rintro e w6 ⟨rfl, hb6⟩
        have HR6 := Lib.hid (And.intro (HR5.out.1.trans (hb6.mono (HR5.out.1.size))) (And.intro ((HR5.out.2.1.below hb6).mono hb6.size) (And.intro (HR5.out.2.2.2.1.below hb6) (HR5.out.2.2.2.2.trans (hb6.mono HR5.out.2.2.2.2.size)))))
        clear hb6
        generalize hsso : (zs'.map (·.2.2.2)).flatten = sso
        have HSO := Lib.hid hsso
        clear hsso
        go_wp2_with fail
        refine (nodes18 _ _ _ _ _ _ HR6.out.2.1 (by rw [HR5.out.2.2.1]; omega)).mono ?_
        rw [HR5.out.2.2.1]
        rintro e w7 ⟨un, rfl, ho7, hb7⟩
        obtain ⟨a9, c9, rfl, hnum9⟩ := nums_of ho7
        have HR7 := Lib.hid (And.intro (HR6.out.1.trans (hb7.mono HR6.out.1.size)) (And.intro ((HR6.out.2.1.below hb7).mono hb7.size) (And.intro (HR6.out.2.2.1.below hb7) (And.intro (HR6.out.2.2.2.trans (hb7.mono HR6.out.2.2.2.size)) hnum9))))
        clear hb7 hnum9 ho7
        go_wp2_with fail
        refine (same21 a9 a8 (wantOf xs i) (wantOf xs i) c9 c8 _ (by omega) HR7.out.2.2.2.2 (fun j y hy => by
          obtain ⟨g9, o9, q1, q2, q3⟩ := HNUM.out j y hy
          exact ⟨g9, o9, q1, Nat.lt_of_lt_of_le q2 HR7.out.2.2.2.1.size, by rw [HR7.out.2.2.2.1.cell (p := ⟨g9, o9 + j, none⟩) q2]; exact q3⟩)).mono ?_
        rintro e w8 ⟨he8, hb8⟩
        have hsm : sameB (wantOf xs i) (wantOf xs i) = true := decide_eq_true rfl
        rw [hsm] at he8
        subst he8
        have HR8 := Lib.hid (And.intro (HR7.out.1.trans (hb8.mono HR7.out.1.size)) (And.intro ((HR7.out.2.1.below hb8).mono hb8.size) (HR7.out.2.2.1.below hb8)))
        clear hb8 hsm
        go_wp2_with fail
        refine (code_any _ _ _ _ _ _ HR8.out.2.1 HR8.out.2.2).mono ?_
        rintro e w9 ⟨he9, hb9⟩
        rw [codeOf_rep i hi00] at he9
        subst he9
        have HR9 := Lib.hid (And.intro (HR8.out.1.trans (hb9.mono HR8.out.1.size)) ((HR8.out.2.1.below hb9).mono hb9.size))
        clear hb9
        go_wp2_with fail
        refine (cis_any _ _ _ _ _ _ 5 HR9.out.2).mono ?_
        rintro e w10 ⟨he10, hb10⟩
        rw [has5_rep i hi00] at he10
        subst he10
        have HR10 := Lib.hid (And.intro (HR9.out.1.trans (hb10.mono HR9.out.1.size)) ((HR9.out.2.below hb10).mono hb10.size))
        clear hb10
        go_wp2_with fail
        refine (cis_any _ _ _ _ _ _ 4 HR10.out.2).mono ?_
        rintro e w11 ⟨he11, hb11⟩
        rw [has4_rep i] at he11
        subst he11
        have HR11 := Lib.hid (HR10.out.1.trans (hb11.mono HR10.out.1.size))
        clear hb11
        cases sso with
        | nil =>
          have hs1 : stripeIs [] = false := rfl
          go_wp2_with fail
          go_ret
          exact ⟨rfl, HR11.out⟩
        | cons s0 sr =>
          have hs1 : stripeIs (s0 :: sr) = true := rfl
          have hs2 : stripeOf (s0 :: sr) = stripe := HSS.out s0 (by rw [HSO.out]; exact List.mem_cons_self)
          go_wp2_with fail
          go_ret
          exact ⟨rfl, HR11.out⟩

end Go.Proofs.YtbifpjdkljibeaaDoor
