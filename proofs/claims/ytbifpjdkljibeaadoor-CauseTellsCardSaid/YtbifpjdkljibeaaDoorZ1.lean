import Derived.Test.YtbifpjdkljibeaaDoorZ
namespace Go.Proofs.YtbifpjdkljibeaaDoor
open Go.RowKit Go.Extern.Stop Go.Stop Go.Extern Go.Extern.Rtype

theorem anyN_mem (F : Value → Bool) (ns : List Nd) (v : Value) (h : ∃ o, (v, o) ∈ ns) (hF : F v = true) : anyN F ns = true := by
  obtain ⟨o, h⟩ := h
  unfold anyN
  exact List.any_eq_true.2 ⟨(v, o), h, hF⟩

theorem has_kid (zs : List Kid) (j : Nat) (z : Kid) (x : Int) (hz : zs[j]? = some z) (hc : z.2.1 = [codeAt x]) : hasCode (1 + x % 12) (zs.map (·.2.1)).flatten = true := by
  unfold hasCode
  rw [List.contains_iff_mem]
  exact List.mem_flatten.2 ⟨_, List.mem_map.2 ⟨z, List.mem_of_getElem? hz, rfl⟩, by rw [hc]; exact List.mem_singleton.2 rfl⟩

theorem code_kids (zs : List Kid) (z : Kid) (x : Int) (hz : zs[0]? = some z) (hc : z.2.1 = [codeAt x]) : codeOf (zs.map (·.2.1)).flatten = 1 + x % 12 := by
  match zs, hz with
  | y :: r, hz =>
    cases hz
    simp [hc, codeOf, codeAt]

theorem is_found (d : Nat) (v : Value) (cs : List Int) (ns : List Nd) (ss : List Int) (w : World) (herr : Err w w.heap.size d v cs ns ss) (u : Value) (x : Int) (hu : u = .iface 26 (.int .i64 x) ∨ ∃ b, u = .iface 32 (.pointer (some ⟨b, 0, none⟩))) (hm : ∃ o, (u, o) ∈ ns) :
    Calls Tryd.prog 22 #[v, u] w fun e w' => e = .returned (.bool true) ∧ Below w.heap.size w w' := by
  rcases hu with rfl | ⟨b, rfl⟩
  · refine (is22 d v cs ns ss w w.heap.size (isCode x) 26 _ target26 herr (Nat.le_refl _) (eqAs_code x herr)).mono ?_
    rintro e w' ⟨he, hb⟩
    rw [anyN_mem _ _ _ hm (by simp [isCode])] at he
    exact ⟨he, hb⟩
  · obtain ⟨o, ho⟩ := hm
    rcases herr.parts d _ ho with ⟨n, hn⟩ | ⟨t, b', c, ty, hne, hv, hb', hc, _⟩
    · cases hn
    · cases hv
      refine (is22 d v cs ns ss w w.heap.size (isPtr 32 b) 32 _ target32 herr (Nat.le_refl _) (eqAs_ptr 32 b ptrT32 (by decide) hb' c ty hc herr)).mono ?_
      rintro e w' ⟨he, hb⟩
      rw [anyN_mem _ _ _ ⟨o, ho⟩ (by simp [isPtr])] at he
      exact ⟨he, hb⟩

set_option maxRecDepth 100000 in
set_option maxHeartbeats 2000000 in
theorem causeFirst7 (a1 a2 : Option Addr) (xs : List Int) (bs : List Bool) (c1 c2 : Nat) (w : World) (hE : ErrType w) (hn1 : Nums w a1 xs) (hn2 : Bools w a2 bs) :
    Calls Tryd.prog 7 #[.slice a1 xs.length c1, .slice a2 bs.length c2] w fun e w' => e = .returned (.bool true) ∧ Below w.heap.size w w' := by
  have h0 : 0 < w.heap.size := cell?_lt hE
  have HN := Lib.hid (And.intro hn1 (And.intro hn2 hE))
  clear hn1 hn2 hE
  obtain ⟨i0, hi, hz0, hz1, hz2⟩ := info_parts info24
  go_enter Tryd.func7, Tryd.ntmps7
  go_wp2_with fail
  refine (known8 _ HN.out.2.2).mono ?_
  rintro e w1 ⟨rfl, hb1⟩
  have HB1 := Lib.hid hb1
  clear hb1
  go_wp2_with fail
  go_loopg [5, 6] 15 (fun q s5 s6 wr => ∃ i : Nat, s6 = .int .i64 i ∧ i ≤ xs.length ∧ i ≤ 15 ∧ q = 15 - i ∧ Hid (∃ zs, Es w.heap.size w xs i s5 zs wr))
  case atStart =>
    exact ⟨0, rfl, Nat.zero_le _, by omega, rfl, Lib.hid ⟨[], HN.out.2.2.below HB1.out, HB1.out, rfl, World.ownsRow_nil _ _ _ _, fun j z hz => by simp at hz, fun j z hz => by simp at hz⟩⟩
  case round =>
    obtain ⟨i, rfl, hi1, hi2, rfl, HR⟩ := hrel
    by_cases hlt : i < xs.length
    · by_cases h20 : i < 15
      · have hz : xs[i]? = some xs[i] := List.getElem?_eq_getElem hlt
        generalize xs[i] = x at hz
        obtain ⟨g, o, rfl, hg, hc⟩ := HN.out.1 i x hz
        obtain ⟨zs, hes⟩ := HR.out
        have k1 : wr.cell? ⟨g, o + i, none⟩ = some (.int .i64 x) := by rw [hes.below.cell (p := ⟨g, o + i, none⟩) hg]; exact hc
        have hzl : zs.length ≤ 15 := by have := hes.len; omega
        have HZ := Lib.hid hz
        have HES := Lib.hid hes
        have hsz := hes.size (Nat.le_refl _)
        have hm1 := Int.emod_nonneg x (show (12 : Int) ≠ 0 by omega)
        have hm2 := Int.emod_lt_of_pos x (show (0 : Int) < 12 by omega)
        clear hz hc hes HR
        by_cases hbl : i < bs.length
        · have hbz : bs[i]? = some bs[i] := List.getElem?_eq_getElem hbl
          generalize bs[i] = bb at hbz
          obtain ⟨g2, o2, rfl, hg2, hc2⟩ := HN.out.2.1 i bb hbz
          have k2 : wr.cell? ⟨g2, o2 + i, none⟩ = some (.bool bb) := by rw [HES.out.below.cell (p := ⟨g2, o2 + i, none⟩) hg2]; exact hc2
          clear hbz hc2
          cases bb
          case false =>
            go_wp2_with (first | (go_at_call 20; refine (pick_any x 12 (by omega) (by omega) _).mono ?_; rintro e w' ⟨rfl, rfl⟩) | (at_builtin; refine append_mine _ rfl (.tmp 42) (.tmp 44) 29 rfl w.heap.size 24 i0 .nilIface 1 16 Tryd.underlying29 hi hz0 hz1 hz2 rfl (by decide) _ zs.length _ rfl (HES.out.own.alloc _) ⟨wr.heap.size, 0, none⟩ 1 1 [.iface 26 (.int .i64 (1 + x % 12))] rfl rfl ?c1 ?c2 ?c3 ?c4 ?c5 ?c6 ?_))
            case c1 =>
              intro j u hj
              cases j with
              | zero => cases hj; simp [Addr.add, go_sem]
              | succ j => simp at hj
            case c2 => intro u hu; rw [List.mem_singleton.1 hu]; rfl
            case c3 => unfold maxLen; omega
            case c4 => omega
            case c5 => simp; omega
            case c6 => omega
            intro v7 w4 ho4 hg4 hm4
            have hes4 := (HES.out.more hsz ((Below.refl _ wr).alloc (Nat.le_refl _) (.cells #[.iface 26 (.int .i64 (1 + x % 12))] 24))).put (.iface 26 (.int .i64 (1 + x % 12)), [codeAt x], [(.iface 26 (.int .i64 (1 + x % 12)), none)], []) (by simp; omega) h0 HZ.out ⟨rfl, .inl rfl, none, List.mem_singleton.2 rfl⟩ (.inl ⟨1 + x % 12, rfl, rfl, rfl, rfl⟩) ho4 hg4 (by simpa only [World.size_alloc] using hm4)
            have HR4 := Lib.hid hes4
            clear ho4 hg4 hm4 hes4
            go_wp2_with fail
            go_roundg (15 - (i + 1))
            case measure => omega
            case rel => exact ⟨i + 1, by go_num, by omega, by omega, rfl, Lib.hid ⟨_, HR4.out⟩⟩
          case true =>
            go_wp2_with (go_at_call 20; refine (pick_any x 12 (by omega) (by omega) _).mono ?_; rintro e w' ⟨rfl, rfl⟩)
            refine (atNode_err 1 i _ _ _ _ _ (errno_err _ _ (1 + x % 12))).mono ?_
            rintro e w3 ⟨b, rfl, hb3, hw3, hh3, _⟩
            have hes3 := HES.out.more hsz hw3
            have hne : u5.ownBlock ≠ some b := by
              intro e
              have := (HES.out.own.lt b e).2
              omega
            have hsz3 := hes3.size (Nat.le_refl _)
            have H3 := Lib.hid (And.intro hes3 (And.intro hh3 hne))
            clear hes3 hb3 hw3 hh3 hne
            go_wp2_with (at_builtin; refine append_mine _ rfl (.tmp 42) (.tmp 44) 29 rfl w.heap.size 24 i0 .nilIface 1 16 Tryd.underlying29 hi hz0 hz1 hz2 rfl (by decide) _ zs.length _ rfl (H3.out.1.own.alloc _) ⟨w3.heap.size, 0, none⟩ 1 1 [.iface 32 (.pointer (some ⟨b, 0, none⟩))] rfl rfl ?d1 ?d2 ?d3 ?d4 ?d5 ?d6 ?_)
            case d1 =>
              intro j u hj
              cases j with
              | zero => cases hj; simp [Addr.add, go_sem]
              | succ j => simp at hj
            case d2 => intro u hu; rw [List.mem_singleton.1 hu]; rfl
            case d3 => unfold maxLen; omega
            case d4 => omega
            case d5 => simp; omega
            case d6 => omega
            intro v7 w4 ho4 hg4 hm4
            have hes4 := (H3.out.1.more hsz3 ((Below.refl _ w3).alloc (Nat.le_refl _) (.cells #[.iface 32 (.pointer (some ⟨b, 0, none⟩))] 24))).put (.iface 32 (.pointer (some ⟨b, 0, none⟩)), [codeAt x], [(.iface 32 (.pointer (some ⟨b, 0, none⟩)), some (i : Int)), (.iface 26 (.int .i64 (1 + x % 12)), none)], []) (by simp; omega) h0 HZ.out ⟨rfl, .inr ⟨b, rfl⟩, _, List.mem_cons_self⟩
              (.inr (.inr (.inl ⟨b, (i : Int), _, [(.iface 26 (.int .i64 (1 + x % 12)), none)], rfl, H3.out.2.2, by rw [Below.heap_alloc _ _ _ (heap_lt H3.out.2.1)]; exact H3.out.2.1, .inl ⟨1 + x % 12, rfl, rfl, rfl, rfl⟩, rfl⟩))) ho4 hg4 (by simpa only [World.size_alloc] using hm4)
            have HR4 := Lib.hid hes4
            clear ho4 hg4 hm4 hes4
            go_wp2_with fail
            go_roundg (15 - (i + 1))
            case measure => omega
            case rel => exact ⟨i + 1, by go_num, by omega, by omega, rfl, Lib.hid ⟨_, HR4.out⟩⟩
        · skip
          go_wp2_with (first | (go_at_call 20; refine (pick_any x 12 (by omega) (by omega) _).mono ?_; rintro e w' ⟨rfl, rfl⟩) | (at_builtin; refine append_mine _ rfl (.tmp 42) (.tmp 44) 29 rfl w.heap.size 24 i0 .nilIface 1 16 Tryd.underlying29 hi hz0 hz1 hz2 rfl (by decide) _ zs.length _ rfl (HES.out.own.alloc _) ⟨wr.heap.size, 0, none⟩ 1 1 [.iface 26 (.int .i64 (1 + x % 12))] rfl rfl ?c1 ?c2 ?c3 ?c4 ?c5 ?c6 ?_))
          case c1 =>
            intro j u hj
            cases j with
            | zero => cases hj; simp [Addr.add, go_sem]
            | succ j => simp at hj
          case c2 => intro u hu; rw [List.mem_singleton.1 hu]; rfl
          case c3 => unfold maxLen; omega
          case c4 => omega
          case c5 => simp; omega
          case c6 => omega
          intro v7 w4 ho4 hg4 hm4
          have hes4 := (HES.out.more hsz ((Below.refl _ wr).alloc (Nat.le_refl _) (.cells #[.iface 26 (.int .i64 (1 + x % 12))] 24))).put (.iface 26 (.int .i64 (1 + x % 12)), [codeAt x], [(.iface 26 (.int .i64 (1 + x % 12)), none)], []) (by simp; omega) h0 HZ.out ⟨rfl, .inl rfl, none, List.mem_singleton.2 rfl⟩ (.inl ⟨1 + x % 12, rfl, rfl, rfl, rfl⟩) ho4 hg4 (by simpa only [World.size_alloc] using hm4)
          have HR4 := Lib.hid hes4
          clear ho4 hg4 hm4 hes4
          go_wp2_with fail
          go_roundg (15 - (i + 1))
          case measure => omega
          case rel => exact ⟨i + 1, by go_num, by omega, by omega, rfl, Lib.hid ⟨_, HR4.out⟩⟩
      · have HLT := Lib.hid hlt
        obtain ⟨wo, rfl⟩ : ∃ wo : World, wo = wr := ⟨wr, rfl⟩
        obtain ⟨zs, hes⟩ := HR.out
        have hzi1 : zs.length ≤ i := Nat.le_of_eq hes.len
        have hzi2 : i ≤ zs.length := Nat.le_of_eq hes.len.symm
        have hzl : zs.length ≤ 15 := by omega
        obtain ⟨hlm, a5, c5, rfl, hh5⟩ := holds_of hes.own
        clear hlm
        rw [List.length_map]
        obtain ⟨n, hn⟩ : ∃ n, zs.length = n := ⟨_, rfl⟩
        rw [hn]
        have HLN := Lib.hid hn
        have hzn1 : zs.length ≤ n := Nat.le_of_eq hn
        have hzn2 : n ≤ zs.length := Nat.le_of_eq hn.symm
        clear hn
        by_cases hi0 : i = 0
        · exact absurd hi0 (by omega)
        · have hne : zs ≠ [] := by rintro rfl; simp at hzi2; omega
          have hjt := join_trees _ zs _ _ 2 hes.own (by omega) _ (fun _ => True) hes.tree hne (fun _ _ _ => trivial) (fun _ _ => trivial)
          rw [List.length_map, HLN.out] at hjt
          have HJT := Lib.hid hjt
          have HES := Lib.hid (And.intro hes hh5)
          have hsz := hes.size (Nat.le_refl _)
          clear hjt hes hh5 hne HR
          go_wp2_with fail
          refine HJT.out.mono ?_
          rintro e w5 ⟨u, ns, rfl, hb5, he5, _, hmem5⟩
          obtain ⟨tu, xu, rfl⟩ := he5.iface
          have H5 := Lib.hid (And.intro (HES.out.1.below.trans (hb5.mono hsz)) (And.intro he5.err (And.intro hmem5 (And.intro (HES.out.1.err.below hb5) hb5))))
          clear hb5 he5 hmem5
          go_wp2_with fail
          go_loopg [50] n (fun q s50 wr => ∃ j : Nat, s50 = .int .i64 j ∧ j ≤ n ∧ q = n - j ∧ Below w5.heap.size w5 wr)
          case atStart => exact ⟨0, rfl, Nat.zero_le _, rfl, Below.refl _ _⟩
          case round =>
            obtain ⟨j, rfl, hj1, rfl, hbr⟩ := hrel
            have hzm : n ≤ 9223372036854775807 := by omega
            by_cases hjl : j < n
            · have hz : zs[j]? = some zs[j] := List.getElem?_eq_getElem (by omega)
              generalize zs[j] = z at hz
              obtain ⟨x, hx2, hk1, hk2, o', hk3⟩ := HES.out.1.each j z hz
              obtain ⟨g, o, rfl, hg, hc⟩ := HES.out.2 j z.1 (by rw [List.getElem?_map, hz]; rfl)
              obtain ⟨g1, o1, rfl, hg1, hc1⟩ := HN.out.1 j x hx2
              have hbo : Below wo.heap.size wo wr := H5.out.2.2.2.2.trans (hbr.mono H5.out.2.2.2.2.size)
              have hbw : Below w.heap.size w wr := H5.out.1.trans (hbr.mono H5.out.1.size)
              have hjx : j < xs.length := (List.getElem?_eq_some_iff.1 hx2).1
              have k1 : wr.cell? ⟨g, o + j, none⟩ = some z.1 := by rw [hbo.cell (p := ⟨g, o + j, none⟩) hg]; exact hc
              have k2 : wr.cell? ⟨g1, o1 + j, none⟩ = some (.int .i64 x) := by rw [hbw.cell (p := ⟨g1, o1 + j, none⟩) hg1]; exact hc1
              have HZ := Lib.hid (And.intro hz (And.intro hk1 (And.intro hk2 (And.intro hk3 hbr))))
              have herr := (H5.out.2.1.below hbr).mono hbr.size
              have HERR := Lib.hid herr
              have hm1 := Int.emod_nonneg x (show (12 : Int) ≠ 0 by omega)
              have hm2 := Int.emod_lt_of_pos x (show (0 : Int) < 12 by omega)
              clear hz hx2 hk1 hk2 hk3 hc hc1 hbo hbw hbr herr
              go_wp2_with fail
              refine (is_found _ _ _ _ _ _ HERR.out z.1 (codeAt x) HZ.out.2.2.1 ⟨o', H5.out.2.2.1 _ (mem_flat (·.2.2.1) zs j z HZ.out.1 _ HZ.out.2.2.2.1)⟩).mono ?_
              rintro e w6 ⟨rfl, hb6⟩
              have k3 : w6.cell? ⟨g1, o1 + j, none⟩ = some (.int .i64 x) := by rw [hb6.cell (p := ⟨g1, o1 + j, none⟩) (cell?_lt k2)]; exact k2
              have H6 := Lib.hid (And.intro hb6 ((HERR.out.below hb6).mono hb6.size))
              clear hb6 k1 k2
              go_wp2_with (go_at_call 20; refine (pick_any x 12 (by omega) (by omega) _).mono ?_; rintro e w' ⟨rfl, rfl⟩)
              refine (cis_any _ _ _ _ _ _ (1 + x % 12) H6.out.2).mono ?_
              rintro e w7 ⟨he7, hb7⟩
              rw [has_kid zs j z x HZ.out.1 HZ.out.2.1] at he7
              subst he7
              have H7 := Lib.hid (HZ.out.2.2.2.2.trans ((H6.out.1.trans (hb7.mono H6.out.1.size)).mono HZ.out.2.2.2.2.size))
              clear hb7
              go_wp2_with fail
              go_roundg (n - (j + 1))
              case measure => omega
              case rel => exact ⟨j + 1, by go_num, by omega, rfl, H7.out⟩
            · have HBR := Lib.hid hbr
              clear hbr
              have hpos : 0 < zs.length := by omega
              have hz : zs[0]? = some zs[0] := List.getElem?_eq_getElem hpos
              generalize zs[0] = z0 at hz
              obtain ⟨x0, hx2, hk1, _⟩ := HES.out.1.each 0 z0 hz
              obtain ⟨g1, o1, rfl, hg1, hc1⟩ := HN.out.1 0 x0 hx2
              have k0 : wr.cell? ⟨g1, o1, none⟩ = some (.int .i64 x0) := by
                have := (H5.out.1.trans (HBR.out.mono H5.out.1.size)).cell (p := ⟨g1, o1 + 0, none⟩) hg1
                exact this.trans hc1
              have hx0 : 0 < xs.length := (List.getElem?_eq_some_iff.1 hx2).1
              have hm1 := Int.emod_nonneg x0 (show (12 : Int) ≠ 0 by omega)
              have hm2 := Int.emod_lt_of_pos x0 (show (0 : Int) < 12 by omega)
              have HCO := Lib.hid (code_kids zs z0 x0 hz hk1)
              have HQ := Lib.hid (And.intro ((H5.out.2.1.below HBR.out).mono HBR.out.size) (H5.out.2.2.2.1.below HBR.out))
              have hbS : Below wr.heap.size wr wr := Below.refl _ _
              have hwr : IntKind.i64.wrap (1 + x0 % 12) = 1 + x0 % 12 := IntWalk.i64_in _ (by omega)
              have hl0 : ((n : Int) == 0) = false := by rw [beq_eq_false_iff_ne]; omega
              have hl1 : decide ((0 : Int) < (n : Int)) = true := by simp; omega
              have hl2 : 0 < n := by omega
              clear hz hx2 hk1 hc1 hg1 hpos hzn1 hzn2
              go_wp2_with fail
              first
                | (go_region_held (fun w' => Below wr.heap.size wr w' ∧ w'.cell? ⟨g1, o1, none⟩ = some (.int .i64 x0))
                    (first | exact ⟨(Below.refl _ _).drew, k0⟩ | exact ⟨(Below.refl _ _).drew.trans hb9, (hb9.cell (p := ⟨g1, o1, none⟩) (cell?_lt k0)).trans k0⟩ | go_keep)
                    ((first | (go_at_call 20; refine (pick_any x0 12 (by omega) (by omega) _).mono ?_; rintro e w' ⟨rfl, rfl⟩) | (go_at_call 14; refine (code_any _ _ _ _ _ _ (HQ.out.1.below (Below.refl _ _).drew) (HQ.out.2.below (Below.refl _ _).drew)).mono ?_; rintro e w9 ⟨he9, hb9⟩; rw [HCO.out] at he9; subst he9))))
                | fail
              go_wp2
              go_ret
              exact ⟨rfl, (H5.out.1.trans (HBR.out.mono H5.out.1.size)).trans (((Below.refl _ _).drew.trans hb9).mono (Nat.le_trans H5.out.1.size HBR.out.size))⟩
    · have HLT := Lib.hid hlt
      obtain ⟨wo, rfl⟩ : ∃ wo : World, wo = wr := ⟨wr, rfl⟩
      obtain ⟨zs, hes⟩ := HR.out
      have hzi1 : zs.length ≤ i := Nat.le_of_eq hes.len
      have hzi2 : i ≤ zs.length := Nat.le_of_eq hes.len.symm
      have hzl : zs.length ≤ 15 := by omega
      obtain ⟨hlm, a5, c5, rfl, hh5⟩ := holds_of hes.own
      clear hlm
      rw [List.length_map]
      obtain ⟨n, hn⟩ : ∃ n, zs.length = n := ⟨_, rfl⟩
      rw [hn]
      have HLN := Lib.hid hn
      have hzn1 : zs.length ≤ n := Nat.le_of_eq hn
      have hzn2 : n ≤ zs.length := Nat.le_of_eq hn.symm
      clear hn
      by_cases hi0 : i = 0
      · have hz0 : zs = [] := List.eq_nil_of_length_eq_zero (by omega)
        subst hz0
        subst hi0
        obtain rfl : n = 0 := by simpa using hzn2
        have hj := join_empty (.slice a5 0 c5) wo _ hes.own
        have HB := Lib.hid (And.intro hes.below hj)
        have hsz := hes.size (Nat.le_refl _)
        clear hes hh5 hzi1 hzi2 hzl HR hzn1 hzn2 hj
        have q1 := eqlNilNil
        go_wp2_with fail
        refine HB.out.2.mono ?_
        rintro e w5 ⟨rfl, hb5⟩
        have HB5 := Lib.hid (HB.out.1.trans (hb5.mono hsz))
        clear hb5
        go_wp2_with fail
        go_loopg [50] 1 (fun q s50 wr => s50 = .int .i64 0 ∧ q = 1 ∧ wr = w5)
        case atStart => exact ⟨rfl, rfl, rfl⟩
        case round =>
          obtain ⟨rfl, rfl, rfl⟩ := hrel
          go_wp2_with fail
          go_quiet (fail)
          go_wp2
          go_ret
          exact ⟨rfl, HB5.out.trans ((below_drewN _ _).mono HB5.out.size)⟩
      · have hne : zs ≠ [] := by rintro rfl; simp at hzi2; omega
        have hjt := join_trees _ zs _ _ 2 hes.own (by omega) _ (fun _ => True) hes.tree hne (fun _ _ _ => trivial) (fun _ _ => trivial)
        rw [List.length_map, HLN.out] at hjt
        have HJT := Lib.hid hjt
        have HES := Lib.hid (And.intro hes hh5)
        have hsz := hes.size (Nat.le_refl _)
        clear hjt hes hh5 hne HR
        go_wp2_with fail
        refine HJT.out.mono ?_
        rintro e w5 ⟨u, ns, rfl, hb5, he5, _, hmem5⟩
        obtain ⟨tu, xu, rfl⟩ := he5.iface
        have H5 := Lib.hid (And.intro (HES.out.1.below.trans (hb5.mono hsz)) (And.intro he5.err (And.intro hmem5 (And.intro (HES.out.1.err.below hb5) hb5))))
        clear hb5 he5 hmem5
        go_wp2_with fail
        go_loopg [50] n (fun q s50 wr => ∃ j : Nat, s50 = .int .i64 j ∧ j ≤ n ∧ q = n - j ∧ Below w5.heap.size w5 wr)
        case atStart => exact ⟨0, rfl, Nat.zero_le _, rfl, Below.refl _ _⟩
        case round =>
          obtain ⟨j, rfl, hj1, rfl, hbr⟩ := hrel
          have hzm : n ≤ 9223372036854775807 := by omega
          by_cases hjl : j < n
          · have hz : zs[j]? = some zs[j] := List.getElem?_eq_getElem (by omega)
            generalize zs[j] = z at hz
            obtain ⟨x, hx2, hk1, hk2, o', hk3⟩ := HES.out.1.each j z hz
            obtain ⟨g, o, rfl, hg, hc⟩ := HES.out.2 j z.1 (by rw [List.getElem?_map, hz]; rfl)
            obtain ⟨g1, o1, rfl, hg1, hc1⟩ := HN.out.1 j x hx2
            have hbo : Below wo.heap.size wo wr := H5.out.2.2.2.2.trans (hbr.mono H5.out.2.2.2.2.size)
            have hbw : Below w.heap.size w wr := H5.out.1.trans (hbr.mono H5.out.1.size)
            have hjx : j < xs.length := (List.getElem?_eq_some_iff.1 hx2).1
            have k1 : wr.cell? ⟨g, o + j, none⟩ = some z.1 := by rw [hbo.cell (p := ⟨g, o + j, none⟩) hg]; exact hc
            have k2 : wr.cell? ⟨g1, o1 + j, none⟩ = some (.int .i64 x) := by rw [hbw.cell (p := ⟨g1, o1 + j, none⟩) hg1]; exact hc1
            have HZ := Lib.hid (And.intro hz (And.intro hk1 (And.intro hk2 (And.intro hk3 hbr))))
            have herr := (H5.out.2.1.below hbr).mono hbr.size
            have HERR := Lib.hid herr
            have hm1 := Int.emod_nonneg x (show (12 : Int) ≠ 0 by omega)
            have hm2 := Int.emod_lt_of_pos x (show (0 : Int) < 12 by omega)
            clear hz hx2 hk1 hk2 hk3 hc hc1 hbo hbw hbr herr
            go_wp2_with fail
            refine (is_found _ _ _ _ _ _ HERR.out z.1 (codeAt x) HZ.out.2.2.1 ⟨o', H5.out.2.2.1 _ (mem_flat (·.2.2.1) zs j z HZ.out.1 _ HZ.out.2.2.2.1)⟩).mono ?_
            rintro e w6 ⟨rfl, hb6⟩
            have k3 : w6.cell? ⟨g1, o1 + j, none⟩ = some (.int .i64 x) := by rw [hb6.cell (p := ⟨g1, o1 + j, none⟩) (cell?_lt k2)]; exact k2
            have H6 := Lib.hid (And.intro hb6 ((HERR.out.below hb6).mono hb6.size))
            clear hb6 k1 k2
            go_wp2_with (go_at_call 20; refine (pick_any x 12 (by omega) (by omega) _).mono ?_; rintro e w' ⟨rfl, rfl⟩)
            refine (cis_any _ _ _ _ _ _ (1 + x % 12) H6.out.2).mono ?_
            rintro e w7 ⟨he7, hb7⟩
            rw [has_kid zs j z x HZ.out.1 HZ.out.2.1] at he7
            subst he7
            have H7 := Lib.hid (HZ.out.2.2.2.2.trans ((H6.out.1.trans (hb7.mono H6.out.1.size)).mono HZ.out.2.2.2.2.size))
            clear hb7
            go_wp2_with fail
            go_roundg (n - (j + 1))
            case measure => omega
            case rel => exact ⟨j + 1, by go_num, by omega, rfl, H7.out⟩
          · have HBR := Lib.hid hbr
            clear hbr
            have hpos : 0 < zs.length := by omega
            have hz : zs[0]? = some zs[0] := List.getElem?_eq_getElem hpos
            generalize zs[0] = z0 at hz
            obtain ⟨x0, hx2, hk1, _⟩ := HES.out.1.each 0 z0 hz
            obtain ⟨g1, o1, rfl, hg1, hc1⟩ := HN.out.1 0 x0 hx2
            have k0 : wr.cell? ⟨g1, o1, none⟩ = some (.int .i64 x0) := by
              have := (H5.out.1.trans (HBR.out.mono H5.out.1.size)).cell (p := ⟨g1, o1 + 0, none⟩) hg1
              exact this.trans hc1
            have hx0 : 0 < xs.length := (List.getElem?_eq_some_iff.1 hx2).1
            have hm1 := Int.emod_nonneg x0 (show (12 : Int) ≠ 0 by omega)
            have hm2 := Int.emod_lt_of_pos x0 (show (0 : Int) < 12 by omega)
            have HCO := Lib.hid (code_kids zs z0 x0 hz hk1)
            have HQ := Lib.hid (And.intro ((H5.out.2.1.below HBR.out).mono HBR.out.size) (H5.out.2.2.2.1.below HBR.out))
            have hbS : Below wr.heap.size wr wr := Below.refl _ _
            have hwr : IntKind.i64.wrap (1 + x0 % 12) = 1 + x0 % 12 := IntWalk.i64_in _ (by omega)
            have hl0 : ((n : Int) == 0) = false := by rw [beq_eq_false_iff_ne]; omega
            have hl1 : decide ((0 : Int) < (n : Int)) = true := by simp; omega
            have hl2 : 0 < n := by omega
            clear hz hx2 hk1 hc1 hg1 hpos hzn1 hzn2
            go_wp2_with fail
            first
              | (go_region_held (fun w' => Below wr.heap.size wr w' ∧ w'.cell? ⟨g1, o1, none⟩ = some (.int .i64 x0))
                  (first | exact ⟨(Below.refl _ _).drew, k0⟩ | exact ⟨(Below.refl _ _).drew.trans hb9, (hb9.cell (p := ⟨g1, o1, none⟩) (cell?_lt k0)).trans k0⟩ | go_keep)
                  ((first | (go_at_call 20; refine (pick_any x0 12 (by omega) (by omega) _).mono ?_; rintro e w' ⟨rfl, rfl⟩) | (go_at_call 14; refine (code_any _ _ _ _ _ _ (HQ.out.1.below (Below.refl _ _).drew) (HQ.out.2.below (Below.refl _ _).drew)).mono ?_; rintro e w9 ⟨he9, hb9⟩; rw [HCO.out] at he9; subst he9))))
              | fail
            go_wp2
            go_ret
            exact ⟨rfl, (H5.out.1.trans (HBR.out.mono H5.out.1.size)).trans (((Below.refl _ _).drew.trans hb9).mono (Nat.le_trans H5.out.1.size HBR.out.size))⟩

end Go.Proofs.YtbifpjdkljibeaaDoor
