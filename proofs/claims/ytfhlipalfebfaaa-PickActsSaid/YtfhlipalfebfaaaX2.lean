import Derived.Test.YtfhlipalfebfaaaX4
import Derived.Test.YtfhlipalfebfaaaX5
import Derived.Test.YtfhlipalfebfaaaX6
namespace Go.Proofs.Ytfhlipalfebfaaa
open Go.RowKit Go.Sort

set_option maxHeartbeats 8000000 in
set_option maxRecDepth 100000 in
theorem pickActs4 (a0 : Option Addr) (xs : List (Int × Int × Int)) (c0 : Nat) (wide : Bool) (w : World) (hn : ActsIn w a0 xs) (hx : ∀ x ∈ xs, I64 x.1 ∧ I64 x.2.1 ∧ I64 x.2.2) :
    Calls Try.prog 4 #[.slice a0 xs.length c0, .bool wide] w fun e w' => e = .returned (.bool true) ∧ Below w.heap.size w w' := by
  have HN := Lib.hid hn
  have HX := Lib.hid hx
  clear hn hx
  have q := eqlItem
  obtain ⟨n, hn⟩ : ∃ n, min xs.length 80 = n := ⟨_, rfl⟩
  go_enter Try.func4, Try.ntmps4
  go_wp2_with fail
  refine (new8 w).mono ?_
  rintro e w1 ⟨rfl, h1, b1⟩
  have H1 : Hid (St w.heap.size w w1 w.heap.size [w.heap.size] []) := Lib.hid ⟨h1, by simp, b1, Nat.le_refl _⟩
  clear h1 b1
  go_wp2_with fail
  refine (known9 w1).mono ?_
  rintro e w2 ⟨rfl, b2⟩
  have H2 := Lib.hid (H1.out.of b2)
  clear b2 H1
  revert H2
  generalize hha : w.heap.size = ha
  generalize hF : [ha] = F0
  intro H2
  have HA := Lib.hid hha
  clear hF hha
  have H3 : Hid (Both ha w w2 ha F0 [] (.slice none 0 0)) := Lib.hid ⟨H2.out, none, 0, rfl, Nat.le_refl _, Nat.zero_le _, Or.inl ⟨rfl, rfl⟩, fun h => absurd h (Nat.lt_irrefl _)⟩
  clear H2
  have HN2 := Lib.hid hn
  clear hn
  go_wp2_with fail
  go_loopg [6, 7] n (fun qq s6 s7 wr => ∃ (i : Nat) (F : List Nat) (S : List It) (av : Option Addr) (cv : Nat), s6 = .slice av S.length cv ∧ s7 = .int .i64 i ∧ i ≤ n ∧ qq = n - i ∧ Hid (S.length ≤ i) ∧ Hid (Both ha w wr ha F S (.slice av S.length cv)))
  case atStart => exact ⟨0, _, [], _, _, rfl, rfl, Nat.zero_le _, rfl, Lib.hid (Nat.le_refl _), H3⟩
  case round =>
    obtain ⟨i, F, S, av, cv, rfl, rfl, hi, rfl, HL, HB⟩ := hrel
    clear H3
    by_cases hlt : i < n
    · have hz : xs[i]? = some xs[i]! := by
        have := HN2.out
        rw [getElem!_pos xs i (by omega)]; exact List.getElem?_eq_getElem _
      obtain ⟨⟨a1, a2, a3⟩, hz⟩ : ∃ y, xs[i]? = some y := ⟨_, hz⟩
      obtain ⟨g, o, rfl, hg, k1, k2, k3⟩ := HN.out i _ hz
      have HW := Lib.hid (HX.out _ (List.mem_of_getElem? hz))
      have qi : (i : Int) < (xs.length : Int) := by have := HN2.out; omega
      have qn : (i : Int) < 80 := by have := HN2.out; omega
      have hS80 : S.length < 80 := by have := HL.out; omega
      dsimp only at k1 k2 k3
      have c1 : wr.cell? ⟨g, o + i * 3, none⟩ = some (.int .i64 a1) := (HB.out.st.below.cell (p := ⟨g, o + i * 3, none⟩) (by rw [← HA.out]; exact hg)).trans k1
      have c2 : wr.cell? ⟨g, o + i * 3 + 1, none⟩ = some (.int .i64 a2) := (HB.out.st.below.cell (p := ⟨g, o + i * 3 + 1, none⟩) (by rw [← HA.out]; exact hg)).trans k2
      have c3 : wr.cell? ⟨g, o + i * 3 + 2, none⟩ = some (.int .i64 a3) := (HB.out.st.below.cell (p := ⟨g, o + i * 3 + 2, none⟩) (by rw [← HA.out]; exact hg)).trans k3
      clear k1 k2 k3 hz hg
      go_wp2_with fail
      have hB3 : Hid (Both ha w (wr.alloc (.cells #[.int .i64 a1, .int .i64 a2, .int .i64 a3] 38)) ha F S (.slice av S.length cv)) := Lib.hid (HB.out.of ((Below.refl _ _).alloc (Nat.le_refl _) _))
      have d1 : (wr.alloc (.cells #[.int .i64 a1, .int .i64 a2, .int .i64 a3] 38)).cell? ⟨wr.heap.size, 0, none⟩ = some (.int .i64 a1) := by simp [go_sem]
      have d2 : (wr.alloc (.cells #[.int .i64 a1, .int .i64 a2, .int .i64 a3] 38)).cell? ⟨wr.heap.size, 1, none⟩ = some (.int .i64 a2) := by simp [go_sem]
      have d3 : (wr.alloc (.cells #[.int .i64 a1, .int .i64 a2, .int .i64 a3] 38)).cell? ⟨wr.heap.size, 2, none⟩ = some (.int .i64 a3) := by simp [go_sem]
      clear HB c1 c2 c3
      revert hB3 d1 d2 d3
      generalize wr.alloc (.cells #[.int .i64 a1, .int .i64 a2, .int .i64 a3] 38) = w3
      generalize wr.heap.size = ab
      intro HB d1 d2 d3
      refine (pick16 a2 15 (by omega) (by omega) w3).mono ?_
      rintro e w4 ⟨rfl, rfl⟩
      obtain ⟨id, hid⟩ : ∃ id, a2 % 15 = id := ⟨_, rfl⟩
      have id0 : 0 ≤ id := by omega
      have id1 : id < 15 := by omega
      rw [hid]
      clear hid
      go_wp2_with fail
      refine (pick16 a3 9 (by omega) (by omega) w3).mono ?_
      rintro e w4 ⟨rfl, rfl⟩
      obtain ⟨k9, hk9⟩ : ∃ k9, a3 % 9 = k9 := ⟨_, rfl⟩
      have k90 : 0 ≤ k9 := by omega
      have k91 : k9 < 9 := by omega
      rw [hk9]
      clear hk9
      go_upto_if 49 with fail
      go_cut [10] from 29 to 220 (fun s10 wx => ∃ kk : Int, s10 = .int .i64 kk ∧ Hid (I64 kk) ∧ w3 = wx)
      case first =>
        go_wp2_with fail
        all_goals
          go_meet
          case rel => first | exact ⟨a3, rfl, Lib.hid HW.out.2.2, rfl⟩ | exact ⟨k9, rfl, Lib.hid (by unfold I64; omega), rfl⟩
      case rest =>
        obtain ⟨kk, rfl, HKK, rfl⟩ := hcut
        go_wp2_with fail
        go_loopg [11, 54] S.length (fun qq s11 s54 wv => ∃ (k : Nat) (at_ : Int), s11 = .int .i64 at_ ∧ s54 = .int .i64 k ∧ k ≤ S.length ∧ qq = S.length - k ∧ w3 = wv ∧ Hid (AtPost S id k at_))
        case atStart => exact ⟨0, -1, rfl, rfl, Nat.zero_le _, rfl, rfl, Lib.hid (Or.inl ⟨rfl, fun j hj => absurd hj (Nat.not_lt_zero _)⟩)⟩
        case round =>
          obtain ⟨k, at_, rfl, rfl, hk, rfl, rfl, HP⟩ := hrel
          by_cases hlk : k < S.length
          · obtain ⟨av', cv', e, _, _, _, hcell⟩ := HB.out.sl
            cases e
            obtain ⟨g', o', rfl, _, _, hcs⟩ := hcell (by omega)
            have y0 : w3.cell? ⟨g', o' + k * 2, none⟩ = some (.int .i64 (at' S k).1) := (hcs k hlk).1
            have qk : (k : Int) < (S.length : Int) := by omega
            have HY : Hid ((at' S k).1 = (at' S k).1) := Lib.hid rfl
            revert y0 HY
            generalize hy : (at' S k).1 = y
            intro y0 HY
            have HYY := Lib.hid hy
            clear hcs hcell hy HY
            by_cases hyi : y = id
            · subst hyi
              go_wp2_with fail
              go_roundg (S.length - (k + 1))
              case measure => omega
              case rel => exact ⟨k + 1, k, rfl, by go_num, by omega, rfl, rfl, Lib.hid (Or.inr ⟨k, by omega, rfl, HYY.out⟩)⟩
            · have hyb : (y == id) = false := beq_eq_false_iff_ne.2 hyi
              go_wp2_with fail
              go_roundg (S.length - (k + 1))
              case measure => omega
              case rel => exact ⟨k + 1, at_, rfl, by go_num, by omega, rfl, rfl, Lib.hid (HP.out.next (by rw [HYY.out]; exact hyi))⟩
          · have hge : ¬ (k : Int) < (S.length : Int) := by omega
            have HPE : Hid (AtPost S id S.length at_) := by
              have e : k = S.length := by omega
              rw [← e]; exact Lib.hid HP.out
            clear HP
            have hAT : -1 ≤ at_ ∧ at_ < S.length := by
              rcases HPE.out with ⟨e, _⟩ | ⟨j, hj, e, _⟩ <;> omega
            go_wp2_with fail
            refine (pick16 a1 7 (by omega) (by omega) w3).mono ?_
            rintro e w4 ⟨rfl, rfl⟩
            obtain ⟨wt, hwt⟩ : ∃ wt, a1 % 7 = wt := ⟨_, rfl⟩
            have wt0 : 0 ≤ wt := by omega
            have wt1 : wt < 7 := by omega
            rw [hwt]
            clear hwt
            go_upto_block 4 with fail
            go_cut [6, 13, 14, 15] from 29 to 220 (fun s6 s13 s14 s15 wx => ∃ (F' : List Nat) (S' : List It) (av' : Option Addr) (cv' : Nat), s6 = .slice av' S'.length cv' ∧ Hid (S'.length ≤ i + 1) ∧ Hid (Both ha w wx ha F' S' (.slice av' S'.length cv')))
            case first =>
              by_cases h4 : wt < 4
              · rcases HPE.out with ⟨rfl, hno⟩ | ⟨j, hj, rfl, hjd⟩
                · have HNO := Lib.hid (hasId_none hno)
                  clear hno
                  go_wp2_with fail
                  refine (put1 ha F S (ins (id, kk) S) id kk true _ HB.out.st.heap ⟨⟨by dsimp only; omega, by dsimp only; omega⟩, HKK.out⟩ (by omega) (by rw [rem_none HNO.out]) (by rw [HNO.out]; rfl)).mono ?_
                  rintro e w7 ⟨rfl, F7, i7, s7⟩
                  have HB7 : Hid (St ha w w7 ha F7 (ins (id, kk) S) ∧ Sl w7 (· ∉ F7) (.slice av S.length cv) S) := Lib.hid ⟨HB.out.st.step i7 s7, HB.out.sl.step s7⟩
                  clear i7 s7 HB
                  go_wp2_with fail
                  refine (sorted17 av cv S id kk w7 (· ∉ F7) HB7.out.2 (by omega)).mono ?_
                  rintro e w8 ⟨g8, cap8, rfl, b8, hg8, R8, hc8⟩
                  have HB8 : Hid (Both ha w w8 ha F7 (ins (id, kk) S) (.slice (some ⟨g8, 0, none⟩) (ins (id, kk) S).length cap8)) :=
                    Lib.hid ⟨HB7.out.1.of b8, Sl.row R8 hc8 (fun e => by have := HB7.out.1.heap.lt _ e; omega) (by obtain ⟨cur, hcur, _⟩ := R8.block; exact lt_size hcur)⟩
                  clear R8 b8 hg8 HB7
                  go_wp2_with fail
                  go_meet
                  case rel => exact ⟨F7, _, _, _, by rw [(ins_perm (id, kk) S).length_eq]; rfl, Lib.hid (by rw [(ins_perm (id, kk) S).length_eq, List.length_cons]; have := HL.out; omega), HB8⟩
                · exact putArm HB HL hS80 id0 id1 HKK wt0 h4 hj hjd (by assumption) (by assumption)
              · by_cases h6 : wt < 6
                · exact popArm (j := 0) HB HL hS80 id0 id1 HKK wt0 h4 h6 (by assumption) (by assumption)
                · rcases HPE.out with ⟨rfl, hno⟩ | ⟨j, hj, rfl, hjd⟩
                  · have HNO := Lib.hid (hasId_none hno)
                    clear hno
                    go_wp2_with fail
                    refine (drop1 ha F S S id false (by constructor <;> omega) _ HB.out.st.heap (rem_none HNO.out) HNO.out).mono ?_
                    rintro e w7 ⟨rfl, F7, i7, s7⟩
                    have HB7 : Hid (Both ha w w7 ha F7 S (.slice av S.length cv)) := Lib.hid ⟨HB.out.st.step i7 s7, HB.out.sl.step s7⟩
                    clear i7 s7 HB
                    go_wp2_with fail
                    go_meet
                    case rel => exact ⟨F7, S, _, _, rfl, Lib.hid (by have := HL.out; omega), HB7⟩
                  · exact dropArm HB HL hS80 id0 id1 HKK h6 wt1 hj hjd (by assumption) (by assumption)
            case rest =>
              obtain ⟨F', S', av', cv', rfl, HL', HB'⟩ := hcut
              have hS81 : S'.length ≤ 80 := by have := HL'.out; omega
              clear HB HPE HL
              go_wp2_with fail
              refine (all14 ha F' S' _ HB'.out.st.heap).mono ?_
              rintro e w5 ⟨v5, rfl, b5, A5, cp5, rfl, hs5⟩
              have HB5 := Lib.hid (HB'.out.of b5)
              have HS5 := Lib.hid hs5
              clear b5 hs5 HB'
              go_wp2_with fail
              refine (len15 ha F' S' _ HB5.out.st.heap).mono ?_
              rintro e w6 ⟨rfl, rfl⟩
              go_wp2_with fail
              go_loopg [165] S'.length (fun qq s wv => ∃ k : Nat, s = .int .i64 k ∧ k ≤ S'.length ∧ qq = S'.length - k ∧ Hid (Below w6.heap.size w6 wv))
              case atStart => exact ⟨0, rfl, Nat.zero_le _, rfl, Lib.hid (Below.refl _ _)⟩
              case round =>
                obtain ⟨k, rfl, hk, rfl, HBW⟩ := hrel
                have HBV := Lib.hid (HB5.out.of HBW.out)
                by_cases hlk : k < S'.length
                · obtain ⟨av', cv', e, _, _, _, hcell⟩ := HBV.out.sl
                  cases e
                  obtain ⟨g', o', rfl, _, hg', hcs⟩ := hcell (by omega)
                  obtain ⟨g8, rfl, _, hg8, x0, x1⟩ := HS5.out k hlk
                  have y0 := (hcs k hlk).1
                  have y1 := (hcs k hlk).2
                  have u0 := (HBW.out.cell (p := ⟨g8, k * 2, none⟩) hg8).trans x0
                  have u1 := (HBW.out.cell (p := ⟨g8, k * 2 + 1, none⟩) hg8).trans x1
                  have HK := Lib.hid (keyAt_some HBV.out.st.heap.nodup (at_memL S' k hlk) rfl)
                  have HW1 := Lib.hid (HBV.out.st.heap.wf _ (at_memL S' k hlk)).1
                  revert y0 y1 u0 u1 HK HW1
                  generalize (at' S' k).1 = p1
                  generalize (at' S' k).2 = p2
                  intro y0 y1 u0 u1 HK HW1
                  have qk : (k : Int) < (S'.length : Int) := by omega
                  clear hcs hcell x0 x1 hg8 hg'
                  go_wp2_with fail
                  refine (key1 ha F' S' p1 p2 true HW1.out _ HBV.out.st.heap HK.out).mono ?_
                  rintro e w7 ⟨rfl, rfl⟩
                  go_wp2_with fail
                  go_big_quiet (fail)
                  go_wp2_with fail
                  go_roundg (S'.length - (k + 1))
                  case measure => omega
                  case rel => exact ⟨k + 1, by go_num, by omega, rfl, Lib.hid (HBW.out.trans ((below_drewN _ _).mono HBW.out.size))⟩
                · have hge : ¬ (k : Int) < (S'.length : Int) := by omega
                  clear hlk hk HS5 HB5
                  by_cases hp : 0 < S'.length
                  · obtain ⟨av', cv', e, _, _, _, hcell⟩ := HBV.out.sl
                    cases e
                    obtain ⟨g', o', rfl, _, hg', hcs⟩ := hcell hp
                    have y0 := (hcs 0 hp).1
                    have y1 := (hcs 0 hp).2
                    have HH := Lib.hid (hd_pos hp)
                    revert y0 y1 HH
                    generalize at' S' 0 = p0
                    obtain ⟨p1, p2⟩ := p0
                    intro y0 y1 HH
                    rw [Nat.zero_mul, Nat.add_zero] at y0 y1
                    dsimp only at y0 y1
                    have qp : (0 : Int) < (S'.length : Int) := by omega
                    clear hcs hcell
                    go_wp2_with fail
                    refine (peek1 ha F' S' p1 p2 true _ HBV.out.st.heap HH.out).mono ?_
                    rintro e w7 ⟨rfl, b7⟩
                    have z0 := (b7.cell (p := ⟨g', o', none⟩) hg').trans y0
                    have z1 := (b7.cell (p := ⟨g', o' + 1, none⟩) hg').trans y1
                    have hg7 := Nat.lt_of_lt_of_le hg' b7.size
                    have HB7 := Lib.hid (HBV.out.of b7)
                    clear b7 HBV y0 y1 hg'
                    go_wp2_with fail
                    go_big_quiet (fail)
                    go_wp2_with fail
                    go_roundg (n - (i + 1))
                    case measure => omega
                    case rel => exact ⟨i + 1, F', S', _, _, rfl, by go_num, by omega, rfl, HL', Lib.hid ((HB7.out.of ((Below.refl _ _).alloc (Nat.le_refl _) _)).of (below_drewN _ _))⟩
                  · have HH := Lib.hid (hd_zero (S := S') (by omega))
                    have qp : ¬ (0 : Int) < (S'.length : Int) := by omega
                    go_wp2_with fail
                    refine (peek1 ha F' S' 0 0 false _ HBV.out.st.heap HH.out).mono ?_
                    rintro e w7 ⟨rfl, b7⟩
                    have HB7 := Lib.hid (HBV.out.of b7)
                    clear b7 HBV
                    go_wp2_with fail
                    go_big_quiet (fail)
                    go_wp2_with fail
                    go_roundg (n - (i + 1))
                    case measure => omega
                    case rel => exact ⟨i + 1, F', S', _, _, rfl, by go_num, by omega, rfl, HL', Lib.hid ((HB7.out.of ((Below.refl _ _).alloc (Nat.le_refl _) _)).of (below_drewN _ _))⟩
    · by_cases hle : xs.length ≤ 80
      · have qi : ¬ (i : Int) < (xs.length : Int) := by have := HN2.out; omega
        clear hlt hi hle
        go_wp2_with fail
        go_ret
        exact ⟨rfl, by rw [HA.out]; exact HB.out.st.below⟩
      · have qi : (i : Int) < (xs.length : Int) := by have := HN2.out; omega
        have qn : ¬ (i : Int) < 80 := by have := HN2.out; omega
        clear hlt hi hle
        go_wp2_with fail
        go_ret
        exact ⟨rfl, by rw [HA.out]; exact HB.out.st.below⟩
end Go.Proofs.Ytfhlipalfebfaaa
