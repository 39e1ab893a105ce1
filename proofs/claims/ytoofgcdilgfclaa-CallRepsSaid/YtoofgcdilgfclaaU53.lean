import Derived.Test.YtoofgcdilgfclaaU50
import Derived.Test.YtoofgcdilgfclaaU45
import Derived.Test.YtoofgcdilgfclaaU47
import Derived.Test.YtoofgcdilgfclaaU52
namespace Go.Proofs.Ytoofgcdilgfclaa
open Go.RowKit Go.Sort
set_option maxRecDepth 100000
set_option maxHeartbeats 4000000

theorem hpickB (a m : Int) (hm : 1 ≤ m) (hm2 : m ≤ 9223372036854775807) : ∃ p : Nat, (p : Int) < m ∧ ∀ w : World, Calls Try.prog 20 #[.int .i64 a, .int .i64 m] w fun e w' => e = .returned (.int .i64 (p : Int)) ∧ w' = w := by
  obtain ⟨m, rfl⟩ := Int.eq_ofNat_of_zero_le (show 0 ≤ m by omega)
  obtain ⟨p, h1, h2⟩ := rpickN a m (by omega) (by omega)
  exact ⟨p, by omega, h2⟩
theorem RQsIn.at_ {w : World} {a : Option Addr} {L : List RQ} {i : Nat} (h : RQsIn w a L) (hi : i < L.length) : ∃ x g o, x ∈ L ∧ a = some ⟨g, o, none⟩ ∧ g < w.heap.size ∧ w.cell? ⟨g, o + i * 6 + 1, none⟩ = some (.int .i64 x.stripe) ∧ w.cell? ⟨g, o + i * 6 + 2, none⟩ = some (.int .i64 x.gen) ∧ w.cell? ⟨g, o + i * 6 + 3, none⟩ = some (.int .i64 x.index) ∧ w.cell? ⟨g, o + i * 6 + 4, none⟩ = some (.int .i64 x.seed) ∧ w.cell? ⟨g, o + i * 6 + 5, none⟩ = some (.int .i64 x.bend) := by
  obtain ⟨x, hx⟩ : ∃ x, L[i]? = some x := ⟨_, List.getElem?_eq_getElem hi⟩
  obtain ⟨g, o, e, hg, _, c1, c2, c3, c4, c5⟩ := h i x hx
  exact ⟨x, g, o, List.mem_of_getElem? hx, e, hg, c1, c2, c3, c4, c5⟩
/-- LayRep, told by one list. -/
theorem layRO {w : World} {v : Value} {p : Rx} (h : RVal w v p) (h1 : p.ps.length ≤ 1000000) (h2 : p.xs.length ≤ 1000000) (ok : Bool) (ho : ok = true ↔ p.Right) : Calls Try.prog 12 #[v] w (LayO ok p.lay w) := by
  cases ok with
  | true => exact (clayRep h (ho.1 rfl)).mono (by rintro e w' ⟨g, c, rfl, hb, hbl, _⟩; exact ⟨_, c, rfl, BL.blk hb rfl (fun _ _ => rfl), hbl⟩)
  | false => exact (clayRep_no h h1 h2 (fun hr => by have := ho.2 hr; cases this)).mono (by rintro e w' ⟨rfl, hbl⟩; exact ⟨none, 0, rfl, BL.nil, hbl⟩)
theorem callReps (code boot : Int) (a2 : Option Addr) (L : List RQ) (c2 : Nat) (pieces : Int) (a1 : Option Addr) (n1 c1 : Nat) (F1 : Nat → Nat) (how : Int) (a3 : Option Addr) (xs : List Int) (c3 : Nat) (y : Nat) (w : World)
    (h2 : RQsIn w a2 L) (_m2 : L.length ≤ 9223372036854775807) (y2 : ∀ x ∈ L, (-9223372036854775808 ≤ x.bend ∧ x.bend ≤ 9223372036854775807))
    (h1 : Rd w a1 n1 F1) (b1 : ∀ j, j < n1 → F1 j < 256) (l1 : n1 ≤ c1) (m1 : n1 ≤ 140737488351232) (h3 : Nums w a3 xs) (hy : y < 256) :
    Calls Try.prog 5 #[.int .i64 code, .int .i64 boot, .slice a2 L.length c2, .int .i64 pieces, .slice a1 n1 c1, .int .i64 how, .slice a3 xs.length c3, .int .u8 (y : Int)] w fun e w' => e = .returned (.bool true) ∧ Below w.heap.size w w' := by
  obtain ⟨H, hH⟩ : ∃ H, w.heap.size = H := ⟨_, rfl⟩
  have HH := Lib.hid hH
  have H1 : Hid (∀ W, Below H w W → Rd W a1 n1 F1) := Lib.hid (fun W hW => h1.keep (by rw [hH]; exact hW))
  have H2 : Hid (∀ W, Below H w W → RQsIn W a2 L) := Lib.hid (fun W hW i x hx => by
    obtain ⟨g, o, e1, e2, d0, d1, d2, d3, d4, d5⟩ := h2 i x hx
    have hg : g < H := by rw [← hH]; exact e2
    exact ⟨g, o, e1, Nat.lt_of_lt_of_le e2 hW.size, (hW.cell (p := ⟨g, _, none⟩) hg).trans d0, (hW.cell (p := ⟨g, _, none⟩) hg).trans d1, (hW.cell (p := ⟨g, _, none⟩) hg).trans d2, (hW.cell (p := ⟨g, _, none⟩) hg).trans d3, (hW.cell (p := ⟨g, _, none⟩) hg).trans d4, (hW.cell (p := ⟨g, _, none⟩) hg).trans d5⟩)
  have H3 : Hid (∀ W, Below H w W → Nums W a3 xs) := Lib.hid (fun W hW i x hx => by
    obtain ⟨g, o, e1, e2, e3⟩ := h3 i x hx
    exact ⟨g, o, e1, Nat.lt_of_lt_of_le e2 hW.size, (hW.cell (p := ⟨g, o + i, none⟩) (by rw [← hH]; exact e2)).trans e3⟩)
  have HY2 := Lib.hid y2
  have HBF : Hid (∀ j, j < n1 → F1 j < 256) := Lib.hid b1
  have HY : Hid (y < 256) := Lib.hid hy
  obtain ⟨n3, hn3⟩ : ∃ n3, xs.length = n3 := ⟨_, rfl⟩
  have HN3 := Lib.hid hn3
  obtain ⟨n2, hn2⟩ : ∃ n2, L.length = n2 := ⟨_, rfl⟩
  have HN2 := Lib.hid hn2
  rw [hn3, hn2]
  have m2 := _m2
  rw [hn2] at m2
  obtain ⟨q0, hq0, HP0⟩ := hpickB code 14 (by omega) (by omega)
  obtain ⟨q1, hq1, HP1⟩ := hpickB boot 2147483648 (by omega) (by omega)
  obtain ⟨q2, hq2, HP2⟩ := hpickB pieces 4 (by omega) (by omega)
  have HP0 := Lib.hid HP0
  have HP1 := Lib.hid HP1
  have HP2 := Lib.hid HP2
  have HPK : Hid (∀ a W, Calls Try.prog 20 #[.int .i64 a, .int .i64 30] W fun e w' => (∃ p : Nat, p < 30 ∧ e = .returned (.int .i64 (p : Int))) ∧ w' = W) := Lib.hid (fun a W => by
    obtain ⟨p, hp, h⟩ := hpickB a 30 (by omega) (by omega)
    exact (h W).mono (by rintro e w' ⟨rfl, hw⟩; exact ⟨⟨p, by omega, rfl⟩, hw⟩))
  obtain ⟨w1, hw1⟩ : ∃ w1, w.alloc (.cells #[.int .i64 (q0 : Int), .int .i64 (q1 : Int), .slice none 0 0, .slice none 0 0] 39) = w1 := ⟨_, rfl⟩
  have HW1 := Lib.hid hw1
  have HR1 : Hid (RPS w H H w1 (q0 : Int) (q1 : Int) (.slice none 0 0) (.slice none 0 0) [] []) := Lib.hid ⟨by rw [← hw1]; exact RV.of_new hH, PL1.nil, IL1.nil, by rw [← hw1, ← hH]; exact (Below.refl _ _).alloc (Nat.le_refl _) _, Nat.le_refl _⟩
  obtain ⟨h18, hh18⟩ : ∃ bb : Bool, (how.tmod 19 == 18) = bb := ⟨_, rfl⟩
  obtain ⟨hw0, hhw0⟩ : ∃ bb, decide (0 < how.tmod 4) = bb := ⟨_, rfl⟩
  clear hw1 hH h1 h2 h3 b1 hy hn3 hn2 y2
  go_enter Try.func5, Try.ntmps5
  go_wp2_with fail
  refine (HP0.out _).mono ?_
  rintro e w' ⟨rfl, hw⟩
  obtain rfl := hw.symm
  go_wp2_with fail
  refine (HP1.out _).mono ?_
  rintro e w' ⟨rfl, hw⟩
  obtain rfl := hw.symm
  go_upto_region 2 with fail
  rw [HW1.out, HH.out]
  go_upto_if 36 with fail
  go_cut [] from 37 to 40 (fun wx => Hid (∃ c b, RPS w H H wx c b (.slice none 0 0) (.slice none 0 0) [] []))
  case first =>
    have z0 := HR1.out.cur.c0
    have z1 := HR1.out.cur.c1
    have z2 := HR1.out.cur.c2
    have z3 := HR1.out.cur.c3
    have zf := HR1.out.cur.f
    cases h18 with
    | false =>
      go_wp2_with fail
      go_meet
      exact Lib.hid ⟨_, _, HR1.out⟩
    | true =>
      go_wp2_with fail
      go_meet
      exact Lib.hid ⟨_, _, (HR1.out.p0 code).p1 boot⟩
  case rest =>
    have HC := hcut
    clear hcut
    obtain ⟨cc, bt, hc⟩ := HC.out
    have HC0 := Lib.hid hc
    clear hc HC
    go_wp2_with fail
    refine (HP2.out _).mono ?_
    rintro e w' ⟨rfl, hw⟩
    obtain rfl := hw.symm
    go_wp2_with fail
    go_loopg [18] 6 (fun q s18 v => ∃ (i : Nat) (u1 u2 : Value) (l : List Px) (m : List Ix), s18 = .int .i64 (i : Int) ∧ i ≤ 6 ∧ q = 6 - i ∧ l.length + m.length = i ∧ Hid (RPS w H H v cc bt u1 u2 l m))
    case atStart => exact ⟨0, _, _, [], [], rfl, by omega, rfl, rfl, HC0⟩
    case round =>
      obtain ⟨i, u1, u2, l, m, rfl, hi, rfl, hlm, HS⟩ := hrel
      clear HC0
      obtain ⟨wo, rfl⟩ : ∃ wo : World, wo = wr := ⟨wr, rfl⟩
      obtain ⟨bb, hbb⟩ : ∃ bb : Bool, (decide (i < n2) && decide (i < 6)) = bb := ⟨_, rfl⟩
      have HBB := Lib.hid hbb
      clear hbb
      go_upto_region 7 with fail
      go_cut [50] from 43 to 50 (fun s50 wx => s50 = .bool bb ∧ wx = wo)
      case first =>
        by_cases g1 : i < n2
        · have g1' : (i : Int) < (n2 : Int) := by omega
          by_cases g2 : i < 6
          · have g2' : (i : Int) < 6 := by omega
            go_wp2_with fail
            go_meet
            exact ⟨by rw [← HBB.out]; simp [g1, g2], rfl⟩
          · have g2' : ¬ (i : Int) < 6 := by omega
            go_wp2_with fail
            go_meet
            exact ⟨by rw [← HBB.out]; simp [g1, g2], rfl⟩
        · have g1' : ¬ (i : Int) < (n2 : Int) := by omega
          go_wp2_with fail
          go_meet
          exact ⟨by rw [← HBB.out]; simp [g1], rfl⟩
      case rest =>
        obtain ⟨rfl, hwc⟩ := hcut
        obtain rfl := hwc.symm
        cases bb with
        | true =>
          have hi2 : i < n2 ∧ i < 6 := by have := HBB.out; simp at this; exact this
          obtain ⟨g1, g2⟩ := hi2
          have g1' : (i : Int) < (n2 : Int) := by omega
          have g3 : (0 : Int) ≤ (i : Int) := by omega
          obtain ⟨x, g, o, hxm, ea, hgs, d1, d2, d3, d4, d5⟩ := (H2.out wo HS.out.blw).at_ (i := i) (by rw [HN2.out]; exact g1)
          subst ea
          have hg : g < H := by
            obtain ⟨_, g', o', _, e', hg', _⟩ := (H2.out w (Below.refl _ _)).at_ (i := i) (by rw [HN2.out]; exact g1)
            injection e' with e'
            injection e' with e' _
            rw [e', ← HH.out]
            exact hg'
          obtain ⟨xs1, hx1⟩ : ∃ z, x.stripe = z := ⟨_, rfl⟩
          obtain ⟨xs2, hx2⟩ : ∃ z, x.gen = z := ⟨_, rfl⟩
          obtain ⟨xs3, hx3⟩ : ∃ z, x.index = z := ⟨_, rfl⟩
          obtain ⟨xs4, hx4⟩ : ∃ z, x.seed = z := ⟨_, rfl⟩
          obtain ⟨xs5, hx5⟩ : ∃ z, x.bend = z := ⟨_, rfl⟩
          have hb5 := HY2.out x hxm
          rw [hx5] at hb5 d5
          rw [hx1] at d1
          rw [hx2] at d2
          rw [hx3] at d3
          rw [hx4] at d4
          have HSX : Hid (∀ W, Below H wo W → W.cell? ⟨g, o + i * 6 + 1, none⟩ = some (.int .i64 xs1) ∧ W.cell? ⟨g, o + i * 6 + 2, none⟩ = some (.int .i64 xs2) ∧ W.cell? ⟨g, o + i * 6 + 3, none⟩ = some (.int .i64 xs3) ∧ W.cell? ⟨g, o + i * 6 + 4, none⟩ = some (.int .i64 xs4) ∧ W.cell? ⟨g, o + i * 6 + 5, none⟩ = some (.int .i64 xs5)) := Lib.hid (fun W hW => ⟨(hW.cell (p := ⟨g, _, none⟩) hg).trans d1, (hW.cell (p := ⟨g, _, none⟩) hg).trans d2, (hW.cell (p := ⟨g, _, none⟩) hg).trans d3, (hW.cell (p := ⟨g, _, none⟩) hg).trans d4, (hW.cell (p := ⟨g, _, none⟩) hg).trans d5⟩)
          have HZ : Hid (H ≤ wo.heap.size) := Lib.hid (by have := HS.out.cur.lt; omega)
          have BDo : Hid (Below H wo wo.drew) := Lib.hid ((below_drewN 1 wo).mono HZ.out)
          have HVd : Hid (RPS w H H wo.drew cc bt u1 u2 l m) := Lib.hid (HS.out.below (below_drewN 1 wo))
          have y2 : wo.drew.cell? ⟨H, 2, none⟩ = some u1 := HVd.out.cur.c2
          have y3 : wo.drew.cell? ⟨H, 3, none⟩ = some u2 := HVd.out.cur.c3
          have HLN : Hid (l.length ≤ 1000000 ∧ m.length ≤ 1000000) := Lib.hid ⟨by omega, by omega⟩
          have HLM := Lib.hid hlm
          clear hx1 hx2 hx3 hx4 hx5 hxm hgs d1 d2 d3 d4 d5
          by_cases hip : i < q2
          · have hip' : (i : Int) < (q2 : Int) := by omega
            obtain ⟨pp, hppb, hpp⟩ := hpiece xs1 xs2 xs3 xs4 xs5 hb5
            have HPC := Lib.hid (hpp wo.drew)
            clear hpp hppb
            go_wp2_with fail
            refine wp_region_held_drew (S := (fun W => W.cell? ⟨g, o + i * 6 + 1, none⟩ = some (.int .i64 xs1) ∧ W.cell? ⟨g, o + i * 6 + 2, none⟩ = some (.int .i64 xs2) ∧ W.cell? ⟨g, o + i * 6 + 3, none⟩ = some (.int .i64 xs3) ∧ W.cell? ⟨g, o + i * 6 + 4, none⟩ = some (.int .i64 xs4) ∧ W.cell? ⟨g, o + i * 6 + 5, none⟩ = some (.int .i64 xs5))) (by as_aux_lemma => kernel_rfl) ?_ (fun hHeld => ?_)
            · (first | (with_reducible assumption) | (with_reducible exact HSX.out _ BDo.out) | (with_reducible exact HSX.out _ HB5.out) | (with_reducible exact HSX.out _ (HB6.out _)) | (with_reducible exact HSX.out _ (HQY.out _)))
            refine wpAnyH_take (i := 0) (v := ?_) rfl (by as_aux_lemma => kernel_rfl) (by as_aux_lemma => kernel_rfl) (by as_aux_lemma => kernel_rfl) (fun _ _ _ h => h) (Or.inl ⟨by rfl, ?_⟩) (by assumption) ?_
            rotate_left
            · intro w hSw; (try dsimp only at hSw); go_simp; (try with_reducible rfl)
            simp only [Act.put, List.getElem_toArray, List.getElem_cons_zero, List.setIfInBounds_toArray, List.set_cons_zero, List.set_cons_succ]
            refine wpAnyH_take (i := 2) (v := ?_) rfl (by as_aux_lemma => kernel_rfl) (by as_aux_lemma => kernel_rfl) (by as_aux_lemma => kernel_rfl) (fun _ _ _ h => h) (Or.inl ⟨by rfl, ?_⟩) (by assumption) ?_
            rotate_left
            · intro w hSw; (try dsimp only at hSw); go_simp; (try with_reducible rfl)
            simp only [Act.put, List.getElem_toArray, List.getElem_cons_zero, List.getElem_cons_succ, List.setIfInBounds_toArray, List.set_cons_zero, List.set_cons_succ]
            refine wpAnyH_take (i := 3) (v := ?_) rfl (by as_aux_lemma => kernel_rfl) (by as_aux_lemma => kernel_rfl) (by as_aux_lemma => kernel_rfl) (fun _ _ _ h => h) (Or.inl ⟨by rfl, ?_⟩) (by assumption) ?_
            rotate_left
            · intro w hSw; (try dsimp only at hSw); go_simp; (try with_reducible rfl)
            simp only [Act.put, List.getElem_toArray, List.getElem_cons_zero, List.getElem_cons_succ, List.setIfInBounds_toArray, List.set_cons_zero, List.set_cons_succ]
            refine wpAnyH_take (i := 4) (v := ?_) rfl (by as_aux_lemma => kernel_rfl) (by as_aux_lemma => kernel_rfl) (by as_aux_lemma => kernel_rfl) (fun _ _ _ h => h) (Or.inl ⟨by rfl, ?_⟩) (by assumption) ?_
            rotate_left
            · intro w hSw; (try dsimp only at hSw); go_simp; (try with_reducible rfl)
            simp only [Act.put, List.getElem_toArray, List.getElem_cons_zero, List.getElem_cons_succ, List.setIfInBounds_toArray, List.set_cons_zero, List.set_cons_succ]
            refine wpAnyH_take (i := 5) (v := ?_) rfl (by as_aux_lemma => kernel_rfl) (by as_aux_lemma => kernel_rfl) (by as_aux_lemma => kernel_rfl) (fun _ _ _ h => h) (Or.inl ⟨by rfl, ?_⟩) (by assumption) ?_
            rotate_left
            · intro w hSw; (try dsimp only at hSw); go_simp; (try with_reducible rfl)
            simp only [Act.put, List.getElem_toArray, List.getElem_cons_zero, List.getElem_cons_succ, List.setIfInBounds_toArray, List.set_cons_zero, List.set_cons_succ]
            refine wpAnyH_take (i := 6) (v := ?_) rfl (by as_aux_lemma => kernel_rfl) (by as_aux_lemma => kernel_rfl) (by as_aux_lemma => kernel_rfl) (fun _ _ _ h => h) (Or.inl ⟨by rfl, ?_⟩) (by assumption) ?_
            rotate_left
            · intro w hSw; (try dsimp only at hSw); go_simp; (try with_reducible rfl)
            simp only [Act.put, List.getElem_toArray, List.getElem_cons_zero, List.getElem_cons_succ, List.setIfInBounds_toArray, List.set_cons_zero, List.set_cons_succ]
            refine wpAnyH_take (i := 7) (v := ?_) rfl (by as_aux_lemma => kernel_rfl) (by as_aux_lemma => kernel_rfl) (by as_aux_lemma => kernel_rfl) (fun _ _ _ h => h) (Or.inl ⟨by rfl, ?_⟩) (by assumption) ?_
            rotate_left
            · intro w hSw; (try dsimp only at hSw); go_simp; (try with_reducible rfl)
            simp only [Act.put, List.getElem_toArray, List.getElem_cons_zero, List.getElem_cons_succ, List.setIfInBounds_toArray, List.set_cons_zero, List.set_cons_succ]
            refine wpAnyH_take (i := 8) (v := ?_) rfl (by as_aux_lemma => kernel_rfl) (by as_aux_lemma => kernel_rfl) (by as_aux_lemma => kernel_rfl) (fun _ _ _ h => h) (Or.inl ⟨by rfl, ?_⟩) (by assumption) ?_
            rotate_left
            · intro w hSw; (try dsimp only at hSw); go_simp; (try with_reducible rfl)
            simp only [Act.put, List.getElem_toArray, List.getElem_cons_zero, List.getElem_cons_succ, List.setIfInBounds_toArray, List.set_cons_zero, List.set_cons_succ]
            refine wpAnyH_take (i := 9) (v := ?_) rfl (by as_aux_lemma => kernel_rfl) (by as_aux_lemma => kernel_rfl) (by as_aux_lemma => kernel_rfl) (fun _ _ _ h => h) (Or.inl ⟨by rfl, ?_⟩) (by assumption) ?_
            rotate_left
            · intro w hSw; (try dsimp only at hSw); go_simp; (try with_reducible rfl)
            simp only [Act.put, List.getElem_toArray, List.getElem_cons_zero, List.getElem_cons_succ, List.setIfInBounds_toArray, List.set_cons_zero, List.set_cons_succ]
            refine wpAnyH_take (i := 10) (v := ?_) rfl (by as_aux_lemma => kernel_rfl) (by as_aux_lemma => kernel_rfl) (by as_aux_lemma => kernel_rfl) (fun _ _ _ h => h) (Or.inl ⟨by rfl, ?_⟩) (by assumption) ?_
            rotate_left
            · intro w hSw; (try dsimp only at hSw); go_simp; (try with_reducible rfl)
            simp only [Act.put, List.getElem_toArray, List.getElem_cons_zero, List.getElem_cons_succ, List.setIfInBounds_toArray, List.set_cons_zero, List.set_cons_succ]
            refine wpAnyH_take (i := 11) (v := ?_) rfl (by as_aux_lemma => kernel_rfl) (by as_aux_lemma => kernel_rfl) (by as_aux_lemma => kernel_rfl) (fun _ _ _ h => h) (Or.inl ⟨by rfl, ?_⟩) (by assumption) ?_
            rotate_left
            · intro w hSw; (try dsimp only at hSw); go_simp; (try with_reducible rfl)
            simp only [Act.put, List.getElem_toArray, List.getElem_cons_zero, List.getElem_cons_succ, List.setIfInBounds_toArray, List.set_cons_zero, List.set_cons_succ]
            refine wpAnyH_take (i := 12) (v := ?_) rfl (by as_aux_lemma => kernel_rfl) (by as_aux_lemma => kernel_rfl) (by as_aux_lemma => kernel_rfl) (fun _ _ _ h => h) (Or.inl ⟨by rfl, ?_⟩) (by assumption) ?_
            rotate_left
            · intro w hSw; (try dsimp only at hSw); go_simp; (try with_reducible rfl)
            simp only [Act.put, List.getElem_toArray, List.getElem_cons_zero, List.getElem_cons_succ, List.setIfInBounds_toArray, List.set_cons_zero, List.set_cons_succ]
            refine wpAnyH_take (i := 13) (v := ?_) rfl (by as_aux_lemma => kernel_rfl) (by as_aux_lemma => kernel_rfl) (by as_aux_lemma => kernel_rfl) (fun _ _ _ h => h) (Or.inl ⟨by rfl, ?_⟩) (by assumption) ?_
            rotate_left
            · intro w hSw; (try dsimp only at hSw); go_simp; (try with_reducible rfl)
            simp only [Act.put, List.getElem_toArray, List.getElem_cons_zero, List.getElem_cons_succ, List.setIfInBounds_toArray, List.set_cons_zero, List.set_cons_succ]
            refine wpAnyH_take (i := 14) (v := ?_) rfl (by as_aux_lemma => kernel_rfl) (by as_aux_lemma => kernel_rfl) (by as_aux_lemma => kernel_rfl) (fun _ _ _ h => h) (Or.inl ⟨by rfl, ?_⟩) (by assumption) ?_
            rotate_left
            · intro w hSw; (try dsimp only at hSw); go_simp; (try with_reducible rfl)
            simp only [Act.put, List.getElem_toArray, List.getElem_cons_zero, List.getElem_cons_succ, List.setIfInBounds_toArray, List.set_cons_zero, List.set_cons_succ]
            refine wpAnyH_take (i := 15) (v := ?_) rfl (by as_aux_lemma => kernel_rfl) (by as_aux_lemma => kernel_rfl) (by as_aux_lemma => kernel_rfl) (fun _ _ _ h => h) (Or.inl ⟨by rfl, ?_⟩) (by assumption) ?_
            rotate_left
            · intro w hSw; (try dsimp only at hSw); go_simp; (try with_reducible rfl)
            simp only [Act.put, List.getElem_toArray, List.getElem_cons_zero, List.getElem_cons_succ, List.setIfInBounds_toArray, List.set_cons_zero, List.set_cons_succ]
            refine wpAnyH_take (i := 16) (v := ?_) rfl (by as_aux_lemma => kernel_rfl) (by as_aux_lemma => kernel_rfl) (by as_aux_lemma => kernel_rfl) (fun _ _ _ h => h) (Or.inl ⟨by rfl, ?_⟩) (by assumption) ?_
            rotate_left
            · intro w hSw; (try dsimp only at hSw); go_simp; (try with_reducible rfl)
            simp only [Act.put, List.getElem_toArray, List.getElem_cons_zero, List.getElem_cons_succ, List.setIfInBounds_toArray, List.set_cons_zero, List.set_cons_succ]
            refine wpAnyH_take (i := 17) (v := ?_) rfl (by as_aux_lemma => kernel_rfl) (by as_aux_lemma => kernel_rfl) (by as_aux_lemma => kernel_rfl) (fun _ _ _ h => h) (Or.inl ⟨by rfl, ?_⟩) (by assumption) ?_
            rotate_left
            · intro w hSw; (try dsimp only at hSw); go_simp; (try with_reducible rfl)
            simp only [Act.put, List.getElem_toArray, List.getElem_cons_zero, List.getElem_cons_succ, List.setIfInBounds_toArray, List.set_cons_zero, List.set_cons_succ]
            refine wpAnyH_take (i := 18) (v := ?_) rfl (by as_aux_lemma => kernel_rfl) (by as_aux_lemma => kernel_rfl) (by as_aux_lemma => kernel_rfl) (fun _ _ _ h => h) (Or.inl ⟨by rfl, ?_⟩) (by assumption) ?_
            rotate_left
            · intro w hSw; (try dsimp only at hSw); go_simp; (try with_reducible rfl)
            simp only [Act.put, List.getElem_toArray, List.getElem_cons_zero, List.getElem_cons_succ, List.setIfInBounds_toArray, List.set_cons_zero, List.set_cons_succ]
            refine wpAnyH_take (i := 19) (v := ?_) rfl (by as_aux_lemma => kernel_rfl) (by as_aux_lemma => kernel_rfl) (by as_aux_lemma => kernel_rfl) (fun _ _ _ h => h) (Or.inl ⟨by rfl, ?_⟩) (by assumption) ?_
            rotate_left
            · intro w hSw; (try dsimp only at hSw); go_simp; (try with_reducible rfl)
            simp only [Act.put, List.getElem_toArray, List.getElem_cons_zero, List.getElem_cons_succ, List.setIfInBounds_toArray, List.set_cons_zero, List.set_cons_succ]
            refine wpAnyH_take (i := 20) (v := ?_) rfl (by as_aux_lemma => kernel_rfl) (by as_aux_lemma => kernel_rfl) (by as_aux_lemma => kernel_rfl) (fun _ _ _ h => h) (Or.inl ⟨by rfl, ?_⟩) (by assumption) ?_
            rotate_left
            · intro w hSw; (try dsimp only at hSw); go_simp; (try with_reducible rfl)
            simp only [Act.put, List.getElem_toArray, List.getElem_cons_zero, List.getElem_cons_succ, List.setIfInBounds_toArray, List.set_cons_zero, List.set_cons_succ]
            refine wpAnyH_take (i := 21) (v := ?_) rfl (by as_aux_lemma => kernel_rfl) (by as_aux_lemma => kernel_rfl) (by as_aux_lemma => kernel_rfl) (fun _ _ _ h => h) (Or.inl ⟨by rfl, ?_⟩) (by assumption) ?_
            rotate_left
            · intro w hSw; (try dsimp only at hSw); go_simp; (try with_reducible rfl)
            simp only [Act.put, List.getElem_toArray, List.getElem_cons_zero, List.getElem_cons_succ, List.setIfInBounds_toArray, List.set_cons_zero, List.set_cons_succ]
            refine wpAnyH_take (i := 22) (v := ?_) rfl (by as_aux_lemma => kernel_rfl) (by as_aux_lemma => kernel_rfl) (by as_aux_lemma => kernel_rfl) (fun _ _ _ h => h) (Or.inl ⟨by rfl, ?_⟩) (by assumption) ?_
            rotate_left
            · intro w hSw; (try dsimp only at hSw); go_simp; (try with_reducible rfl)
            simp only [Act.put, List.getElem_toArray, List.getElem_cons_zero, List.getElem_cons_succ, List.setIfInBounds_toArray, List.set_cons_zero, List.set_cons_succ]
            refine wpAnyH_take (i := 23) (v := ?_) rfl (by as_aux_lemma => kernel_rfl) (by as_aux_lemma => kernel_rfl) (by as_aux_lemma => kernel_rfl) (fun _ _ _ h => h) (Or.inl ⟨by rfl, ?_⟩) (by assumption) ?_
            rotate_left
            · intro w hSw; (try dsimp only at hSw); go_simp; (try with_reducible rfl)
            simp only [Act.put, List.getElem_toArray, List.getElem_cons_zero, List.getElem_cons_succ, List.setIfInBounds_toArray, List.set_cons_zero, List.set_cons_succ]
            refine wpAnyH_take (i := 24) (v := ?_) rfl (by as_aux_lemma => kernel_rfl) (by as_aux_lemma => kernel_rfl) (by as_aux_lemma => kernel_rfl) (fun _ _ _ h => h) (Or.inl ⟨by rfl, ?_⟩) (by assumption) ?_
            rotate_left
            · intro w hSw; (try dsimp only at hSw); go_simp; (try with_reducible rfl)
            simp only [Act.put, List.getElem_toArray, List.getElem_cons_zero, List.getElem_cons_succ, List.setIfInBounds_toArray, List.set_cons_zero, List.set_cons_succ]
            refine wpAnyH_take (i := 25) (v := ?_) rfl (by as_aux_lemma => kernel_rfl) (by as_aux_lemma => kernel_rfl) (by as_aux_lemma => kernel_rfl) (fun _ _ _ h => h) (Or.inl ⟨by rfl, ?_⟩) (by assumption) ?_
            rotate_left
            · intro w hSw; (try dsimp only at hSw); go_simp; (try with_reducible rfl)
            simp only [Act.put, List.getElem_toArray, List.getElem_cons_zero, List.getElem_cons_succ, List.setIfInBounds_toArray, List.set_cons_zero, List.set_cons_succ]
            refine wpAnyH_take (i := 26) (v := ?_) rfl (by as_aux_lemma => kernel_rfl) (by as_aux_lemma => kernel_rfl) (by as_aux_lemma => kernel_rfl) (fun _ _ _ h => h) (Or.inl ⟨by rfl, ?_⟩) (by assumption) ?_
            rotate_left
            · intro w hSw; (try dsimp only at hSw); go_simp; (try with_reducible rfl)
            simp only [Act.put, List.getElem_toArray, List.getElem_cons_zero, List.getElem_cons_succ, List.setIfInBounds_toArray, List.set_cons_zero, List.set_cons_succ]
            refine wpAnyH_ready (rs := [1, 27]) (by as_aux_lemma => kernel_rfl) (by simp) ?_
            refine AllReadyH.cons rfl (fun K hK => ?_) (AllReadyH.cons rfl (fun K hK => ?_) AllReadyH.nil)
            go_simp
            refine hK.out _ _ ?_ (fun hHeld2 => ?_)
            · (try dsimp only); (first | (with_reducible assumption) | (with_reducible exact HSX.out _ BDo.out) | (with_reducible exact HSX.out _ HB5.out) | (with_reducible exact HSX.out _ (HB6.out _)) | (with_reducible exact HSX.out _ (HQY.out _)))
            clear hK K hHeld
            have hHeld := hHeld2
            clear hHeld2
            refine wpAnyH_ready (rs := [27]) (by as_aux_lemma => kernel_rfl) (by simp) ?_
            refine AllReadyH.cons rfl (fun K hK => ?_) AllReadyH.nil
            (go_simp; go_at_call 10; (with_reducible refine HPC.out.mono ?_); rintro e w5' ⟨v5, rfl, ⟨A5', d5', rfl, hd5, hy5⟩, hb5'⟩; (try dsimp only); have HT5 := Lib.hid (HVd.out.below hb5'); have x2 := HT5.out.cur.c2; have HB5 : Hid (Below H wo w5') := Lib.hid (BDo.out.trans (hb5'.mono HZ.out)); have HZ5 : Hid (H ≤ w5'.heap.size) := Lib.hid (Nat.le_trans HZ.out HB5.out.size); have HB6 : Hid (∀ o, Below H wo (w5'.alloc o)) := Lib.hid (fun o => HB5.out.alloc HZ5.out o); have HT6 := Lib.hid (fun o => HT5.out.below ((Below.refl _ _).alloc (Nat.le_refl _) o)); have HZ6 : Hid (∀ o, H ≤ (w5'.alloc o).heap.size) := Lib.hid (fun o => by have := (HT6.out o).cur.lt; omega); have x2' : ∀ o, (w5'.alloc o).cell? ⟨H, 2, none⟩ = some u1 := fun o => (HT6.out o).cur.c2; have HD5 := Lib.hid hd5; have HY5 := Lib.hid hy5; clear hd5 hy5 hb5')
            refine hK.out _ _ ?_ (fun hHeld2 => ?_)
            · (try dsimp only); (first | (with_reducible assumption) | (with_reducible exact HSX.out _ BDo.out) | (with_reducible exact HSX.out _ HB5.out) | (with_reducible exact HSX.out _ (HB6.out _)) | (with_reducible exact HSX.out _ (HQY.out _)))
            clear hK K hHeld
            have hHeld := hHeld2
            clear hHeld2
            refine wpAnyH_ready (rs := [28]) (by as_aux_lemma => kernel_rfl) (by simp) ?_
            refine AllReadyH.cons rfl (fun K hK => ?_) AllReadyH.nil
            go_simp
            refine hK.out _ _ ?_ (fun hHeld2 => ?_)
            · (try dsimp only); (first | (with_reducible assumption) | (with_reducible exact HSX.out _ BDo.out) | (with_reducible exact HSX.out _ HB5.out) | (with_reducible exact HSX.out _ (HB6.out _)) | (with_reducible exact HSX.out _ (HQY.out _)))
            clear hK K hHeld
            have hHeld := hHeld2
            clear hHeld2
            refine wpAnyH_ready (rs := [29]) (by as_aux_lemma => kernel_rfl) (by simp) ?_
            refine AllReadyH.cons rfl (fun K hK => ?_) AllReadyH.nil
            (refine step_append_P _ rfl (.tmp 57) (.tmp 84) rfl u1 l pp rfl (HT6.out _).ps w5'.heap.size rfl ⟨A5', d5', PV.new w5' _ _ _ _ _ _, HD5.out.below ((Below.refl _ _).alloc (Nat.le_refl _) _), HY5.out⟩ HLN.out.1 (HZ6.out _) ?_; intro v9 w9 hl9 hb9 hz9 ht9; obtain ⟨A9, c9, hv9⟩ := hl9.form; subst hv9; obtain ⟨q3, q4⟩ := (HT6.out _).appP hb9 ht9 hl9; have HT9 := Lib.hid q4; have qx := HSX.out _ (hb9 _ (HB6.out _)); have HQY : Hid (∀ v, Below H wo (w9.setCell ⟨H, 2, none⟩ v)) := Lib.hid (fun v => (hb9 _ (HB6.out _)).setCell (p := ⟨H, 2, none⟩) (Nat.le_refl _) v); have qf := q3.f; have q3c := q3.c2; clear q3 q4 hl9 hb9 hz9 ht9)
            refine hK.out _ _ ?_ (fun hHeld2 => ?_)
            · (try dsimp only); (first | (with_reducible assumption) | (with_reducible exact HSX.out _ BDo.out) | (with_reducible exact HSX.out _ HB5.out) | (with_reducible exact HSX.out _ (HB6.out _)) | (with_reducible exact HSX.out _ (HQY.out _)))
            clear hK K hHeld
            have hHeld := hHeld2
            clear hHeld2
            refine wpAnyH_take (i := 30) (v := ?_) rfl (by as_aux_lemma => kernel_rfl) (by as_aux_lemma => kernel_rfl) (by as_aux_lemma => kernel_rfl) (fun _ _ _ h => h) (Or.inl ⟨by rfl, ?_⟩) (by assumption) ?_
            rotate_left
            · intro w hSw; (try dsimp only at hSw); go_simp; (try with_reducible rfl)
            simp only [Act.put, List.getElem_toArray, List.getElem_cons_zero, List.getElem_cons_succ, List.setIfInBounds_toArray, List.set_cons_zero, List.set_cons_succ]
            refine wpAnyH_ready (rs := [31]) (by as_aux_lemma => kernel_rfl) (by simp) ?_
            refine AllReadyH.cons rfl (fun K hK => ?_) AllReadyH.nil
            go_simp
            refine hK.out _ _ ?_ (fun hHeld2 => ?_)
            · (try dsimp only); (first | (with_reducible assumption) | (with_reducible exact HSX.out _ BDo.out) | (with_reducible exact HSX.out _ HB5.out) | (with_reducible exact HSX.out _ (HB6.out _)) | (with_reducible exact HSX.out _ (HQY.out _)))
            clear hK K hHeld
            have hHeld := hHeld2
            clear hHeld2
            refine wpAnyH_done (by as_aux_lemma => kernel_rfl) ?_ _
            rotate_left
            (go_simp; go_at_call 10; (with_reducible refine HPC.out.mono ?_); rintro e w5' ⟨v5, rfl, ⟨A5', d5', rfl, hd5, hy5⟩, hb5'⟩; (try dsimp only); have HT5 := Lib.hid (HVd.out.below hb5'); have x2 := HT5.out.cur.c2; have HB5 : Hid (Below H wo w5') := Lib.hid (BDo.out.trans (hb5'.mono HZ.out)); have HZ5 : Hid (H ≤ w5'.heap.size) := Lib.hid (Nat.le_trans HZ.out HB5.out.size); have HB6 : Hid (∀ o, Below H wo (w5'.alloc o)) := Lib.hid (fun o => HB5.out.alloc HZ5.out o); have HT6 := Lib.hid (fun o => HT5.out.below ((Below.refl _ _).alloc (Nat.le_refl _) o)); have HZ6 : Hid (∀ o, H ≤ (w5'.alloc o).heap.size) := Lib.hid (fun o => by have := (HT6.out o).cur.lt; omega); have x2' : ∀ o, (w5'.alloc o).cell? ⟨H, 2, none⟩ = some u1 := fun o => (HT6.out o).cur.c2; have HD5 := Lib.hid hd5; have HY5 := Lib.hid hy5; clear hd5 hy5 hb5')
            refine hK.out _ _ ?_ (fun hHeld2 => ?_)
            · (try dsimp only); (first | (with_reducible assumption) | (with_reducible exact HSX.out _ BDo.out) | (with_reducible exact HSX.out _ HB5.out) | (with_reducible exact HSX.out _ (HB6.out _)) | (with_reducible exact HSX.out _ (HQY.out _)))
            clear hK K hHeld
            have hHeld := hHeld2
            clear hHeld2
            refine wpAnyH_ready (rs := [1, 28]) (by as_aux_lemma => kernel_rfl) (by simp) ?_
            refine AllReadyH.cons rfl (fun K hK => ?_) (AllReadyH.cons rfl (fun K hK => ?_) AllReadyH.nil)
            go_simp
            refine hK.out _ _ ?_ (fun hHeld2 => ?_)
            · (try dsimp only); (first | (with_reducible assumption) | (with_reducible exact HSX.out _ BDo.out) | (with_reducible exact HSX.out _ HB5.out) | (with_reducible exact HSX.out _ (HB6.out _)) | (with_reducible exact HSX.out _ (HQY.out _)))
            clear hK K hHeld
            have hHeld := hHeld2
            clear hHeld2
            refine wpAnyH_ready (rs := [28]) (by as_aux_lemma => kernel_rfl) (by simp) ?_
            refine AllReadyH.cons rfl (fun K hK => ?_) AllReadyH.nil
            go_simp
            refine hK.out _ _ ?_ (fun hHeld2 => ?_)
            · (try dsimp only); (first | (with_reducible assumption) | (with_reducible exact HSX.out _ BDo.out) | (with_reducible exact HSX.out _ HB5.out) | (with_reducible exact HSX.out _ (HB6.out _)) | (with_reducible exact HSX.out _ (HQY.out _)))
            clear hK K hHeld
            have hHeld := hHeld2
            clear hHeld2
            refine wpAnyH_ready (rs := [29]) (by as_aux_lemma => kernel_rfl) (by simp) ?_
            refine AllReadyH.cons rfl (fun K hK => ?_) AllReadyH.nil
            (refine step_append_P _ rfl (.tmp 57) (.tmp 84) rfl u1 l pp rfl (HT6.out _).ps w5'.heap.size rfl ⟨A5', d5', PV.new w5' _ _ _ _ _ _, HD5.out.below ((Below.refl _ _).alloc (Nat.le_refl _) _), HY5.out⟩ HLN.out.1 (HZ6.out _) ?_; intro v9 w9 hl9 hb9 hz9 ht9; obtain ⟨A9, c9, hv9⟩ := hl9.form; subst hv9; obtain ⟨q3, q4⟩ := (HT6.out _).appP hb9 ht9 hl9; have HT9 := Lib.hid q4; have qx := HSX.out _ (hb9 _ (HB6.out _)); have HQY : Hid (∀ v, Below H wo (w9.setCell ⟨H, 2, none⟩ v)) := Lib.hid (fun v => (hb9 _ (HB6.out _)).setCell (p := ⟨H, 2, none⟩) (Nat.le_refl _) v); have qf := q3.f; have q3c := q3.c2; clear q3 q4 hl9 hb9 hz9 ht9)
            refine hK.out _ _ ?_ (fun hHeld2 => ?_)
            · (try dsimp only); (first | (with_reducible assumption) | (with_reducible exact HSX.out _ BDo.out) | (with_reducible exact HSX.out _ HB5.out) | (with_reducible exact HSX.out _ (HB6.out _)) | (with_reducible exact HSX.out _ (HQY.out _)))
            clear hK K hHeld
            have hHeld := hHeld2
            clear hHeld2
            refine wpAnyH_take (i := 30) (v := ?_) rfl (by as_aux_lemma => kernel_rfl) (by as_aux_lemma => kernel_rfl) (by as_aux_lemma => kernel_rfl) (fun _ _ _ h => h) (Or.inl ⟨by rfl, ?_⟩) (by assumption) ?_
            rotate_left
            · intro w hSw; (try dsimp only at hSw); go_simp; (try with_reducible rfl)
            simp only [Act.put, List.getElem_toArray, List.getElem_cons_zero, List.getElem_cons_succ, List.setIfInBounds_toArray, List.set_cons_zero, List.set_cons_succ]
            refine wpAnyH_ready (rs := [31]) (by as_aux_lemma => kernel_rfl) (by simp) ?_
            refine AllReadyH.cons rfl (fun K hK => ?_) AllReadyH.nil
            go_simp
            refine hK.out _ _ ?_ (fun hHeld2 => ?_)
            · (try dsimp only); (first | (with_reducible assumption) | (with_reducible exact HSX.out _ BDo.out) | (with_reducible exact HSX.out _ HB5.out) | (with_reducible exact HSX.out _ (HB6.out _)) | (with_reducible exact HSX.out _ (HQY.out _)))
            clear hK K hHeld
            have hHeld := hHeld2
            clear hHeld2
            refine wpAnyH_done (by as_aux_lemma => kernel_rfl) ?_ _
            rotate_left
            go_simp
            refine hK.out _ _ ?_ (fun hHeld2 => ?_)
            · (try dsimp only); (first | (with_reducible assumption) | (with_reducible exact HSX.out _ BDo.out) | (with_reducible exact HSX.out _ HB5.out) | (with_reducible exact HSX.out _ (HB6.out _)) | (with_reducible exact HSX.out _ (HQY.out _)))
            clear hK K hHeld
            have hHeld := hHeld2
            clear hHeld2
            refine wpAnyH_ready (rs := [1]) (by as_aux_lemma => kernel_rfl) (by simp) ?_
            refine AllReadyH.cons rfl (fun K hK => ?_) AllReadyH.nil
            go_simp
            refine hK.out _ _ ?_ (fun hHeld2 => ?_)
            · (try dsimp only); (first | (with_reducible assumption) | (with_reducible exact HSX.out _ BDo.out) | (with_reducible exact HSX.out _ HB5.out) | (with_reducible exact HSX.out _ (HB6.out _)) | (with_reducible exact HSX.out _ (HQY.out _)))
            clear hK K hHeld
            have hHeld := hHeld2
            clear hHeld2
            refine wpAnyH_ready (rs := [29]) (by as_aux_lemma => kernel_rfl) (by simp) ?_
            refine AllReadyH.cons rfl (fun K hK => ?_) AllReadyH.nil
            (refine step_append_P _ rfl (.tmp 57) (.tmp 84) rfl u1 l pp rfl (HT6.out _).ps w5'.heap.size rfl ⟨A5', d5', PV.new w5' _ _ _ _ _ _, HD5.out.below ((Below.refl _ _).alloc (Nat.le_refl _) _), HY5.out⟩ HLN.out.1 (HZ6.out _) ?_; intro v9 w9 hl9 hb9 hz9 ht9; obtain ⟨A9, c9, hv9⟩ := hl9.form; subst hv9; obtain ⟨q3, q4⟩ := (HT6.out _).appP hb9 ht9 hl9; have HT9 := Lib.hid q4; have qx := HSX.out _ (hb9 _ (HB6.out _)); have HQY : Hid (∀ v, Below H wo (w9.setCell ⟨H, 2, none⟩ v)) := Lib.hid (fun v => (hb9 _ (HB6.out _)).setCell (p := ⟨H, 2, none⟩) (Nat.le_refl _) v); have qf := q3.f; have q3c := q3.c2; clear q3 q4 hl9 hb9 hz9 ht9)
            refine hK.out _ _ ?_ (fun hHeld2 => ?_)
            · (try dsimp only); (first | (with_reducible assumption) | (with_reducible exact HSX.out _ BDo.out) | (with_reducible exact HSX.out _ HB5.out) | (with_reducible exact HSX.out _ (HB6.out _)) | (with_reducible exact HSX.out _ (HQY.out _)))
            clear hK K hHeld
            have hHeld := hHeld2
            clear hHeld2
            refine wpAnyH_take (i := 30) (v := ?_) rfl (by as_aux_lemma => kernel_rfl) (by as_aux_lemma => kernel_rfl) (by as_aux_lemma => kernel_rfl) (fun _ _ _ h => h) (Or.inl ⟨by rfl, ?_⟩) (by assumption) ?_
            rotate_left
            · intro w hSw; (try dsimp only at hSw); go_simp; (try with_reducible rfl)
            simp only [Act.put, List.getElem_toArray, List.getElem_cons_zero, List.getElem_cons_succ, List.setIfInBounds_toArray, List.set_cons_zero, List.set_cons_succ]
            refine wpAnyH_ready (rs := [31]) (by as_aux_lemma => kernel_rfl) (by simp) ?_
            refine AllReadyH.cons rfl (fun K hK => ?_) AllReadyH.nil
            go_simp
            refine hK.out _ _ ?_ (fun hHeld2 => ?_)
            · (try dsimp only); (first | (with_reducible assumption) | (with_reducible exact HSX.out _ BDo.out) | (with_reducible exact HSX.out _ HB5.out) | (with_reducible exact HSX.out _ (HB6.out _)) | (with_reducible exact HSX.out _ (HQY.out _)))
            clear hK K hHeld
            have hHeld := hHeld2
            clear hHeld2
            refine wpAnyH_done (by as_aux_lemma => kernel_rfl) ?_ _
            rotate_left
            all_goals
              go_wp2_with fail
              go_roundg (6 - (i + 1))
              case measure => omega
              case rel =>
                have h := HT9.out
                rw [List.length_append] at h
                exact ⟨i + 1, _, _, _, _, by go_num, by omega, rfl, by rw [List.length_append, ← HLM.out]; simp; omega, Lib.hid h⟩
          · have hip' : ¬ (i : Int) < (q2 : Int) := by omega
            obtain ⟨pp, hppb, hpp⟩ := hintent xs1 xs2 xs4 xs5 hb5
            have HPC := Lib.hid (hpp wo.drew)
            clear hpp hppb
            go_wp2_with fail
            refine wp_region_held_drew (S := (fun W => W.cell? ⟨g, o + i * 6 + 1, none⟩ = some (.int .i64 xs1) ∧ W.cell? ⟨g, o + i * 6 + 2, none⟩ = some (.int .i64 xs2) ∧ W.cell? ⟨g, o + i * 6 + 3, none⟩ = some (.int .i64 xs3) ∧ W.cell? ⟨g, o + i * 6 + 4, none⟩ = some (.int .i64 xs4) ∧ W.cell? ⟨g, o + i * 6 + 5, none⟩ = some (.int .i64 xs5))) (by as_aux_lemma => kernel_rfl) ?_ (fun hHeld => ?_)
            · (first | (with_reducible assumption) | (with_reducible exact HSX.out _ BDo.out) | (with_reducible exact HSX.out _ HB5.out) | (with_reducible exact HSX.out _ (HB6.out _)) | (with_reducible exact HSX.out _ (HQY.out _)))
            refine wpAnyH_take (i := 0) (v := ?_) rfl (by as_aux_lemma => kernel_rfl) (by as_aux_lemma => kernel_rfl) (by as_aux_lemma => kernel_rfl) (fun _ _ _ h => h) (Or.inl ⟨by rfl, ?_⟩) (by assumption) ?_
            rotate_left
            · intro w hSw; (try dsimp only at hSw); go_simp; (try with_reducible rfl)
            simp only [Act.put, List.getElem_toArray, List.getElem_cons_zero, List.setIfInBounds_toArray, List.set_cons_zero, List.set_cons_succ]
            refine wpAnyH_take (i := 2) (v := ?_) rfl (by as_aux_lemma => kernel_rfl) (by as_aux_lemma => kernel_rfl) (by as_aux_lemma => kernel_rfl) (fun _ _ _ h => h) (Or.inl ⟨by rfl, ?_⟩) (by assumption) ?_
            rotate_left
            · intro w hSw; (try dsimp only at hSw); go_simp; (try with_reducible rfl)
            simp only [Act.put, List.getElem_toArray, List.getElem_cons_zero, List.getElem_cons_succ, List.setIfInBounds_toArray, List.set_cons_zero, List.set_cons_succ]
            refine wpAnyH_take (i := 3) (v := ?_) rfl (by as_aux_lemma => kernel_rfl) (by as_aux_lemma => kernel_rfl) (by as_aux_lemma => kernel_rfl) (fun _ _ _ h => h) (Or.inl ⟨by rfl, ?_⟩) (by assumption) ?_
            rotate_left
            · intro w hSw; (try dsimp only at hSw); go_simp; (try with_reducible rfl)
            simp only [Act.put, List.getElem_toArray, List.getElem_cons_zero, List.getElem_cons_succ, List.setIfInBounds_toArray, List.set_cons_zero, List.set_cons_succ]
            refine wpAnyH_take (i := 4) (v := ?_) rfl (by as_aux_lemma => kernel_rfl) (by as_aux_lemma => kernel_rfl) (by as_aux_lemma => kernel_rfl) (fun _ _ _ h => h) (Or.inl ⟨by rfl, ?_⟩) (by assumption) ?_
            rotate_left
            · intro w hSw; (try dsimp only at hSw); go_simp; (try with_reducible rfl)
            simp only [Act.put, List.getElem_toArray, List.getElem_cons_zero, List.getElem_cons_succ, List.setIfInBounds_toArray, List.set_cons_zero, List.set_cons_succ]
            refine wpAnyH_take (i := 5) (v := ?_) rfl (by as_aux_lemma => kernel_rfl) (by as_aux_lemma => kernel_rfl) (by as_aux_lemma => kernel_rfl) (fun _ _ _ h => h) (Or.inl ⟨by rfl, ?_⟩) (by assumption) ?_
            rotate_left
            · intro w hSw; (try dsimp only at hSw); go_simp; (try with_reducible rfl)
            simp only [Act.put, List.getElem_toArray, List.getElem_cons_zero, List.getElem_cons_succ, List.setIfInBounds_toArray, List.set_cons_zero, List.set_cons_succ]
            refine wpAnyH_take (i := 6) (v := ?_) rfl (by as_aux_lemma => kernel_rfl) (by as_aux_lemma => kernel_rfl) (by as_aux_lemma => kernel_rfl) (fun _ _ _ h => h) (Or.inl ⟨by rfl, ?_⟩) (by assumption) ?_
            rotate_left
            · intro w hSw; (try dsimp only at hSw); go_simp; (try with_reducible rfl)
            simp only [Act.put, List.getElem_toArray, List.getElem_cons_zero, List.getElem_cons_succ, List.setIfInBounds_toArray, List.set_cons_zero, List.set_cons_succ]
            refine wpAnyH_take (i := 7) (v := ?_) rfl (by as_aux_lemma => kernel_rfl) (by as_aux_lemma => kernel_rfl) (by as_aux_lemma => kernel_rfl) (fun _ _ _ h => h) (Or.inl ⟨by rfl, ?_⟩) (by assumption) ?_
            rotate_left
            · intro w hSw; (try dsimp only at hSw); go_simp; (try with_reducible rfl)
            simp only [Act.put, List.getElem_toArray, List.getElem_cons_zero, List.getElem_cons_succ, List.setIfInBounds_toArray, List.set_cons_zero, List.set_cons_succ]
            refine wpAnyH_take (i := 8) (v := ?_) rfl (by as_aux_lemma => kernel_rfl) (by as_aux_lemma => kernel_rfl) (by as_aux_lemma => kernel_rfl) (fun _ _ _ h => h) (Or.inl ⟨by rfl, ?_⟩) (by assumption) ?_
            rotate_left
            · intro w hSw; (try dsimp only at hSw); go_simp; (try with_reducible rfl)
            simp only [Act.put, List.getElem_toArray, List.getElem_cons_zero, List.getElem_cons_succ, List.setIfInBounds_toArray, List.set_cons_zero, List.set_cons_succ]
            refine wpAnyH_take (i := 9) (v := ?_) rfl (by as_aux_lemma => kernel_rfl) (by as_aux_lemma => kernel_rfl) (by as_aux_lemma => kernel_rfl) (fun _ _ _ h => h) (Or.inl ⟨by rfl, ?_⟩) (by assumption) ?_
            rotate_left
            · intro w hSw; (try dsimp only at hSw); go_simp; (try with_reducible rfl)
            simp only [Act.put, List.getElem_toArray, List.getElem_cons_zero, List.getElem_cons_succ, List.setIfInBounds_toArray, List.set_cons_zero, List.set_cons_succ]
            refine wpAnyH_take (i := 10) (v := ?_) rfl (by as_aux_lemma => kernel_rfl) (by as_aux_lemma => kernel_rfl) (by as_aux_lemma => kernel_rfl) (fun _ _ _ h => h) (Or.inl ⟨by rfl, ?_⟩) (by assumption) ?_
            rotate_left
            · intro w hSw; (try dsimp only at hSw); go_simp; (try with_reducible rfl)
            simp only [Act.put, List.getElem_toArray, List.getElem_cons_zero, List.getElem_cons_succ, List.setIfInBounds_toArray, List.set_cons_zero, List.set_cons_succ]
            refine wpAnyH_take (i := 11) (v := ?_) rfl (by as_aux_lemma => kernel_rfl) (by as_aux_lemma => kernel_rfl) (by as_aux_lemma => kernel_rfl) (fun _ _ _ h => h) (Or.inl ⟨by rfl, ?_⟩) (by assumption) ?_
            rotate_left
            · intro w hSw; (try dsimp only at hSw); go_simp; (try with_reducible rfl)
            simp only [Act.put, List.getElem_toArray, List.getElem_cons_zero, List.getElem_cons_succ, List.setIfInBounds_toArray, List.set_cons_zero, List.set_cons_succ]
            refine wpAnyH_take (i := 12) (v := ?_) rfl (by as_aux_lemma => kernel_rfl) (by as_aux_lemma => kernel_rfl) (by as_aux_lemma => kernel_rfl) (fun _ _ _ h => h) (Or.inl ⟨by rfl, ?_⟩) (by assumption) ?_
            rotate_left
            · intro w hSw; (try dsimp only at hSw); go_simp; (try with_reducible rfl)
            simp only [Act.put, List.getElem_toArray, List.getElem_cons_zero, List.getElem_cons_succ, List.setIfInBounds_toArray, List.set_cons_zero, List.set_cons_succ]
            refine wpAnyH_take (i := 13) (v := ?_) rfl (by as_aux_lemma => kernel_rfl) (by as_aux_lemma => kernel_rfl) (by as_aux_lemma => kernel_rfl) (fun _ _ _ h => h) (Or.inl ⟨by rfl, ?_⟩) (by assumption) ?_
            rotate_left
            · intro w hSw; (try dsimp only at hSw); go_simp; (try with_reducible rfl)
            simp only [Act.put, List.getElem_toArray, List.getElem_cons_zero, List.getElem_cons_succ, List.setIfInBounds_toArray, List.set_cons_zero, List.set_cons_succ]
            refine wpAnyH_take (i := 14) (v := ?_) rfl (by as_aux_lemma => kernel_rfl) (by as_aux_lemma => kernel_rfl) (by as_aux_lemma => kernel_rfl) (fun _ _ _ h => h) (Or.inl ⟨by rfl, ?_⟩) (by assumption) ?_
            rotate_left
            · intro w hSw; (try dsimp only at hSw); go_simp; (try with_reducible rfl)
            simp only [Act.put, List.getElem_toArray, List.getElem_cons_zero, List.getElem_cons_succ, List.setIfInBounds_toArray, List.set_cons_zero, List.set_cons_succ]
            refine wpAnyH_take (i := 15) (v := ?_) rfl (by as_aux_lemma => kernel_rfl) (by as_aux_lemma => kernel_rfl) (by as_aux_lemma => kernel_rfl) (fun _ _ _ h => h) (Or.inl ⟨by rfl, ?_⟩) (by assumption) ?_
            rotate_left
            · intro w hSw; (try dsimp only at hSw); go_simp; (try with_reducible rfl)
            simp only [Act.put, List.getElem_toArray, List.getElem_cons_zero, List.getElem_cons_succ, List.setIfInBounds_toArray, List.set_cons_zero, List.set_cons_succ]
            refine wpAnyH_take (i := 16) (v := ?_) rfl (by as_aux_lemma => kernel_rfl) (by as_aux_lemma => kernel_rfl) (by as_aux_lemma => kernel_rfl) (fun _ _ _ h => h) (Or.inl ⟨by rfl, ?_⟩) (by assumption) ?_
            rotate_left
            · intro w hSw; (try dsimp only at hSw); go_simp; (try with_reducible rfl)
            simp only [Act.put, List.getElem_toArray, List.getElem_cons_zero, List.getElem_cons_succ, List.setIfInBounds_toArray, List.set_cons_zero, List.set_cons_succ]
            refine wpAnyH_take (i := 17) (v := ?_) rfl (by as_aux_lemma => kernel_rfl) (by as_aux_lemma => kernel_rfl) (by as_aux_lemma => kernel_rfl) (fun _ _ _ h => h) (Or.inl ⟨by rfl, ?_⟩) (by assumption) ?_
            rotate_left
            · intro w hSw; (try dsimp only at hSw); go_simp; (try with_reducible rfl)
            simp only [Act.put, List.getElem_toArray, List.getElem_cons_zero, List.getElem_cons_succ, List.setIfInBounds_toArray, List.set_cons_zero, List.set_cons_succ]
            refine wpAnyH_take (i := 18) (v := ?_) rfl (by as_aux_lemma => kernel_rfl) (by as_aux_lemma => kernel_rfl) (by as_aux_lemma => kernel_rfl) (fun _ _ _ h => h) (Or.inl ⟨by rfl, ?_⟩) (by assumption) ?_
            rotate_left
            · intro w hSw; (try dsimp only at hSw); go_simp; (try with_reducible rfl)
            simp only [Act.put, List.getElem_toArray, List.getElem_cons_zero, List.getElem_cons_succ, List.setIfInBounds_toArray, List.set_cons_zero, List.set_cons_succ]
            refine wpAnyH_take (i := 19) (v := ?_) rfl (by as_aux_lemma => kernel_rfl) (by as_aux_lemma => kernel_rfl) (by as_aux_lemma => kernel_rfl) (fun _ _ _ h => h) (Or.inl ⟨by rfl, ?_⟩) (by assumption) ?_
            rotate_left
            · intro w hSw; (try dsimp only at hSw); go_simp; (try with_reducible rfl)
            simp only [Act.put, List.getElem_toArray, List.getElem_cons_zero, List.getElem_cons_succ, List.setIfInBounds_toArray, List.set_cons_zero, List.set_cons_succ]
            refine wpAnyH_take (i := 20) (v := ?_) rfl (by as_aux_lemma => kernel_rfl) (by as_aux_lemma => kernel_rfl) (by as_aux_lemma => kernel_rfl) (fun _ _ _ h => h) (Or.inl ⟨by rfl, ?_⟩) (by assumption) ?_
            rotate_left
            · intro w hSw; (try dsimp only at hSw); go_simp; (try with_reducible rfl)
            simp only [Act.put, List.getElem_toArray, List.getElem_cons_zero, List.getElem_cons_succ, List.setIfInBounds_toArray, List.set_cons_zero, List.set_cons_succ]
            refine wpAnyH_take (i := 21) (v := ?_) rfl (by as_aux_lemma => kernel_rfl) (by as_aux_lemma => kernel_rfl) (by as_aux_lemma => kernel_rfl) (fun _ _ _ h => h) (Or.inl ⟨by rfl, ?_⟩) (by assumption) ?_
            rotate_left
            · intro w hSw; (try dsimp only at hSw); go_simp; (try with_reducible rfl)
            simp only [Act.put, List.getElem_toArray, List.getElem_cons_zero, List.getElem_cons_succ, List.setIfInBounds_toArray, List.set_cons_zero, List.set_cons_succ]
            refine wpAnyH_ready (rs := [1, 22]) (by as_aux_lemma => kernel_rfl) (by simp) ?_
            refine AllReadyH.cons rfl (fun K hK => ?_) (AllReadyH.cons rfl (fun K hK => ?_) AllReadyH.nil)
            go_simp
            refine hK.out _ _ ?_ (fun hHeld2 => ?_)
            · (try dsimp only); (first | (with_reducible assumption) | (with_reducible exact HSX.out _ BDo.out) | (with_reducible exact HSX.out _ HB5.out) | (with_reducible exact HSX.out _ (HB6.out _)) | (with_reducible exact HSX.out _ (HQY.out _)))
            clear hK K hHeld
            have hHeld := hHeld2
            clear hHeld2
            refine wpAnyH_ready (rs := [22]) (by as_aux_lemma => kernel_rfl) (by simp) ?_
            refine AllReadyH.cons rfl (fun K hK => ?_) AllReadyH.nil
            (go_simp; go_at_call 11; (with_reducible refine HPC.out.mono ?_); rintro e w5' ⟨v5, rfl, ⟨A5', d5', rfl, hd5, hy5⟩, hb5'⟩; (try dsimp only); have HT5 := Lib.hid (HVd.out.below hb5'); have x2 := HT5.out.cur.c3; have HB5 : Hid (Below H wo w5') := Lib.hid (BDo.out.trans (hb5'.mono HZ.out)); have HZ5 : Hid (H ≤ w5'.heap.size) := Lib.hid (Nat.le_trans HZ.out HB5.out.size); have HB6 : Hid (∀ o, Below H wo (w5'.alloc o)) := Lib.hid (fun o => HB5.out.alloc HZ5.out o); have HT6 := Lib.hid (fun o => HT5.out.below ((Below.refl _ _).alloc (Nat.le_refl _) o)); have HZ6 : Hid (∀ o, H ≤ (w5'.alloc o).heap.size) := Lib.hid (fun o => by have := (HT6.out o).cur.lt; omega); have x2' : ∀ o, (w5'.alloc o).cell? ⟨H, 3, none⟩ = some u2 := fun o => (HT6.out o).cur.c3; have HD5 := Lib.hid hd5; have HY5 := Lib.hid hy5; clear hd5 hy5 hb5')
            refine hK.out _ _ ?_ (fun hHeld2 => ?_)
            · (try dsimp only); (first | (with_reducible assumption) | (with_reducible exact HSX.out _ BDo.out) | (with_reducible exact HSX.out _ HB5.out) | (with_reducible exact HSX.out _ (HB6.out _)) | (with_reducible exact HSX.out _ (HQY.out _)))
            clear hK K hHeld
            have hHeld := hHeld2
            clear hHeld2
            refine wpAnyH_ready (rs := [23]) (by as_aux_lemma => kernel_rfl) (by simp) ?_
            refine AllReadyH.cons rfl (fun K hK => ?_) AllReadyH.nil
            go_simp
            refine hK.out _ _ ?_ (fun hHeld2 => ?_)
            · (try dsimp only); (first | (with_reducible assumption) | (with_reducible exact HSX.out _ BDo.out) | (with_reducible exact HSX.out _ HB5.out) | (with_reducible exact HSX.out _ (HB6.out _)) | (with_reducible exact HSX.out _ (HQY.out _)))
            clear hK K hHeld
            have hHeld := hHeld2
            clear hHeld2
            refine wpAnyH_ready (rs := [24]) (by as_aux_lemma => kernel_rfl) (by simp) ?_
            refine AllReadyH.cons rfl (fun K hK => ?_) AllReadyH.nil
            (refine step_append_I _ rfl (.tmp 88) (.tmp 110) rfl u2 m pp rfl (HT6.out _).xs w5'.heap.size rfl ⟨A5', d5', IV.new w5' _ _ _ _ _, HD5.out.below ((Below.refl _ _).alloc (Nat.le_refl _) _), HY5.out⟩ HLN.out.2 (HZ6.out _) ?_; intro v9 w9 hl9 hb9 hz9 ht9; obtain ⟨A9, c9, hv9⟩ := hl9.form; subst hv9; obtain ⟨q3, q4⟩ := (HT6.out _).appI hb9 ht9 hl9; have HT9 := Lib.hid q4; have qx := HSX.out _ (hb9 _ (HB6.out _)); have HQY : Hid (∀ v, Below H wo (w9.setCell ⟨H, 3, none⟩ v)) := Lib.hid (fun v => (hb9 _ (HB6.out _)).setCell (p := ⟨H, 3, none⟩) (Nat.le_refl _) v); have qf := q3.f; have q3c := q3.c3; clear q3 q4 hl9 hb9 hz9 ht9)
            refine hK.out _ _ ?_ (fun hHeld2 => ?_)
            · (try dsimp only); (first | (with_reducible assumption) | (with_reducible exact HSX.out _ BDo.out) | (with_reducible exact HSX.out _ HB5.out) | (with_reducible exact HSX.out _ (HB6.out _)) | (with_reducible exact HSX.out _ (HQY.out _)))
            clear hK K hHeld
            have hHeld := hHeld2
            clear hHeld2
            refine wpAnyH_take (i := 25) (v := ?_) rfl (by as_aux_lemma => kernel_rfl) (by as_aux_lemma => kernel_rfl) (by as_aux_lemma => kernel_rfl) (fun _ _ _ h => h) (Or.inl ⟨by rfl, ?_⟩) (by assumption) ?_
            rotate_left
            · intro w hSw; (try dsimp only at hSw); go_simp; (try with_reducible rfl)
            simp only [Act.put, List.getElem_toArray, List.getElem_cons_zero, List.getElem_cons_succ, List.setIfInBounds_toArray, List.set_cons_zero, List.set_cons_succ]
            refine wpAnyH_ready (rs := [26]) (by as_aux_lemma => kernel_rfl) (by simp) ?_
            refine AllReadyH.cons rfl (fun K hK => ?_) AllReadyH.nil
            go_simp
            refine hK.out _ _ ?_ (fun hHeld2 => ?_)
            · (try dsimp only); (first | (with_reducible assumption) | (with_reducible exact HSX.out _ BDo.out) | (with_reducible exact HSX.out _ HB5.out) | (with_reducible exact HSX.out _ (HB6.out _)) | (with_reducible exact HSX.out _ (HQY.out _)))
            clear hK K hHeld
            have hHeld := hHeld2
            clear hHeld2
            refine wpAnyH_done (by as_aux_lemma => kernel_rfl) ?_ _
            rotate_left
            (go_simp; go_at_call 11; (with_reducible refine HPC.out.mono ?_); rintro e w5' ⟨v5, rfl, ⟨A5', d5', rfl, hd5, hy5⟩, hb5'⟩; (try dsimp only); have HT5 := Lib.hid (HVd.out.below hb5'); have x2 := HT5.out.cur.c3; have HB5 : Hid (Below H wo w5') := Lib.hid (BDo.out.trans (hb5'.mono HZ.out)); have HZ5 : Hid (H ≤ w5'.heap.size) := Lib.hid (Nat.le_trans HZ.out HB5.out.size); have HB6 : Hid (∀ o, Below H wo (w5'.alloc o)) := Lib.hid (fun o => HB5.out.alloc HZ5.out o); have HT6 := Lib.hid (fun o => HT5.out.below ((Below.refl _ _).alloc (Nat.le_refl _) o)); have HZ6 : Hid (∀ o, H ≤ (w5'.alloc o).heap.size) := Lib.hid (fun o => by have := (HT6.out o).cur.lt; omega); have x2' : ∀ o, (w5'.alloc o).cell? ⟨H, 3, none⟩ = some u2 := fun o => (HT6.out o).cur.c3; have HD5 := Lib.hid hd5; have HY5 := Lib.hid hy5; clear hd5 hy5 hb5')
            refine hK.out _ _ ?_ (fun hHeld2 => ?_)
            · (try dsimp only); (first | (with_reducible assumption) | (with_reducible exact HSX.out _ BDo.out) | (with_reducible exact HSX.out _ HB5.out) | (with_reducible exact HSX.out _ (HB6.out _)) | (with_reducible exact HSX.out _ (HQY.out _)))
            clear hK K hHeld
            have hHeld := hHeld2
            clear hHeld2
            refine wpAnyH_ready (rs := [1, 23]) (by as_aux_lemma => kernel_rfl) (by simp) ?_
            refine AllReadyH.cons rfl (fun K hK => ?_) (AllReadyH.cons rfl (fun K hK => ?_) AllReadyH.nil)
            go_simp
            refine hK.out _ _ ?_ (fun hHeld2 => ?_)
            · (try dsimp only); (first | (with_reducible assumption) | (with_reducible exact HSX.out _ BDo.out) | (with_reducible exact HSX.out _ HB5.out) | (with_reducible exact HSX.out _ (HB6.out _)) | (with_reducible exact HSX.out _ (HQY.out _)))
            clear hK K hHeld
            have hHeld := hHeld2
            clear hHeld2
            refine wpAnyH_ready (rs := [23]) (by as_aux_lemma => kernel_rfl) (by simp) ?_
            refine AllReadyH.cons rfl (fun K hK => ?_) AllReadyH.nil
            go_simp
            refine hK.out _ _ ?_ (fun hHeld2 => ?_)
            · (try dsimp only); (first | (with_reducible assumption) | (with_reducible exact HSX.out _ BDo.out) | (with_reducible exact HSX.out _ HB5.out) | (with_reducible exact HSX.out _ (HB6.out _)) | (with_reducible exact HSX.out _ (HQY.out _)))
            clear hK K hHeld
            have hHeld := hHeld2
            clear hHeld2
            refine wpAnyH_ready (rs := [24]) (by as_aux_lemma => kernel_rfl) (by simp) ?_
            refine AllReadyH.cons rfl (fun K hK => ?_) AllReadyH.nil
            (refine step_append_I _ rfl (.tmp 88) (.tmp 110) rfl u2 m pp rfl (HT6.out _).xs w5'.heap.size rfl ⟨A5', d5', IV.new w5' _ _ _ _ _, HD5.out.below ((Below.refl _ _).alloc (Nat.le_refl _) _), HY5.out⟩ HLN.out.2 (HZ6.out _) ?_; intro v9 w9 hl9 hb9 hz9 ht9; obtain ⟨A9, c9, hv9⟩ := hl9.form; subst hv9; obtain ⟨q3, q4⟩ := (HT6.out _).appI hb9 ht9 hl9; have HT9 := Lib.hid q4; have qx := HSX.out _ (hb9 _ (HB6.out _)); have HQY : Hid (∀ v, Below H wo (w9.setCell ⟨H, 3, none⟩ v)) := Lib.hid (fun v => (hb9 _ (HB6.out _)).setCell (p := ⟨H, 3, none⟩) (Nat.le_refl _) v); have qf := q3.f; have q3c := q3.c3; clear q3 q4 hl9 hb9 hz9 ht9)
            refine hK.out _ _ ?_ (fun hHeld2 => ?_)
            · (try dsimp only); (first | (with_reducible assumption) | (with_reducible exact HSX.out _ BDo.out) | (with_reducible exact HSX.out _ HB5.out) | (with_reducible exact HSX.out _ (HB6.out _)) | (with_reducible exact HSX.out _ (HQY.out _)))
            clear hK K hHeld
            have hHeld := hHeld2
            clear hHeld2
            refine wpAnyH_take (i := 25) (v := ?_) rfl (by as_aux_lemma => kernel_rfl) (by as_aux_lemma => kernel_rfl) (by as_aux_lemma => kernel_rfl) (fun _ _ _ h => h) (Or.inl ⟨by rfl, ?_⟩) (by assumption) ?_
            rotate_left
            · intro w hSw; (try dsimp only at hSw); go_simp; (try with_reducible rfl)
            simp only [Act.put, List.getElem_toArray, List.getElem_cons_zero, List.getElem_cons_succ, List.setIfInBounds_toArray, List.set_cons_zero, List.set_cons_succ]
            refine wpAnyH_ready (rs := [26]) (by as_aux_lemma => kernel_rfl) (by simp) ?_
            refine AllReadyH.cons rfl (fun K hK => ?_) AllReadyH.nil
            go_simp
            refine hK.out _ _ ?_ (fun hHeld2 => ?_)
            · (try dsimp only); (first | (with_reducible assumption) | (with_reducible exact HSX.out _ BDo.out) | (with_reducible exact HSX.out _ HB5.out) | (with_reducible exact HSX.out _ (HB6.out _)) | (with_reducible exact HSX.out _ (HQY.out _)))
            clear hK K hHeld
            have hHeld := hHeld2
            clear hHeld2
            refine wpAnyH_done (by as_aux_lemma => kernel_rfl) ?_ _
            rotate_left
            go_simp
            refine hK.out _ _ ?_ (fun hHeld2 => ?_)
            · (try dsimp only); (first | (with_reducible assumption) | (with_reducible exact HSX.out _ BDo.out) | (with_reducible exact HSX.out _ HB5.out) | (with_reducible exact HSX.out _ (HB6.out _)) | (with_reducible exact HSX.out _ (HQY.out _)))
            clear hK K hHeld
            have hHeld := hHeld2
            clear hHeld2
            refine wpAnyH_ready (rs := [1]) (by as_aux_lemma => kernel_rfl) (by simp) ?_
            refine AllReadyH.cons rfl (fun K hK => ?_) AllReadyH.nil
            go_simp
            refine hK.out _ _ ?_ (fun hHeld2 => ?_)
            · (try dsimp only); (first | (with_reducible assumption) | (with_reducible exact HSX.out _ BDo.out) | (with_reducible exact HSX.out _ HB5.out) | (with_reducible exact HSX.out _ (HB6.out _)) | (with_reducible exact HSX.out _ (HQY.out _)))
            clear hK K hHeld
            have hHeld := hHeld2
            clear hHeld2
            refine wpAnyH_ready (rs := [24]) (by as_aux_lemma => kernel_rfl) (by simp) ?_
            refine AllReadyH.cons rfl (fun K hK => ?_) AllReadyH.nil
            (refine step_append_I _ rfl (.tmp 88) (.tmp 110) rfl u2 m pp rfl (HT6.out _).xs w5'.heap.size rfl ⟨A5', d5', IV.new w5' _ _ _ _ _, HD5.out.below ((Below.refl _ _).alloc (Nat.le_refl _) _), HY5.out⟩ HLN.out.2 (HZ6.out _) ?_; intro v9 w9 hl9 hb9 hz9 ht9; obtain ⟨A9, c9, hv9⟩ := hl9.form; subst hv9; obtain ⟨q3, q4⟩ := (HT6.out _).appI hb9 ht9 hl9; have HT9 := Lib.hid q4; have qx := HSX.out _ (hb9 _ (HB6.out _)); have HQY : Hid (∀ v, Below H wo (w9.setCell ⟨H, 3, none⟩ v)) := Lib.hid (fun v => (hb9 _ (HB6.out _)).setCell (p := ⟨H, 3, none⟩) (Nat.le_refl _) v); have qf := q3.f; have q3c := q3.c3; clear q3 q4 hl9 hb9 hz9 ht9)
            refine hK.out _ _ ?_ (fun hHeld2 => ?_)
            · (try dsimp only); (first | (with_reducible assumption) | (with_reducible exact HSX.out _ BDo.out) | (with_reducible exact HSX.out _ HB5.out) | (with_reducible exact HSX.out _ (HB6.out _)) | (with_reducible exact HSX.out _ (HQY.out _)))
            clear hK K hHeld
            have hHeld := hHeld2
            clear hHeld2
            refine wpAnyH_take (i := 25) (v := ?_) rfl (by as_aux_lemma => kernel_rfl) (by as_aux_lemma => kernel_rfl) (by as_aux_lemma => kernel_rfl) (fun _ _ _ h => h) (Or.inl ⟨by rfl, ?_⟩) (by assumption) ?_
            rotate_left
            · intro w hSw; (try dsimp only at hSw); go_simp; (try with_reducible rfl)
            simp only [Act.put, List.getElem_toArray, List.getElem_cons_zero, List.getElem_cons_succ, List.setIfInBounds_toArray, List.set_cons_zero, List.set_cons_succ]
            refine wpAnyH_ready (rs := [26]) (by as_aux_lemma => kernel_rfl) (by simp) ?_
            refine AllReadyH.cons rfl (fun K hK => ?_) AllReadyH.nil
            go_simp
            refine hK.out _ _ ?_ (fun hHeld2 => ?_)
            · (try dsimp only); (first | (with_reducible assumption) | (with_reducible exact HSX.out _ BDo.out) | (with_reducible exact HSX.out _ HB5.out) | (with_reducible exact HSX.out _ (HB6.out _)) | (with_reducible exact HSX.out _ (HQY.out _)))
            clear hK K hHeld
            have hHeld := hHeld2
            clear hHeld2
            refine wpAnyH_done (by as_aux_lemma => kernel_rfl) ?_ _
            rotate_left
            all_goals
              go_wp2_with fail
              go_roundg (6 - (i + 1))
              case measure => omega
              case rel =>
                have h := HT9.out
                rw [List.length_append] at h
                exact ⟨i + 1, _, _, _, _, by go_num, by omega, rfl, by rw [List.length_append, ← HLM.out]; simp; omega, Lib.hid h⟩
        | false =>
          clear HBB
          obtain ⟨A1', d1, hu1⟩ := HS.out.ps.form
          obtain ⟨A2', d2, hu2⟩ := HS.out.xs.form
          subst hu1
          subst hu2
          obtain ⟨w3, rfl⟩ : ∃ w3 : World, w3 = wo := ⟨wo, rfl⟩
          obtain ⟨p, hp⟩ : ∃ p : Rx, (⟨cc, bt, l, m⟩ : Rx) = p := ⟨_, rfl⟩
          have HVX : Hid (∀ W, Below w3.heap.size w3 W → RV W H cc bt (.slice A1' l.length d1) (.slice A2' m.length d2) ∧ RVal W (rpv cc bt (.slice A1' l.length d1) (.slice A2' m.length d2)) p) := Lib.hid (fun W hW => by
            have h := HS.out.below hW
            exact ⟨h.cur, by rw [← hp]; exact h.val rfl rfl⟩)
          have HB3 : Hid (Below H w w3) := Lib.hid HS.out.blw
          have HZ3 : Hid (H ≤ w3.heap.size) := Lib.hid (Nat.le_of_lt HS.out.cur.lt)
          have HBY : Hid (By p.lay) := Lib.hid (by rw [← hp]; exact Rx.lay_by HS.out.ps.by_ HS.out.xs.by_)
          have HLM6 : Hid (p.ps.length ≤ 6 ∧ p.xs.length ≤ 6) := Lib.hid (by rw [← hp]; show l.length ≤ 6 ∧ m.length ≤ 6; omega)
          have HL6 : Hid (p.ps.length ≤ 1000000 ∧ p.xs.length ≤ 1000000) := Lib.hid (by have := HLM6.out; omega)
          obtain ⟨ok, hok⟩ := bool_of p.Right
          have HOK := Lib.hid hok
          have k0 := (HVX.out _ (Below.refl _ _)).1.c0
          have k1 := (HVX.out _ (Below.refl _ _)).1.c1
          have k2 := (HVX.out _ (Below.refl _ _)).1.c2
          have k3 := (HVX.out _ (Below.refl _ _)).1.c3
          have HRR := Lib.hid (rrightRep (HVX.out _ (Below.refl _ _)).2 HL6.out.1 HL6.out.2 ok hok)
          unfold rpv at HRR
          clear hp hok hlm hi HS
          go_wp2_with fail
          refine HRR.out.mono ?_
          rintro e w4 ⟨rfl, hb4⟩
          try dsimp only
          clear k0 k1 k2 k3 HRR
          have HB4 : Hid (Below w3.heap.size w3 w4) := Lib.hid hb4
          clear hb4
          have k0 := (HVX.out _ HB4.out).1.c0
          have k1 := (HVX.out _ HB4.out).1.c1
          have k2 := (HVX.out _ HB4.out).1.c2
          have k3 := (HVX.out _ HB4.out).1.c3
          have HLO := Lib.hid (layRO (HVX.out _ HB4.out).2 HL6.out.1 HL6.out.2 ok HOK.out)
          unfold rpv at HLO
          go_wp2_with fail
          refine HLO.out.mono ?_
          rintro e w5 ⟨A5, d5, rfl, hba, hb5⟩
          try dsimp only
          clear k0 k1 k2 k3 HLO
          obtain ⟨LA, hLA⟩ : ∃ LA, (if ok = true then p.lay else []) = LA := ⟨_, rfl⟩
          obtain ⟨er, her⟩ : ∃ er : Int, (if ok = true then (0 : Int) else 1) = er := ⟨_, rfl⟩
          rw [hLA] at hba ⊢
          rw [her]
          obtain ⟨la, hla⟩ : ∃ la, LA.length = la := ⟨_, rfl⟩
          rw [hla]
          have HLL := Lib.hid hLA
          have HER := Lib.hid her
          have HLN := Lib.hid hla
          have HBA := Lib.hid hba
          have HB5 : Hid (Below w3.heap.size w3 w5) := Lib.hid (HB4.out.trans (hb5.mono HB4.out.size))
          clear hLA her hla hba hb5
          go_upto_if 120 with fail
          go_cut [22] from 121 to 122 (fun s15 wx => ∃ A15 c15, s15 = .slice A15 la c15 ∧ Hid (BL wx A15 LA ∧ la ≤ c15 ∧ Below w5.heap.size w5 wx) ∧ Hid (ok = true → ∃ g, A15 = some ⟨g, 0, none⟩))
          case first =>
            cases ok with
            | false =>
              go_wp2_with fail
              go_meet
              exact ⟨none, 0, by rw [← HLN.out, ← HLL.out]; rfl, Lib.hid ⟨by rw [← HLL.out]; exact BL.nil, by rw [← HLN.out, ← HLL.out]; exact Nat.le_refl _, Below.refl _ _⟩, Lib.hid (fun h => by cases h)⟩
            | true =>
              have k0 := (HVX.out _ HB5.out).1.c0
              have k1 := (HVX.out _ HB5.out).1.c1
              have k2 := (HVX.out _ HB5.out).1.c2
              have k3 := (HVX.out _ HB5.out).1.c3
              have HRL := Lib.hid (rlayRep (HVX.out _ HB5.out).2 (HOK.out.1 rfl))
              rw [show p.lay = LA from HLL.out] at HRL
              unfold rpv at HRL
              go_wp2_with fail
              refine HRL.out.mono ?_
              rintro e w6 ⟨g6, c6, rfl, hk6, hb6, hc6, _⟩
              try dsimp only
              rw [HLN.out] at hc6 ⊢
              have HK6 : Hid (BL w6 (some ⟨g6, 0, none⟩) LA) := Lib.hid (BL.blk hk6 rfl (fun _ _ => rfl))
              have HB6 := Lib.hid hb6
              have HC6 := Lib.hid hc6
              clear hk6 hb6 hc6
              go_wp2_with fail
              go_meet
              exact ⟨_, c6, rfl, Lib.hid ⟨HK6.out, HC6.out, HB6.out⟩, Lib.hid (fun _ => ⟨g6, rfl⟩)⟩
          case rest =>
            obtain ⟨A15, c15, rfl, HC, HG⟩ := hcut
            have HBA7 := Lib.hid (HBA.out.below HC.out.2.2)
            have v1 := conv_L d5 HBA7.out
            have v2 := conv_L c15 HC.out.1
            have HSE : Hid ((er == 0) = ok ∧ (er != 1) = ok) := Lib.hid (by rw [← HER.out]; cases ok <;> exact ⟨rfl, rfl⟩)
            obtain ⟨e1, e2⟩ := HSE.out
            rw [HLN.out] at v1 v2
            generalize strOf LA = s1 at v1 v2
            have HB7 : Hid (Below H w wc) := Lib.hid (HB3.out.trans ((HB5.out.trans (HC.out.2.2.mono HB5.out.size)).mono HZ3.out))
            have HFR := Lib.hid (rfew a1 n1 c1 n1 n1 F1 wc (H1.out wc HB7.out) l1 (by omega) (by omega) (by omega))
            obtain ⟨w7, rfl⟩ : ∃ w7 : World, w7 = wc := ⟨wc, rfl⟩
            go_upto_region 17 with fail
            go_cut [141] from 123 to 141 (fun s52 wx => s52 = .bool false ∧ wx = w7)
            case first =>
              cases ok with
              | false =>
                go_wp2_with fail
                go_meet
                exact ⟨rfl, rfl⟩
              | true =>
                go_wp2_with fail
                go_meet
                exact ⟨rfl, rfl⟩
            case rest =>
              obtain ⟨rfl, hwc⟩ := hcut
              obtain rfl := hwc.symm
              clear v1 v2 e1 e2
              go_wp2_with fail
              refine HFR.out.mono ?_
              rintro e w8 ⟨gz, cz, rfl, oz, hb8, _, _, hcz⟩
              try dsimp only
              obtain ⟨Z0, hZ0⟩ : ∃ Z0 : List Nat, Z0 = (List.range n1).map F1 := ⟨_, rfl⟩
              have hz0l : Z0.length = n1 := by rw [hZ0]; simp
              have hz0b : By Z0 := by
                rw [hZ0]
                intro x hx
                obtain ⟨j, hj, rfl⟩ := List.mem_map.1 hx
                exact HBF.out j (List.mem_range.1 hj)
              have hz0 : BL w8 (some ⟨gz, 0, none⟩) Z0 := BL.own oz hz0l (fun j hj => by
                rw [gt_of (by rw [hz0l]; exact hj)]
                simp [hZ0])
              have HZ0 := Lib.hid hz0
              have HZL := Lib.hid hz0l
              have HZB := Lib.hid hz0b
              have HZC : Hid (n1 ≤ cz) := Lib.hid hcz
              have HB8 : Hid (Below H w w8) := Lib.hid (HB7.out.trans (hb8.mono (Nat.le_trans HZ3.out (Nat.le_trans HB5.out.size HC.out.2.2.size))))
              have HA8 := Lib.hid (HC.out.1.below hb8)
              have HB38 : Hid (Below w3.heap.size w3 w8) := Lib.hid ((HB5.out.trans (HC.out.2.2.mono HB5.out.size)).trans (hb8.mono (Nat.le_trans HB5.out.size HC.out.2.2.size)))
              have HLAB : Hid (By LA) := Lib.hid (by rw [← HLL.out]; split; exact HBY.out; exact By.nil)
              have HLM : Hid (la ≤ 2000 ∧ (ok = true → 7 ≤ la)) := Lib.hid (by
                rw [← HLN.out, ← HLL.out]
                by_cases h : ok = true
                · rw [if_pos h, Rx.lay_len (HOK.out.1 h)]
                  have := HLM6.out
                  omega
                · rw [if_neg h]
                  exact ⟨by simp, fun a => absurd a h⟩)
              clear oz hb8 hcz hZ0 hz0l hz0b hz0 HFR
              obtain ⟨bb, hbb⟩ : ∃ bb, (ok && hw0) = bb := ⟨_, rfl⟩
              have HBBB := Lib.hid hbb
              clear hbb
              go_upto_region 20 with fail
              go_cut [151] from 146 to 151 (fun s62 wx => s62 = .bool bb ∧ wx = w8)
              case first =>
                cases ok with
                | false =>
                  go_wp2_with fail
                  go_meet
                  exact ⟨by rw [← HBBB.out]; rfl, rfl⟩
                | true =>
                  go_wp2_with fail
                  go_meet
                  exact ⟨by rw [← HBBB.out]; rfl, rfl⟩
              case rest =>
              obtain ⟨rfl, hwc⟩ := hcut
              obtain rfl := hwc.symm
              go_upto_if 151 with fail
              go_cut [23, 24] from 152 to 187 (fun s16 s17 wx => ∃ gz Z nz cz, s16 = .slice (some ⟨gz, 0, none⟩) nz cz ∧ Hid (BL wx (some ⟨gz, 0, none⟩) Z ∧ Z.length = nz ∧ By Z ∧ nz ≤ cz ∧ nz ≤ 140737488355328 ∧ Below w8.heap.size w8 wx))
              case first =>
                cases bb with
                | false =>
                  go_wp2_with fail
                  go_meet
                  exact ⟨gz, Z0, n1, cz, rfl, Lib.hid ⟨HZ0.out, HZL.out, HZB.out, HZC.out, by omega, Below.refl _ _⟩⟩
                | true =>
                    have hokt : ok = true := by have := HBBB.out; rw [Bool.and_eq_true] at this; exact this.1
                    obtain ⟨gA, rfl⟩ := HG.out hokt
                    have h12 : 7 ≤ la := HLM.out.2 hokt
                    have hla : la ≤ 2000 := HLM.out.1
                    clear hokt
                    have HF2 := Lib.hid (rfew (some ⟨gA, 0, none⟩) la c15 la la (gt LA) w8 (by have := HA8.out.rd; rwa [HLN.out] at this) HC.out.2.1 (by omega) (by omega) (by omega))
                    go_wp2_with fail
                    refine HF2.out.mono ?_
                    rintro e w9 ⟨gy, cy, rfl, oy, hb9, hgy, _, hcy⟩
                    try dsimp only
                    have HK9 : Hid (Blk8 w9 gy LA.length (gt LA)) := Lib.hid (by rw [HLN.out]; exact own_blk oy)
                    have HB9 := Lib.hid hb9
                    have HGY := Lib.hid hgy
                    have HCY := Lib.hid hcy
                    clear oy hb9 hgy hcy HF2
                    go_wp2_with fail
                    go_loopg [24] 2 (fun q s17 v => ∃ (i : Nat) (Z : List Nat), s17 = .int .i64 (i : Int) ∧ i ≤ 2 ∧ q = 2 - i ∧ Hid (Blk8 v gy Z.length (gt Z) ∧ Z.length = la ∧ By Z ∧ Below w8.heap.size w8 v))
                    case atStart => exact ⟨0, LA, rfl, by omega, rfl, Lib.hid ⟨HK9.out, HLN.out, HLAB.out, HB9.out⟩⟩
                    case round =>
                      obtain ⟨i, Z, rfl, hi, rfl, HS⟩ := hrel
                      clear HK9 HB9
                      obtain ⟨wr0, rfl⟩ : ∃ wr0 : World, wr0 = wr := ⟨wr, rfl⟩
                      obtain ⟨b2, hb2⟩ : ∃ b2 : Bool, (decide (i < n3) && decide (i < 2)) = b2 := ⟨_, rfl⟩
                      have HB2 := Lib.hid hb2
                      clear hb2
                      go_upto_region 23 with fail
                      go_cut [163] from 156 to 163 (fun s163 wx => s163 = .bool b2 ∧ wx = wr0)
                      case first =>
                        by_cases g1 : i < n3
                        · have g1' : (i : Int) < (n3 : Int) := by omega
                          by_cases g2 : i < 2
                          · have g2' : (i : Int) < 2 := by omega
                            go_wp2_with fail
                            go_meet
                            exact ⟨by rw [← HB2.out]; simp [g1, g2], rfl⟩
                          · have g2' : ¬ (i : Int) < 2 := by omega
                            go_wp2_with fail
                            go_meet
                            exact ⟨by rw [← HB2.out]; simp [g1, g2], rfl⟩
                        · have g1' : ¬ (i : Int) < (n3 : Int) := by omega
                          go_wp2_with fail
                          go_meet
                          exact ⟨by rw [← HB2.out]; simp [g1], rfl⟩
                      case rest =>
                      obtain ⟨rfl, hwc⟩ := hcut
                      obtain rfl := hwc.symm
                      cases b2 with
                      | true =>
                        have hgo : i < n3 ∧ i < 2 := by have := HB2.out; simp at this; exact this
                        obtain ⟨hi1, hi2⟩ := hgo
                        have g1 : (i : Int) < (n3 : Int) := by omega
                        have g2 : (i : Int) < 2 := by omega
                        have g3 : (0 : Int) ≤ (i : Int) := by omega
                        obtain ⟨z, hz⟩ : ∃ z, xs[i]? = some z := ⟨_, List.getElem?_eq_getElem (by rw [HN3.out]; exact hi1)⟩
                        obtain ⟨ag, ao, rfl, hag, hac⟩ := H3.out wr0 (HB8.out.trans (HS.out.2.2.2.mono (by have := HB8.out.size; have := HH.out; omega))) i z hz
                        obtain ⟨p, lp, hp⟩ := rpickN z la (by omega) (by omega)
                        have PZ := Lib.hid hp
                        have gp : (p : Int) < (la : Int) := by omega
                        have np : (0 : Int) ≤ (p : Int) := by omega
                        obtain ⟨fp, hfp⟩ : ∃ fp, gt Z p = fp := ⟨_, rfl⟩
                        have lpZ : p < Z.length := by rw [HS.out.2.1]; exact lp
                        have c2 := HS.out.1.row8.cell p lpZ
                        have f2 := HS.out.1.row8.free p
                        rw [hfp] at c2
                        have hfl : fp < 256 := by rw [← hfp]; exact HS.out.2.2.1.gt p
                        have hxor := bits_xor_u8 fp y hfl HY.out
                        clear hfp hag hz hp
                        go_wp2_with fail
                        refine (PZ.out _).mono ?_
                        rintro e w' ⟨rfl, hw⟩
                        obtain rfl := hw.symm
                        go_wp2_with fail
                        go_roundg (2 - (i + 1))
                        case measure => omega
                        case rel => exact ⟨i + 1, Z.set p (fp ^^^ y), by go_num, by omega, rfl, Lib.hid ⟨HS.out.1.setL lpZ, by rw [List.length_set]; exact HS.out.2.1, HS.out.2.2.1.set (xor_lt hfl HY.out), HS.out.2.2.2.setCell (p := ⟨gy, p, none⟩) HGY.out _⟩⟩
                      | false =>
                        have hlaI : (la : Int) ≤ (cy : Int) := by have := HCY.out; omega
                        go_wp2_with fail
                        refine (HPK.out _ _).mono ?_
                        rintro e w' ⟨⟨p30, hp30, rfl⟩, hw⟩
                        obtain rfl := hw.symm
                        obtain ⟨dd, hdd, hd1⟩ : ∃ dd : Nat, ((p30 : Int).tdiv 28) = (dd : Int) ∧ dd ≤ 1 := ⟨p30 / 28, by rw [Int.tdiv_eq_ediv_of_nonneg (by omega)]; omega, by omega⟩
                        have HSD := Lib.hid (show BL wr0 (some ⟨gy, 0, none⟩) (Z.take (la - dd)) ∧ (Z.take (la - dd)).length = la - dd ∧ By (Z.take (la - dd)) ∧ la - dd ≤ cy ∧ la - dd ≤ 140737488355328 ∧ Below w8.heap.size w8 wr0 from ⟨(BL.blk HS.out.1 rfl (fun _ _ => rfl)).take _, by rw [List.length_take, HS.out.2.1]; omega, HS.out.2.2.1.take _, by have := HCY.out; omega, by omega, HS.out.2.2.2⟩)
                        have wdd : IntKind.i64.wrap (dd : Int) = (dd : Int) := IntWalk.i64_in _ (by omega)
                        have wds : IntKind.i64.wrap ((la : Int) - (dd : Int)) = (la : Int) - (dd : Int) := IntWalk.i64_in _ (by omega)
                        have ge0 : (0 : Int) ≤ (la : Int) - (dd : Int) := by omega
                        have lec : (la : Int) - (dd : Int) ≤ (cy : Int) := by omega
                        go_wp2_with fail
                        go_meet
                        exact ⟨gy, Z.take (la - dd), la - dd, cy, by go_num, HSD⟩
              case rest =>
                obtain ⟨gq, Z, nz, cq, rfl, HQ⟩ := hcut
                have hq2 := HQ.out.2.1
                have HPR := Lib.hid (creadRep (some ⟨gq, 0, none⟩) Z cq wc HQ.out.1 (by rw [hq2]; exact HQ.out.2.2.2.1) HQ.out.2.2.1 (by rw [hq2]; exact HQ.out.2.2.2.2.1))
                rw [hq2] at HPR
                have HRR : Hid (∀ W, Below wc.heap.size wc W → Calls Try.prog 25 #[.slice (some ⟨gq, 0, none⟩) nz cq] W (RReadR (projR Z) W)) := Lib.hid (fun W hW => by
                  have h := rreadRep gq Z cq W (HQ.out.1.below hW) (by rw [hq2]; exact HQ.out.2.2.2.1) HQ.out.2.2.1 (by rw [hq2]; exact HQ.out.2.2.2.2.1)
                  rwa [hq2] at h)
                obtain ⟨o, ho⟩ : ∃ o, projR Z = o := ⟨_, rfl⟩
                have HQL0 : Hid ((o.getD Rx.no).ps.length ≤ 1000000 ∧ (o.getD Rx.no).xs.length ≤ 1000000) := Lib.hid (by
                  cases o with
                  | none => exact ⟨by show (Rx.no.ps).length ≤ _; decide, by show (Rx.no.xs).length ≤ _; decide⟩
                  | some q =>
                    have hr := (of_projR HQ.out.2.2.1 ho).1
                    exact ⟨by have := hr.2.2.1; show q.ps.length ≤ _; omega, by have := hr.2.2.2.1; show q.xs.length ≤ _; omega⟩)
                rw [ho] at HPR HRR
                obtain ⟨rq, hrq⟩ : ∃ rq, o.getD Rx.no = rq := ⟨_, rfl⟩
                rw [hrq] at HQL0
                obtain ⟨ec, hec⟩ : ∃ ec : Int, (if o.isSome = true then (0 : Int) else 2) = ec := ⟨_, rfl⟩
                obtain ⟨gs, hgs⟩ : ∃ gs : Bool, o.isSome = gs := ⟨_, rfl⟩
                have HEC : Hid ((gs = true → ec = 0) ∧ (gs = false → ec = 2)) := Lib.hid (by rw [← hec, ← hgs]; cases o <;> simp)
                have HWC : Hid (Below w3.heap.size w3 wc) := Lib.hid (HB38.out.trans (HQ.out.2.2.2.2.2.mono HB38.out.size))
                clear hq2 ho
                go_wp2_with fail
                refine HPR.out.mono ?_
                rintro e wd ⟨v, rfl, hv, hbd⟩
                rw [hrq] at hv
                rw [hec]
                obtain ⟨Ar1, cr1, Ar2, cr2, rfl⟩ := hv.form
                try dsimp only
                obtain ⟨wf, hwf⟩ : ∃ wf, wd.alloc (.cells #[.int .i64 rq.code, .int .i64 rq.boot, .slice Ar1 rq.ps.length cr1, .slice Ar2 rq.xs.length cr2] 39) = wf := ⟨_, rfl⟩
                have HR := Lib.hid (RVal.block hv hwf)
                obtain ⟨br, hbrr⟩ : ∃ br, wd.heap.size = br := ⟨_, rfl⟩
                have HWF := Lib.hid hwf
                have HBR := Lib.hid hbrr
                rw [hbrr] at HR
                have HBF2 : Hid (Below wc.heap.size wc wf) := Lib.hid (hbd.trans (HR.out.2.2.mono (by rw [← hbrr]; exact hbd.size)))
                have HRS := Lib.hid (HRR.out wf HBF2.out)
                unfold rpv
                clear hbd hv hwf hbrr HPR
                go_upto_region 28 with fail
                rw [HWF.out, HBR.out]
                go_wp2_with fail
                refine HRS.out.mono ?_
                rintro e wg ⟨v, rfl, hv, hbd⟩
                rw [hrq] at hv
                rw [hgs]
                obtain ⟨As1, cs1, As2, cs2, rfl⟩ := hv.form
                try dsimp only
                obtain ⟨wh, hwh⟩ : ∃ wh, wg.alloc (.cells #[.int .i64 rq.code, .int .i64 rq.boot, .slice As1 rq.ps.length cs1, .slice As2 rq.xs.length cs2] 39) = wh := ⟨_, rfl⟩
                have HS := Lib.hid (RVal.block hv hwh)
                obtain ⟨bs, hbss⟩ : ∃ bs, wg.heap.size = bs := ⟨_, rfl⟩
                have HWHE := Lib.hid hwh
                have HBS := Lib.hid hbss
                rw [hbss] at HS
                have HBH : Hid (Below wf.heap.size wf wh) := Lib.hid (hbd.trans (HS.out.2.2.mono (by rw [← hbss]; exact hbd.size)))
                unfold rpv
                clear hbd hv hwh hbss HRS
                have HW3 : Hid (Below w3.heap.size w3 wh) := Lib.hid (HWC.out.trans ((HBF2.out.trans (HBH.out.mono HBF2.out.size)).mono HWC.out.size))
                have HWH : Hid (Below H w wh) := Lib.hid (HB3.out.trans (HW3.out.mono HZ3.out))
                have HALL : Hid (∀ W, Below wh.heap.size wh W → (RV W H cc bt (.slice A1' l.length d1) (.slice A2' m.length d2) ∧ RVal W (rpv cc bt (.slice A1' l.length d1) (.slice A2' m.length d2)) p) ∧ (RV W br rq.code rq.boot (.slice Ar1 rq.ps.length cr1) (.slice Ar2 rq.xs.length cr2) ∧ RVal W (rpv rq.code rq.boot (.slice Ar1 rq.ps.length cr1) (.slice Ar2 rq.xs.length cr2)) rq) ∧ (RV W bs rq.code rq.boot (.slice As1 rq.ps.length cs1) (.slice As2 rq.xs.length cs2) ∧ RVal W (rpv rq.code rq.boot (.slice As1 rq.ps.length cs1) (.slice As2 rq.xs.length cs2)) rq)) := Lib.hid (fun W hW => by
                  have hf : Below wf.heap.size wf W := HBH.out.trans (hW.mono HBH.out.size)
                  exact ⟨HVX.out W (HW3.out.trans (hW.mono HW3.out.size)), ⟨HR.out.1.below hf, HR.out.2.1.below hf⟩, ⟨HS.out.1.below hW, HS.out.2.1.below hW⟩⟩)
                have HSY : Hid (∀ W, Below wh.heap.size wh W → (W.cell? ⟨H, 0, none⟩ = some (.int .i64 cc) ∧ W.cell? ⟨H, 1, none⟩ = some (.int .i64 bt) ∧ W.cell? ⟨H, 2, none⟩ = some (.slice A1' l.length d1) ∧ W.cell? ⟨H, 3, none⟩ = some (.slice A2' m.length d2)) ∧ (W.cell? ⟨br, 0, none⟩ = some (.int .i64 rq.code) ∧ W.cell? ⟨br, 1, none⟩ = some (.int .i64 rq.boot) ∧ W.cell? ⟨br, 2, none⟩ = some (.slice Ar1 rq.ps.length cr1) ∧ W.cell? ⟨br, 3, none⟩ = some (.slice Ar2 rq.xs.length cr2)) ∧ (W.cell? ⟨bs, 0, none⟩ = some (.int .i64 rq.code) ∧ W.cell? ⟨bs, 1, none⟩ = some (.int .i64 rq.boot) ∧ W.cell? ⟨bs, 2, none⟩ = some (.slice As1 rq.ps.length cs1) ∧ W.cell? ⟨bs, 3, none⟩ = some (.slice As2 rq.xs.length cs2))) := Lib.hid (fun W hW => by
                  obtain ⟨⟨e1, _⟩, ⟨e2, _⟩, ⟨e3, _⟩⟩ := HALL.out W hW
                  exact ⟨⟨e1.c0, e1.c1, e1.c2, e1.c3⟩, ⟨e2.c0, e2.c1, e2.c2, e2.c3⟩, ⟨e3.c0, e3.c1, e3.c2, e3.c3⟩⟩)
                obtain ⟨t, ht⟩ := bool_of (p = rq)
                have HS1 : Hid (∀ W, Below wh.heap.size wh W → Calls Try.prog 26 #[rpv rq.code rq.boot (.slice Ar1 rq.ps.length cr1) (.slice Ar2 rq.xs.length cr2), rpv rq.code rq.boot (.slice As1 rq.ps.length cs1) (.slice As2 rq.xs.length cs2)] W fun e w' => e = .returned (.bool true) ∧ Below W.heap.size W w') := Lib.hid (fun W hW => rsameRep (HALL.out W hW).2.1.2 (HALL.out W hW).2.2.2 HQL0.out.1 HQL0.out.2 HQL0.out.1 HQL0.out.2 true ⟨fun _ => rfl, fun _ => rfl⟩)
                have HS2 : Hid (∀ W, Below wh.heap.size wh W → Calls Try.prog 15 #[rpv cc bt (.slice A1' l.length d1) (.slice A2' m.length d2), rpv rq.code rq.boot (.slice Ar1 rq.ps.length cr1) (.slice Ar2 rq.xs.length cr2)] W fun e w' => e = .returned (.bool t) ∧ Below W.heap.size W w') := Lib.hid (fun W hW => csameRep (HALL.out W hW).1.2 (HALL.out W hW).2.1.2 HL6.out.1 HL6.out.2 HQL0.out.1 HQL0.out.2 t ht)
                have HS3 : Hid (∀ W, Below wh.heap.size wh W → Calls Try.prog 26 #[rpv cc bt (.slice A1' l.length d1) (.slice A2' m.length d2), rpv rq.code rq.boot (.slice As1 rq.ps.length cs1) (.slice As2 rq.xs.length cs2)] W fun e w' => e = .returned (.bool t) ∧ Below W.heap.size W w') := Lib.hid (fun W hW => rsameRep (HALL.out W hW).1.2 (HALL.out W hW).2.2.2 HL6.out.1 HL6.out.2 HQL0.out.1 HQL0.out.2 t ht)
                unfold rpv at HS1 HS2 HS3
                clear ht
                go_upto_region 29 with fail
                rw [HWHE.out, HBS.out]
                have hbW : Below wh.heap.size wh wh.drew := below_drewN 1 wh
                cases gs with
                | false =>
                  obtain rfl : ec = 2 := HEC.out.2 rfl
                  go_wp2_with fail
                  try simp only [List.append_eq, List.cons_append, List.nil_append]
                  refine wp_region_held_drew (S := fun W => (W.cell? ⟨H, 0, none⟩ = some (.int .i64 cc) ∧ W.cell? ⟨H, 1, none⟩ = some (.int .i64 bt) ∧ W.cell? ⟨H, 2, none⟩ = some (.slice A1' l.length d1) ∧ W.cell? ⟨H, 3, none⟩ = some (.slice A2' m.length d2)) ∧ (W.cell? ⟨br, 0, none⟩ = some (.int .i64 rq.code) ∧ W.cell? ⟨br, 1, none⟩ = some (.int .i64 rq.boot) ∧ W.cell? ⟨br, 2, none⟩ = some (.slice Ar1 rq.ps.length cr1) ∧ W.cell? ⟨br, 3, none⟩ = some (.slice Ar2 rq.xs.length cr2)) ∧ (W.cell? ⟨bs, 0, none⟩ = some (.int .i64 rq.code) ∧ W.cell? ⟨bs, 1, none⟩ = some (.int .i64 rq.boot) ∧ W.cell? ⟨bs, 2, none⟩ = some (.slice As1 rq.ps.length cs1) ∧ W.cell? ⟨bs, 3, none⟩ = some (.slice As2 rq.xs.length cs2))) (by as_aux_lemma => kernel_rfl) ?_ (fun hHeld => ?_)
                  · exact HSY.out _ hbW
                  refine wpAnyH_ready (rs := [0]) (by as_aux_lemma => kernel_rfl) (by simp) ?_
                  refine AllReadyH.cons rfl (fun K hK => ?_) AllReadyH.nil
                  go_simp
                  go_wp2_with fail
                  refine (lknown11 _).mono ?_
                  rintro e wn ⟨rfl, hb⟩
                  try dsimp only
                  have hbW' := hbW.trans (hb.mono hbW.size)
                  clear hb hbW
                  have hbW := hbW'
                  clear hbW'
                  refine hK.out _ _ ?_ (fun hHeld2 => ?_)
                  · (try dsimp only); exact HSY.out _ hbW
                  clear hK K hHeld
                  have hHeld := hHeld2
                  clear hHeld2
                  refine wpAnyH_take (i := 1) (v := ?_) rfl (by as_aux_lemma => kernel_rfl) (by as_aux_lemma => kernel_rfl) (by as_aux_lemma => kernel_rfl) (fun _ _ _ h => h) (Or.inl ⟨by rfl, ?_⟩) (by assumption) ?_
                  rotate_left
                  · intro w hSw; (try dsimp only at hSw); go_simp; (try with_reducible rfl)
                  simp only [Act.put, List.getElem_toArray, List.getElem_cons_zero, List.getElem_cons_succ, List.setIfInBounds_toArray, List.set_cons_zero, List.set_cons_succ]
                  refine wpAnyH_take (i := 2) (v := ?_) rfl (by as_aux_lemma => kernel_rfl) (by as_aux_lemma => kernel_rfl) (by as_aux_lemma => kernel_rfl) (fun _ _ _ h => h) (Or.inl ⟨by rfl, ?_⟩) (by assumption) ?_
                  rotate_left
                  · intro w hSw; (try dsimp only at hSw); go_simp; (try with_reducible rfl)
                  simp only [Act.put, List.getElem_toArray, List.getElem_cons_zero, List.getElem_cons_succ, List.setIfInBounds_toArray, List.set_cons_zero, List.set_cons_succ]
                  refine wpAnyH_take (i := 3) (v := ?_) rfl (by as_aux_lemma => kernel_rfl) (by as_aux_lemma => kernel_rfl) (by as_aux_lemma => kernel_rfl) (fun _ _ _ h => h) (Or.inl ⟨by rfl, ?_⟩) (by assumption) ?_
                  rotate_left
                  · intro w hSw; (try dsimp only at hSw); go_simp; (try with_reducible rfl)
                  simp only [Act.put, List.getElem_toArray, List.getElem_cons_zero, List.getElem_cons_succ, List.setIfInBounds_toArray, List.set_cons_zero, List.set_cons_succ]
                  refine wpAnyH_ready (rs := [4]) (by as_aux_lemma => kernel_rfl) (by simp) ?_
                  refine AllReadyH.cons rfl (fun K hK => ?_) AllReadyH.nil
                  go_simp
                  go_wp2_with fail
                  refine (HS1.out _ hbW).mono ?_
                  rintro e wn ⟨rfl, hb⟩
                  try dsimp only
                  have hbW' := hbW.trans (hb.mono hbW.size)
                  clear hb hbW
                  have hbW := hbW'
                  clear hbW'
                  refine hK.out _ _ ?_ (fun hHeld2 => ?_)
                  · (try dsimp only); exact HSY.out _ hbW
                  clear hK K hHeld
                  have hHeld := hHeld2
                  clear hHeld2
                  refine wpAnyH_take (i := 5) (v := ?_) rfl (by as_aux_lemma => kernel_rfl) (by as_aux_lemma => kernel_rfl) (by as_aux_lemma => kernel_rfl) (fun _ _ _ h => h) (Or.inl ⟨by rfl, ?_⟩) (by assumption) ?_
                  rotate_left
                  · intro w hSw; (try dsimp only at hSw); go_simp; (try with_reducible rfl)
                  simp only [Act.put, List.getElem_toArray, List.getElem_cons_zero, List.getElem_cons_succ, List.setIfInBounds_toArray, List.set_cons_zero, List.set_cons_succ]
                  refine wpAnyH_take (i := 6) (v := ?_) rfl (by as_aux_lemma => kernel_rfl) (by as_aux_lemma => kernel_rfl) (by as_aux_lemma => kernel_rfl) (fun _ _ _ h => h) (Or.inl ⟨by rfl, ?_⟩) (by assumption) ?_
                  rotate_left
                  · intro w hSw; (try dsimp only at hSw); go_simp; (try with_reducible rfl)
                  simp only [Act.put, List.getElem_toArray, List.getElem_cons_zero, List.getElem_cons_succ, List.setIfInBounds_toArray, List.set_cons_zero, List.set_cons_succ]
                  refine wpAnyH_take (i := 7) (v := ?_) rfl (by as_aux_lemma => kernel_rfl) (by as_aux_lemma => kernel_rfl) (by as_aux_lemma => kernel_rfl) (fun _ _ _ h => h) (Or.inl ⟨by rfl, ?_⟩) (by assumption) ?_
                  rotate_left
                  · intro w hSw; (try dsimp only at hSw); go_simp; (try with_reducible rfl)
                  simp only [Act.put, List.getElem_toArray, List.getElem_cons_zero, List.getElem_cons_succ, List.setIfInBounds_toArray, List.set_cons_zero, List.set_cons_succ]
                  refine wpAnyH_take (i := 8) (v := ?_) rfl (by as_aux_lemma => kernel_rfl) (by as_aux_lemma => kernel_rfl) (by as_aux_lemma => kernel_rfl) (fun _ _ _ h => h) (Or.inl ⟨by rfl, ?_⟩) (by assumption) ?_
                  rotate_left
                  · intro w hSw; (try dsimp only at hSw); go_simp; (try with_reducible rfl)
                  simp only [Act.put, List.getElem_toArray, List.getElem_cons_zero, List.getElem_cons_succ, List.setIfInBounds_toArray, List.set_cons_zero, List.set_cons_succ]
                  refine wpAnyH_take (i := 9) (v := ?_) rfl (by as_aux_lemma => kernel_rfl) (by as_aux_lemma => kernel_rfl) (by as_aux_lemma => kernel_rfl) (fun _ _ _ h => h) (Or.inl ⟨by rfl, ?_⟩) (by assumption) ?_
                  rotate_left
                  · intro w hSw; (try dsimp only at hSw); go_simp; (try with_reducible rfl)
                  simp only [Act.put, List.getElem_toArray, List.getElem_cons_zero, List.getElem_cons_succ, List.setIfInBounds_toArray, List.set_cons_zero, List.set_cons_succ]
                  refine wpAnyH_take (i := 10) (v := ?_) rfl (by as_aux_lemma => kernel_rfl) (by as_aux_lemma => kernel_rfl) (by as_aux_lemma => kernel_rfl) (fun _ _ _ h => h) (Or.inl ⟨by rfl, ?_⟩) (by assumption) ?_
                  rotate_left
                  · intro w hSw; (try dsimp only at hSw); go_simp; (try with_reducible rfl)
                  simp only [Act.put, List.getElem_toArray, List.getElem_cons_zero, List.getElem_cons_succ, List.setIfInBounds_toArray, List.set_cons_zero, List.set_cons_succ]
                  refine wpAnyH_take (i := 11) (v := ?_) rfl (by as_aux_lemma => kernel_rfl) (by as_aux_lemma => kernel_rfl) (by as_aux_lemma => kernel_rfl) (fun _ _ _ h => h) (Or.inl ⟨by rfl, ?_⟩) (by assumption) ?_
                  rotate_left
                  · intro w hSw; (try dsimp only at hSw); go_simp; (try with_reducible rfl)
                  simp only [Act.put, List.getElem_toArray, List.getElem_cons_zero, List.getElem_cons_succ, List.setIfInBounds_toArray, List.set_cons_zero, List.set_cons_succ]
                  refine wpAnyH_take (i := 12) (v := ?_) rfl (by as_aux_lemma => kernel_rfl) (by as_aux_lemma => kernel_rfl) (by as_aux_lemma => kernel_rfl) (fun _ _ _ h => h) (Or.inl ⟨by rfl, ?_⟩) (by assumption) ?_
                  rotate_left
                  · intro w hSw; (try dsimp only at hSw); go_simp; (try with_reducible rfl)
                  simp only [Act.put, List.getElem_toArray, List.getElem_cons_zero, List.getElem_cons_succ, List.setIfInBounds_toArray, List.set_cons_zero, List.set_cons_succ]
                  refine wpAnyH_take (i := 13) (v := ?_) rfl (by as_aux_lemma => kernel_rfl) (by as_aux_lemma => kernel_rfl) (by as_aux_lemma => kernel_rfl) (fun _ _ _ h => h) (Or.inl ⟨by rfl, ?_⟩) (by assumption) ?_
                  rotate_left
                  · intro w hSw; (try dsimp only at hSw); go_simp; (try with_reducible rfl)
                  simp only [Act.put, List.getElem_toArray, List.getElem_cons_zero, List.getElem_cons_succ, List.setIfInBounds_toArray, List.set_cons_zero, List.set_cons_succ]
                  refine wpAnyH_take (i := 14) (v := ?_) rfl (by as_aux_lemma => kernel_rfl) (by as_aux_lemma => kernel_rfl) (by as_aux_lemma => kernel_rfl) (fun _ _ _ h => h) (Or.inl ⟨by rfl, ?_⟩) (by assumption) ?_
                  rotate_left
                  · intro w hSw; (try dsimp only at hSw); go_simp; (try with_reducible rfl)
                  simp only [Act.put, List.getElem_toArray, List.getElem_cons_zero, List.getElem_cons_succ, List.setIfInBounds_toArray, List.set_cons_zero, List.set_cons_succ]
                  refine wpAnyH_take (i := 15) (v := ?_) rfl (by as_aux_lemma => kernel_rfl) (by as_aux_lemma => kernel_rfl) (by as_aux_lemma => kernel_rfl) (fun _ _ _ h => h) (Or.inl ⟨by rfl, ?_⟩) (by assumption) ?_
                  rotate_left
                  · intro w hSw; (try dsimp only at hSw); go_simp; (try with_reducible rfl)
                  simp only [Act.put, List.getElem_toArray, List.getElem_cons_zero, List.getElem_cons_succ, List.setIfInBounds_toArray, List.set_cons_zero, List.set_cons_succ]
                  refine wpAnyH_take (i := 16) (v := ?_) rfl (by as_aux_lemma => kernel_rfl) (by as_aux_lemma => kernel_rfl) (by as_aux_lemma => kernel_rfl) (fun _ _ _ h => h) (Or.inl ⟨by rfl, ?_⟩) (by assumption) ?_
                  rotate_left
                  · intro w hSw; (try dsimp only at hSw); go_simp; (try with_reducible rfl)
                  simp only [Act.put, List.getElem_toArray, List.getElem_cons_zero, List.getElem_cons_succ, List.setIfInBounds_toArray, List.set_cons_zero, List.set_cons_succ]
                  refine wpAnyH_take (i := 17) (v := ?_) rfl (by as_aux_lemma => kernel_rfl) (by as_aux_lemma => kernel_rfl) (by as_aux_lemma => kernel_rfl) (fun _ _ _ h => h) (Or.inl ⟨by rfl, ?_⟩) (by assumption) ?_
                  rotate_left
                  · intro w hSw; (try dsimp only at hSw); go_simp; (try with_reducible rfl)
                  simp only [Act.put, List.getElem_toArray, List.getElem_cons_zero, List.getElem_cons_succ, List.setIfInBounds_toArray, List.set_cons_zero, List.set_cons_succ]
                  refine wpAnyH_take (i := 18) (v := ?_) rfl (by as_aux_lemma => kernel_rfl) (by as_aux_lemma => kernel_rfl) (by as_aux_lemma => kernel_rfl) (fun _ _ _ h => h) (Or.inl ⟨by rfl, ?_⟩) (by assumption) ?_
                  rotate_left
                  · intro w hSw; (try dsimp only at hSw); go_simp; (try with_reducible rfl)
                  simp only [Act.put, List.getElem_toArray, List.getElem_cons_zero, List.getElem_cons_succ, List.setIfInBounds_toArray, List.set_cons_zero, List.set_cons_succ]
                  refine wpAnyH_take (i := 19) (v := ?_) rfl (by as_aux_lemma => kernel_rfl) (by as_aux_lemma => kernel_rfl) (by as_aux_lemma => kernel_rfl) (fun _ _ _ h => h) (Or.inl ⟨by rfl, ?_⟩) (by assumption) ?_
                  rotate_left
                  · intro w hSw; (try dsimp only at hSw); go_simp; (try with_reducible rfl)
                  simp only [Act.put, List.getElem_toArray, List.getElem_cons_zero, List.getElem_cons_succ, List.setIfInBounds_toArray, List.set_cons_zero, List.set_cons_succ]
                  refine wpAnyH_take (i := 20) (v := ?_) rfl (by as_aux_lemma => kernel_rfl) (by as_aux_lemma => kernel_rfl) (by as_aux_lemma => kernel_rfl) (fun _ _ _ h => h) (Or.inl ⟨by rfl, ?_⟩) (by assumption) ?_
                  rotate_left
                  · intro w hSw; (try dsimp only at hSw); go_simp; (try with_reducible rfl)
                  simp only [Act.put, List.getElem_toArray, List.getElem_cons_zero, List.getElem_cons_succ, List.setIfInBounds_toArray, List.set_cons_zero, List.set_cons_succ]
                  refine wpAnyH_take (i := 21) (v := ?_) rfl (by as_aux_lemma => kernel_rfl) (by as_aux_lemma => kernel_rfl) (by as_aux_lemma => kernel_rfl) (fun _ _ _ h => h) (Or.inl ⟨by rfl, ?_⟩) (by assumption) ?_
                  rotate_left
                  · intro w hSw; (try dsimp only at hSw); go_simp; (try with_reducible rfl)
                  simp only [Act.put, List.getElem_toArray, List.getElem_cons_zero, List.getElem_cons_succ, List.setIfInBounds_toArray, List.set_cons_zero, List.set_cons_succ]
                  refine wpAnyH_take (i := 23) (v := ?_) rfl (by as_aux_lemma => kernel_rfl) (by as_aux_lemma => kernel_rfl) (by as_aux_lemma => kernel_rfl) (fun _ _ _ h => h) (Or.inl ⟨by rfl, ?_⟩) (by assumption) ?_
                  rotate_left
                  · intro w hSw; (try dsimp only at hSw); go_simp; (try with_reducible rfl)
                  simp only [Act.put, List.getElem_toArray, List.getElem_cons_zero, List.getElem_cons_succ, List.setIfInBounds_toArray, List.set_cons_zero, List.set_cons_succ]
                  refine wpAnyH_take (i := 24) (v := ?_) rfl (by as_aux_lemma => kernel_rfl) (by as_aux_lemma => kernel_rfl) (by as_aux_lemma => kernel_rfl) (fun _ _ _ h => h) (Or.inl ⟨by rfl, ?_⟩) (by assumption) ?_
                  rotate_left
                  · intro w hSw; (try dsimp only at hSw); go_simp; (try with_reducible rfl)
                  simp only [Act.put, List.getElem_toArray, List.getElem_cons_zero, List.getElem_cons_succ, List.setIfInBounds_toArray, List.set_cons_zero, List.set_cons_succ]
                  refine wpAnyH_ready (rs := [22]) (by as_aux_lemma => kernel_rfl) (by simp) ?_
                  refine AllReadyH.cons rfl (fun K hK => ?_) AllReadyH.nil
                  go_simp
                  go_wp2_with fail
                  refine (HS2.out _ hbW).mono ?_
                  rintro e wn ⟨rfl, hb⟩
                  try dsimp only
                  have hbW' := hbW.trans (hb.mono hbW.size)
                  clear hb hbW
                  have hbW := hbW'
                  clear hbW'
                  refine hK.out _ _ ?_ (fun hHeld2 => ?_)
                  · (try dsimp only); exact HSY.out _ hbW
                  clear hK K hHeld
                  have hHeld := hHeld2
                  clear hHeld2
                  refine wpAnyH_ready (rs := [25]) (by as_aux_lemma => kernel_rfl) (by simp) ?_
                  refine AllReadyH.cons rfl (fun K hK => ?_) AllReadyH.nil
                  go_simp
                  go_wp2_with fail
                  refine (HS3.out _ hbW).mono ?_
                  rintro e wn ⟨rfl, hb⟩
                  try dsimp only
                  have hbW' := hbW.trans (hb.mono hbW.size)
                  clear hb hbW
                  have hbW := hbW'
                  clear hbW'
                  refine hK.out _ _ ?_ (fun hHeld2 => ?_)
                  · (try dsimp only); exact HSY.out _ hbW
                  clear hK K hHeld
                  have hHeld := hHeld2
                  clear hHeld2
                  refine wpAnyH_take (i := 26) (v := ?_) rfl (by as_aux_lemma => kernel_rfl) (by as_aux_lemma => kernel_rfl) (by as_aux_lemma => kernel_rfl) (fun _ _ _ h => h) (Or.inl ⟨by rfl, ?_⟩) (by assumption) ?_
                  rotate_left
                  · intro w hSw; (try dsimp only at hSw); go_simp; (try with_reducible rfl)
                  simp only [Act.put, List.getElem_toArray, List.getElem_cons_zero, List.getElem_cons_succ, List.setIfInBounds_toArray, List.set_cons_zero, List.set_cons_succ]
                  refine wpAnyH_take (i := 27) (v := ?_) rfl (by as_aux_lemma => kernel_rfl) (by as_aux_lemma => kernel_rfl) (by as_aux_lemma => kernel_rfl) (fun _ _ _ h => h) (Or.inl ⟨by rfl, ?_⟩) (by assumption) ?_
                  rotate_left
                  · intro w hSw; (try dsimp only at hSw); go_simp; (try with_reducible rfl)
                  simp only [Act.put, List.getElem_toArray, List.getElem_cons_zero, List.getElem_cons_succ, List.setIfInBounds_toArray, List.set_cons_zero, List.set_cons_succ]
                  refine wpAnyH_take (i := 28) (v := ?_) rfl (by as_aux_lemma => kernel_rfl) (by as_aux_lemma => kernel_rfl) (by as_aux_lemma => kernel_rfl) (fun _ _ _ h => h) (Or.inl ⟨by rfl, ?_⟩) (by assumption) ?_
                  rotate_left
                  · intro w hSw; (try dsimp only at hSw); go_simp; (try with_reducible rfl)
                  simp only [Act.put, List.getElem_toArray, List.getElem_cons_zero, List.getElem_cons_succ, List.setIfInBounds_toArray, List.set_cons_zero, List.set_cons_succ]
                  refine wpAnyH_done (by as_aux_lemma => kernel_rfl) ?_ _
                  go_wp2_with fail
                  go_ret
                  exact ⟨by simp, by rw [HH.out]; exact HWH.out.trans (hbW.mono (by have := HWH.out.size; have := HH.out; omega))⟩
                | true =>
                  obtain rfl : ec = 0 := HEC.out.1 rfl
                  go_wp2_with fail
                  try simp only [List.append_eq, List.cons_append, List.nil_append]
                  refine wp_region_held_drew (S := fun W => (W.cell? ⟨H, 0, none⟩ = some (.int .i64 cc) ∧ W.cell? ⟨H, 1, none⟩ = some (.int .i64 bt) ∧ W.cell? ⟨H, 2, none⟩ = some (.slice A1' l.length d1) ∧ W.cell? ⟨H, 3, none⟩ = some (.slice A2' m.length d2)) ∧ (W.cell? ⟨br, 0, none⟩ = some (.int .i64 rq.code) ∧ W.cell? ⟨br, 1, none⟩ = some (.int .i64 rq.boot) ∧ W.cell? ⟨br, 2, none⟩ = some (.slice Ar1 rq.ps.length cr1) ∧ W.cell? ⟨br, 3, none⟩ = some (.slice Ar2 rq.xs.length cr2)) ∧ (W.cell? ⟨bs, 0, none⟩ = some (.int .i64 rq.code) ∧ W.cell? ⟨bs, 1, none⟩ = some (.int .i64 rq.boot) ∧ W.cell? ⟨bs, 2, none⟩ = some (.slice As1 rq.ps.length cs1) ∧ W.cell? ⟨bs, 3, none⟩ = some (.slice As2 rq.xs.length cs2))) (by as_aux_lemma => kernel_rfl) ?_ (fun hHeld => ?_)
                  · exact HSY.out _ hbW
                  refine wpAnyH_ready (rs := [0]) (by as_aux_lemma => kernel_rfl) (by simp) ?_
                  refine AllReadyH.cons rfl (fun K hK => ?_) AllReadyH.nil
                  go_simp
                  go_wp2_with fail
                  refine (lknown11 _).mono ?_
                  rintro e wn ⟨rfl, hb⟩
                  try dsimp only
                  have hbW' := hbW.trans (hb.mono hbW.size)
                  clear hb hbW
                  have hbW := hbW'
                  clear hbW'
                  refine hK.out _ _ ?_ (fun hHeld2 => ?_)
                  · (try dsimp only); exact HSY.out _ hbW
                  clear hK K hHeld
                  have hHeld := hHeld2
                  clear hHeld2
                  refine wpAnyH_take (i := 1) (v := ?_) rfl (by as_aux_lemma => kernel_rfl) (by as_aux_lemma => kernel_rfl) (by as_aux_lemma => kernel_rfl) (fun _ _ _ h => h) (Or.inl ⟨by rfl, ?_⟩) (by assumption) ?_
                  rotate_left
                  · intro w hSw; (try dsimp only at hSw); go_simp; (try with_reducible rfl)
                  simp only [Act.put, List.getElem_toArray, List.getElem_cons_zero, List.getElem_cons_succ, List.setIfInBounds_toArray, List.set_cons_zero, List.set_cons_succ]
                  refine wpAnyH_take (i := 2) (v := ?_) rfl (by as_aux_lemma => kernel_rfl) (by as_aux_lemma => kernel_rfl) (by as_aux_lemma => kernel_rfl) (fun _ _ _ h => h) (Or.inl ⟨by rfl, ?_⟩) (by assumption) ?_
                  rotate_left
                  · intro w hSw; (try dsimp only at hSw); go_simp; (try with_reducible rfl)
                  simp only [Act.put, List.getElem_toArray, List.getElem_cons_zero, List.getElem_cons_succ, List.setIfInBounds_toArray, List.set_cons_zero, List.set_cons_succ]
                  refine wpAnyH_take (i := 3) (v := ?_) rfl (by as_aux_lemma => kernel_rfl) (by as_aux_lemma => kernel_rfl) (by as_aux_lemma => kernel_rfl) (fun _ _ _ h => h) (Or.inl ⟨by rfl, ?_⟩) (by assumption) ?_
                  rotate_left
                  · intro w hSw; (try dsimp only at hSw); go_simp; (try with_reducible rfl)
                  simp only [Act.put, List.getElem_toArray, List.getElem_cons_zero, List.getElem_cons_succ, List.setIfInBounds_toArray, List.set_cons_zero, List.set_cons_succ]
                  refine wpAnyH_ready (rs := [4]) (by as_aux_lemma => kernel_rfl) (by simp) ?_
                  refine AllReadyH.cons rfl (fun K hK => ?_) AllReadyH.nil
                  go_simp
                  go_wp2_with fail
                  refine (HS1.out _ hbW).mono ?_
                  rintro e wn ⟨rfl, hb⟩
                  try dsimp only
                  have hbW' := hbW.trans (hb.mono hbW.size)
                  clear hb hbW
                  have hbW := hbW'
                  clear hbW'
                  refine hK.out _ _ ?_ (fun hHeld2 => ?_)
                  · (try dsimp only); exact HSY.out _ hbW
                  clear hK K hHeld
                  have hHeld := hHeld2
                  clear hHeld2
                  refine wpAnyH_take (i := 5) (v := ?_) rfl (by as_aux_lemma => kernel_rfl) (by as_aux_lemma => kernel_rfl) (by as_aux_lemma => kernel_rfl) (fun _ _ _ h => h) (Or.inl ⟨by rfl, ?_⟩) (by assumption) ?_
                  rotate_left
                  · intro w hSw; (try dsimp only at hSw); go_simp; (try with_reducible rfl)
                  simp only [Act.put, List.getElem_toArray, List.getElem_cons_zero, List.getElem_cons_succ, List.setIfInBounds_toArray, List.set_cons_zero, List.set_cons_succ]
                  refine wpAnyH_take (i := 6) (v := ?_) rfl (by as_aux_lemma => kernel_rfl) (by as_aux_lemma => kernel_rfl) (by as_aux_lemma => kernel_rfl) (fun _ _ _ h => h) (Or.inl ⟨by rfl, ?_⟩) (by assumption) ?_
                  rotate_left
                  · intro w hSw; (try dsimp only at hSw); go_simp; (try with_reducible rfl)
                  simp only [Act.put, List.getElem_toArray, List.getElem_cons_zero, List.getElem_cons_succ, List.setIfInBounds_toArray, List.set_cons_zero, List.set_cons_succ]
                  refine wpAnyH_take (i := 7) (v := ?_) rfl (by as_aux_lemma => kernel_rfl) (by as_aux_lemma => kernel_rfl) (by as_aux_lemma => kernel_rfl) (fun _ _ _ h => h) (Or.inl ⟨by rfl, ?_⟩) (by assumption) ?_
                  rotate_left
                  · intro w hSw; (try dsimp only at hSw); go_simp; (try with_reducible rfl)
                  simp only [Act.put, List.getElem_toArray, List.getElem_cons_zero, List.getElem_cons_succ, List.setIfInBounds_toArray, List.set_cons_zero, List.set_cons_succ]
                  refine wpAnyH_take (i := 8) (v := ?_) rfl (by as_aux_lemma => kernel_rfl) (by as_aux_lemma => kernel_rfl) (by as_aux_lemma => kernel_rfl) (fun _ _ _ h => h) (Or.inl ⟨by rfl, ?_⟩) (by assumption) ?_
                  rotate_left
                  · intro w hSw; (try dsimp only at hSw); go_simp; (try with_reducible rfl)
                  simp only [Act.put, List.getElem_toArray, List.getElem_cons_zero, List.getElem_cons_succ, List.setIfInBounds_toArray, List.set_cons_zero, List.set_cons_succ]
                  refine wpAnyH_take (i := 9) (v := ?_) rfl (by as_aux_lemma => kernel_rfl) (by as_aux_lemma => kernel_rfl) (by as_aux_lemma => kernel_rfl) (fun _ _ _ h => h) (Or.inl ⟨by rfl, ?_⟩) (by assumption) ?_
                  rotate_left
                  · intro w hSw; (try dsimp only at hSw); go_simp; (try with_reducible rfl)
                  simp only [Act.put, List.getElem_toArray, List.getElem_cons_zero, List.getElem_cons_succ, List.setIfInBounds_toArray, List.set_cons_zero, List.set_cons_succ]
                  refine wpAnyH_take (i := 10) (v := ?_) rfl (by as_aux_lemma => kernel_rfl) (by as_aux_lemma => kernel_rfl) (by as_aux_lemma => kernel_rfl) (fun _ _ _ h => h) (Or.inl ⟨by rfl, ?_⟩) (by assumption) ?_
                  rotate_left
                  · intro w hSw; (try dsimp only at hSw); go_simp; (try with_reducible rfl)
                  simp only [Act.put, List.getElem_toArray, List.getElem_cons_zero, List.getElem_cons_succ, List.setIfInBounds_toArray, List.set_cons_zero, List.set_cons_succ]
                  refine wpAnyH_take (i := 11) (v := ?_) rfl (by as_aux_lemma => kernel_rfl) (by as_aux_lemma => kernel_rfl) (by as_aux_lemma => kernel_rfl) (fun _ _ _ h => h) (Or.inl ⟨by rfl, ?_⟩) (by assumption) ?_
                  rotate_left
                  · intro w hSw; (try dsimp only at hSw); go_simp; (try with_reducible rfl)
                  simp only [Act.put, List.getElem_toArray, List.getElem_cons_zero, List.getElem_cons_succ, List.setIfInBounds_toArray, List.set_cons_zero, List.set_cons_succ]
                  refine wpAnyH_take (i := 12) (v := ?_) rfl (by as_aux_lemma => kernel_rfl) (by as_aux_lemma => kernel_rfl) (by as_aux_lemma => kernel_rfl) (fun _ _ _ h => h) (Or.inl ⟨by rfl, ?_⟩) (by assumption) ?_
                  rotate_left
                  · intro w hSw; (try dsimp only at hSw); go_simp; (try with_reducible rfl)
                  simp only [Act.put, List.getElem_toArray, List.getElem_cons_zero, List.getElem_cons_succ, List.setIfInBounds_toArray, List.set_cons_zero, List.set_cons_succ]
                  refine wpAnyH_take (i := 13) (v := ?_) rfl (by as_aux_lemma => kernel_rfl) (by as_aux_lemma => kernel_rfl) (by as_aux_lemma => kernel_rfl) (fun _ _ _ h => h) (Or.inl ⟨by rfl, ?_⟩) (by assumption) ?_
                  rotate_left
                  · intro w hSw; (try dsimp only at hSw); go_simp; (try with_reducible rfl)
                  simp only [Act.put, List.getElem_toArray, List.getElem_cons_zero, List.getElem_cons_succ, List.setIfInBounds_toArray, List.set_cons_zero, List.set_cons_succ]
                  refine wpAnyH_take (i := 14) (v := ?_) rfl (by as_aux_lemma => kernel_rfl) (by as_aux_lemma => kernel_rfl) (by as_aux_lemma => kernel_rfl) (fun _ _ _ h => h) (Or.inl ⟨by rfl, ?_⟩) (by assumption) ?_
                  rotate_left
                  · intro w hSw; (try dsimp only at hSw); go_simp; (try with_reducible rfl)
                  simp only [Act.put, List.getElem_toArray, List.getElem_cons_zero, List.getElem_cons_succ, List.setIfInBounds_toArray, List.set_cons_zero, List.set_cons_succ]
                  refine wpAnyH_take (i := 15) rfl (by as_aux_lemma => kernel_rfl) (by as_aux_lemma => kernel_rfl) (by as_aux_lemma => kernel_rfl) (fun _ _ _ h => h) (Or.inr ⟨by rfl, rfl⟩) (by assumption) ?_
                  simp only [Act.put, List.getElem_toArray, List.getElem_cons_zero, List.getElem_cons_succ, List.setIfInBounds_toArray, List.set_cons_zero, List.set_cons_succ]
                  refine wpAnyH_take (i := 16) rfl (by as_aux_lemma => kernel_rfl) (by as_aux_lemma => kernel_rfl) (by as_aux_lemma => kernel_rfl) (fun _ _ _ h => h) (Or.inr ⟨by rfl, rfl⟩) (by assumption) ?_
                  simp only [Act.put, List.getElem_toArray, List.getElem_cons_zero, List.getElem_cons_succ, List.setIfInBounds_toArray, List.set_cons_zero, List.set_cons_succ]
                  refine wpAnyH_take (i := 17) (v := ?_) rfl (by as_aux_lemma => kernel_rfl) (by as_aux_lemma => kernel_rfl) (by as_aux_lemma => kernel_rfl) (fun _ _ _ h => h) (Or.inl ⟨by rfl, ?_⟩) (by assumption) ?_
                  rotate_left
                  · intro w hSw; (try dsimp only at hSw); go_simp; (try with_reducible rfl)
                  simp only [Act.put, List.getElem_toArray, List.getElem_cons_zero, List.getElem_cons_succ, List.setIfInBounds_toArray, List.set_cons_zero, List.set_cons_succ]
                  refine wpAnyH_take (i := 18) (v := ?_) rfl (by as_aux_lemma => kernel_rfl) (by as_aux_lemma => kernel_rfl) (by as_aux_lemma => kernel_rfl) (fun _ _ _ h => h) (Or.inl ⟨by rfl, ?_⟩) (by assumption) ?_
                  rotate_left
                  · intro w hSw; (try dsimp only at hSw); go_simp; (try with_reducible rfl)
                  simp only [Act.put, List.getElem_toArray, List.getElem_cons_zero, List.getElem_cons_succ, List.setIfInBounds_toArray, List.set_cons_zero, List.set_cons_succ]
                  refine wpAnyH_take (i := 19) (v := ?_) rfl (by as_aux_lemma => kernel_rfl) (by as_aux_lemma => kernel_rfl) (by as_aux_lemma => kernel_rfl) (fun _ _ _ h => h) (Or.inl ⟨by rfl, ?_⟩) (by assumption) ?_
                  rotate_left
                  · intro w hSw; (try dsimp only at hSw); go_simp; (try with_reducible rfl)
                  simp only [Act.put, List.getElem_toArray, List.getElem_cons_zero, List.getElem_cons_succ, List.setIfInBounds_toArray, List.set_cons_zero, List.set_cons_succ]
                  refine wpAnyH_take (i := 20) (v := ?_) rfl (by as_aux_lemma => kernel_rfl) (by as_aux_lemma => kernel_rfl) (by as_aux_lemma => kernel_rfl) (fun _ _ _ h => h) (Or.inl ⟨by rfl, ?_⟩) (by assumption) ?_
                  rotate_left
                  · intro w hSw; (try dsimp only at hSw); go_simp; (try with_reducible rfl)
                  simp only [Act.put, List.getElem_toArray, List.getElem_cons_zero, List.getElem_cons_succ, List.setIfInBounds_toArray, List.set_cons_zero, List.set_cons_succ]
                  refine wpAnyH_take (i := 21) (v := ?_) rfl (by as_aux_lemma => kernel_rfl) (by as_aux_lemma => kernel_rfl) (by as_aux_lemma => kernel_rfl) (fun _ _ _ h => h) (Or.inl ⟨by rfl, ?_⟩) (by assumption) ?_
                  rotate_left
                  · intro w hSw; (try dsimp only at hSw); go_simp; (try with_reducible rfl)
                  simp only [Act.put, List.getElem_toArray, List.getElem_cons_zero, List.getElem_cons_succ, List.setIfInBounds_toArray, List.set_cons_zero, List.set_cons_succ]
                  refine wpAnyH_take (i := 23) (v := ?_) rfl (by as_aux_lemma => kernel_rfl) (by as_aux_lemma => kernel_rfl) (by as_aux_lemma => kernel_rfl) (fun _ _ _ h => h) (Or.inl ⟨by rfl, ?_⟩) (by assumption) ?_
                  rotate_left
                  · intro w hSw; (try dsimp only at hSw); go_simp; (try with_reducible rfl)
                  simp only [Act.put, List.getElem_toArray, List.getElem_cons_zero, List.getElem_cons_succ, List.setIfInBounds_toArray, List.set_cons_zero, List.set_cons_succ]
                  refine wpAnyH_take (i := 24) (v := ?_) rfl (by as_aux_lemma => kernel_rfl) (by as_aux_lemma => kernel_rfl) (by as_aux_lemma => kernel_rfl) (fun _ _ _ h => h) (Or.inl ⟨by rfl, ?_⟩) (by assumption) ?_
                  rotate_left
                  · intro w hSw; (try dsimp only at hSw); go_simp; (try with_reducible rfl)
                  simp only [Act.put, List.getElem_toArray, List.getElem_cons_zero, List.getElem_cons_succ, List.setIfInBounds_toArray, List.set_cons_zero, List.set_cons_succ]
                  refine wpAnyH_ready (rs := [22]) (by as_aux_lemma => kernel_rfl) (by simp) ?_
                  refine AllReadyH.cons rfl (fun K hK => ?_) AllReadyH.nil
                  go_simp
                  go_wp2_with fail
                  refine (HS2.out _ hbW).mono ?_
                  rintro e wn ⟨rfl, hb⟩
                  try dsimp only
                  have hbW' := hbW.trans (hb.mono hbW.size)
                  clear hb hbW
                  have hbW := hbW'
                  clear hbW'
                  refine hK.out _ _ ?_ (fun hHeld2 => ?_)
                  · (try dsimp only); exact HSY.out _ hbW
                  clear hK K hHeld
                  have hHeld := hHeld2
                  clear hHeld2
                  refine wpAnyH_ready (rs := [25]) (by as_aux_lemma => kernel_rfl) (by simp) ?_
                  refine AllReadyH.cons rfl (fun K hK => ?_) AllReadyH.nil
                  go_simp
                  go_wp2_with fail
                  refine (HS3.out _ hbW).mono ?_
                  rintro e wn ⟨rfl, hb⟩
                  try dsimp only
                  have hbW' := hbW.trans (hb.mono hbW.size)
                  clear hb hbW
                  have hbW := hbW'
                  clear hbW'
                  refine hK.out _ _ ?_ (fun hHeld2 => ?_)
                  · (try dsimp only); exact HSY.out _ hbW
                  clear hK K hHeld
                  have hHeld := hHeld2
                  clear hHeld2
                  refine wpAnyH_take (i := 26) (v := ?_) rfl (by as_aux_lemma => kernel_rfl) (by as_aux_lemma => kernel_rfl) (by as_aux_lemma => kernel_rfl) (fun _ _ _ h => h) (Or.inl ⟨by rfl, ?_⟩) (by assumption) ?_
                  rotate_left
                  · intro w hSw; (try dsimp only at hSw); go_simp; (try with_reducible rfl)
                  simp only [Act.put, List.getElem_toArray, List.getElem_cons_zero, List.getElem_cons_succ, List.setIfInBounds_toArray, List.set_cons_zero, List.set_cons_succ]
                  refine wpAnyH_take (i := 27) (v := ?_) rfl (by as_aux_lemma => kernel_rfl) (by as_aux_lemma => kernel_rfl) (by as_aux_lemma => kernel_rfl) (fun _ _ _ h => h) (Or.inl ⟨by rfl, ?_⟩) (by assumption) ?_
                  rotate_left
                  · intro w hSw; (try dsimp only at hSw); go_simp; (try with_reducible rfl)
                  simp only [Act.put, List.getElem_toArray, List.getElem_cons_zero, List.getElem_cons_succ, List.setIfInBounds_toArray, List.set_cons_zero, List.set_cons_succ]
                  refine wpAnyH_take (i := 28) (v := ?_) rfl (by as_aux_lemma => kernel_rfl) (by as_aux_lemma => kernel_rfl) (by as_aux_lemma => kernel_rfl) (fun _ _ _ h => h) (Or.inl ⟨by rfl, ?_⟩) (by assumption) ?_
                  rotate_left
                  · intro w hSw; (try dsimp only at hSw); go_simp; (try with_reducible rfl)
                  simp only [Act.put, List.getElem_toArray, List.getElem_cons_zero, List.getElem_cons_succ, List.setIfInBounds_toArray, List.set_cons_zero, List.set_cons_succ]
                  refine wpAnyH_done (by as_aux_lemma => kernel_rfl) ?_ _
                  go_wp2_with fail
                  go_ret
                  exact ⟨by simp, by rw [HH.out]; exact HWH.out.trans (hbW.mono (by have := HWH.out.size; have := HH.out; omega))⟩
end Go.Proofs.Ytoofgcdilgfclaa
