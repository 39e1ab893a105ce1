import Derived.Test.YtajpnbmfeapmcaaP
namespace Go.Proofs.Ytajpnbmfeapmcaa
open Go.RowKit Go.Sort
set_option maxRecDepth 100000
set_option maxHeartbeats 600000

theorem rmul (a b : Nat) (w : World) (ha : a < 256) (hb : b < 256) : Calls Try.prog 36 #[.int .u8 (a : Int), .int .u8 (b : Int)] w
    fun e w' => e = .returned (.int .u8 (mul a b : Nat)) ∧ w' = w := by
  have := rmulacc a b w ha hb
  rw [acc_mul ha hb] at this
  exact this

/-- The entries. -/
def ent (xss : List (List Nat)) : Mx := fun i j => ((xss[i]?).getD [])[j]?.getD 0
def Bytes (xss : List (List Nat)) : Prop := ∀ (i : Nat) (xs : List Nat), xss[i]? = some xs → ∀ x ∈ xs, x < 256
theorem ent_lt {xss : List (List Nat)} (h : Bytes xss) (i j : Nat) : ent xss i j < 256 := by
  unfold ent
  cases e : xss[i]? with
  | none => simp
  | some xs =>
    simp only [Option.getD_some]
    cases e2 : xs[j]? with
    | none => simp
    | some x => exact h i xs e x (List.mem_of_getElem? e2)
/-- One entry in memory. -/
theorem RawIn.at {w : World} {a : Option Addr} {xss : List (List Nat)} (h : RawIn w a xss) {i j c : Nat} (hi : i < xss.length) (hc : ∀ xs, xss[i]? = some xs → xs.length = c) (hj : j < c) :
    ∃ b o g q cap, a = some ⟨b, o, none⟩ ∧ b < w.heap.size ∧ g < w.heap.size ∧ w.cell? ⟨b, o + i, none⟩ = some (.slice (some ⟨g, q, none⟩) c cap) ∧ w.cell? ⟨g, q + j, none⟩ = some (.int .u8 (ent xss i j : Nat)) := by
  obtain ⟨xs, hxs⟩ : ∃ xs, xss[i]? = some xs := ⟨_, List.getElem?_eq_getElem hi⟩
  obtain ⟨b, o, rfl, hb, g, cap, hcell, hx⟩ := h i xs hxs
  have hl := hc xs hxs
  obtain ⟨x, hxj⟩ : ∃ x, xs[j]? = some x := ⟨_, List.getElem?_eq_getElem (by omega)⟩
  obtain ⟨g', q, rfl, hg, hv⟩ := hx j x hxj
  refine ⟨b, o, g', q, cap, rfl, hb, hg, by rw [← hl]; exact hcell, ?_⟩
  have : ent xss i j = x := by unfold ent; rw [hxs, Option.getD_some, hxj, Option.getD_some]
  rw [this]; exact hv

theorem rmulm (a b : Option Addr) (xss yss : List (List Nat)) (ca cb c : Nat) (w : World) (hx : RawIn w a xss) (hy : RawIn w b yss) (px : RightP xss) (py : RightP yss) (bx : Bytes xss) (bY : Bytes yss)
    (hm : ∀ (i : Nat) (xs : List Nat), xss[i]? = some xs → xs.length = yss.length) (hc : ∀ (i : Nat) (ys : List Nat), yss[i]? = some ys → ys.length = c) :
    Calls Try.prog 38 #[.slice a xss.length ca, .slice b yss.length cb] w fun e w' => ∃ v G, e = .returned v ∧ Rows8 w' w.heap.size v xss.length c G (mm yss.length (ent xss) (ent yss)) ∧ Below w.heap.size w w' := by
  have hr := And.intro px.1 px.2.1
  have hn := And.intro py.1 py.2.1
  have hc1 : 1 ≤ c ∧ c ≤ 64 := by
    obtain ⟨_, _, c', h1, h2, h3⟩ := py
    obtain ⟨y0, hy0⟩ : ∃ y0, yss[0]? = some y0 := ⟨_, List.getElem?_eq_getElem (by omega)⟩
    have := h3 0 y0 hy0
    have := hc 0 y0 hy0
    omega
  obtain ⟨i0, hi0, hz0, hz1, hz2⟩ := info_parts infoRow
  obtain ⟨zs, z1, z2⟩ := make8 c (by omega)
  have HZ := Lib.hid z1
  have HX := Lib.hid hx
  have HY := Lib.hid hy
  have PX := Lib.hid px
  have PY := Lib.hid py
  have BX := Lib.hid (ent_lt bx)
  have BY := Lib.hid (ent_lt bY)
  have HM := Lib.hid (fun i xs => hm i xs)
  have HC := Lib.hid (fun i ys => hc i ys)
  obtain ⟨ab, ao, ag, aq, acap, rfl, hab, hag, a0, _⟩ := hx.at (i := 0) (j := 0) (by omega) (fun xs h => hm 0 xs h) (by omega)
  obtain ⟨bb, bo, bg, bq, bcap, rfl, hbb, hbg, b0, _⟩ := hy.at (i := 0) (j := 0) (by omega) (fun ys h => hc 0 ys h) (by omega)
  rw [Nat.add_zero] at a0 b0
  clear hx hy px py bx bY hm hc z1
  obtain ⟨r, hrl⟩ : ∃ r, xss.length = r := ⟨_, rfl⟩
  obtain ⟨n, hnl⟩ : ∃ n, yss.length = n := ⟨_, rfl⟩
  have HRL := Lib.hid hrl
  have HNL := Lib.hid hnl
  rw [hrl] at hr
  rw [hnl] at hn a0
  obtain ⟨B, hB⟩ : ∃ B, w.heap.size = B := ⟨_, rfl⟩
  have HBB := Lib.hid hB
  rw [hrl, hnl, hB]
  rw [hB] at hab hbb hag hbg
  clear hB hrl hnl
  obtain ⟨P, hP⟩ : ∃ P, P = mm n (ent xss) (ent yss) := ⟨_, rfl⟩
  rw [← hP]
  have HP := Lib.hid hP
  clear hP
  have hr0 : (0 : Int) < (r : Int) := by omega
  have hn0 : (0 : Int) < (n : Int) := by omega
  go_enter Try.func38, Try.ntmps38
  go_wp2_with fail
  have hq := rright (some ⟨ab, ao, none⟩) xss ca w HX.out (by have := HRL.out; omega) true ⟨fun _ => PX.out, fun _ => rfl⟩
  rw [HRL.out] at hq
  refine hq.mono ?_
  clear hq
  rintro e w2 ⟨rfl, b2⟩
  have HB2 : Hid (Below B w w2) := Lib.hid (by rw [← HBB.out]; exact b2)
  clear b2
  go_wp2_with fail
  have hq := rright (some ⟨bb, bo, none⟩) yss cb w2 (HY.out.keep (by rw [HBB.out]; exact HB2.out)) (by have := HNL.out; omega) true ⟨fun _ => PY.out, fun _ => rfl⟩
  rw [HNL.out] at hq
  refine hq.mono ?_
  clear hq
  rintro e w3 ⟨rfl, b3⟩
  have HB3 : Hid (Below B w w3) := Lib.hid (HB2.out.trans (b3.mono (by rw [← HBB.out]; exact HB2.out.size)))
  clear b3 HB2
  have a3 : w3.cell? ⟨ab, ao, none⟩ = some (.slice (some ⟨ag, aq, none⟩) n acap) := (HB3.out.cell (p := ⟨ab, ao, none⟩) hab).trans a0
  go_wp2_with fail
  clear a3 a0
  have H0 : Hid (Rows8 w3 B (.slice none 0 0) 0 c (fun _ => 0) P ∧ Below B w w3) := Lib.hid ⟨Rows8.start _ _ _ _ _, HB3.out⟩
  go_loopg [5, 6] r (fun q s7 s8 v => ∃ (i : Nat) (G : Nat → Nat), s8 = .int .i64 (i : Int) ∧ i ≤ r ∧ q = r - i ∧ Hid (Rows8 v B s7 i c G P ∧ Below B w v))
  case atStart => exact ⟨0, _, rfl, by omega, rfl, H0⟩
  case round =>
    obtain ⟨i, G, rfl, hi, rfl, HS⟩ := hrel
    clear H0
    by_cases hlt : i < r
    · have hl : (i : Int) < (r : Int) := by omega
      obtain ⟨wr0, rfl⟩ : ∃ wr0 : World, wr0 = wr := ⟨wr, rfl⟩
      have d0 : wr0.cell? ⟨bb, bo, none⟩ = some (.slice (some ⟨bg, bq, none⟩) c bcap) := (HS.out.2.cell (p := ⟨bb, bo, none⟩) hbb).trans b0
      go_wp2_with fail
      have HSB : Hid (B ≤ wr0.heap.size) := Lib.hid (by rw [← HBB.out]; exact HS.out.2.size)
      have HA : Hid (Below wr0.heap.size wr0 (wr0.alloc (.cells zs 5))) := Lib.hid ((Below.refl _ _).alloc (Nat.le_refl _) _)
      have HR0 : Hid (Row8 (wr0.alloc (.cells zs 5)) wr0.heap.size c (fun j => if j < 0 then P i j else 0)) := by
        have hb : (wr0.alloc (.cells zs 5)).heap[wr0.heap.size]? = some (.cells zs 5 (0, 0)) := by
          show (wr0.heap.push _)[wr0.heap.size]? = _
          rw [Array.getElem?_push, if_pos rfl]
        refine Lib.hid ⟨fun j hj => ?_, fun k => ?_⟩
        · rw [cell_of_block hb, HZ.out j hj, if_neg (Nat.not_lt_zero _)]; rfl
        · generalize wr0.alloc _ = w1 at *
          simp [World.frozen?, hb]
      have HSZ : Hid ((wr0.alloc (.cells zs 5)).heap.size = wr0.heap.size + 1) := Lib.hid (by simp)
      generalize hw1 : wr0.alloc (.cells zs 5) = w1 at *
      have HW1 := Lib.hid hw1
      clear hw1 d0
      generalize hg : wr0.heap.size = g at *
      have HG := Lib.hid hg
      clear hg
      go_loopg [8] c (fun q s10 v => ∃ k : Nat, s10 = .int .i64 (k : Int) ∧ k ≤ c ∧ q = c - k ∧ Hid (Row8 v g c (fun j => if j < k then P i j else 0) ∧ Below g w1 v))
      case atStart => exact ⟨0, rfl, by omega, rfl, Lib.hid ⟨HR0.out, Below.refl _ _⟩⟩
      case round =>
        obtain ⟨k, rfl, hk, rfl, HK⟩ := hrel
        clear HR0
        by_cases hlk : k < c
        · have hlk' : (k : Int) < (c : Int) := by omega
          obtain ⟨wk, rfl⟩ : ∃ wk : World, wk = wr := ⟨wr, rfl⟩
          go_wp2_with fail
          go_loopg [9] n (fun q s9 v => ∃ j : Nat, s9 = .int .i64 (j : Int) ∧ j ≤ n ∧ q = n - j ∧ Hid (Row8 v g c (fun q => if q < k then P i q else if q = k then sx j (fun t => mul (ent xss i t) (ent yss t k)) else 0) ∧ Below g w1 v))
          case atStart => exact ⟨0, rfl, by omega, rfl, Lib.hid ⟨HK.out.1.congr (fun q _ => by
            by_cases h : q < k
            · rw [if_pos h, if_pos h]
            · rw [if_neg h, if_neg h]
              split <;> rfl), HK.out.2⟩⟩
          case round =>
            obtain ⟨j, rfl, hj, rfl, HJ⟩ := hrel
            by_cases hlj : j < n
            · have hlj' : (j : Int) < (n : Int) := by omega
              obtain ⟨ab', ao', g1, q1, cp1, e, _, hg1, x1, x2⟩ := HX.out.at (i := i) (j := j) (c := n) (by rw [HRL.out]; exact hlt) (fun xs h => (HM.out i xs h).trans HNL.out) hlj
              cases e
              obtain ⟨bb', bo', g2, q2, cp2, e, _, hg2, y1, y2⟩ := HY.out.at (i := j) (j := k) (c := c) (by rw [HNL.out]; exact hlj) (fun ys h => HC.out j ys h) hlk
              cases e
              rw [HBB.out] at hg1 hg2
              have chain : ∀ (bl o : Nat), bl < B → wr.cell? ⟨bl, o, none⟩ = w.cell? ⟨bl, o, none⟩ := fun bl o hbl => by
                have hbg : bl < g := by have := HSB.out; omega
                exact (HJ.out.2.cell (p := ⟨bl, o, none⟩) hbg).trans ((HA.out.cell (p := ⟨bl, o, none⟩) hbg).trans (HS.out.2.cell (p := ⟨bl, o, none⟩) hbl))
              have x1' := (chain ab (ao + i) hab).trans x1
              have x2' := (chain g1 (q1 + j) hg1).trans x2
              have y1' := (chain bb (bo + j) hbb).trans y1
              have y2' := (chain g2 (q2 + k) hg2).trans y2
              have e1 := HJ.out.1.cell k hlk
              have f1 := HJ.out.1.free k
              rw [if_neg (Nat.lt_irrefl k), if_pos rfl] at e1
              have hX := BX.out i j
              have hY := BY.out j k
              have HSX : Hid (sx j (fun t => mul (ent xss i t) (ent yss t k)) < 256) := Lib.hid (sx_lt (fun _ _ => mul_lt _ _))
              have HSS : Hid (sx (j + 1) (fun t => mul (ent xss i t) (ent yss t k)) = sx j (fun t => mul (ent xss i t) (ent yss t k)) ^^^ mul (ent xss i j) (ent yss j k)) := Lib.hid (sx_succ _ _)
              clear chain x1 x2 y1 y2
              obtain ⟨s1, hs1⟩ : ∃ s1, s1 = sx (j + 1) (fun t => mul (ent xss i t) (ent yss t k)) := ⟨_, rfl⟩
              have HS1 := Lib.hid hs1
              rw [← hs1] at HSS
              clear hs1
              have HSL : Hid (s1 < 256) := Lib.hid (by rw [HSS.out]; exact xor_lt HSX.out (mul_lt _ _))
              generalize sx j (fun t => mul (ent xss i t) (ent yss t k)) = s0 at HSX HSS e1
              generalize ent xss i j = xv at HSS x2' hX
              generalize ent yss j k = yv at HSS y2' hY
              go_wp2_with fail
              refine wp_region_still_tail 23 (by kernel_rfl) (by kernel_rfl) ?_
              simp only [List.take_succ_cons, List.take_zero, List.drop_succ_cons, List.drop_zero]
              repeat still_step
              still_call (rmul xv yv _ hX hY)
              repeat still_step
              refine wpStill_nil ?_
              change wpList _ _ _ _ _ wr.drew
              have e1d : wr.drew.cell? ⟨g, k, none⟩ = some (.int .u8 (s0 : Int)) := e1
              have f1d : wr.drew.frozen? ⟨g, k, none⟩ = false := f1
              have hxor := bits_xor_u8 s0 (mul xv yv) HSX.out (mul_lt _ _)
              rw [← HSS.out] at hxor
              go_wp2_with fail
              go_roundg (n - (j + 1))
              case measure => omega
              case rel => exact ⟨j + 1, by go_num, by omega, rfl, Lib.hid ⟨(Row8.put (x := s1) (w := wr.drew) (HJ.out.1.keep rfl) hlk).congr (fun q _ => by
                by_cases e : q = k
                · subst e; rw [if_pos rfl, if_neg (Nat.lt_irrefl _), if_pos rfl]; exact HS1.out
                · rw [if_neg e]
                  by_cases h : q < k
                  · rw [if_pos h, if_pos h]
                  · rw [if_neg h, if_neg h, if_neg e, if_neg e]), (HJ.out.2.drew).setCell (Nat.le_refl _) _⟩⟩
            · have hge : ¬ (j : Int) < (n : Int) := by omega
              have e : j = n := by omega
              subst e
              have HE : Hid (P i k = sx j (fun t => mul (ent xss i t) (ent yss t k))) := Lib.hid (by rw [HP.out]; rfl)
              go_wp2_with fail
              go_roundg (c - (k + 1))
              case measure => omega
              case rel => exact ⟨k + 1, by go_num, by omega, rfl, Lib.hid ⟨HJ.out.1.congr (fun q _ => by
                by_cases h : q < k
                · rw [if_pos h, if_pos (by omega)]
                · rw [if_neg h]
                  by_cases e : q = k
                  · subst e; rw [if_pos rfl, if_pos (by omega), HE.out]
                  · rw [if_neg e, if_neg (by omega)]), HJ.out.2⟩⟩
        · have hge : ¬ (k : Int) < (c : Int) := by omega
          have e : k = c := by omega
          subst e
          have HRW : Hid (Row8 wr g k (P i)) := Lib.hid (HK.out.1.congr (fun j hj => if_pos hj))
          have HBG : Hid (Below g wr0 wr) := Lib.hid (HA.out.trans HK.out.2)
          have HRS := Lib.hid (HS.out.1.keep (w' := wr) (by rw [HG.out]; exact HBG.out))
          have HBW : Hid (Below B w wr) := Lib.hid (HS.out.2.trans (HBG.out.mono HSB.out))
          have HGV : Hid (u5.ownBlock ≠ some g ∧ ∀ i', i' < i → G i' ≠ g) := Lib.hid ⟨fun e => by
            obtain ⟨xs, hx, _⟩ := HS.out.1.own
            have := (hx.lt g e).2
            have := HG.out
            omega, fun i' hi' e => by
            have := (HS.out.1.base i' hi').2
            have := HG.out
            omega⟩
          have HGL : Hid (g < wr.heap.size) := Lib.hid (Nat.lt_of_lt_of_le (by have := HSZ.out; omega) HK.out.2.size)
          clear HK HS HA
          have HB2 : Hid (Below wr.heap.size wr (wr.alloc (.cells #[.slice (some ⟨g, 0, none⟩) k k] 29))) := Lib.hid ((Below.refl _ _).alloc (Nat.le_refl _) _)
          have HRS2 := Lib.hid (HRS.out.keep HB2.out)
          obtain ⟨xs, hx, hxs⟩ := HRS2.out.own
          have HX := Lib.hid hx
          have HXS := Lib.hid hxs
          have hB2 : B ≤ wr.heap.size := by rw [← HBB.out]; exact HBW.out.size
          clear hx hxs
          go_wp2_with (at_builtin; refine append_mine _ rfl _ _ 25 rfl B 29 i0 (.slice none 0 0) 1 24 Try.underlying25 hi0 hz0 hz1 hz2 rfl (by decide) _ i xs rfl HX.out ⟨wr.heap.size, 0, none⟩ 1 1 [.slice (some ⟨g, 0, none⟩) k k] rfl rfl (cell_one_new _ _ _) (by intro u hu; simp at hu; subst hu; rfl) (by unfold maxLen; omega) (by omega) (by simp; omega) (by decide) ?_; intro v' w' own gr hv)
          have HN := Lib.hid (HRS2.out.add HX.out HXS.out (g := g) (HRW.out.keep (HB2.out.block g HGL.out)) HSB.out (Nat.lt_of_lt_of_le HGL.out HB2.out.size) HGV.out.1 HGV.out.2 own gr hv)
          have HBN : Hid (Below B w w') := Lib.hid (Below.grown (HBW.out.trans (HB2.out.mono hB2)) gr (by simp; omega) (fun k hk => (HX.out.lt k hk).1))
          clear own gr hv
          go_wp2_with fail
          go_roundg (r - (i + 1))
          case measure => omega
          case rel => exact ⟨i + 1, _, by go_num, by omega, rfl, Lib.hid ⟨HN.out, HBN.out⟩⟩
    · have hge : ¬ (i : Int) < (r : Int) := by omega
      have e : i = r := by omega
      subst e
      go_wp2_with fail
      go_ret
      exact ⟨_, rfl, ⟨G, HS.out.1⟩, HS.out.2⟩
end Go.Proofs.Ytajpnbmfeapmcaa
