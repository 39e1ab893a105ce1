import Derived.Test.YtajpnbmfeapmcaaK12
import Derived.Test.YtajpnbmfeapmcaaK13
namespace Go.Proofs.Ytajpnbmfeapmcaa
open Go.RowKit Go.Sort
set_option maxRecDepth 100000
set_option maxHeartbeats 2000000

/-- Two lists of places of rows under way at once. -/
structure Duo (w : World) (B : Nat) (s t : Value) (m : Nat) (U V : Nat → Value) : Prop where
  rows : ∃ xs, w.ownsRow B 29 1 s m xs ∧ ∀ l, l < m → xs[l]? = some (U l)
  vals : ∃ ys, w.ownsRow B 29 1 t m ys ∧ ∀ l, l < m → ys[l]? = some (V l)
  ap2 : ∀ b, s.ownBlock = some b → t.ownBlock ≠ some b
theorem Duo.start (w : World) (B : Nat) (U V : Nat → Value) : Duo w B (.slice none 0 0) (.slice none 0 0) 0 U V :=
  ⟨⟨[], World.ownsRow_nil _ _ _ _, fun _ hl => absurd hl (Nat.not_lt_zero _)⟩, ⟨[], World.ownsRow_nil _ _ _ _, fun _ hl => absurd hl (Nat.not_lt_zero _)⟩, fun _ h => by cases h⟩
theorem own_snoc {w : World} {B : Nat} {e : TypeId} {v : Value} {m : Nat} {xs : List Value} {u : Value} {U : Nat → Value} {base : Nat} (h : w.ownsRow B e 1 v (m + 1) (xs ++ [u])) (_hl : base = base) (hm : xs.length = m) (hu : u = U m) (hx : ∀ l, l < m → xs[l]? = some (U l)) :
    ∃ zs, w.ownsRow B e 1 v (m + 1) zs ∧ ∀ l, l < m + 1 → zs[l]? = some (U l) :=
  ⟨_, h, fun l hl => by
    by_cases e : l = m
    · rw [e, List.getElem?_append_right (by omega), hm, Nat.sub_self, ← hu]; rfl
    · rw [List.getElem?_append_left (by omega)]; exact hx l (by omega)⟩
theorem Duo.add {w wc wd we : World} {B : Nat} {s t s' t' : Value} {m : Nat} {U V : Nat → Value} {xs ys : List Value} {u1 u2 : Value} (h : Duo w B s t m U V)
    (hx : w.ownsRow B 29 1 s m xs) (hxs : ∀ i, i < m → xs[i]? = some (U i)) (hy : w.ownsRow B 29 1 t m ys) (hys : ∀ l, l < m → ys[l]? = some (V l)) (hu1 : u1 = U m) (hu2 : u2 = V m)
    (own1 : wc.ownsRow B 29 1 s' (m + 1) (xs ++ [u1])) (_gr1 : w.grownBy wc s.ownBlock) (hv1 : s'.ownBlock = s.ownBlock ∨ wc.ownsRow w.heap.size 29 1 s' (m + 1) (xs ++ [u1]))
    (hd : Below wc.heap.size wc wd)
    (own2 : we.ownsRow B 29 1 t' (m + 1) (ys ++ [u2])) (gr2 : wd.grownBy we t.ownBlock) (hv2 : t'.ownBlock = t.ownBlock ∨ we.ownsRow wd.heap.size 29 1 t' (m + 1) (ys ++ [u2])) :
    Duo we B s' t' (m + 1) U V := by
  have st : ∀ b, s'.ownBlock = some b → t.ownBlock ≠ some b ∧ b < wc.heap.size := fun b hb => by
    refine ⟨fun ht => ?_, (own1.lt b hb).2⟩
    rcases hv1 with hv | hv
    · exact h.ap2 b (hv ▸ hb) ht
    · have := (hv.lt b hb).1
      have := (hy.lt b ht).2
      omega
  have hcd : wc.heap.size ≤ wd.heap.size := hd.size
  have o1 := own_keepBy (w' := we) (own_keep own1 hd) (fun k hk => gr2.block k (by have := (st k hk).2; omega) (fun e => (st k hk).1 e.symm))
  refine ⟨own_snoc (base := 0) o1 rfl (by have := hx.1; omega) hu1 hxs, own_snoc (base := 0) own2 rfl (by have := hy.1; omega) hu2 hys, fun b hb e => ?_⟩
  rcases hv2 with hv | hv
  · exact (st b hb).1 (hv ▸ e)
  · have := (hv.lt b e).1
    have := (st b hb).2
    omega
theorem Duo.keep {w w' : World} {B : Nat} {s t : Value} {m : Nat} {U V : Nat → Value} (h : Duo w B s t m U V) (b : Below w.heap.size w w') : Duo w' B s t m U V := by
  obtain ⟨xs, hx, hv⟩ := h.rows
  obtain ⟨ys, hy, hw⟩ := h.vals
  exact ⟨⟨xs, own_keep hx b, hv⟩, ⟨ys, own_keep hy b, hw⟩, h.ap2⟩

/-- What first leaves when it has seen i places. -/
def Firsts (B : Nat) (w0 w : World) (xss : List (List Nat)) (i : Nat) (U V : Nat → Value) (s t : Value) : Prop :=
  Duo w B s t (pres xss i).length (fun l => U ((pres xss 6).getD l 0)) (fun l => V ((pres xss 6).getD l 0)) ∧ Below B w0 w
def FirstRet (xss : List (List Nat)) (U V : Nat → Value) (w : World) (e : Ending) (w' : World) : Prop := ∃ s t, e = .returned (.tuple #[s, t]) ∧ Firsts w.heap.size w w' xss 6 U V s t

theorem cfirst (c f o cap0 : Nat) (ab ao : Nat) (xss : List (List Nat)) (cap : Nat) (w : World) (hc : Cdr w c f o cap0) (_h6 : xss.length = 6) (hcut : Cuts xss 6) (hab : ab < w.heap.size) (hol : o < w.heap.size) (U V : Nat → Value)
    (hV : ∀ i, i < 6 → w.cell? ⟨ab, ao + i, none⟩ = some (V i) ∧ ∃ g c, V i = .slice g (lenOf xss i) c) (hU : ∀ i, i < 6 → w.cell? ⟨o, i, none⟩ = some (U i) ∧ ∃ g q c, U i = .slice (some ⟨g, q, none⟩) 4 c) :
    Calls Try.prog 29 #[.pointer (some ⟨c, 0, none⟩), .slice (some ⟨ab, ao, none⟩) 6 cap] w (FirstRet xss U V w) := by
  obtain ⟨i0, hi0, hz0, hz1, hz2⟩ := info_parts infoRow
  have HCD := Lib.hid hc
  have HV := Lib.hid hV
  have HU := Lib.hid hU
  have HCUT := Lib.hid hcut
  have hcl := hc.lt
  clear hc hV hU hcut _h6
  obtain ⟨B, hB⟩ : ∃ B, w.heap.size = B := ⟨_, rfl⟩
  have HB := Lib.hid hB
  rw [hB] at hab hol hcl
  have HQ : Hid (∀ w' s t, Firsts B w w' xss 6 U V s t → FirstRet xss U V w (.returned (.tuple #[s, t])) w') := Lib.hid (fun w' s t h => ⟨s, t, rfl, by rw [hB]; exact h⟩)
  clear hB
  have H0 : Hid (Firsts B w w xss 0 U V (.slice none 0 0) (.slice none 0 0)) := Lib.hid ⟨Duo.start _ _ _ _, Below.refl _ _⟩
  go_enter Try.func29, Try.ntmps29
  go_wp2_with fail
  go_loopg [4, 5, 10] 6 (fun q' s4 s5 s10 v => ∃ i : Nat, s10 = .int .i64 (i : Int) ∧ i ≤ 6 ∧ q' = 6 - i ∧ Hid (Firsts B w v xss i U V s4 s5))
  case atStart => exact ⟨0, rfl, by omega, rfl, H0⟩
  case round =>
    obtain ⟨i, rfl, hi, rfl, HS⟩ := hrel
    clear H0
    by_cases hlt : i < 6
    · have hl : (i : Int) < 6 := by omega
      have hl0 : (0 : Int) ≤ (i : Int) := by omega
      obtain ⟨g, c', hg⟩ := (HV.out i hlt).2
      have c1 := (HV.out i hlt).1
      rw [hg] at c1
      have HGV := Lib.hid hg
      clear hg
      have c1' := (HS.out.2.cell (p := ⟨ab, ao + i, none⟩) hab).trans c1
      obtain ⟨n, hn⟩ : ∃ n, lenOf xss i = n := ⟨_, rfl⟩
      have HLN := Lib.hid hn
      rw [hn] at c1 c1'
      clear hn
      rcases HCUT.out i hlt with hn0 | hn32
      · obtain rfl : n = 0 := by rw [← HLN.out]; exact hn0
        have HN : Hid (Firsts B w wr xss (i + 1) U V u4 u5) := Lib.hid ⟨by rw [pres_skip HLN.out]; exact HS.out.1, HS.out.2⟩
        clear c1 hn0
        go_wp2_with fail
        go_roundg (6 - (i + 1))
        case measure => omega
        case rel => exact ⟨i + 1, by go_num, by omega, rfl, HN⟩
      · obtain rfl : n = 32 := by rw [← HLN.out]; exact hn32
        clear hn32
        obtain ⟨xs, hx, hxs⟩ := HS.out.1.rows
        obtain ⟨ys, hy, hys⟩ := HS.out.1.vals
        have hml := pres_len xss i
        obtain ⟨m, hm⟩ : ∃ m, (pres xss i).length = m := ⟨_, rfl⟩
        have HME := Lib.hid hm
        have HC : Hid (Duo wr B u4 u5 m (fun l => U ((pres xss 6).getD l 0)) (fun l => V ((pres xss 6).getD l 0)) ∧ Below B w wr) := Lib.hid (by have := HS.out; unfold Firsts at this; rw [hm] at this; exact this)
        rw [hm] at hml hx hy hxs hys
        clear hm HS
        obtain ⟨p4, c4, e4⟩ := own_shape hx
        obtain ⟨p5, c5, e5⟩ := own_shape hy
        subst e4 e5
        by_cases hm4 : m < 4
        · have hm4' : (m : Int) < 4 := by omega
          have HAT : Hid ((pres xss 6)[m]? = some i) := Lib.hid (by have := pres_at hlt (by rw [HLN.out]; omega) (by rw [HME.out]; exact hm4); rwa [HME.out] at this)
          have hBw : B ≤ wr.heap.size := by rw [← HB.out]; exact HC.out.2.size
          have hcw : Cdr wr c f o cap0 := HCD.out.keep (by rw [HB.out]; exact HC.out.2)
          have p1 := hcw.rows
          obtain ⟨gu, qu, cu, hgu⟩ := (HU.out i hlt).2
          have d1 := (HC.out.2.cell (p := ⟨o, i, none⟩) hol).trans (HU.out i hlt).1
          rw [hgu] at d1
          have HGU := Lib.hid hgu
          have HX := Lib.hid hx
          have HY := Lib.hid hy
          have HXS := Lib.hid hxs
          have HYS := Lib.hid hys
          have hzn : ¬ (i : Int) < 0 := by omega
          have HW1 : Hid (Below wr.heap.size wr (wr.alloc (.cells #[.slice (some ⟨gu, qu, none⟩) 4 cu] 29))) := Lib.hid ((Below.refl _ _).alloc (Nat.le_refl _) _)
          have HX1 := Lib.hid (own_keep HX.out HW1.out)
          have HY1 := Lib.hid (own_keep HY.out HW1.out)
          have HP1 := Lib.hid (HC.out.1.keep HW1.out)
          clear c1 hx hy hxs hys hcw hgu
          go_wp2_with (first | (at_builtin; refine append_mine _ rfl (.tmp 23) (.tmp 31) 25 rfl B 29 i0 (.slice none 0 0) 1 24 Try.underlying25 hi0 hz0 hz1 hz2 rfl (by decide) _ m xs rfl HX1.out ⟨wr.heap.size, 0, none⟩ 1 1 [.slice (some ⟨gu, qu, none⟩) 4 cu] rfl rfl (cell_one_new _ _ _) (by intro u hu; simp at hu; subst hu; rfl) (by unfold maxLen; omega) (by omega) (Nat.le_trans hBw HW1.out.size) (by decide) ?_; intro s' wc own1 gr1 hv1; have HYC := Lib.hid (own_keep (own_keepBy (w' := wc) HY1.out (fun k hk => gr1.block k (HY1.out.lt k hk).2 (fun e => HP1.out.ap2 k e.symm hk))) ((Below.refl _ _).alloc (Nat.le_refl _) (.cells #[.slice g 32 c'] 29))); have HO1 := Lib.hid (And.intro own1 (And.intro gr1 hv1)); have hBc : B ≤ wc.heap.size := Nat.le_trans (Nat.le_trans hBw HW1.out.size) gr1.size; clear own1 gr1 hv1) | (at_builtin; refine append_mine _ rfl (.tmp 33) (.tmp 35) 25 rfl B 29 i0 (.slice none 0 0) 1 24 Try.underlying25 hi0 hz0 hz1 hz2 rfl (by decide) _ m ys rfl HYC.out ⟨wc.heap.size, 0, none⟩ 1 1 [.slice g 32 c'] rfl rfl (cell_one_new _ _ _) (by intro u hu; simp at hu; subst hu; rfl) (by unfold maxLen; omega) (by omega) (by rw [alloc_size]; omega) (by decide) ?_; intro t' we own2 gr2 hv2; have HO2 := Lib.hid (And.intro own2 (And.intro gr2 hv2)); clear own2 gr2 hv2) | fail)
          have HN : Hid (Firsts B w we xss (i + 1) U V s' t') := by
            have hgd : (pres xss 6).getD m 0 = i := by rw [List.getD_eq_getElem?_getD, HAT.out]; rfl
            have hml' : (pres xss (i + 1)).length = m + 1 := by rw [pres_add (by rw [HLN.out]; omega) (by rw [HME.out]; exact hm4), List.length_append, HME.out]; rfl
            refine Lib.hid ⟨by
              rw [hml']
              exact HP1.out.add (u1 := .slice (some ⟨gu, qu, none⟩) 4 cu) (u2 := .slice g 32 c') HX1.out HXS.out HY1.out HYS.out (by rw [hgd, HGU.out]) (by rw [hgd, HGV.out, HLN.out])
                HO1.out.1 HO1.out.2.1 HO1.out.2.2 ((Below.refl _ _).alloc (Nat.le_refl _) _) HO2.out.1 HO2.out.2.1 HO2.out.2.2, ?_⟩
            have b1 : Below B w (wr.alloc (.cells #[.slice (some ⟨gu, qu, none⟩) 4 cu] 29)) := HC.out.2.trans (HW1.out.mono hBw)
            have b2 : Below B w wc := Below.grown b1 HO1.out.2.1 (Nat.le_trans hBw HW1.out.size) (fun k hk => (HX1.out.lt k hk).1)
            have b3 : Below B w (wc.alloc (.cells #[.slice g 32 c'] 29)) := b2.alloc hBc _
            exact Below.grown b3 HO2.out.2.1 (by rw [alloc_size]; omega) (fun k hk => (HYC.out.lt k hk).1)
          clear HO1 HO2 HYC HP1 HX1 HY1 HW1
          go_roundg (6 - (i + 1))
          case measure => omega
          case rel => exact ⟨i + 1, by go_num, by omega, rfl, HN⟩
        · have hm4' : ¬ (m : Int) < 4 := by omega
          have HN : Hid (Firsts B w wr xss (i + 1) U V (.slice p4 m c4) (.slice p5 m c5)) := Lib.hid ⟨by rw [pres_full (by rw [HME.out]; exact hm4), HME.out]; exact HC.out.1, HC.out.2⟩
          clear c1 hx hy hxs hys
          go_wp2_with fail
          go_roundg (6 - (i + 1))
          case measure => omega
          case rel => exact ⟨i + 1, by go_num, by omega, rfl, HN⟩
    · have hge : ¬ (i : Int) < 6 := by omega
      have e6 : i = 6 := by omega
      subst e6
      have HR := Lib.hid (HQ.out wr _ _ HS.out)
      clear HS HQ
      go_wp2_with fail
      go_ret2
      exact HR.out
end Go.Proofs.Ytajpnbmfeapmcaa
