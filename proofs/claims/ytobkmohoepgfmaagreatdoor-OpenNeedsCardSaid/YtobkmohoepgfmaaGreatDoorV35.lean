import Derived.Test.YtobkmohoepgfmaaGreatDoorV34
import Derived.Test.YtobkmohoepgfmaaGreatDoorV31
import Derived.Laws.BytesArg
import Derived.Laws.Strings
namespace Go.Proofs.YtobkmohoepgfmaaGreatDoor.Kc
open Go.RowKit Go.Sort
set_option maxRecDepth 100000
set_option maxHeartbeats 2000000

structure Duo (w : World) (B : Nat) (s t : Value) (m : Nat) (U V : Nat → Value) : Prop where
 rows : ∃ xs, w.ownsRow B 36 1 s m xs ∧ ∀ l, l < m → xs[l]? = some (U l)
 vals : ∃ ys, w.ownsRow B 36 1 t m ys ∧ ∀ l, l < m → ys[l]? = some (V l)
 ap2 : ∀ b, s.ownBlock = some b → t.ownBlock ≠ some b
theorem Duo.start (w : World) (B : Nat) (U V : Nat → Value) : Duo w B (.slice none 0 0) (.slice none 0 0) 0 U V :=
 ⟨⟨[], World.ownsRow_nil _ _ _ _, fun _ hl => absurd hl (Nat.not_lt_zero _)⟩, ⟨[], World.ownsRow_nil _ _ _ _, fun _ hl => absurd hl (Nat.not_lt_zero _)⟩, fun _ h => by cases h⟩
theorem own_snoc {w : World} {B : Nat} {e : TypeId} {v : Value} {m : Nat} {xs : List Value} {u : Value} {U : Nat → Value} {base : Nat} (h : w.ownsRow B e 1 v (m + 1) (xs ++ [u])) (_hl : base = base) (hm : xs.length = m) (hu : u = U m) (hx : ∀ l, l < m → xs[l]? = some (U l)) :
  ∃ zs, w.ownsRow B e 1 v (m + 1) zs ∧ ∀ l, l < m + 1 → zs[l]? = some (U l) :=
 ⟨_, h, fun l hl => by
  by_cases e : l = m
  ·rw [e, List.getElem?_append_right (by omega), hm, Nat.sub_self, ← hu]; rfl
  ·rw [List.getElem?_append_left (by omega)]; exact hx l (by omega)⟩
theorem Duo.add {w wc wd we : World} {B : Nat} {s t s' t' : Value} {m : Nat} {U V : Nat → Value} {xs ys : List Value} {u1 u2 : Value} (h : Duo w B s t m U V)
  (hx : w.ownsRow B 36 1 s m xs) (hxs : ∀ i, i < m → xs[i]? = some (U i)) (hy : w.ownsRow B 36 1 t m ys) (hys : ∀ l, l < m → ys[l]? = some (V l)) (hu1 : u1 = U m) (hu2 : u2 = V m)
  (own1 : wc.ownsRow B 36 1 s' (m + 1) (xs ++ [u1])) (_gr1 : w.grownBy wc s.ownBlock) (hv1 : s'.ownBlock = s.ownBlock ∨ wc.ownsRow w.heap.size 36 1 s' (m + 1) (xs ++ [u1]))
  (hd : Below wc.heap.size wc wd)
  (own2 : we.ownsRow B 36 1 t' (m + 1) (ys ++ [u2])) (gr2 : wd.grownBy we t.ownBlock) (hv2 : t'.ownBlock = t.ownBlock ∨ we.ownsRow wd.heap.size 36 1 t' (m + 1) (ys ++ [u2])) :
  Duo we B s' t' (m + 1) U V := by
 have st : ∀ b, s'.ownBlock = some b → t.ownBlock ≠ some b ∧ b < wc.heap.size := fun b hb => by
  refine ⟨fun ht => ?_, (own1.lt b hb).2⟩
  rcases hv1 with hv | hv
  ·exact h.ap2 b (hv ▸ hb) ht
  ·have := (hv.lt b hb).1
   have := (hy.lt b ht).2
   omega
 have hcd : wc.heap.size ≤ wd.heap.size := hd.size
 have o1 := own_keepBy (w' := we) (own_keep own1 hd) (fun k hk => gr2.block k (by have := (st k hk).2; omega) (fun e => (st k hk).1 e.symm))
 refine ⟨own_snoc (base := 0) o1 rfl (by have := hx.1; omega) hu1 hxs, own_snoc (base := 0) own2 rfl (by have := hy.1; omega) hu2 hys, fun b hb e => ?_⟩
 rcases hv2 with hv | hv
 ·exact (st b hb).1 (hv ▸ e)
 ·have := (hv.lt b e).1
  have := (st b hb).2
  omega
theorem Duo.keep {w w' : World} {B : Nat} {s t : Value} {m : Nat} {U V : Nat → Value} (h : Duo w B s t m U V) (b : Below w.heap.size w w') : Duo w' B s t m U V := by
 obtain ⟨xs, hx, hv⟩ := h.rows
 obtain ⟨ys, hy, hw⟩ := h.vals
 exact ⟨⟨xs, own_keep hx b, hv⟩, ⟨ys, own_keep hy b, hw⟩, h.ap2⟩

def Firsts (B : Nat) (w0 w : World) (xss : List (List Nat)) (i : Nat) (U V : Nat → Value) (s t : Value) : Prop :=
 Duo w B s t (pres xss i).length (fun l => U ((pres xss 6).getD l 0)) (fun l => V ((pres xss 6).getD l 0)) ∧ Below B w0 w
def FirstRet (xss : List (List Nat)) (U V : Nat → Value) (w : World) (e : Ending) (w' : World) : Prop := ∃ s t, e = .returned (.tuple #[s, t]) ∧ Firsts w.heap.size w w' xss 6 U V s t

theorem cfirst (c f o cap0 : Nat) (ab ao : Nat) (xss : List (List Nat)) (cap : Nat) (w : World) (hc : Cdr w c f o cap0) (_h6 : xss.length = 6) (hcut : Cuts xss 6) (hab : ab < w.heap.size) (hol : o < w.heap.size) (U V : Nat → Value)
  (hV : ∀ i, i < 6 → w.cell? ⟨ab, ao + i, none⟩ = some (V i) ∧ ∃ g c, V i = .slice g (lenOf xss i) c) (hU : ∀ i, i < 6 → w.cell? ⟨o, i, none⟩ = some (U i) ∧ ∃ g q c, U i = .slice (some ⟨g, q, none⟩) 4 c) :
  Calls Tryz.prog 83 #[.pointer (some ⟨c, 0, none⟩), .slice (some ⟨ab, ao, none⟩) 6 cap] w (FirstRet xss U V w) := by
 obtain ⟨i0, hi0, hz0, hz1, hz2⟩ := info_parts infoRow
 have HCD := Lib.hid hc
 have HV := Lib.hid hV
 have HU := Lib.hid hU
 have HCUT := Lib.hid hcut
 have hcl := hc.lt
 clear hc hV hU hcut _h6
 obtain ⟨B, hB⟩ : ∃ B, w.heap.size = B := ⟨_, rfl⟩
 have HB := Lib.hid hB
 rw [hB] at hab hol hcl
 have HQ : Hid (∀ w' s t, Firsts B w w' xss 6 U V s t → FirstRet xss U V w (.returned (.tuple #[s, t])) w') := Lib.hid (fun w' s t h => ⟨s, t, rfl, by rw [hB]; exact h⟩)
 clear hB
 have H0 : Hid (Firsts B w w xss 0 U V (.slice none 0 0) (.slice none 0 0)) := Lib.hid ⟨Duo.start _ _ _ _, Below.refl _ _⟩
 go_enter Tryz.func83, Tryz.ntmps83
 go_wp2_with fail
 go_loopg [4, 5, 10] 6 (fun q' s4 s5 s10 v => ∃ i : Nat, s10 = .int .i64 (i : Int) ∧ i ≤ 6 ∧ q' = 6 - i ∧ Hid (Firsts B w v xss i U V s4 s5))
 case atStart => exact ⟨0, rfl, by omega, rfl, H0⟩
 case round =>
  obtain ⟨i, rfl, hi, rfl, HS⟩ := hrel
  clear H0
  by_cases hlt : i < 6
  ·have hl : (i : Int) < 6 := by omega
   have hl0 : (0 : Int) ≤ (i : Int) := by omega
   obtain ⟨g, c', hg⟩ := (HV.out i hlt).2
   have c1 := (HV.out i hlt).1
   rw [hg] at c1
   have HGV := Lib.hid hg
   clear hg
   have c1' := (HS.out.2.cell (p := ⟨ab, ao + i, none⟩) hab).trans c1
   obtain ⟨n, hn⟩ : ∃ n, lenOf xss i = n := ⟨_, rfl⟩
   have HLN := Lib.hid hn
   rw [hn] at c1 c1'
   clear hn
   rcases HCUT.out i hlt with hn0 | hn32
   ·obtain rfl : n = 0 := by rw [← HLN.out]; exact hn0
    have HN : Hid (Firsts B w wr xss (i + 1) U V u4 u5) := Lib.hid ⟨by rw [pres_skip HLN.out]; exact HS.out.1, HS.out.2⟩
    clear c1 hn0
    go_wp2_with fail
    go_roundg (6 - (i + 1))
    case measure => omega
    case rel => exact ⟨i + 1, by go_num, by omega, rfl, HN⟩
   ·obtain rfl : n = 32 := by rw [← HLN.out]; exact hn32
    clear hn32
    obtain ⟨xs, hx, hxs⟩ := HS.out.1.rows
    obtain ⟨ys, hy, hys⟩ := HS.out.1.vals
    have hml := pres_len xss i
    obtain ⟨m, hm⟩ : ∃ m, (pres xss i).length = m := ⟨_, rfl⟩
    have HME := Lib.hid hm
    have HC : Hid (Duo wr B u4 u5 m (fun l => U ((pres xss 6).getD l 0)) (fun l => V ((pres xss 6).getD l 0)) ∧ Below B w wr) := Lib.hid (by have := HS.out; unfold Firsts at this; rw [hm] at this; exact this)
    rw [hm] at hml hx hy hxs hys
    clear hm HS
    obtain ⟨p4, c4, e4⟩ := own_shape hx
    obtain ⟨p5, c5, e5⟩ := own_shape hy
    subst e4 e5
    by_cases hm4 : m < 4
    ·have hm4' : (m : Int) < 4 := by omega
     have HAT : Hid ((pres xss 6)[m]? = some i) := Lib.hid (by have := pres_at hlt (by rw [HLN.out]; omega) (by rw [HME.out]; exact hm4); rwa [HME.out] at this)
     have hBw : B ≤ wr.heap.size := by rw [← HB.out]; exact HC.out.2.size
     have hcw : Cdr wr c f o cap0 := HCD.out.keep (by rw [HB.out]; exact HC.out.2)
     have p1 := hcw.rows
     obtain ⟨gu, qu, cu, hgu⟩ := (HU.out i hlt).2
     have d1 := (HC.out.2.cell (p := ⟨o, i, none⟩) hol).trans (HU.out i hlt).1
     rw [hgu] at d1
     have HGU := Lib.hid hgu
     have HX := Lib.hid hx
     have HY := Lib.hid hy
     have HXS := Lib.hid hxs
     have HYS := Lib.hid hys
     have hzn : ¬ (i : Int) < 0 := by omega
     have HW1 : Hid (Below wr.heap.size wr (wr.alloc (.cells #[.slice (some ⟨gu, qu, none⟩) 4 cu] 36))) := Lib.hid ((Below.refl _ _).alloc (Nat.le_refl _) _)
     have HX1 := Lib.hid (own_keep HX.out HW1.out)
     have HY1 := Lib.hid (own_keep HY.out HW1.out)
     have HP1 := Lib.hid (HC.out.1.keep HW1.out)
     clear c1 hx hy hxs hys hcw hgu
     go_wp2_with (first | (at_builtin; refine append_mine _ rfl (.tmp 23) (.tmp 31) 117 rfl B 36 i0 (.slice none 0 0) 1 24 Tryz.underlying117 hi0 hz0 hz1 hz2 rfl (by decide) _ m xs rfl HX1.out ⟨wr.heap.size, 0, none⟩ 1 1 [.slice (some ⟨gu, qu, none⟩) 4 cu] rfl rfl (cell_one_new _ _ _) (by intro u hu; simp at hu; subst hu; rfl) (by unfold maxLen; omega) (by omega) (Nat.le_trans hBw HW1.out.size) (by decide) ?_; intro s' wc own1 gr1 hv1; have HYC := Lib.hid (own_keep (own_keepBy (w' := wc) HY1.out (fun k hk => gr1.block k (HY1.out.lt k hk).2 (fun e => HP1.out.ap2 k e.symm hk))) ((Below.refl _ _).alloc (Nat.le_refl _) (.cells #[.slice g 32 c'] 36))); have HO1 := Lib.hid (And.intro own1 (And.intro gr1 hv1)); have hBc : B ≤ wc.heap.size := Nat.le_trans (Nat.le_trans hBw HW1.out.size) gr1.size; clear own1 gr1 hv1) | (at_builtin; refine append_mine _ rfl (.tmp 33) (.tmp 35) 117 rfl B 36 i0 (.slice none 0 0) 1 24 Tryz.underlying117 hi0 hz0 hz1 hz2 rfl (by decide) _ m ys rfl HYC.out ⟨wc.heap.size, 0, none⟩ 1 1 [.slice g 32 c'] rfl rfl (cell_one_new _ _ _) (by intro u hu; simp at hu; subst hu; rfl) (by unfold maxLen; omega) (by omega) (by rw [alloc_size]; omega) (by decide) ?_; intro t' we own2 gr2 hv2; have HO2 := Lib.hid (And.intro own2 (And.intro gr2 hv2)); clear own2 gr2 hv2) | fail)
     have HN : Hid (Firsts B w we xss (i + 1) U V s' t') := by
      have hgd : (pres xss 6).getD m 0 = i := by rw [List.getD_eq_getElem?_getD, HAT.out]; rfl
      have hml' : (pres xss (i + 1)).length = m + 1 := by rw [pres_add (by rw [HLN.out]; omega) (by rw [HME.out]; exact hm4), List.length_append, HME.out]; rfl
      refine Lib.hid ⟨by
       rw [hml']
       exact HP1.out.add (u1 := .slice (some ⟨gu, qu, none⟩) 4 cu) (u2 := .slice g 32 c') HX1.out HXS.out HY1.out HYS.out (by rw [hgd, HGU.out]) (by rw [hgd, HGV.out, HLN.out])
        HO1.out.1 HO1.out.2.1 HO1.out.2.2 ((Below.refl _ _).alloc (Nat.le_refl _) _) HO2.out.1 HO2.out.2.1 HO2.out.2.2, ?_⟩
      have b1 : Below B w (wr.alloc (.cells #[.slice (some ⟨gu, qu, none⟩) 4 cu] 36)) := HC.out.2.trans (HW1.out.mono hBw)
      have b2 : Below B w wc := Below.grown b1 HO1.out.2.1 (Nat.le_trans hBw HW1.out.size) (fun k hk => (HX1.out.lt k hk).1)
      have b3 : Below B w (wc.alloc (.cells #[.slice g 32 c'] 36)) := b2.alloc hBc _
      exact Below.grown b3 HO2.out.2.1 (by rw [alloc_size]; omega) (fun k hk => (HYC.out.lt k hk).1)
     clear HO1 HO2 HYC HP1 HX1 HY1 HW1
     go_roundg (6 - (i + 1))
     case measure => omega
     case rel => exact ⟨i + 1, by go_num, by omega, rfl, HN⟩
    ·have hm4' : ¬ (m : Int) < 4 := by omega
     have HN : Hid (Firsts B w wr xss (i + 1) U V (.slice p4 m c4) (.slice p5 m c5)) := Lib.hid ⟨by rw [pres_full (by rw [HME.out]; exact hm4), HME.out]; exact HC.out.1, HC.out.2⟩
     clear c1 hx hy hxs hys
     go_wp2_with fail
     go_roundg (6 - (i + 1))
     case measure => omega
     case rel => exact ⟨i + 1, by go_num, by omega, rfl, HN⟩
  ·have hge : ¬ (i : Int) < 6 := by omega
   have e6 : i = 6 := by omega
   subst e6
   have HR := Lib.hid (HQ.out wr _ _ HS.out)
   clear HS HQ
   go_wp2_with fail
   go_ret2
   exact HR.out
end Go.Proofs.YtobkmohoepgfmaaGreatDoor.Kc
namespace Go.Proofs.YtobkmohoepgfmaaGreatDoor.Kc
open Go.RowKit Go.Sort
set_option maxRecDepth 100000
set_option maxHeartbeats 1000000

theorem minverse_none (f : Nat) (a : Option Addr) (xss : List (List Nat)) (ca c : Nat) (w : World) (hx : RawIn w a xss) (lx : xss.length ≤ 9223372036854775807) (px : RightP xss)
  (hc : ∀ (i : Nat) (xs : List Nat), xss[i]? = some xs → xs.length = c) (hne : ¬ c = xss.length) :
  Calls Tryz.prog 84 #[.pointer (some ⟨f, 0, none⟩), .slice a xss.length ca] w fun e w' => e = .returned (.tuple #[.slice none 0 0, .bool false]) ∧ w' = w := by
 have R1 := Lib.hid (mright a xss ca w hx lx true ⟨fun _ => px, fun _ => rfl⟩)
 have h0 : 0 < xss.length := by have := px.1; omega
 obtain ⟨x0, hx0⟩ : ∃ x0, xss[0]? = some x0 := ⟨_, List.getElem?_eq_getElem h0⟩
 obtain ⟨b', o, rfl, hb, g0, cap0, c0, _⟩ := hx 0 x0 hx0
 rw [Nat.add_zero, hc 0 x0 hx0] at c0
 have h0' : (0 : Int) < (xss.length : Int) := by omega
 have t1 : ((c : Int) != (xss.length : Int)) = true := by rw [bne_iff_ne]; omega
 clear hx px hc hx0 hne
 go_enter Tryz.func84, Tryz.ntmps84
 go_wp2_with fail
 refine R1.out.mono ?_
 rintro e w' ⟨rfl, hw⟩
 obtain rfl := hw.symm
 go_wp2_with fail
 go_ret2
 exact ⟨rfl, rfl⟩

end Go.Proofs.YtobkmohoepgfmaaGreatDoor.Kc
namespace Go.Proofs.YtobkmohoepgfmaaGreatDoor.Kc
open Go.RowKit Go.Sort
set_option maxRecDepth 100000
set_option maxHeartbeats 1000000

theorem Found.congr {n : Nat} {A B X : Mx} {ok : Bool} (h : Found n A X ok) (e : EqM n n A B) : Found n B X ok := by
 rcases h with ⟨h1, h2, h3⟩ | ⟨h1, v, hv, hc, h0⟩
 ·exact Or.inl ⟨h1, ⟨h2.bx, (mm_congr e.symm (EqM.refl _ _ _)).trans h2.right, (mm_congr (EqM.refl _ _ _) e.symm).trans h2.left⟩, by rw [← det_congr e]; exact h3⟩
 ·exact Or.inr ⟨h1, v, hv, hc, fun r hr => by rw [← h0 r hr]; exact sx_congr (fun j hj => by rw [e r hr j hj])⟩

def InvC (n : Nat) (M : Mx) (w : World) (e : Ending) (w' : World) : Prop :=
 (e = .returned (.tuple #[.slice none 0 0, .bool false]) ∧ Hid ((∃ X, Found n M X false) ∧ Below w.heap.size w w')) ∨
 (∃ o X, e = .returned (.tuple #[.slice (some ⟨o, 0, none⟩) n n, .bool true]) ∧ Hid (Found n M X true ∧ RawIn w' (some ⟨o, 0, none⟩) (rowsOf n n X) ∧ Below w.heap.size w w'))
theorem invC (f oa ca n : Nat) (M : Mx) (w : World) (hf : Fld w f) (ha : RawIn w (some ⟨oa, 0, none⟩) (rowsOf n n M)) (n1 : 1 ≤ n) (n2 : n ≤ 64) (hM : Bd n n M) :
  Calls Tryz.prog 84 #[.pointer (some ⟨f, 0, none⟩), .slice (some ⟨oa, 0, none⟩) n ca] w (InvC n M w) := by
 obtain ⟨a1, a2, a3⟩ := rowsOf_facts hM n1 n2 n1 n2
 have h := minverse f _ _ ca w hf ha a1 a2 (fun i xs h => by rw [rowsOf_len]; exact a3 i xs h)
 rw [rowsOf_len] at h
 refine h.mono ?_
 rintro e w' ⟨ok, X, v, rfl, hF, hb, h1, h2⟩
 have hF' := hF.congr (rowsOf_ent M)
 cases ok with
 | false => rw [h1 rfl]; exact Or.inl ⟨rfl, Lib.hid ⟨⟨X, hF'⟩, hb⟩⟩
 | true => obtain ⟨b, rfl, h3⟩ := h2 rfl; exact Or.inr ⟨b, X, rfl, Lib.hid ⟨hF', h3, hb⟩⟩

theorem inv_alike {n : Nat} {A X : Mx} (hA : Bd n n A) (n1 : 1 ≤ n) (h : Found n A X true) : EqM n n X (adjM n A) := by
 obtain ⟨k, rfl⟩ : ∃ k, n = k + 1 := ⟨n - 1, by omega⟩
 exact h.doc hA
theorem found_det {n : Nat} {A X : Mx} {ok : Bool} (hA : Bd n n A) (h : Found n A X ok) : ok = true ↔ det n A ≠ 0 := by
 rw [h.iff_det hA, decide_eq_true_iff]
end Go.Proofs.YtobkmohoepgfmaaGreatDoor.Kc
namespace Go.Proofs.YtobkmohoepgfmaaGreatDoor.Kc
open Go.RowKit Go.Sort
set_option maxRecDepth 100000
set_option maxHeartbeats 2000000

theorem minverse_empty (f : Nat) (p : Option Addr) (ca : Nat) (w : World) : Calls Tryz.prog 84 #[.pointer (some ⟨f, 0, none⟩), .slice p 0 ca] w fun e w' => e = .returned (.tuple #[.slice none 0 0, .bool false]) ∧ w' = w := by
 have h := mright p [] ca w (fun i xs h => by simp at h) (by simp) false ⟨fun h => (by cases h), fun h => absurd h.1 (by simp)⟩
 have R1 := Lib.hid h
 clear h
 go_enter Tryz.func84, Tryz.ntmps84
 go_wp2_with fail
 refine R1.out.mono ?_
 rintro e w' ⟨rfl, hw⟩
 obtain rfl := hw.symm
 go_wp2_with fail
 go_ret2
 exact ⟨rfl, rfl⟩
theorem cinverse (f m ca : Nat) (p : Option Addr) (A : Mx) (w : World) (hf : Fld w f) (hm : m ≤ 4) (h : 1 ≤ m → ∃ b, p = some ⟨b, 0, none⟩ ∧ RawIn w (some ⟨b, 0, none⟩) (rowsOf m 4 A)) (hA : Bd 4 4 A) (hd : m = 4 → det 4 A ≠ 0) :
  Calls Tryz.prog 84 #[.pointer (some ⟨f, 0, none⟩), .slice p m ca] w fun e w' => (m ≠ 4 ∧ e = .returned (.tuple #[.slice none 0 0, .bool false]) ∧ w' = w) ∨
   (m = 4 ∧ ∃ b, e = .returned (.tuple #[.slice (some ⟨b, 0, none⟩) 4 4, .bool true]) ∧ RawIn w' (some ⟨b, 0, none⟩) (rowsOf 4 4 (adjM 4 A)) ∧ Below w.heap.size w w') := by
 by_cases h0 : m = 0
 ·subst h0
  exact (minverse_empty f p ca w).mono fun _ _ ⟨h1, h2⟩ => .inl ⟨by omega, h1, h2⟩
 ·obtain ⟨b, rfl, hr⟩ := h (by omega)
  by_cases h4 : m = 4
  ·subst h4
   refine (invC f b ca 4 A w hf hr (by omega) (by omega) hA).mono ?_
   rintro e w' (⟨rfl, h2⟩ | ⟨o, X, rfl, h2⟩)
   ·obtain ⟨⟨X, hX⟩, _⟩ := h2.out
    exact absurd ((found_det hA hX).2 (hd rfl)) (by decide)
   ·obtain ⟨hX, h3, h5⟩ := h2.out
    exact .inr ⟨rfl, o, rfl, by rw [← rowsOf_congr (inv_alike hA (by omega) hX)]; exact h3, h5⟩
  ·have h2 := minverse_none f (some ⟨b, 0, none⟩) (rowsOf m 4 A) ca 4 w hr (by rw [rowsOf_len]; omega) (rowsOf_right A (by omega) (by omega) (by omega) (by omega)) (fun _ _ h => rowsOf_rowlen h) (by rw [rowsOf_len]; omega)
   rw [rowsOf_len] at h2
   exact h2.mono fun _ _ ⟨h1, h2⟩ => .inl ⟨h4, h1, h2⟩

theorem row_vals {w : World} {o n c : Nat} {M : Mx} (hc : 0 < c) (h : RawIn w (some ⟨o, 0, none⟩) (rowsOf n c M)) : ∃ U : Nat → Value, ∀ i, i < n → w.cell? ⟨o, i, none⟩ = some (U i) ∧ ∃ g q cap, U i = .slice (some ⟨g, q, none⟩) c cap ∧ g < w.heap.size ∧ ∀ j, j < c → w.cell? ⟨g, q + j, none⟩ = some (.int .u8 (M i j : Nat)) := by
 refine ⟨fun i => (w.cell? ⟨o, i, none⟩).getD (.int .u8 0), fun i hi => ?_⟩
 obtain ⟨b, o', e, hb, g, cap, hcell, hx⟩ := h i _ (rowsOf_get hi)
 cases e
 have hlen : ((List.range c).map (M i)).length = c := by simp
 rw [hlen, Nat.zero_add] at hcell
 have get : ∀ j, j < c → ((List.range c).map (M i))[j]? = some (M i j) := fun j hj => by simp [hj]
 obtain ⟨h0, q0, rfl, hh, _⟩ := hx 0 _ (get 0 hc)
 dsimp only
 rw [hcell, Option.getD_some]
 refine ⟨rfl, h0, q0, cap, rfl, hh, fun j hj => ?_⟩
 obtain ⟨h1, q1, e1, _, h2⟩ := hx j _ (get j hj)
 cases e1
 exact h2
theorem cdecode (c f o cap0 : Nat) (a : Option Addr) (xss : List (List Nat)) (cap : Nat) (w : World) (hc : Cdr w c f o cap0) (h : RawIn w a xss) (hl : xss.length ≤ 9223372036854775807) (hby : Bytes xss) (Q : Ending → World → Prop)
  (hbad : ∀ w', Below w.heap.size w w' → (¬ Whole xss) → Q (.returned (.tuple #[.slice none 0 0, .bool false])) w')
  (hgood : ∀ w' g cap', Below w.heap.size w w' → Whole xss → (Row8 w' g 128 (outF xss) ∧ TyB w' g) → 128 ≤ cap' → Q (.returned (.tuple #[.slice (some ⟨g, 0, none⟩) 128 cap', .bool true])) w') :
  Calls Tryz.prog 54 #[.pointer (some ⟨c, 0, none⟩), .slice a xss.length cap] w Q := by
 have HM := Lib.hid (cmade c f o cap0 w hc)
 have HQ := Lib.hid hbad
 have HQG := Lib.hid hgood
 have HC := Lib.hid hc
 have HI := Lib.hid h
 have HBY := Lib.hid hby
 clear hbad hgood
 by_cases hs : xss.length = 6 ∧ Cuts xss 6
 ·have HZ := Lib.hid (csized a xss cap w h hl true ⟨fun _ => hs, fun _ => rfl⟩)
  obtain ⟨h6, hcut⟩ := hs
  have H6 := Lib.hid h6
  have HCUT := Lib.hid hcut
  obtain ⟨ab, ao, _, _, rfl, hab, _⟩ := h.place (i := 0) (by omega)
  have hval : ∃ V : Nat → Value, ∀ i, i < 6 → w.cell? ⟨ab, ao + i, none⟩ = some (V i) ∧ ∃ g c, V i = .slice g (lenOf xss i) c := by
   refine ⟨fun i => (w.cell? ⟨ab, ao + i, none⟩).getD (.int .u8 0), fun i hi => ?_⟩
   obtain ⟨b, o, g, c, e, _, hc, _⟩ := h.place (i := i) (by omega)
   cases e
   dsimp only
   rw [hc, Option.getD_some]
   exact ⟨rfl, g, c, rfl⟩
  obtain ⟨V, hV⟩ := hval
  obtain ⟨U, hU⟩ := row_vals (by omega) hc.raw
  have hol : o < w.heap.size := cell?_lt (hU 0 (by omega)).1
  have HFST := Lib.hid (cfirst c f o cap0 ab ao xss cap w hc h6 hcut hab hol U V hV (fun i hi => ⟨(hU i hi).1, by obtain ⟨g, q, cp, e, _⟩ := (hU i hi).2; exact ⟨g, q, cp, e⟩⟩))
  have HV := Lib.hid hV
  have HU := Lib.hid hU
  clear h hby hc hcut hV hU
  rw [h6] at HZ ⊢
  clear h6
  go_enter Tryz.func54, Tryz.ntmps54
  go_wp2_with fail
  refine HM.out.mono ?_
  rintro e w' ⟨rfl, hw⟩
  obtain rfl := hw.symm
  go_wp2_with fail
  refine HZ.out.mono ?_
  rintro e w' ⟨rfl, hw⟩
  obtain rfl := hw.symm
  go_wp2_with fail
  refine HFST.out.mono ?_
  rintro e w1 ⟨s, t, rfl, hD, hB1⟩
  obtain ⟨xs, hx, hxs⟩ := hD.rows
  obtain ⟨ys, hy, hys⟩ := hD.vals
  have HB1 := Lib.hid hB1
  have hml := pres_len xss 6
  obtain ⟨m, hm⟩ : ∃ m, (pres xss 6).length = m := ⟨_, rfl⟩
  have HME := Lib.hid hm
  rw [hm] at hml hx hxs hy hys
  have mem : ∀ l, l < m → (pres xss 6).getD l 0 ∈ pres xss 6 := fun l hl => by
   rw [List.getD_eq_getElem?_getD, List.getElem?_eq_getElem (by omega)]; exact List.getElem_mem _
  have lt6 : ∀ l, l < m → (pres xss 6).getD l 0 < 6 := fun l hl => (pres_lt (mem l hl)).1
  have place : ∀ {v : Value} {zs : List Value} {P : Nat → Value}, w1.ownsRow w.heap.size 36 1 v m zs → (∀ l, l < m → zs[l]? = some (P l)) → 1 ≤ m → ∃ b, v.ownBlock = some b ∧ (∀ p n cc, v = .slice p n cc → p = some ⟨b, 0, none⟩) ∧ ∀ l, l < m → w1.cell? ⟨b, l, none⟩ = some (P l) := fun {v zs P} ho hz h1 => by
   rcases ho.2 with ⟨_, h0⟩ | ⟨g, cp, cur, e, _⟩
   ·omega
   ·refine ⟨g, by rw [e]; rfl, fun p n cc e2 => ?_, fun l hl => ?_⟩
    ·rw [e] at e2; cases e2; rfl
    ·have := ho.cells (g := g) (by rw [e]; rfl) l _ (hz l hl)
     rw [addr_add, Nat.zero_add] at this
     exact this
  have HRW : Hid (1 ≤ m → ∃ b, (∀ p n cc, s = .slice p n cc → p = some ⟨b, 0, none⟩) ∧ RawIn w1 (some ⟨b, 0, none⟩) (rowsOf m 4 (fm (pres xss 6)))) := Lib.hid (fun h1 => by
   obtain ⟨b, _, hp, hcell⟩ := place hx hxs h1
   refine ⟨b, hp, rawIn_of (fun l hl => ?_)⟩
   obtain ⟨_, g, q, cp, e, hg, hcg⟩ := HU.out _ (lt6 l hl)
   refine ⟨g, q, cp, by rw [Nat.zero_add, hcell l hl, e], fun j hj => ?_⟩
   exact (HB1.out.cell (p := ⟨g, q + j, none⟩) hg).trans (hcg j hj))
  have HRC : Hid (1 ≤ m → ∃ b, (∀ p n cc, t = .slice p n cc → p = some ⟨b, 0, none⟩) ∧ RawIn w1 (some ⟨b, 0, none⟩) (rowsOf m 32 (fun l k => ent xss ((pres xss 6).getD l 0) k))) := Lib.hid (fun h1 => by
   obtain ⟨b, _, hp, hcell⟩ := place hy hys h1
   refine ⟨b, hp, rawIn_of (fun l hl => ?_)⟩
   have hpl := pres_lt (mem l hl)
   have h32 : lenOf xss ((pres xss 6).getD l 0) = 32 := by rcases HCUT.out _ hpl.1 with h | h; exact absurd h hpl.2; exact h
   have hcl := hcell l hl
   generalize (pres xss 6).getD l 0 = z at *
   obtain ⟨b', o', g, cg, e, hb, hcx, hxx⟩ := HI.out.place (i := z) (by rw [H6.out]; exact hpl.1)
   cases e
   have hv := (HV.out z hpl.1).1
   rw [hcx] at hv
   have hvz := Option.some.inj hv
   obtain ⟨h0, q0, eg, _, _⟩ := hxx 0 (by omega)
   subst eg
   rw [h32] at hvz hxx
   refine ⟨h0, q0, cg, by rw [Nat.zero_add, hcl, ← hvz], fun j hj => ?_⟩
   obtain ⟨h1', q1, e1, hh, hcv⟩ := hxx j hj
   cases e1
   exact (HB1.out.cell (p := ⟨h0, q0 + j, none⟩) hh).trans hcv)
  obtain ⟨p4, c4, e4⟩ := own_shape hx
  obtain ⟨p5, c5, e5⟩ := own_shape hy
  subst e4 e5
  have hc1 : Cdr w1 c f o cap0 := HC.out.keep HB1.out
  have q1 := hc1.ptr
  have HINV := Lib.hid (cinverse f m c4 p4 (fm (pres xss 6)) w1 hc1.fld hml (fun h1 => by obtain ⟨b, hp, hr⟩ := HRW.out h1; exact ⟨b, hp _ _ _ rfl, hr⟩) (fm_bd _ 4 4) (fun h4 => fm_det (by omega) (pres_sorted _ _) (fun l hl => (pres_lt hl).1)))
  have HF1 := Lib.hid hc1
  have HH := Lib.hid (fun h1 => (HRC.out h1).imp fun b hb => And.intro (hb.1 p5 m c5 rfl) hb.2)
  clear hx hxs hy hys hD hB1 mem lt6 place HRW HRC hm hc1 HFST HV HU
  go_wp2_with fail
  refine HINV.out.mono ?_
  rintro e w2 (⟨hm4, rfl, hw⟩ | ⟨rfl, b, rfl, hr2, hb2⟩)
  ·obtain rfl := hw.symm
   have HR := Lib.hid (HQ.out w1 HB1.out (fun h => hm4 (by rw [← HME.out]; exact h.2.2)))
   clear HINV HH
   go_wp2_with fail
   exact HR.out
  ·obtain ⟨b5, rfl, hr5⟩ := HH.out (by omega)
   have hc2 : Cdr w2 c f o cap0 := HF1.out.keep hb2
   have q2 := hc2.ptr
   have HW : Hid (Whole xss) := Lib.hid ⟨H6.out, HCUT.out, HME.out⟩
   have hbd : Bd 4 32 (fun l k => ent xss ((pres xss 6).getD l 0) k) := fun _ _ _ _ => ent_lt HBY.out _ _
   have hba : Bd 4 4 (adjM 4 (fm (pres xss 6))) := fun _ _ _ _ => mul_lt _ _
   have g1 := rowsOf_facts hba (by omega) (by omega) (by omega) (by omega)
   have g2 := rowsOf_facts hbd (by omega) (by omega) (by omega) (by omega)
   have mm4 := mmul f (some ⟨b, 0, none⟩) (some ⟨b5, 0, none⟩) (rowsOf 4 4 (adjM 4 (fm (pres xss 6)))) (rowsOf 4 32 (fun l k => ent xss ((pres xss 6).getD l 0) k)) 4 c5 32 w2 hc2.fld hr2 (hr5.keep hb2) g1.1 g2.1 g1.2.1 g2.2.1 (fun i xs hx => by rw [rowsOf_len]; exact g1.2.2 i xs hx) g2.2.2
   rw [rowsOf_len, rowsOf_len] at mm4
   have HMM := Lib.hid mm4
   have HB2 : Hid (Below w.heap.size w w2) := Lib.hid (HB1.out.trans (hb2.mono HB1.out.size))
   have HE : Hid (EqM 4 32 (mm 4 (ent (rowsOf 4 4 (adjM 4 (fm (pres xss 6))))) (ent (rowsOf 4 32 (fun l k => ent xss ((pres xss 6).getD l 0) k)))) (mm 4 (adjM 4 (fm (pres xss 6))) (fun l k => ent xss ((pres xss 6).getD l 0) k))) := Lib.hid (mm_congr (rowsOf_ent _) (rowsOf_ent _))
   clear HINV HH hr2 hb2 hr5 hc2 hbd hba g1 g2 mm4 hml
   go_wp2_with fail
   refine HMM.out.mono ?_
   rintro e w3 ⟨rfl, o3, b3⟩
   have HO3 := Lib.hid (mconcat4 w2.heap.size 4 _ _ _ w3 (o3.congr HE.out))
   have HB3 : Hid (Below w.heap.size w w3) := Lib.hid (HB2.out.trans (b3.mono HB2.out.size))
   clear o3 b3 HMM
   go_wp2_with fail
   refine HO3.out.mono ?_
   rintro e w4 ⟨cp, rfl, hcp, r4, b4⟩
   have HR := Lib.hid (HQG.out w4 w3.heap.size cp (HB3.out.trans (b4.mono HB3.out.size)) HW.out r4 hcp)
   clear HO3 r4 b4
   go_wp2_with fail
   exact HR.out
 ·have HZ := Lib.hid (csized a xss cap w h hl false ⟨fun h => (by cases h), fun h => absurd h hs⟩)
  have HR := Lib.hid (HQ.out w (Below.refl _ _) (fun h => hs ⟨h.1, h.2.1⟩))
  clear h hby hc hs HQG HQ
  generalize xss.length = n at *
  go_enter Tryz.func54, Tryz.ntmps54
  go_wp2_with fail
  refine HM.out.mono ?_
  rintro e w' ⟨rfl, hw⟩
  obtain rfl := hw.symm
  go_wp2_with fail
  refine HZ.out.mono ?_
  rintro e w' ⟨rfl, hw⟩
  obtain rfl := hw.symm
  go_wp2_with fail
  exact HR.out
end Go.Proofs.YtobkmohoepgfmaaGreatDoor.Kc
namespace Go.Proofs.YtobkmohoepgfmaaGreatDoor.Kc
open Go.RowKit Go.Sort
set_option maxRecDepth 100000
set_option maxHeartbeats 1000000

theorem conv_empty (g : Option Addr) (cap : Nat) (w : World) : Sem.run Tryz.prog (convert 36 9 (.slice g 0 cap)) w = .ok (.string (strOf [])) w := by
 cases g with
 | none => exact run_convert_bytes_nil w 36 5 Tryz.underlying36 Tryz.underlying5 0 cap 9 Tryz.underlying9
 | some a =>
  have hl : (loadCells a 0).run Tryz.prog w = .ok (([] : List Int).map (Value.int .u8)).toArray w := run_loadCells_list (P := Tryz.prog) w a [] (fun j v hj => by simp at hj)
  rw [run_convert_bytes_string w 36 9 5 (some a) 0 cap Tryz.underlying36 Tryz.underlying5 Tryz.underlying9, run_bytesToString w a 0 cap [] hl]
  rfl
def DecRetT (xss : List (List Nat)) (w : World) (e : Ending) (w' : World) : Prop :=
 (e = .returned (.tuple #[.slice none 0 0, .bool false]) ∧ Below w.heap.size w w' ∧ ¬ Whole xss) ∨
 (∃ g cap', e = .returned (.tuple #[.slice (some ⟨g, 0, none⟩) 128 cap', .bool true]) ∧ Below w.heap.size w w' ∧ Whole xss ∧ (Row8 w' g 128 (outF xss) ∧ TyB w' g) ∧ 128 ≤ cap')
theorem cdecodeT (c f o cap0 : Nat) (a : Option Addr) (xss : List (List Nat)) (cap : Nat) (w : World) (hc : Cdr w c f o cap0) (h : RawIn w a xss) (hl : xss.length ≤ 9223372036854775807) (hby : Bytes xss) :
  Calls Tryz.prog 54 #[.pointer (some ⟨c, 0, none⟩), .slice a xss.length cap] w (DecRetT xss w) :=
 cdecode c f o cap0 a xss cap w hc h hl hby _ (fun _ h1 h2 => .inl ⟨rfl, h1, h2⟩) (fun _ g cap' h1 h2 h3 h4 => .inr ⟨g, cap', rfl, h1, h2, h3, h4⟩)
theorem outF_lt (xss : List (List Nat)) (j : Nat) : outF xss j < 256 := by
 have h : Bd (j / 32 + 1) (j % 32 + 1) (mm 4 (adjM 4 (fm (pres xss 6))) (fun l k => ent xss ((pres xss 6).getD l 0) k)) := mm_bd _ _ _ _ _
 exact h _ (Nat.lt_succ_self _) _ (Nat.lt_succ_self _)

end Go.Proofs.YtobkmohoepgfmaaGreatDoor.Kc
namespace Go.Proofs.YtobkmohoepgfmaaGreatDoor
open Go.RowKit Go.Sort
set_option maxRecDepth 100000
set_option maxHeartbeats 4000000

def at_ (ps : List (Nat × (Nat → Nat))) (l : Nat) : Option (Nat × (Nat → Nat)) := ps.find? (fun p => decide (p.1 = l))
def rowP (ps : List (Nat × (Nat → Nat))) (l : Nat) : List Nat := match at_ ps l with
 | some p => (List.range 32).map p.2
 | none => []
def rowsP (ps : List (Nat × (Nat → Nat))) : List (List Nat) := (List.range 6).map (rowP ps)
def decK (ps : List (Nat × (Nat → Nat))) : Nat → Nat := Kc.outF (rowsP ps)
theorem at_lt {ps : List (Nat × (Nat → Nat))} {i l : Nat} (h : ∀ p ∈ ps, p.1 < i) (hl : i ≤ l) : at_ ps l = none := by
 unfold at_
 rw [List.find?_eq_none]
 intro p hp
 have := h p hp
 simp
 omega
theorem at_snoc {ps : List (Nat × (Nat → Nat))} {i : Nat} (h : ∀ p ∈ ps, p.1 < i) (D : Nat → Nat) (l : Nat) : at_ (ps ++ [(i, D)]) l = if l = i then some (i, D) else at_ ps l := by
 unfold at_
 rw [List.find?_append]
 by_cases e : l = i
 ·subst e
  rw [if_pos rfl, show ps.find? (fun p => decide (p.1 = l)) = none from at_lt h (Nat.le_refl _)]
  simp
 ·rw [if_neg e]
  have : [(i, D)].find? (fun p : Nat × (Nat → Nat) => decide (p.1 = l)) = none := by
   simp
   omega
  rw [this]
  simp
structure Cnt (ps : List (Nat × (Nat → Nat))) (i : Nat) : Prop where
 lt : ∀ p ∈ ps, p.1 < i
 num : ((List.range i).filter (fun l => (at_ ps l).isSome)).length = ps.length
 le : ps.length ≤ 4
theorem Cnt.skip {ps : List (Nat × (Nat → Nat))} {i : Nat} (h : Cnt ps i) : Cnt ps (i + 1) := by
 refine ⟨fun p hp => Nat.lt_succ_of_lt (h.lt p hp), ?_, h.le⟩
 rw [List.range_succ, List.filter_append, List.length_append, h.num]
 rw [List.filter_cons_of_neg (by rw [at_lt h.lt (Nat.le_refl _)]; simp)]
 simp
theorem Cnt.add {ps : List (Nat × (Nat → Nat))} {i : Nat} (h : Cnt ps i) (hl : ps.length < 4) (D : Nat → Nat) : Cnt (ps ++ [(i, D)]) (i + 1) := by
 refine ⟨fun p hp => ?_, ?_, by rw [List.length_append]; show ps.length + 1 ≤ 4; omega⟩
 ·rcases List.mem_append.1 hp with hp | hp
  ·exact Nat.lt_succ_of_lt (h.lt p hp)
  ·simp at hp
   subst hp
   exact Nat.lt_succ_self _
 ·rw [List.range_succ, List.filter_append, List.length_append]
  have e1 : (List.range i).filter (fun l => (at_ (ps ++ [(i, D)]) l).isSome) = (List.range i).filter (fun l => (at_ ps l).isSome) := List.filter_congr (fun l hl => by
   rw [at_snoc h.lt, if_neg (by have := List.mem_range.1 hl; omega)])
  rw [e1, h.num, List.filter_cons_of_pos (by rw [at_snoc h.lt, if_pos rfl]; rfl)]
  simp
theorem getN_cnt (e : Ep) (st : Nat) : ∀ i, Cnt (e.getN st i).2.1 i ∧ ((e.getN st i).2.1.length < 4 → (e.getN st i).2.2.length + (e.getN st i).2.1.length = i)
 | 0 => by rw [Ep.getN_zero]; exact ⟨⟨(fun p hp => by cases hp), rfl, Nat.zero_le _⟩, fun _ => rfl⟩
 | i + 1 => by
  obtain ⟨ih, ih2⟩ := getN_cnt e st i
  by_cases h : 4 ≤ (e.getN st i).2.1.length
  ·rw [Ep.getN_full h]
   exact ⟨ih.skip, fun h2 => absurd h (by omega)⟩
  ·obtain ⟨s1, a, hc⟩ : ∃ s1 a, (e.getN st i).1.call (nodeN st i) (qGt st) = (s1, a) := ⟨_, _, rfl⟩
   cases a with
   | err c =>
    rw [Ep.getN_err h hc]
    exact ⟨ih.skip, fun h2 => by dsimp only at h2 ⊢; rw [List.length_append]; have := ih2 h2; simp; omega⟩
   | ok y =>
    cases hp : pieceOf y.2.ps (e.gen st) i with
    | none =>
     rw [Ep.getN_none h hc hp]
     exact ⟨ih.skip, fun h2 => by dsimp only at h2 ⊢; rw [List.length_append]; have := ih2 h2; simp; omega⟩
    | some p =>
     rw [Ep.getN_some h hc hp]
     exact ⟨ih.add (by omega) _, fun h2 => by dsimp only at h2 ⊢; rw [List.length_append] at h2 ⊢; have := ih2 (by omega); simp at h2 ⊢; omega⟩
theorem getN_stay {e : Ep} {st i : Nat} (h : 4 ≤ (e.getN st i).2.1.length) : ∀ k, e.getN st (i + k) = e.getN st i
 | 0 => rfl
 | k + 1 => by
  have ih := getN_stay h k
  rw [← Nat.add_assoc, Ep.getN_full (by rw [ih]; exact h), ih]
theorem lenOf_rows (ps : List (Nat × (Nat → Nat))) {l : Nat} (hl : l < 6) : Kc.lenOf (rowsP ps) l = if (at_ ps l).isSome = true then 32 else 0 := by
 unfold Kc.lenOf rowsP
 rw [List.getElem?_map, List.getElem?_range hl]
 show (rowP ps l).length = _
 unfold rowP
 cases at_ ps l <;> simp
theorem rows_whole {ps : List (Nat × (Nat → Nat))} (h : Cnt ps 6) : Kc.Whole (rowsP ps) ↔ ps.length = 4 := by
 have hp : (Kc.pres (rowsP ps) 6).length = min 4 ps.length := by
  unfold Kc.pres
  rw [List.length_take]
  have e1 : (List.range 6).filter (fun l => decide (Kc.lenOf (rowsP ps) l ≠ 0)) = (List.range 6).filter (fun l => (at_ ps l).isSome) := List.filter_congr (fun l hl => by
   rw [lenOf_rows ps (List.mem_range.1 hl)]
   cases at_ ps l <;> simp)
  rw [e1, h.num]
 have := h.le
 constructor
 ·rintro ⟨_, _, h3⟩
  rw [hp] at h3
  omega
 ·intro h4
  refine ⟨by simp [rowsP], fun l hl => ?_, by rw [hp]; omega⟩
  rw [lenOf_rows ps hl]
  split
  ·exact Or.inr rfl
  ·exact Or.inl rfl
theorem rows_bytes {ps : List (Nat × (Nat → Nat))} (h : ∀ p ∈ ps, ∀ j, j < 32 → p.2 j < 256) : Kc.Bytes (rowsP ps) := by
 intro i xs hi x hx
 unfold rowsP at hi
 rw [List.getElem?_map] at hi
 obtain ⟨l, _, rfl⟩ := Option.map_eq_some_iff.1 hi
 unfold rowP at hx
 cases hp : at_ ps l with
 | none => rw [hp] at hx; cases hx
 | some p =>
  rw [hp] at hx
  obtain ⟨j, hj, rfl⟩ := List.mem_map.1 hx
  exact h p (List.mem_of_find?_eq_some hp) j (List.mem_range.1 hj)
end Go.Proofs.YtobkmohoepgfmaaGreatDoor
