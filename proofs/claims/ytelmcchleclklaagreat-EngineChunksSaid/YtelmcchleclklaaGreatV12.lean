import Derived.Test.YtelmcchleclklaaGreatV11
namespace Go.Proofs.YtelmcchleclklaaGreat
open Go.RowKit Go.Sort
set_option maxRecDepth 100000
set_option maxHeartbeats 4000000

theorem icmp (a b : Nat) (s g s' g' : Int) (A A' : Option Addr) (n c n' c' : Nat) (w : World) :
  Calls Tryz.prog 57 #[sv (a : Int) s g A n c, sv (b : Int) s' g' A' n' c'] w fun e w' => e = .returned (.int .i64 (if (a : Int) < (b : Int) then -1 else if (b : Int) < (a : Int) then 1 else 0)) ∧ Below w.heap.size w w' := by
 have HC := Lib.hid (fun W => ccompare (a : Int) (b : Int) W)
 obtain ⟨w1, hw1⟩ : ∃ w1, (w.alloc (.cells #[.int .i64 (a : Int), .int .i64 s, .int .i64 g, .slice A n c] 114)).alloc (.cells #[.int .i64 (b : Int), .int .i64 s', .int .i64 g', .slice A' n' c'] 114) = w1 := ⟨_, rfl⟩
 have HW1 := Lib.hid hw1
 have HB1 : Hid (Below w.heap.size w w1) := Lib.hid (by rw [← hw1]; exact ((Below.refl _ _).alloc (Nat.le_refl _) _).alloc (by simp) _)
 clear hw1
 obtain ⟨r, hr⟩ : ∃ r : Int, (if (a : Int) < (b : Int) then -1 else if (b : Int) < (a : Int) then 1 else 0) = r := ⟨_, rfl⟩
 rw [hr] at HC ⊢
 clear hr
 unfold sv
 go_enter Tryz.func57, Tryz.ntmps57
 go_wp2_with fail
 rw [HW1.out]
 refine (HC.out w1).mono ?_
 rintro e w' ⟨rfl, hw⟩
 obtain rfl := hw.symm
 go_wp2_with fail
 go_ret
 exact ⟨rfl, HB1.out⟩
def SoN (l : List Sx) : Prop := l.Pairwise (fun a b => a.no ≤ b.no)
def InSt (l0 : List Sx) (i j : Nat) (l : List Sx) : Prop := ∃ P x M R, l = P ++ x :: (M ++ R) ∧ P.length = j ∧ P.length + M.length = i ∧ SoN (P ++ M) ∧ (∀ m ∈ M, x.no < m.no) ∧ l.Perm l0
def OutSt (l0 : List Sx) (i : Nat) (l : List Sx) : Prop := ∃ Q R, l = Q ++ R ∧ Q.length = i ∧ SoN Q ∧ l.Perm l0
theorem OutSt.begin {l0 l : List Sx} {i : Nat} (h : OutSt l0 i l) (hi : i < l.length) : InSt l0 i i l := by
 obtain ⟨Q, R, rfl, hq, hs, hp⟩ := h
 rcases R with _ | ⟨x, R⟩
 ·simp at hi; omega
 ·exact ⟨Q, x, [], R, rfl, hq, by simpa using hq, by simpa using hs, fun m hm => (by cases hm), hp⟩
theorem InSt.done {l0 l : List Sx} {i j : Nat} (h : InSt l0 i j l) (hj : j = 0 ∨ ∀ a b, l[j]? = some a → l[j - 1]? = some b → b.no ≤ a.no) : OutSt l0 (i + 1) l := by
 obtain ⟨P, x, M, R, rfl, hp, hm, hs, hx, hperm⟩ := h
 refine ⟨P ++ x :: M, R, by simp, by simp; omega, ?_, hperm⟩
 have hs' := List.pairwise_append.1 hs
 have hpx : ∀ p ∈ P, p.no ≤ x.no := by
  rcases hj with h0 | hle
  ·rw [h0] at hp
   rw [List.eq_nil_of_length_eq_zero hp]
   intro p h; cases h
  ·rcases List.eq_nil_or_concat P with rfl | ⟨P', y, rfl⟩
   ·intro p h; cases h
   ·simp at hp
    have hy : y.no ≤ x.no := hle x y (by
     rw [List.getElem?_append_right (by simp; omega)]
     simp
     rw [show j - (P'.length + 1) = 0 by omega]
     rfl) (by
     rw [show j - 1 = P'.length by omega]
     simp)
    intro p hpm
    simp at hpm
    rcases hpm with hpm | rfl
    ·have h2 := hs'.1
     rw [List.concat_eq_append, List.pairwise_append] at h2
     exact Nat.le_trans (h2.2.2 p hpm y (by simp)) hy
    ·exact hy
 refine List.pairwise_append.2 ⟨hs'.1, List.pairwise_cons.2 ⟨fun m h => Nat.le_of_lt (hx m h), hs'.2.1⟩, fun p hpm y hy => ?_⟩
 rw [List.mem_cons] at hy
 rcases hy with rfl | hy
 ·exact hpx p hpm
 ·exact hs'.2.2 p hpm y hy
theorem InSt.len {l0 l : List Sx} {i j : Nat} (h : InSt l0 i j l) : l.length = l0.length ∧ j ≤ i ∧ i < l.length := by
 obtain ⟨P, x, M, R, rfl, hp, hm, _, _, hperm⟩ := h
 exact ⟨hperm.length_eq, by omega, by simp; omega⟩
theorem InSt.step {l0 l : List Sx} {i j : Nat} {a b : Sx} (h : InSt l0 i (j + 1) l) (ha : l[j + 1]? = some a) (hb : l[j]? = some b) (hlt : a.no < b.no) : InSt l0 i j ((l.set (j + 1) b).set j a) := by
 obtain ⟨P, x, M, R, rfl, hp, hm, hs, hx, hperm⟩ := h
 rcases List.eq_nil_or_concat P with rfl | ⟨P', y, rfl⟩
 ·simp at hp
 ·rw [List.concat_eq_append] at *
  simp at hp
  have e1 : (P' ++ [y] ++ x :: (M ++ R))[j + 1]? = some x := by
   rw [List.getElem?_append_right (by simp; omega)]
   simp
   rw [show j - P'.length = 0 by omega]
   rfl
  have e2 : (P' ++ [y] ++ x :: (M ++ R))[j]? = some y := by
   rw [← hp]
   simp
  have ex : x = a := Option.some.inj (e1.symm.trans ha)
  have ey : y = b := Option.some.inj (e2.symm.trans hb)
  rw [← ex, ← ey] at hlt ⊢
  clear ex ey e1 e2 ha hb
  have eset : ((P' ++ [y] ++ x :: (M ++ R)).set (j + 1) y).set j x = P' ++ x :: ((y :: M) ++ R) := by
   rw [show P' ++ [y] ++ x :: (M ++ R) = P' ++ (y :: x :: (M ++ R)) by simp]
   rw [List.set_append_right _ _ (by omega), show j + 1 - P'.length = 1 by omega]
   rw [List.set_append_right _ _ (by omega), show j - P'.length = 0 by omega]
   rfl
  refine ⟨P', x, y :: M, R, eset, hp, by simp at hm ⊢; omega, by rw [List.append_assoc] at hs; exact hs, fun m h => ?_, ?_⟩
  ·rw [List.mem_cons] at h
   rcases h with rfl | h
   ·exact hlt
   ·exact hx m h
  ·rw [eset]
   refine List.Perm.trans ?_ hperm
   rw [show P' ++ [y] ++ x :: (M ++ R) = P' ++ (y :: x :: (M ++ R)) by simp]
   exact List.Perm.append_left P' (List.Perm.swap y x (M ++ R))
theorem SL.at {w : World} {b i : Nat} {l : List Sx} {x : Sx} (h : SL w b l) (hx : l[i]? = some x) : w.cell? ⟨b, i * 4, none⟩ = some (.int .i64 (x.no : Int)) ∧ w.cell? ⟨b, i * 4 + 1, none⟩ = some (.int .i64 (x.s : Int)) ∧ w.cell? ⟨b, i * 4 + 2, none⟩ = some (.int .i64 (x.g : Int)) ∧ w.cell? ⟨b, i * 4 + 3, none⟩ = some (.slice x.A x.n x.c) := by
 have := SR.cell h (i := i) (List.getElem?_eq_some_iff.1 hx).1
 rw [getD_some hx] at this
 exact this
theorem SL.put {w : World} {b k : Nat} {l : List Sx} (h : SL w b l) (hk : k < l.length) (y : Sx) :
  SL ((((w.setCell ⟨b, k * 4, none⟩ (.int .i64 (y.no : Int))).setCell ⟨b, k * 4 + 1, none⟩ (.int .i64 (y.s : Int))).setCell ⟨b, k * 4 + 2, none⟩ (.int .i64 (y.g : Int))).setCell ⟨b, k * 4 + 3, none⟩ (.slice y.A y.n y.c)) b (l.set k y) := by
 refine SL.of (SR.put h hk y) (by simp) (fun a x hx => ?_)
 unfold updS
 by_cases e : a = k
 ·subst e
  rw [if_pos rfl]
  rw [List.getElem?_set_self (by simpa using hk)] at hx
  cases hx
  rfl
 ·rw [if_neg e]
  rw [List.getElem?_set_ne (by omega)] at hx
  exact getD_some hx
def SrtRet (b : Nat) (l : List Sx) (w : World) (e : Ending) (w' : World) : Prop := e = .returned (.tuple #[]) ∧ ∃ l', l'.Perm l ∧ SoN l' ∧ SL w' b l' ∧ Turn [b] w w'
theorem isinsert {w : World} {b c n : Nat} {l : List Sx} (h : SL w b l) (hn : l.length = n) (hn16 : n ≤ 16) :
  Calls Tryz.prog 124 #[.slice (some ⟨b, 0, none⟩) n c, .int .i64 0, .int .i64 (n : Int), .func (.func 57) #[] #[]] w (SrtRet b l w) := by
 have HS := Lib.hid h
 have HN := Lib.hid hn
 by_cases h0 : n = 0
 ·have h1 : ¬ (1 : Int) < (n : Int) := by omega
  have HE : Hid (l = []) := Lib.hid (List.eq_nil_of_length_eq_zero (by omega))
  clear h hn hn16 h0
  go_enter Tryz.func124, Tryz.ntmps124
  go_wp2_with fail
  refine wp_loop_rounds 1 ?_
  rw [rounds_succ]
  go_wp2_with fail
  go_end0
  exact ⟨rfl, l, List.Perm.refl _, by rw [HE.out]; exact List.Pairwise.nil, HS.out, Turn.refl _ _⟩
 ·have HO : Hid (OutSt l 1 l ∧ SL w b l ∧ Turn [b] w w) := Lib.hid (by
   refine ⟨?_, h, Turn.refl _ _⟩
   rcases l with _ | ⟨x, r⟩
   ·simp at hn; omega
   ·exact ⟨[x], r, rfl, rfl, List.pairwise_singleton _ _, List.Perm.refl _⟩)
  have hn1 : 1 ≤ n := by omega
  clear h hn h0
  go_enter Tryz.func124, Tryz.ntmps124
  go_wp2_with fail
  go_loopg [8, 9] (n - 1) (fun q s8 s9 v => ∃ i : Nat, s8 = .int .i64 (i : Int) ∧ i ≤ n ∧ q = n - i ∧ Hid (∃ l', OutSt l i l' ∧ SL v b l' ∧ Turn [b] w v))
  case atStart => exact ⟨1, rfl, hn1, rfl, Lib.hid ⟨l, HO.out⟩⟩
  case round =>
   obtain ⟨i, rfl, hi, rfl, HV⟩ := hrel
   clear HO
   generalize wr = v0 at *
   by_cases hlt : i < n
   ·have hl : (i : Int) < (n : Int) := by omega
    have HI : Hid (∃ l', InSt l i i l' ∧ SL v0 b l' ∧ Turn [b] w v0) := Lib.hid (by
     obtain ⟨l', h1, h2, h3⟩ := HV.out
     have hl2 : l'.length = n := by
      obtain ⟨Q, R, _, _, _, hp⟩ := h1
      rw [hp.length_eq]; exact HN.out
     exact ⟨l', h1.begin (by omega), h2, h3⟩)
    clear HV
    go_wp2_with fail
    go_loopg [9] i (fun q s9 v => ∃ j : Nat, s9 = .int .i64 (j : Int) ∧ j ≤ i ∧ q = j ∧ Hid (∃ l', InSt l i j l' ∧ SL v b l' ∧ Turn [b] w v))
    case atStart => exact ⟨i, rfl, Nat.le_refl _, rfl, HI⟩
    case round =>
     obtain ⟨j, rfl, hj, hq, HJ⟩ := hrel
     clear HI
     rcases j with _ | j
     ·have HE : Hid (∃ l', OutSt l (i + 1) l' ∧ SL wr b l' ∧ Turn [b] w wr) := Lib.hid (by
       obtain ⟨l', h1, h2, h3⟩ := HJ.out
       exact ⟨l', h1.done (Or.inl rfl), h2, h3⟩)
      clear HJ
      go_wp2_with fail
      go_big_quiet (fail)
      have HE2 : Hid (∀ k, ∃ l', OutSt l (i + 1) l' ∧ SL (wr.drewN k) b l' ∧ Turn [b] w (wr.drewN k)) := Lib.hid (fun k => by
       obtain ⟨l', h1, h2, h3⟩ := HE.out
       exact ⟨l', h1, h2.below (below_drewN k _), h3.trans (Turn.of (below_drewN k _))⟩)
      go_wp2_with fail
      go_roundg (n - (i + 1))
      case measure => omega
      case rel => exact ⟨i + 1, by go_num, by omega, rfl, Lib.hid (HE2.out _)⟩
     ·obtain ⟨J, hJ⟩ : ∃ J, j + 1 = J := ⟨_, rfl⟩
      have HJJ := Lib.hid hJ
      obtain ⟨l', h1, h2, h3⟩ := HJ.out
      have hll : l'.length = n := by rw [h1.len.1]; exact HN.out
      have hIn := h1
      rw [hJ] at hIn hq hj ⊢
      have HI1 := Lib.hid hIn
      have HSL := Lib.hid h2
      have HTU := Lib.hid h3
      obtain ⟨xa, ha⟩ : ∃ xa, l'[J]? = some xa := ⟨_, List.getElem?_eq_getElem (by omega)⟩
      obtain ⟨xb, hb⟩ : ∃ xb, l'[j]? = some xb := ⟨_, List.getElem?_eq_getElem (by omega)⟩
      have HA := Lib.hid ha
      have HB := Lib.hid hb
      have HLEN := Lib.hid hll
      have e1 : (J : Int) - 1 = (j : Int) := by omega
      have hwj : IntKind.i64.wrap (j : Int) = (j : Int) := IntWalk.i64_in _ (by omega)
      have hwj2 : IntKind.i64.wrap ((J : Int) - 1) = (j : Int) := by rw [e1]; exact hwj
      have hJ0 : (0 : Int) < (J : Int) := by omega
      have hJ00 : 0 < J := by omega
      have hJd : decide (0 < J) = true := decide_eq_true hJ00
      have hJn : (J : Int) < (n : Int) := by omega
      have hJ1 : (0 : Int) ≤ (J : Int) := by omega
      have hjn : (j : Int) < (n : Int) := by omega
      have hj0 : (0 : Int) ≤ (j : Int) := by omega
      obtain ⟨a0, a1, a2, a3⟩ := h2.at ha
      obtain ⟨b0, b1, b2, b3⟩ := h2.at hb
      have HC : Hid (∀ W, Calls Tryz.prog 57 #[sv (xa.no : Int) (xa.s : Int) (xa.g : Int) xa.A xa.n xa.c, sv (xb.no : Int) (xb.s : Int) (xb.g : Int) xb.A xb.n xb.c] W fun e w' => e = .returned (.int .i64 (if (xa.no : Int) < (xb.no : Int) then -1 else if (xb.no : Int) < (xa.no : Int) then 1 else 0)) ∧ Below W.heap.size W w') := Lib.hid (fun W => icmp xa.no xb.no _ _ _ _ _ _ _ _ _ _ W)
      have HBD : Hid (Below wr.heap.size wr wr.drew) := Lib.hid (below_drewN 1 wr)
      obtain ⟨r, hr⟩ : ∃ r : Int, (if (xa.no : Int) < (xb.no : Int) then (-1 : Int) else if (xb.no : Int) < (xa.no : Int) then 1 else 0) = r := ⟨_, rfl⟩
      rw [hr] at HC
      have HR : Hid (r < 0 ↔ xa.no < xb.no) := Lib.hid (by rw [← hr]; split <;> (try split) <;> omega)
      unfold sv at HC
      clear hr hJ h1 h2 h3 hll hIn ha hb HJ e1
      go_wp2_with fail
      go_still_tail 14, (by kernel_rfl)
      change wpList _ _ _ _ _ wr.drew
      go_wp2_with fail
      refine (HC.out _).mono ?_
      rintro e w2 ⟨rfl, hb2⟩
      try dsimp only
      have HB2 : Hid (Below wr.heap.size wr w2) := Lib.hid (HBD.out.trans (hb2.mono HBD.out.size))
      have HSL2 : Hid (SL w2 b l') := Lib.hid (SR.below HSL.out HB2.out)
      have HTU2 : Hid (Turn [b] w w2) := Lib.hid (HTU.out.trans (Turn.of HB2.out))
      clear hb2 a0 a1 a2 a3 b0 b1 b2 b3 HC HBD HSL HTU HB2
      by_cases hr0 : r < 0
      ·have hlt2 := HR.out.1 hr0
       obtain ⟨a0, a1, a2, a3⟩ := HSL2.out.at HA.out
       obtain ⟨b0, b1, b2, b3⟩ := HSL2.out.at HB.out
       have ff := SR.f HSL2.out
       obtain ⟨w3, hw3⟩ : ∃ w3, (((((((w2.setCell ⟨b, J * 4, none⟩ (.int .i64 (xb.no : Int))).setCell ⟨b, J * 4 + 1, none⟩ (.int .i64 (xb.s : Int))).setCell ⟨b, J * 4 + 2, none⟩ (.int .i64 (xb.g : Int))).setCell ⟨b, J * 4 + 3, none⟩ (.slice xb.A xb.n xb.c)).setCell ⟨b, j * 4, none⟩ (.int .i64 (xa.no : Int))).setCell ⟨b, j * 4 + 1, none⟩ (.int .i64 (xa.s : Int))).setCell ⟨b, j * 4 + 2, none⟩ (.int .i64 (xa.g : Int))).setCell ⟨b, j * 4 + 3, none⟩ (.slice xa.A xa.n xa.c) = w3 := ⟨_, rfl⟩
       have HW3 := Lib.hid hw3
       have HE : Hid (∃ l', InSt l i j l' ∧ SL w3 b l' ∧ Turn [b] w w3) := Lib.hid (by
        have hin := HI1.out
        have hA := HA.out
        rw [← HJJ.out] at hin hA
        refine ⟨(l'.set J xb).set j xa, by rw [← HJJ.out]; exact hin.step hA HB.out hlt2, ?_, ?_⟩
        ·rw [← hw3]
         exact (HSL2.out.put (by have := HLEN.out; omega) xb).put (by have := HLEN.out; simp; omega) xa
        ·rw [← hw3]
         exact (HTU2.out.put4 (by simp) _ _ _ _ _ _ _ _).put4 (by simp) _ _ _ _ _ _ _ _)
       have g0 : ∀ u v : Nat, u < 4 → v < 4 → ¬ J * 4 + u = j * 4 + v := by intro u v hu hv; have := HJJ.out; omega
       have g00 : ¬ J * 4 = j * 4 := g0 0 0 (by omega) (by omega)
       clear hw3 g0
       go_wp2_with fail
       go_region
       all_goals
        rw [HW3.out]
        have HE3 : Hid (∃ l', InSt l i j l' ∧ SL w3.drew b l' ∧ Turn [b] w w3.drew) := Lib.hid (by
         obtain ⟨l', h1, h2, h3⟩ := HE.out
         exact ⟨l', h1, SR.below h2 (below_drewN 1 _), h3.trans (Turn.of (below_drewN 1 _))⟩)
        clear a0 a1 a2 a3 b0 b1 b2 b3 ff
        go_wp2_with fail
        go_roundg j
        case measure => have := HJJ.out; omega
        case rel => exact ⟨j, rfl, by have := HJJ.out; omega, rfl, HE3⟩
      ·have HE : Hid (∃ l', OutSt l (i + 1) l' ∧ SL w2 b l' ∧ Turn [b] w w2) := Lib.hid ⟨l', HI1.out.done (Or.inr (fun x y hx hy => by
        rw [HA.out] at hx
        rw [show J - 1 = j by have := HJJ.out; omega, HB.out] at hy
        cases hx
        cases hy
        exact Nat.le_of_not_lt (fun h => hr0 (HR.out.2 h)))), HSL2.out, HTU2.out⟩
       go_wp2_with fail
       go_roundg (n - (i + 1))
       case measure => omega
       case rel => exact ⟨i + 1, by go_num, by omega, rfl, HE⟩
   ·obtain rfl : i = n := by omega
    have HE : Hid (∃ l', l'.Perm l ∧ SoN l' ∧ SL v0 b l' ∧ Turn [b] w v0) := Lib.hid (by
     obtain ⟨l', ⟨Q, R, rfl, hq, hs, hp⟩, h2, h3⟩ := HV.out
     have hR : R = [] := by
      have := hp.length_eq
      rw [HN.out, List.length_append, hq] at this
      exact List.eq_nil_of_length_eq_zero (by omega)
     subst hR
     exact ⟨_, hp, by rw [List.append_nil]; exact hs, h2, h3⟩)
    go_wp2_with fail
    go_end0
    exact ⟨rfl, HE.out⟩
theorem isstable {w : World} {b c n : Nat} {l : List Sx} (h : SL w b l) (hn : l.length = n) (hn16 : n ≤ 16) :
  Calls Tryz.prog 56 #[.slice (some ⟨b, 0, none⟩) n c, .func (.func 57) #[] #[]] w (SrtRet b l w) := by
 have HI := Lib.hid (isinsert (c := c) h hn hn16)
 have h1 : ¬ (20 : Int) ≤ (n : Int) := by omega
 have h2 : ¬ (20 : Int) < (n : Int) := by omega
 have HS : Hid (Calls Tryz.prog 90 #[.slice (some ⟨b, 0, none⟩) n c, .int .i64 (n : Int), .func (.func 57) #[] #[]] w (SrtRet b l w)) := by
  refine Lib.hid ?_
  clear h hn hn16
  go_enter Tryz.func90, Tryz.ntmps90
  go_wp2_with fail
  refine wp_loop_rounds 1 ?_
  rw [rounds_succ]
  go_wp2_with fail
  refine HI.out.mono ?_
  rintro e w2 ⟨rfl, l', p1, p2, p3, p4⟩
  try dsimp only
  have HR : Hid (∃ l', l'.Perm l ∧ SoN l' ∧ SL w2 b l' ∧ Turn [b] w w2) := Lib.hid ⟨l', p1, p2, p3, p4⟩
  clear p1 p2 p3 p4
  go_wp2_with fail
  refine wp_loop_rounds 1 ?_
  rw [rounds_succ]
  go_wp2_with fail
  go_end0
  exact ⟨rfl, HR.out⟩
 clear h hn hn16 HI h1 h2
 go_enter Tryz.func56, Tryz.ntmps56
 go_wp2_with fail
 refine HS.out.mono ?_
 rintro e w2 ⟨rfl, l', p1, p2, p3, p4⟩
 try dsimp only
 have HR : Hid (∃ l', l'.Perm l ∧ SoN l' ∧ SL w2 b l' ∧ Turn [b] w w2) := Lib.hid ⟨l', p1, p2, p3, p4⟩
 clear p1 p2 p3 p4
 go_wp2_with fail
 go_end0
 exact ⟨rfl, HR.out⟩
end Go.Proofs.YtelmcchleclklaaGreat
