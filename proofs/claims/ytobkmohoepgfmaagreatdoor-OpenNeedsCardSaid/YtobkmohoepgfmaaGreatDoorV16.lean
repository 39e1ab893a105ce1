import Derived.Test.YtobkmohoepgfmaaGreatDoorV15
import Derived.Test.YtobkmohoepgfmaaGreatDoorV11
namespace Go.Proofs.YtobkmohoepgfmaaGreatDoor
open Go.RowKit Go.Sort
set_option maxRecDepth 100000
set_option maxHeartbeats 4000000

theorem icmp (a b : Nat) (s g s' g' : Int) (A A' : Option Addr) (n c n' c' : Nat) (w : World) :
  Calls Tryz.prog 185 #[sv (a : Int) s g A n c, sv (b : Int) s' g' A' n' c'] w fun e w' => e = .returned (.int .i64 (if (a : Int) < (b : Int) then -1 else if (b : Int) < (a : Int) then 1 else 0)) ∧ Below w.heap.size w w' := by
 have HC := Lib.hid (fun W => ccompare (a : Int) (b : Int) W)
 obtain ⟨w1, hw1⟩ : ∃ w1, (w.alloc (.cells #[.int .i64 (a : Int), .int .i64 s, .int .i64 g, .slice A n c] 194)).alloc (.cells #[.int .i64 (b : Int), .int .i64 s', .int .i64 g', .slice A' n' c'] 194) = w1 := ⟨_, rfl⟩
 have HW1 := Lib.hid hw1
 have HB1 : Hid (Below w.heap.size w w1) := Lib.hid (by rw [← hw1]; exact ((Below.refl _ _).alloc (Nat.le_refl _) _).alloc (by simp) _)
 clear hw1
 obtain ⟨r, hr⟩ : ∃ r : Int, (if (a : Int) < (b : Int) then -1 else if (b : Int) < (a : Int) then 1 else 0) = r := ⟨_, rfl⟩
 rw [hr] at HC ⊢
 clear hr
 unfold sv
 go_enter Tryz.func185, Tryz.ntmps185
 go_wp2_with fail
 rw [HW1.out]
 refine (HC.out w1).mono ?_
 rintro e w' ⟨rfl, hw⟩
 obtain rfl := hw.symm
 go_wp2_with fail
 go_ret
 exact ⟨rfl, HB1.out⟩
def SoN (l : List Sx) : Prop := l.Pairwise (fun a b => a.no ≤ b.no)
def InSt (l0 : List Sx) (i j : Nat) (l : List Sx) : Prop := ∃ P x M R, l = P ++ x :: (M ++ R) ∧ P.length = j ∧ P.length + M.length = i ∧ SoN (P ++ M) ∧ (∀ m ∈ M, x.no < m.no) ∧ l.Perm l0
def OutSt (l0 : List Sx) (i : Nat) (l : List Sx) : Prop := ∃ Q R, l = Q ++ R ∧ Q.length = i ∧ SoN Q ∧ l.Perm l0
theorem OutSt.begin {l0 l : List Sx} {i : Nat} (h : OutSt l0 i l) (hi : i < l.length) : InSt l0 i i l := by
 obtain ⟨Q, R, rfl, hq, hs, hp⟩ := h
 rcases R with _ | ⟨x, R⟩
 ·simp at hi; omega
 ·exact ⟨Q, x, [], R, rfl, hq, by simpa using hq, by simpa using hs, fun m hm => (by cases hm), hp⟩
theorem InSt.done {l0 l : List Sx} {i j : Nat} (h : InSt l0 i j l) (hj : j = 0 ∨ ∀ a b, l[j]? = some a → l[j - 1]? = some b → b.no ≤ a.no) : OutSt l0 (i + 1) l := by
 obtain ⟨P, x, M, R, rfl, hp, hm, hs, hx, hperm⟩ := h
 refine ⟨P ++ x :: M, R, by simp, by simp; omega, ?_, hperm⟩
 have hs' := List.pairwise_append.1 hs
 have hpx : ∀ p ∈ P, p.no ≤ x.no := by
  rcases hj with h0 | hle
  ·rw [h0] at hp
   rw [List.eq_nil_of_length_eq_zero hp]
   intro p h; cases h
  ·rcases List.eq_nil_or_concat P with rfl | ⟨P', y, rfl⟩
   ·intro p h; cases h
   ·simp at hp
    have hy : y.no ≤ x.no := hle x y (by
     rw [List.getElem?_append_right (by simp; omega)]
     simp
     rw [show j - (P'.length + 1) = 0 by omega]
     rfl) (by
     rw [show j - 1 = P'.length by omega]
     simp)
    intro p hpm
    simp at hpm
    rcases hpm with hpm | rfl
    ·have h2 := hs'.1
     rw [List.concat_eq_append, List.pairwise_append] at h2
     exact Nat.le_trans (h2.2.2 p hpm y (by simp)) hy
    ·exact hy
 refine List.pairwise_append.2 ⟨hs'.1, List.pairwise_cons.2 ⟨fun m h => Nat.le_of_lt (hx m h), hs'.2.1⟩, fun p hpm y hy => ?_⟩
 rw [List.mem_cons] at hy
 rcases hy with rfl | hy
 ·exact hpx p hpm
 ·exact hs'.2.2 p hpm y hy
theorem InSt.len {l0 l : List Sx} {i j : Nat} (h : InSt l0 i j l) : l.length = l0.length ∧ j ≤ i ∧ i < l.length := by
 obtain ⟨P, x, M, R, rfl, hp, hm, _, _, hperm⟩ := h
 exact ⟨hperm.length_eq, by omega, by simp; omega⟩
theorem InSt.step {l0 l : List Sx} {i j : Nat} {a b : Sx} (h : InSt l0 i (j + 1) l) (ha : l[j + 1]? = some a) (hb : l[j]? = some b) (hlt : a.no < b.no) : InSt l0 i j ((l.set (j + 1) b).set j a) := by
 obtain ⟨P, x, M, R, rfl, hp, hm, hs, hx, hperm⟩ := h
 rcases List.eq_nil_or_concat P with rfl | ⟨P', y, rfl⟩
 ·simp at hp
 ·rw [List.concat_eq_append] at *
  simp at hp
  have e1 : (P' ++ [y] ++ x :: (M ++ R))[j + 1]? = some x := by
   rw [List.getElem?_append_right (by simp; omega)]
   simp
   rw [show j - P'.length = 0 by omega]
   rfl
  have e2 : (P' ++ [y] ++ x :: (M ++ R))[j]? = some y := by
   rw [← hp]
   simp
  have ex : x = a := Option.some.inj (e1.symm.trans ha)
  have ey : y = b := Option.some.inj (e2.symm.trans hb)
  rw [← ex, ← ey] at hlt ⊢
  clear ex ey e1 e2 ha hb
  have eset : ((P' ++ [y] ++ x :: (M ++ R)).set (j + 1) y).set j x = P' ++ x :: ((y :: M) ++ R) := by
   rw [show P' ++ [y] ++ x :: (M ++ R) = P' ++ (y :: x :: (M ++ R)) by simp]
   rw [List.set_append_right _ _ (by omega), show j + 1 - P'.length = 1 by omega]
   rw [List.set_append_right _ _ (by omega), show j - P'.length = 0 by omega]
   rfl
  refine ⟨P', x, y :: M, R, eset, hp, by simp at hm ⊢; omega, by rw [List.append_assoc] at hs; exact hs, fun m h => ?_, ?_⟩
  ·rw [List.mem_cons] at h
   rcases h with rfl | h
   ·exact hlt
   ·exact hx m h
  ·rw [eset]
   refine List.Perm.trans ?_ hperm
   rw [show P' ++ [y] ++ x :: (M ++ R) = P' ++ (y :: x :: (M ++ R)) by simp]
   exact List.Perm.append_left P' (List.Perm.swap y x (M ++ R))
theorem SL.at {w : World} {b i : Nat} {l : List Sx} {x : Sx} (h : SL w b l) (hx : l[i]? = some x) : w.cell? ⟨b, i * 4, none⟩ = some (.int .i64 (x.no : Int)) ∧ w.cell? ⟨b, i * 4 + 1, none⟩ = some (.int .i64 (x.s : Int)) ∧ w.cell? ⟨b, i * 4 + 2, none⟩ = some (.int .i64 (x.g : Int)) ∧ w.cell? ⟨b, i * 4 + 3, none⟩ = some (.slice x.A x.n x.c) := by
 have := SR.cell h (i := i) (List.getElem?_eq_some_iff.1 hx).1
 rw [getD_some hx] at this
 exact this
theorem SL.put {w : World} {b k : Nat} {l : List Sx} (h : SL w b l) (hk : k < l.length) (y : Sx) :
  SL ((((w.setCell ⟨b, k * 4, none⟩ (.int .i64 (y.no : Int))).setCell ⟨b, k * 4 + 1, none⟩ (.int .i64 (y.s : Int))).setCell ⟨b, k * 4 + 2, none⟩ (.int .i64 (y.g : Int))).setCell ⟨b, k * 4 + 3, none⟩ (.slice y.A y.n y.c)) b (l.set k y) := by
 refine SL.of (SR.put h hk y) (by simp) (fun a x hx => ?_)
 unfold updS
 by_cases e : a = k
 ·subst e
  rw [if_pos rfl]
  rw [List.getElem?_set_self (by simpa using hk)] at hx
  cases hx
  rfl
 ·rw [if_neg e]
  rw [List.getElem?_set_ne (by omega)] at hx
  exact getD_some hx
def SrtRet (b : Nat) (l : List Sx) (w : World) (e : Ending) (w' : World) : Prop := e = .returned (.tuple #[]) ∧ ∃ l', l'.Perm l ∧ SoN l' ∧ SL w' b l' ∧ Turn [b] w w'
theorem isinsert {w : World} {b c n : Nat} {l : List Sx} (h : SL w b l) (hn : l.length = n) (hn16 : n ≤ 16) :
  Calls Tryz.prog 200 #[.slice (some ⟨b, 0, none⟩) n c, .int .i64 0, .int .i64 (n : Int), .func (.func 185) #[] #[]] w (SrtRet b l w) := by
 have HS := Lib.hid h
 have HN := Lib.hid hn
 by_cases h0 : n = 0
 ·have h1 : ¬ (1 : Int) < (n : Int) := by omega
  have HE : Hid (l = []) := Lib.hid (List.eq_nil_of_length_eq_zero (by omega))
  clear h hn hn16 h0
  go_enter Tryz.func200, Tryz.ntmps200
  go_wp2_with fail
  refine wp_loop_rounds 1 ?_
  rw [rounds_succ]
  go_wp2_with fail
  go_end0
  exact ⟨rfl, l, List.Perm.refl _, by rw [HE.out]; exact List.Pairwise.nil, HS.out, Turn.refl _ _⟩
 ·have HO : Hid (OutSt l 1 l ∧ SL w b l ∧ Turn [b] w w) := Lib.hid (by
   refine ⟨?_, h, Turn.refl _ _⟩
   rcases l with _ | ⟨x, r⟩
   ·simp at hn; omega
   ·exact ⟨[x], r, rfl, rfl, List.pairwise_singleton _ _, List.Perm.refl _⟩)
  have hn1 : 1 ≤ n := by omega
  clear h hn h0
  go_enter Tryz.func200, Tryz.ntmps200
  go_wp2_with fail
  go_loopg [8, 9] (n - 1) (fun q s8 s9 v => ∃ i : Nat, s8 = .int .i64 (i : Int) ∧ i ≤ n ∧ q = n - i ∧ Hid (∃ l', OutSt l i l' ∧ SL v b l' ∧ Turn [b] w v))
  case atStart => exact ⟨1, rfl, hn1, rfl, Lib.hid ⟨l, HO.out⟩⟩
  case round =>
   obtain ⟨i, rfl, hi, rfl, HV⟩ := hrel
   clear HO
   generalize wr = v0 at *
   by_cases hlt : i < n
   ·have hl : (i : Int) < (n : Int) := by omega
    have HI : Hid (∃ l', InSt l i i l' ∧ SL v0 b l' ∧ Turn [b] w v0) := Lib.hid (by
     obtain ⟨l', h1, h2, h3⟩ := HV.out
     have hl2 : l'.length = n := by
      obtain ⟨Q, R, _, _, _, hp⟩ := h1
      rw [hp.length_eq]; exact HN.out
     exact ⟨l', h1.begin (by omega), h2, h3⟩)
    clear HV
    go_wp2_with fail
    go_loopg [9] i (fun q s9 v => ∃ j : Nat, s9 = .int .i64 (j : Int) ∧ j ≤ i ∧ q = j ∧ Hid (∃ l', InSt l i j l' ∧ SL v b l' ∧ Turn [b] w v))
    case atStart => exact ⟨i, rfl, Nat.le_refl _, rfl, HI⟩
    case round =>
     obtain ⟨j, rfl, hj, hq, HJ⟩ := hrel
     clear HI
     rcases j with _ | j
     ·have HE : Hid (∃ l', OutSt l (i + 1) l' ∧ SL wr b l' ∧ Turn [b] w wr) := Lib.hid (by
       obtain ⟨l', h1, h2, h3⟩ := HJ.out
       exact ⟨l', h1.done (Or.inl rfl), h2, h3⟩)
      clear HJ
      go_wp2_with fail
      go_big_quiet (fail)
      have HE2 : Hid (∀ k, ∃ l', OutSt l (i + 1) l' ∧ SL (wr.drewN k) b l' ∧ Turn [b] w (wr.drewN k)) := Lib.hid (fun k => by
       obtain ⟨l', h1, h2, h3⟩ := HE.out
       exact ⟨l', h1, h2.below (below_drewN k _), h3.trans (Turn.of (below_drewN k _))⟩)
      go_wp2_with fail
      go_roundg (n - (i + 1))
      case measure => omega
      case rel => exact ⟨i + 1, by go_num, by omega, rfl, Lib.hid (HE2.out _)⟩
     ·obtain ⟨J, hJ⟩ : ∃ J, j + 1 = J := ⟨_, rfl⟩
      have HJJ := Lib.hid hJ
      obtain ⟨l', h1, h2, h3⟩ := HJ.out
      have hll : l'.length = n := by rw [h1.len.1]; exact HN.out
      have hIn := h1
      rw [hJ] at hIn hq hj ⊢
      have HI1 := Lib.hid hIn
      have HSL := Lib.hid h2
      have HTU := Lib.hid h3
      obtain ⟨xa, ha⟩ : ∃ xa, l'[J]? = some xa := ⟨_, List.getElem?_eq_getElem (by omega)⟩
      obtain ⟨xb, hb⟩ : ∃ xb, l'[j]? = some xb := ⟨_, List.getElem?_eq_getElem (by omega)⟩
      have HA := Lib.hid ha
      have HB := Lib.hid hb
      have HLEN := Lib.hid hll
      have e1 : (J : Int) - 1 = (j : Int) := by omega
      have hwj : IntKind.i64.wrap (j : Int) = (j : Int) := IntWalk.i64_in _ (by omega)
      have hwj2 : IntKind.i64.wrap ((J : Int) - 1) = (j : Int) := by rw [e1]; exact hwj
      have hJ0 : (0 : Int) < (J : Int) := by omega
      have hJ00 : 0 < J := by omega
      have hJd : decide (0 < J) = true := decide_eq_true hJ00
      have hJn : (J : Int) < (n : Int) := by omega
      have hJ1 : (0 : Int) ≤ (J : Int) := by omega
      have hjn : (j : Int) < (n : Int) := by omega
      have hj0 : (0 : Int) ≤ (j : Int) := by omega
      obtain ⟨a0, a1, a2, a3⟩ := h2.at ha
      obtain ⟨b0, b1, b2, b3⟩ := h2.at hb
      have HC : Hid (∀ W, Calls Tryz.prog 185 #[sv (xa.no : Int) (xa.s : Int) (xa.g : Int) xa.A xa.n xa.c, sv (xb.no : Int) (xb.s : Int) (xb.g : Int) xb.A xb.n xb.c] W fun e w' => e = .returned (.int .i64 (if (xa.no : Int) < (xb.no : Int) then -1 else if (xb.no : Int) < (xa.no : Int) then 1 else 0)) ∧ Below W.heap.size W w') := Lib.hid (fun W => icmp xa.no xb.no _ _ _ _ _ _ _ _ _ _ W)
      have HBD : Hid (Below wr.heap.size wr wr.drew) := Lib.hid (below_drewN 1 wr)
      obtain ⟨r, hr⟩ : ∃ r : Int, (if (xa.no : Int) < (xb.no : Int) then (-1 : Int) else if (xb.no : Int) < (xa.no : Int) then 1 else 0) = r := ⟨_, rfl⟩
      rw [hr] at HC
      have HR : Hid (r < 0 ↔ xa.no < xb.no) := Lib.hid (by rw [← hr]; split <;> (try split) <;> omega)
      unfold sv at HC
      clear hr hJ h1 h2 h3 hll hIn ha hb HJ e1
      go_wp2_with fail
      go_still_tail 14, (by kernel_rfl)
      change wpList _ _ _ _ _ wr.drew
      go_wp2_with fail
      refine (HC.out _).mono ?_
      rintro e w2 ⟨rfl, hb2⟩
      try dsimp only
      have HB2 : Hid (Below wr.heap.size wr w2) := Lib.hid (HBD.out.trans (hb2.mono HBD.out.size))
      have HSL2 : Hid (SL w2 b l') := Lib.hid (SR.below HSL.out HB2.out)
      have HTU2 : Hid (Turn [b] w w2) := Lib.hid (HTU.out.trans (Turn.of HB2.out))
      clear hb2 a0 a1 a2 a3 b0 b1 b2 b3 HC HBD HSL HTU HB2
      by_cases hr0 : r < 0
      ·have hlt2 := HR.out.1 hr0
       obtain ⟨a0, a1, a2, a3⟩ := HSL2.out.at HA.out
       obtain ⟨b0, b1, b2, b3⟩ := HSL2.out.at HB.out
       have ff := SR.f HSL2.out
       obtain ⟨w3, hw3⟩ : ∃ w3, (((((((w2.setCell ⟨b, J * 4, none⟩ (.int .i64 (xb.no : Int))).setCell ⟨b, J * 4 + 1, none⟩ (.int .i64 (xb.s : Int))).setCell ⟨b, J * 4 + 2, none⟩ (.int .i64 (xb.g : Int))).setCell ⟨b, J * 4 + 3, none⟩ (.slice xb.A xb.n xb.c)).setCell ⟨b, j * 4, none⟩ (.int .i64 (xa.no : Int))).setCell ⟨b, j * 4 + 1, none⟩ (.int .i64 (xa.s : Int))).setCell ⟨b, j * 4 + 2, none⟩ (.int .i64 (xa.g : Int))).setCell ⟨b, j * 4 + 3, none⟩ (.slice xa.A xa.n xa.c) = w3 := ⟨_, rfl⟩
       have HW3 := Lib.hid hw3
       have HE : Hid (∃ l', InSt l i j l' ∧ SL w3 b l' ∧ Turn [b] w w3) := Lib.hid (by
        have hin := HI1.out
        have hA := HA.out
        rw [← HJJ.out] at hin hA
        refine ⟨(l'.set J xb).set j xa, by rw [← HJJ.out]; exact hin.step hA HB.out hlt2, ?_, ?_⟩
        ·rw [← hw3]
         exact (HSL2.out.put (by have := HLEN.out; omega) xb).put (by have := HLEN.out; simp; omega) xa
        ·rw [← hw3]
         exact (HTU2.out.put4 (by simp) _ _ _ _ _ _ _ _).put4 (by simp) _ _ _ _ _ _ _ _)
       have g0 : ∀ u v : Nat, u < 4 → v < 4 → ¬ J * 4 + u = j * 4 + v := by intro u v hu hv; have := HJJ.out; omega
       have g00 : ¬ J * 4 = j * 4 := g0 0 0 (by omega) (by omega)
       clear hw3 g0
       go_wp2_with fail
       go_region
       all_goals
        rw [HW3.out]
        have HE3 : Hid (∃ l', InSt l i j l' ∧ SL w3.drew b l' ∧ Turn [b] w w3.drew) := Lib.hid (by
         obtain ⟨l', h1, h2, h3⟩ := HE.out
         exact ⟨l', h1, SR.below h2 (below_drewN 1 _), h3.trans (Turn.of (below_drewN 1 _))⟩)
        clear a0 a1 a2 a3 b0 b1 b2 b3 ff
        go_wp2_with fail
        go_roundg j
        case measure => have := HJJ.out; omega
        case rel => exact ⟨j, rfl, by have := HJJ.out; omega, rfl, HE3⟩
      ·have HE : Hid (∃ l', OutSt l (i + 1) l' ∧ SL w2 b l' ∧ Turn [b] w w2) := Lib.hid ⟨l', HI1.out.done (Or.inr (fun x y hx hy => by
        rw [HA.out] at hx
        rw [show J - 1 = j by have := HJJ.out; omega, HB.out] at hy
        cases hx
        cases hy
        exact Nat.le_of_not_lt (fun h => hr0 (HR.out.2 h)))), HSL2.out, HTU2.out⟩
       go_wp2_with fail
       go_roundg (n - (i + 1))
       case measure => omega
       case rel => exact ⟨i + 1, by go_num, by omega, rfl, HE⟩
   ·obtain rfl : i = n := by omega
    have HE : Hid (∃ l', l'.Perm l ∧ SoN l' ∧ SL v0 b l' ∧ Turn [b] w v0) := Lib.hid (by
     obtain ⟨l', ⟨Q, R, rfl, hq, hs, hp⟩, h2, h3⟩ := HV.out
     have hR : R = [] := by
      have := hp.length_eq
      rw [HN.out, List.length_append, hq] at this
      exact List.eq_nil_of_length_eq_zero (by omega)
     subst hR
     exact ⟨_, hp, by rw [List.append_nil]; exact hs, h2, h3⟩)
    go_wp2_with fail
    go_end0
    exact ⟨rfl, HE.out⟩
theorem isstable {w : World} {b c n : Nat} {l : List Sx} (h : SL w b l) (hn : l.length = n) (hn16 : n ≤ 16) :
  Calls Tryz.prog 184 #[.slice (some ⟨b, 0, none⟩) n c, .func (.func 185) #[] #[]] w (SrtRet b l w) := by
 have HI := Lib.hid (isinsert (c := c) h hn hn16)
 have h1 : ¬ (20 : Int) ≤ (n : Int) := by omega
 have h2 : ¬ (20 : Int) < (n : Int) := by omega
 have HS : Hid (Calls Tryz.prog 197 #[.slice (some ⟨b, 0, none⟩) n c, .int .i64 (n : Int), .func (.func 185) #[] #[]] w (SrtRet b l w)) := by
  refine Lib.hid ?_
  clear h hn hn16
  go_enter Tryz.func197, Tryz.ntmps197
  go_wp2_with fail
  refine wp_loop_rounds 1 ?_
  rw [rounds_succ]
  go_wp2_with fail
  refine HI.out.mono ?_
  rintro e w2 ⟨rfl, l', p1, p2, p3, p4⟩
  try dsimp only
  have HR : Hid (∃ l', l'.Perm l ∧ SoN l' ∧ SL w2 b l' ∧ Turn [b] w w2) := Lib.hid ⟨l', p1, p2, p3, p4⟩
  clear p1 p2 p3 p4
  go_wp2_with fail
  refine wp_loop_rounds 1 ?_
  rw [rounds_succ]
  go_wp2_with fail
  go_end0
  exact ⟨rfl, HR.out⟩
 clear h hn hn16 HI h1 h2
 go_enter Tryz.func184, Tryz.ntmps184
 go_wp2_with fail
 refine HS.out.mono ?_
 rintro e w2 ⟨rfl, l', p1, p2, p3, p4⟩
 try dsimp only
 have HR : Hid (∃ l', l'.Perm l ∧ SoN l' ∧ SL w2 b l' ∧ Turn [b] w w2) := Lib.hid ⟨l', p1, p2, p3, p4⟩
 clear p1 p2 p3 p4
 go_wp2_with fail
 go_end0
 exact ⟨rfl, HR.out⟩
end Go.Proofs.YtobkmohoepgfmaaGreatDoor
namespace Go.Proofs.YtobkmohoepgfmaaGreatDoor
open Go.RowKit Go.Sort
set_option maxRecDepth 100000
set_option maxHeartbeats 2000000

theorem infoIntent : (Tryz.prog.info? 109).map (fun i => (i.zero, i.size, i.bytes)) = some (some (.agg #[.int .i64 0, .int .i64 0, .slice none 0 0]), 3, 40) := by kernel_rfl
def ItX (W : World) (x : Nat → Option Value) (p : It) : Prop := ∃ A c, x 0 = some (.int .i64 (p.s : Int)) ∧ x 1 = some (.int .i64 (p.g : Int)) ∧ x 2 = some (.slice A 128 c) ∧ DatI W A p.D
theorem ItX.keep {w w' : World} {x : Nat → Option Value} {p : It} (h : ItX w x p) (k : ∀ (g : Nat) (cs : Array Value), w.heap[g]? = some (Obj.cells cs 5 (0, 0)) → w'.heap[g]? = w.heap[g]?) : ItX w' x p := by
 obtain ⟨A, c, a, b, d, f⟩ := h
 exact ⟨A, c, a, b, d, f.keep k⟩
theorem ItX.congr {w : World} {x y : Nat → Option Value} {p : It} (h : ItX w x p) (e : ∀ k, k < 3 → y k = x k) : ItX w y p := by
 obtain ⟨A, c, a, b, d, g⟩ := h
 exact ⟨A, c, (e 0 (by omega)).trans a, (e 1 (by omega)).trans b, (e 2 (by omega)).trans d, g⟩
def LI (W : World) (B : Nat) (v : Value) (l : List It) : Prop := ∃ xs, W.ownsRow B 109 3 v l.length xs ∧ ∀ i p, l[i]? = some p → ItX W (fun k => xs[i * 3 + k]?) p
theorem LI.nil {W : World} {B : Nat} : LI W B (.slice none 0 0) [] := ⟨[], ⟨rfl, Or.inl ⟨rfl, rfl⟩⟩, fun i p hi => by simp at hi⟩
theorem LI.below {w w' : World} {B : Nat} {v : Value} {l : List It} (h : LI w B v l) (b : Below w.heap.size w w') : LI w' B v l := by
 obtain ⟨xs, ⟨h1, h2⟩, h3⟩ := h
 refine ⟨xs, ⟨h1, ?_⟩, fun i p hi => (h3 i p hi).keep (fun g _ hg => b.block g (heap_lt hg))⟩
 rcases h2 with h2 | ⟨g, cap, cur, hv, hg, hh, r⟩
 ·exact Or.inl h2
 ·exact Or.inr ⟨g, cap, cur, hv, hg, (b.block _ (heap_lt hh)).trans hh, r⟩
theorem append_it (w : World) {ops : Array Oper} {rest : List Oper} {o : Oper} {a : Act} {Q : Exit → Act → World → Prop} (hgd : o.guard = none) (s x : Operand)
  (ho : o.op = .call { callee := .builtin .append, args := #[s, x], argTypes := #[101, 101] })
  (base : Nat) (v : Value) (l : List It) (p : It) (hs : a.eval s = v) (hl : LI w base v l) (g : Nat) (A : Option Addr) (c : Nat) (hx : a.eval x = .slice (some ⟨g, 0, none⟩) 1 1)
  (hp : IV w g (p.s : Int) (p.g : Int) A 128 c) (hd : DatI w A p.D) (hn : l.length ≤ 1000000) (hbase : base ≤ w.heap.size)
  (h : ∀ v' w', LI w' base v' (l ++ [p]) → (∀ w0, Below base w0 w → Below base w0 w') → (∃ S0, Turn S0 w w' ∧ ∀ k ∈ S0, base ≤ k ∧ ∃ cs, w.heap[k]? = some (Obj.cells cs 109 (0, 0))) → wpList Tryz.prog ops Q rest (a.put o.dst v') w') : wpList Tryz.prog ops Q (o :: rest) a w := by
 obtain ⟨i0, hi0, hz0, hz1, hz2⟩ := info_parts infoIntent
 obtain ⟨xs, hown, hxs⟩ := hl
 have hlen : xs.length = l.length * 3 := hown.1
 refine wpList_append_lies w hgd s x 101 ho base 109 i0 (.agg #[.int .i64 0, .int .i64 0, .slice none 0 0]) 3 40 Tryz.underlying101 hi0 hz0 hz1 hz2 rfl (by decide) v l.length xs hs hown ⟨g, 0, none⟩ 1 1 [.int .i64 (p.s : Int), .int .i64 (p.g : Int), .slice A 128 c] hx rfl (fun j u hj => ?_) (fun u hu => ?_) (by omega) (by unfold maxLen; omega) (by omega) hbase w.heap.size rfl (fun g' cap w' h2 h3 h4 h5 => ?_)
 ·match j, hj with
  | 0, hj => simp at hj; subst hj; exact hp.c0
  | 1, hj => simp at hj; subst hj; exact hp.c1
  | 2, hj => simp at hj; subst hj; exact hp.c2
 ·simp at hu; rcases hu with rfl | rfl | rfl <;> rfl
 ·have hbytes : ∀ (g : Nat) (cs : Array Value), w.heap[g]? = some (Obj.cells cs 5 (0, 0)) → w'.heap[g]? = w.heap[g]? := fun k cs hk => h3.block k (heap_lt hk) (by
   intro e
   rcases hown.2 with ⟨rfl, _⟩ | ⟨g1, cap1, cur, rfl, _, hh, _⟩
   ·simp [Value.ownBlock] at e
   ·simp [Value.ownBlock] at e; subst e; rw [hh] at hk; cases hk)
  refine h _ w' ⟨_, by simpa using h2, fun i q hi => ?_⟩ (fun w0 hb => Below.grown hb h3 hbase (own_ge hown)) (by
   rcases hown.2 with ⟨rfl, _⟩ | ⟨g1, cap1, cur, rfl, hg1, hh, _⟩
   ·exact ⟨[], ⟨h3.os, h3.tape, h3.output, h3.size, fun k hk _ => h3.block k hk (by simp [Value.ownBlock])⟩, fun k hk => by cases hk⟩
   ·exact ⟨[g1], ⟨h3.os, h3.tape, h3.output, h3.size, fun k hk hn => h3.block k hk (by simp [Value.ownBlock]; intro e; exact hn (by simp [e]))⟩, fun k hk => by rw [List.mem_singleton] at hk; subst hk; exact ⟨hg1, cur, hh⟩⟩)
  by_cases hil : i < l.length
  ·rw [List.getElem?_append_left hil] at hi
   refine ((hxs i q hi).keep hbytes).congr (fun k hk => ?_)
   show (xs ++ _)[i * 3 + k]? = xs[i * 3 + k]?
   rw [List.getElem?_append_left (by omega)]
  ·rw [List.getElem?_append_right (by omega)] at hi
   have hi0 : i = l.length := by
    have := (List.getElem?_eq_some_iff.1 hi).1
    simp at this
    omega
   subst hi0
   simp at hi
   subst hi
   have e : ∀ k, (xs ++ [Value.int .i64 (p.s : Int), .int .i64 (p.g : Int), .slice A 128 c])[l.length * 3 + k]? = [Value.int .i64 (p.s : Int), .int .i64 (p.g : Int), .slice A 128 c][k]? := fun k => by
    rw [List.getElem?_append_right (by omega), show l.length * 3 + k - xs.length = k by omega]
   exact ⟨A, c, e 0, e 1, e 2, hd.keep hbytes⟩
def IL (W : World) (B : Nat) (v : Value) (l : List It) : Prop := (l = [] ∧ ∃ A c, v = .slice A 0 c) ∨ ∃ b c cur, v = .slice (some ⟨b, 0, none⟩) l.length c ∧ B ≤ b ∧ W.heap[b]? = some (.cells cur 109 (0, 0)) ∧ ∀ i p, l[i]? = some p → ItX W (fun k => cur[i * 3 + k]?) p
theorem LI.pl {W : World} {B : Nat} {v : Value} {l : List It} (h : LI W B v l) : IL W B v l := by
 obtain ⟨xs, ⟨h1, h2⟩, h3⟩ := h
 rcases h2 with ⟨rfl, h0⟩ | ⟨g, cap, cur, rfl, hg, hh, hc, _, hsz, htake⟩
 ·exact Or.inl ⟨List.length_eq_zero_iff.1 h0, _, _, rfl⟩
 ·refine Or.inr ⟨g, cap, cur, rfl, hg, hh, fun i p hi => (h3 i p hi).congr (fun k hk => ?_)⟩
  have hi' := (List.getElem?_eq_some_iff.1 hi).1
  show cur[i * 3 + k]? = xs[i * 3 + k]?
  rw [← htake, List.getElem?_take_of_lt (by omega), Array.getElem?_toList]
theorem IL.keep {w w' : World} {B : Nat} {v : Value} {l : List It} (h : IL w B v l) (k : ∀ (g : Nat) (cs : Array Value) (t : TypeId), w.heap[g]? = some (Obj.cells cs t (0, 0)) → (t = 5 ∨ t = 109) → w'.heap[g]? = w.heap[g]?) : IL w' B v l := by
 rcases h with h | ⟨b, c, cur, hv, hb, hh, hx⟩
 ·exact Or.inl h
 ·exact Or.inr ⟨b, c, cur, hv, hb, (k b _ _ hh (Or.inr rfl)).trans hh, fun i p hi => (hx i p hi).keep (fun g cs hg => k g cs _ hg (Or.inl rfl))⟩
theorem IL.below {w w' : World} {B : Nat} {v : Value} {l : List It} (h : IL w B v l) (b : Below w.heap.size w w') : IL w' B v l := h.keep (fun g _ _ hg _ => b.block g (heap_lt hg))
theorem IL.at {w : World} {B : Nat} {v : Value} {l : List It} {i : Nat} {p : It} (h : IL w B v l) (hi : l[i]? = some p) : ∃ b c A d, v = .slice (some ⟨b, 0, none⟩) l.length c ∧ B ≤ b ∧ b < w.heap.size ∧ w.cell? ⟨b, i * 3, none⟩ = some (.int .i64 (p.s : Int)) ∧ w.cell? ⟨b, i * 3 + 1, none⟩ = some (.int .i64 (p.g : Int)) ∧ w.cell? ⟨b, i * 3 + 2, none⟩ = some (.slice A 128 d) ∧ DatI w A p.D := by
 rcases h with ⟨rfl, _⟩ | ⟨b, c, cur, hv, hb, hh, hx⟩
 ·simp at hi
 ·obtain ⟨A, d, a0, a1, a2, a4⟩ := hx i p hi
  exact ⟨b, c, A, d, hv, hb, heap_lt hh, (cell_of_block hh).trans a0, (cell_of_block hh).trans a1, (cell_of_block hh).trans a2, a4⟩
theorem LI.form {W : World} {B : Nat} {v : Value} {l : List It} (h : LI W B v l) : ∃ A c, v = .slice A l.length c := by
 obtain ⟨xs, ⟨h1, h2⟩, h3⟩ := h
 rcases h2 with ⟨rfl, h0⟩ | ⟨g, cap, cur, rfl, _⟩
 ·rw [h0]; exact ⟨none, 0, rfl⟩
 ·exact ⟨_, cap, rfl⟩
theorem LI.mono {W : World} {B B' : Nat} {v : Value} {l : List It} (h : LI W B v l) (hB : B' ≤ B) : LI W B' v l := by
 obtain ⟨xs, ⟨h1, h2⟩, h3⟩ := h
 refine ⟨xs, ⟨h1, ?_⟩, h3⟩
 rcases h2 with h2 | ⟨g, cap, cur, hv, hg, r⟩
 ·exact Or.inl h2
 ·exact Or.inr ⟨g, cap, cur, hv, Nat.le_trans hB hg, r⟩

theorem SL.below {w w' : World} {b : Nat} {l : List Sx} (h : SL w b l) (e : Below w.heap.size w w') : SL w' b l := SR.below h e
def ILiveRet (X : Nat → Sx) (w : World) (e : Ending) (w' : World) : Prop := ∃ v L, e = .returned v ∧ LI w' w.heap.size v (L.map Sx.it) ∧ L.Perm (lv X 16) ∧ SoN L ∧ Below w.heap.size w w'
theorem ilive_ {w : World} {r p sb last : Nat} {S : List Nat} {d : Disk} {nw : Nat} {X : Nat → Sx} (h : Rg w r p sb last S d nw X) :
  Calls Tryz.prog 151 #[.pointer (some ⟨r, 0, none⟩)] w (ILiveRet X w) := by
 have HA := Lib.hid (iall h.rb)
 have HC := Lib.hid (isclone (c := 16) h.sr)
 have HOK := Lib.hid h.ok
 obtain ⟨H, hH⟩ : ∃ H, w.heap.size = H := ⟨_, rfl⟩
 have HHE := Lib.hid hH
 rw [show ILiveRet X w = fun e w' => ∃ v L, e = .returned v ∧ LI w' H v (L.map Sx.it) ∧ L.Perm (lv X 16) ∧ SoN L ∧ Below H w w' by rw [← hH]; rfl]
 clear h hH
 go_enter Tryz.func151, Tryz.ntmps151
 go_wp2_with fail
 refine HA.out.mono ?_
 rintro e w' ⟨rfl, hw⟩
 obtain rfl := hw.symm
 go_wp2_with fail
 refine HC.out.mono ?_
 rintro e w1 ⟨g, cap, rfl, hs1, hb1, hg1, hcap⟩
 try dsimp only
 have HG : Hid (H ≤ g) := Lib.hid (by rw [← HHE.out]; exact hg1)
 have HB1 : Hid (Below H w w1) := Lib.hid (by rw [← HHE.out]; exact hb1)
 have HZ1 : Hid (H ≤ w1.heap.size) := Lib.hid (by rw [← HHE.out]; exact hb1.size)
 have HDE := Lib.hid (isdelete hs1 hcap)
 clear hs1 hb1 hg1 hcap HC HA
 go_wp2_with fail
 refine HDE.out.mono ?_
 rintro e w2 ⟨c2, rfl, hs2, ht2⟩
 try dsimp only
 have HB2 : Hid (Below H w w2) := Lib.hid (Below.of_turn HB1.out ht2 (fun k hk => by rw [List.mem_singleton] at hk; rw [hk]; exact HG.out) HZ1.out)
 have HZ2 : Hid (H ≤ w2.heap.size) := Lib.hid (Nat.le_trans HZ1.out ht2.size)
 obtain ⟨n, hn⟩ : ∃ n, (lv X 16).length = n := ⟨_, rfl⟩
 have hn16 : n ≤ 16 := by rw [← hn]; exact lv_len X 16
 have HSO := Lib.hid (isstable (c := c2) hs2 hn hn16)
 have HN := Lib.hid hn
 rw [hn]
 clear hs2 ht2 hn HDE HB1 HZ1
 go_wp2_with fail
 refine HSO.out.mono ?_
 rintro e w3 ⟨rfl, L, hL1, hL2, hs3, ht3⟩
 try dsimp only
 have HL1 := Lib.hid hL1
 have HL2 := Lib.hid hL2
 have HS3 := Lib.hid hs3
 have HB3 : Hid (Below H w w3) := Lib.hid (Below.of_turn HB2.out ht3 (fun k hk => by rw [List.mem_singleton] at hk; rw [hk]; exact HG.out) HZ2.out)
 have HZ3 : Hid (H ≤ w3.heap.size) := Lib.hid (Nat.le_trans HZ2.out ht3.size)
 have HLN : Hid (L.length = n) := Lib.hid (by rw [hL1.length_eq]; exact HN.out)
 have HOK3 : Hid (∀ x ∈ L, x.n = 128 ∧ DatI w3 x.A x.D) := Lib.hid (fun x hx => by
  obtain ⟨i, hi, hno, rfl⟩ := lv_mem.1 (hL1.mem_iff.1 hx)
  obtain ⟨a, b, _⟩ := HOK.out i hi hno
  exact ⟨a, b.below (by rw [HHE.out]; exact HB3.out)⟩)
 clear hL1 hL2 hs3 ht3 HSO HB2 HZ2 HOK HN
 go_wp2_with fail
 go_loopg [4, 6, 15] n (fun q s4 s6 s15 v => ∃ i : Nat, s15 = .int .i64 (i : Int) ∧ i ≤ n ∧ q = n - i ∧ Hid (LI v w3.heap.size s4 ((L.take i).map Sx.it) ∧ Below w3.heap.size w3 v))
 case atStart => exact ⟨0, rfl, by omega, rfl, Lib.hid ⟨LI.nil, Below.refl _ _⟩⟩
 case round =>
  obtain ⟨i, rfl, hi, rfl, HV⟩ := hrel
  by_cases hlt : i < n
  ·have hl : (i : Int) < (n : Int) := by omega
   have hl0 : (0 : Int) ≤ (i : Int) := by omega
   obtain ⟨x, hx⟩ : ∃ x, L[i]? = some x := ⟨_, List.getElem?_eq_getElem (by rw [HLN.out]; exact hlt)⟩
   have hmem : x ∈ L := List.mem_of_getElem? hx
   obtain ⟨hxn, hxd⟩ := HOK3.out x hmem
   have HSV := Lib.hid (HS3.out.below HV.out.2)
   obtain ⟨a0, a1, a2, a3⟩ := HSV.out.at hx
   rw [hxn] at a3
   have HLI := Lib.hid HV.out.1
   have HB4 := Lib.hid HV.out.2
   have hlen : ((L.take i).map Sx.it).length = i := by
    rw [List.length_map, List.length_take, HLN.out]; omega
   have HTK : Hid ((L.take (i + 1)).map Sx.it = (L.take i).map Sx.it ++ [x.it]) := Lib.hid (by
    rw [List.take_add_one, hx]
    simp)
   obtain ⟨v1, hv1⟩ : ∃ v1, wr.alloc (.cells #[.int .i64 (x.no : Int), .int .i64 (x.s : Int), .int .i64 (x.g : Int), .slice x.A 128 x.c] 194) = v1 := ⟨_, rfl⟩
   have HV1 := Lib.hid hv1
   have hb1 : Below wr.heap.size wr v1 := by rw [← hv1]; exact (Below.refl _ _).alloc (Nat.le_refl _) _
   have HB5 : Hid (Below w3.heap.size w3 v1) := Lib.hid (HB4.out.trans (hb1.mono HB4.out.size))
   have HLI5 := Lib.hid (HLI.out.below hb1)
   have HCL := Lib.hid (iclone (x.s : Int) (x.g : Int) x.A x.c x.D v1 (hxd.below HB5.out).rd)
   unfold iv at HCL
   obtain ⟨l0, hl0'⟩ : ∃ l0, (L.take i).map Sx.it = l0 := ⟨_, rfl⟩
   rw [hl0'] at HLI5 HTK hlen
   have HLEN := Lib.hid hlen
   clear hx hmem hxn hxd hv1 hb1 hl0' HV HLI HB4 HSV hlen
   go_wp2_with fail
   rw [HV1.out]
   refine HCL.out.mono ?_
   rintro e w5 ⟨b5, c5, rfl, k5, hb5, _, _⟩
   try dsimp only
   have HLI6 := Lib.hid (HLI5.out.below hb5)
   have HB6 : Hid (Below w3.heap.size w3 w5) := Lib.hid (HB5.out.trans (hb5.mono HB5.out.size))
   obtain ⟨v6, hv6⟩ : ∃ v6, w5.alloc (.cells #[.int .i64 (x.s : Int), .int .i64 (x.g : Int), .slice (some ⟨b5, 0, none⟩) 128 c5] 109) = v6 := ⟨_, rfl⟩
   have HV6 := Lib.hid hv6
   have hb6 : Below w5.heap.size w5 v6 := by rw [← hv6]; exact (Below.refl _ _).alloc (Nat.le_refl _) _
   have HB7 : Hid (Below w3.heap.size w3 v6) := Lib.hid (HB6.out.trans (hb6.mono HB6.out.size))
   have HI7 : Hid (IV v6 w5.heap.size (x.it.s : Int) (x.it.g : Int) (some ⟨b5, 0, none⟩) 128 c5) := Lib.hid (by rw [← hv6]; exact IV.new w5 _ _ _ _ _)
   have HD7 : Hid (DatI v6 (some ⟨b5, 0, none⟩) x.it.D) := Lib.hid ((DatI.blk k5).below hb6)
   have HLI7 := Lib.hid (HLI6.out.below hb6)
   clear k5 hb5 hv6 hb6 HCL HLI5 HLI6 HB5 HB6 a0 a1 a2 a3
   have HUL : Hid (∀ u4 : Value, LI v6 w3.heap.size u4 l0 → LI v6 w3.heap.size u4 l0) := Lib.hid (fun _ h => h)
   obtain ⟨A4, c4, hu4⟩ := HLI7.out.form
   subst hu4
   rw [HLEN.out] at HLI7 ⊢
   go_wp2_with (rw [HV6.out]; at_builtin; refine append_it _ rfl (.tmp 19) (.tmp 23) rfl w3.heap.size (.slice A4 i c4) l0 x.it rfl HLI7.out w5.heap.size (some ⟨b5, 0, none⟩) c5 rfl HI7.out HD7.out (by rw [HLEN.out]; omega) HB7.out.size ?_; intro v' w' hl' hb' _; have HLE := Lib.hid hl'; have HBE := Lib.hid (hb' w3 HB7.out); clear hl' hb')
   go_roundg (n - (i + 1))
   case measure => omega
   case rel => exact ⟨i + 1, by go_num, by omega, rfl, Lib.hid ⟨by rw [HTK.out]; exact HLE.out, HBE.out⟩⟩
  ·obtain rfl : i = n := by omega
   have HE : Hid (LI wr w3.heap.size u4 (L.map Sx.it)) := Lib.hid (by
    have := HV.out.1
    rwa [List.take_of_length_le (by rw [HLN.out]; exact Nat.le_refl _)] at this)
   have HBE := Lib.hid (HB3.out.trans (HV.out.2.mono HZ3.out))
   go_wp2_with fail
   go_ret
   exact ⟨_, L, rfl, HE.out.mono HZ3.out, HL1.out, HL2.out, HBE.out⟩
end Go.Proofs.YtobkmohoepgfmaaGreatDoor
namespace Go.Proofs.YtobkmohoepgfmaaGreatDoor
open Go.RowKit Go.Sort
set_option maxRecDepth 100000
set_option maxHeartbeats 2000000

abbrev Nt := Nat × It
def ntOf (x : Sx) : Nt := (x.no, x.it)
theorem perm_sorted : ∀ {T l : List Nt}, l.Perm T → l.Pairwise (fun a b => a.1 ≤ b.1) → T.Pairwise (fun a b => a.1 < b.1) → l = T
 | [], l, hp, _, _ => List.Perm.eq_nil hp
 | t :: T, l, hp, hl, hT => by
  rcases l with _ | ⟨a, l⟩
  ·exact absurd hp.symm.eq_nil (by simp)
  ·have hat : a = t := by
    have h1 : a ∈ t :: T := hp.mem_iff.1 (by simp)
    have h2 : t ∈ a :: l := hp.mem_iff.2 (by simp)
    rw [List.mem_cons] at h1 h2
    rcases h1 with h1 | h1
    ·exact h1
    ·rcases h2 with h2 | h2
     ·exact h2.symm
     ·have h3 := (List.pairwise_cons.1 hl).1 t h2
      have h4 := (List.pairwise_cons.1 hT).1 a h1
      omega
   subst hat
   rw [perm_sorted hp.cons_inv (List.pairwise_cons.1 hl).2 (List.pairwise_cons.1 hT).2]
def AG (X : Nat → Sx) (T : List Nt) (last : Nat) : Prop := ((lv X 16).map ntOf).Perm T ∧ T.Pairwise (fun a b => a.1 < b.1) ∧ ∀ e ∈ T, e.1 ≤ last
theorem AG.live {X : Nat → Sx} {T : List Nt} {last : Nat} (h : AG X T last) {L : List Sx} (hp : L.Perm (lv X 16)) (hs : SoN L) : L.map Sx.it = T.map (·.2) := by
 have e : L.map ntOf = T := perm_sorted ((hp.map ntOf).trans h.1) (List.Pairwise.map _ (fun a b hab => hab) hs) h.2.1
 rw [← e, List.map_map]
 rfl
def KeepI (w w' : World) : Prop := w.heap.size ≤ w'.heap.size ∧ ∀ (g : Nat) (cs : Array Value) (t : TypeId), w.heap[g]? = some (Obj.cells cs t (0, 0)) → (t = 5 ∨ t = 109) → w'.heap[g]? = w.heap[g]?
theorem LI.keepI {w w' : World} {B : Nat} {v : Value} {l : List It} (h : LI w B v l) (k : KeepI w w') : LI w' B v l := by
 obtain ⟨xs, ⟨h1, h2⟩, h3⟩ := h
 refine ⟨xs, ⟨h1, ?_⟩, fun i p hi => (h3 i p hi).keep (fun g cs hg => k.2 g cs _ hg (Or.inl rfl))⟩
 rcases h2 with h2 | ⟨g, cap, cur, hv, hg, hh, r⟩
 ·exact Or.inl h2
 ·exact Or.inr ⟨g, cap, cur, hv, hg, (k.2 _ _ _ hh (Or.inr rfl)).trans hh, r⟩
theorem Rg.keepI {w w' : World} {r p sb last : Nat} {S : List Nat} {d : Disk} {nw : Nat} {X : Nat → Sx} (h : Rg w r p sb last S d nw X) (t : Turn (r :: sb :: S) w w') : KeepI w w' :=
 ⟨t.size, fun g cs ty hg ht => t.block g (heap_lt hg) (h.far hg (by rcases ht with rfl | rfl <;> decide) (by rcases ht with rfl | rfl <;> decide) (by rcases ht with rfl | rfl <;> decide) (by rcases ht with rfl | rfl <;> decide) (by rcases ht with rfl | rfl <;> decide))⟩
section
variable {w0 v v' : World} {r p sb last : Nat} {T : List Nt}
end
end Go.Proofs.YtobkmohoepgfmaaGreatDoor
namespace Go.Proofs.YtobkmohoepgfmaaGreatDoor
open Go.RowKit Go.Sort
set_option maxRecDepth 100000
set_option maxHeartbeats 1000000

theorem cinsert1 (A : Option Addr) (n c : Nat) (f : Value) (w : World) (hn : n ≤ 1) :
  Calls Tryz.prog 202 #[.slice A n c, .int .i64 0, .int .i64 (n : Int), f] w fun e w' => e = .returned (.tuple #[]) ∧ w' = w := by
 have h1 : ¬ (1 : Int) < (n : Int) := by omega
 go_enter Tryz.func202, Tryz.ntmps202
 go_wp2_with fail
 refine wp_loop_rounds 1 ?_
 rw [rounds_succ]
 go_wp2_with fail
 go_end0
 exact ⟨rfl, rfl⟩
def PV2 (w : World) (b : Nat) (s0 g0 i0 s1 g1 i1 : Int) (A0 A1 : Option Addr) (n0 c0 n1 c1 : Nat) : Prop :=
 ∃ cur : Array Value, w.heap[b]? = some (.cells cur 162 (0, 0)) ∧ cur[0]? = some (.int .i64 s0) ∧ cur[1]? = some (.int .i64 g0) ∧ cur[2]? = some (.int .i64 i0) ∧ cur[3]? = some (.slice A0 n0 c0) ∧
  cur[4]? = some (.int .i64 s1) ∧ cur[5]? = some (.int .i64 g1) ∧ cur[6]? = some (.int .i64 i1) ∧ cur[7]? = some (.slice A1 n1 c1)
theorem PV2.below {w w' : World} {b n0 c0 n1 c1 : Nat} {s0 g0 i0 s1 g1 i1 : Int} {A0 A1 : Option Addr} (h : PV2 w b s0 g0 i0 s1 g1 i1 A0 A1 n0 c0 n1 c1) (e : Below w.heap.size w w') : PV2 w' b s0 g0 i0 s1 g1 i1 A0 A1 n0 c0 n1 c1 := by
 obtain ⟨cur, h0, r⟩ := h
 exact ⟨cur, (e.block b (heap_lt h0)).trans h0, r⟩
theorem PV2.cells {w : World} {b n0 c0 n1 c1 : Nat} {s0 g0 i0 s1 g1 i1 : Int} {A0 A1 : Option Addr} (h : PV2 w b s0 g0 i0 s1 g1 i1 A0 A1 n0 c0 n1 c1) :
  w.cell? ⟨b, 0, none⟩ = some (.int .i64 s0) ∧ w.cell? ⟨b, 1, none⟩ = some (.int .i64 g0) ∧ w.cell? ⟨b, 2, none⟩ = some (.int .i64 i0) ∧ w.cell? ⟨b, 3, none⟩ = some (.slice A0 n0 c0) ∧
  w.cell? ⟨b, 4, none⟩ = some (.int .i64 s1) ∧ w.cell? ⟨b, 5, none⟩ = some (.int .i64 g1) ∧ w.cell? ⟨b, 6, none⟩ = some (.int .i64 i1) ∧ w.cell? ⟨b, 7, none⟩ = some (.slice A1 n1 c1) ∧ (∀ k, w.frozen? ⟨b, k, none⟩ = false) ∧ b < w.heap.size := by
 obtain ⟨cur, h, a0, a1, a2, a3, a4, a5, a6, a7⟩ := h
 exact ⟨(cell_of_block h).trans a0, (cell_of_block h).trans a1, (cell_of_block h).trans a2, (cell_of_block h).trans a3, (cell_of_block h).trans a4, (cell_of_block h).trans a5, (cell_of_block h).trans a6, (cell_of_block h).trans a7, fun k => free_of_block h, heap_lt h⟩
theorem cinsert2 (b c : Nat) (s0 g0 i0 s1 g1 i1 : Int) (A0 A1 : Option Addr) (n0 c0 n1 c1 : Nat) (w : World) (h : PV2 w b s0 g0 i0 s1 g1 i1 A0 A1 n0 c0 n1 c1) (hg : ¬ g0 < g1) :
  Calls Tryz.prog 202 #[.slice (some ⟨b, 0, none⟩) 2 c, .int .i64 0, .int .i64 2, .func (.func 192) #[] #[]] w fun e w' => e = .returned (.tuple #[]) ∧ Below w.heap.size w w' := by
 obtain ⟨a0, a1, a2, a3, a4, a5, a6, a7, f0, hl⟩ := h.cells
 have HC : Hid (∀ W, Calls Tryz.prog 192 #[pv s1 g1 i1 A1 n1 c1, pv s0 g0 i0 A0 n0 c0] W fun e w' => e = .returned (.int .i64 (if g0 < g1 then -1 else if g1 < g0 then 1 else 0)) ∧ Below W.heap.size W w') := Lib.hid (fun W => cgetcmp s1 g1 i1 s0 g0 i0 A1 A0 n1 c1 n0 c0 W)
 rw [if_neg hg] at HC
 obtain ⟨r, hr⟩ : ∃ r : Int, (if g1 < g0 then (1 : Int) else 0) = r := ⟨_, rfl⟩
 have hr0 : ¬ r < 0 := by rw [← hr]; split <;> omega
 rw [hr] at HC
 unfold pv at HC
 have HB : Hid (Below w.heap.size w w.drew) := Lib.hid (below_drewN 1 w)
 have wr0 : IntKind.i64.wrap 0 = 0 := by decide
 clear hr hg h
 go_enter Tryz.func202, Tryz.ntmps202
 go_wp2_with fail
 refine wp_loop_rounds 2 ?_
 rw [rounds_succ]
 go_wp2_with fail
 refine wp_loop_rounds 2 ?_
 rw [rounds_succ]
 go_wp2_with fail
 go_still_tail 14, (by kernel_rfl)
 change wpList _ _ _ _ _ w.drew
 go_wp2_with fail
 refine (HC.out _).mono ?_
 rintro e w2 ⟨rfl, hb2⟩
 try dsimp only
 have HB2 : Hid (Below w.heap.size w w2) := Lib.hid (HB.out.trans hb2)
 clear hb2
 go_wp2_with fail
 rw [rounds_succ]
 go_wp2_with fail
 go_end0
 exact ⟨rfl, HB2.out⟩
theorem PV2.swap {w : World} {b n0 c0 n1 c1 : Nat} {s0 g0 i0 s1 g1 i1 : Int} {A0 A1 : Option Addr} (h : PV2 w b s0 g0 i0 s1 g1 i1 A0 A1 n0 c0 n1 c1) (w' : World)
  (e : w' = (((((((w.setCell ⟨b, 4, none⟩ (.int .i64 s0)).setCell ⟨b, 5, none⟩ (.int .i64 g0)).setCell ⟨b, 6, none⟩ (.int .i64 i0)).setCell ⟨b, 7, none⟩ (.slice A0 n0 c0)).setCell ⟨b, 0, none⟩ (.int .i64 s1)).setCell ⟨b, 1, none⟩ (.int .i64 g1)).setCell ⟨b, 2, none⟩ (.int .i64 i1)).setCell ⟨b, 3, none⟩ (.slice A1 n1 c1)) :
  PV2 w' b s1 g1 i1 s0 g0 i0 A1 A0 n1 c1 n0 c0 := by
 subst e
 obtain ⟨cur, h0, a0, a1, a2, a3, a4, a5, a6, a7⟩ := h
 have hz : 7 < cur.size := (Array.getElem?_eq_some_iff.1 a7).1
 refine ⟨_, set_block (set_block (set_block (set_block (set_block (set_block (set_block (set_block h0 4 _) 5 _) 6 _) 7 _) 0 _) 1 _) 2 _) 3 _, ?_, ?_, ?_, ?_, ?_, ?_, ?_, ?_⟩ <;> simp [Array.getElem?_setIfInBounds] <;> first | omega | (rintro rfl; simp at hz)
theorem Turn.put8 {b : Nat} {w w2 : World} (h : Turn [b] w w2) (k1 k2 k3 k4 k5 k6 k7 k8 : Nat) (v1 v2 v3 v4 v5 v6 v7 v8 : Value) :
  Turn [b] w ((((((((w2.setCell ⟨b, k1, none⟩ v1).setCell ⟨b, k2, none⟩ v2).setCell ⟨b, k3, none⟩ v3).setCell ⟨b, k4, none⟩ v4).setCell ⟨b, k5, none⟩ v5).setCell ⟨b, k6, none⟩ v6).setCell ⟨b, k7, none⟩ v7).setCell ⟨b, k8, none⟩ v8) := by
 have s : ∀ (W : World) (k : Nat) (v : Value), Turn [b] w W → Turn [b] w (W.setCell ⟨b, k, none⟩ v) := fun W k v hW => hW.trans (Turn.set _ _ _ _ (by simp))
 exact s _ _ _ (s _ _ _ (s _ _ _ (s _ _ _ (s _ _ _ (s _ _ _ (s _ _ _ (s _ _ _ h)))))))
theorem cinsert2s (b c : Nat) (s0 g0 i0 s1 g1 i1 : Int) (A0 A1 : Option Addr) (n0 c0 n1 c1 : Nat) (w : World) (h : PV2 w b s0 g0 i0 s1 g1 i1 A0 A1 n0 c0 n1 c1) (hg : g0 < g1) :
  Calls Tryz.prog 202 #[.slice (some ⟨b, 0, none⟩) 2 c, .int .i64 0, .int .i64 2, .func (.func 192) #[] #[]] w fun e w' => e = .returned (.tuple #[]) ∧ PV2 w' b s1 g1 i1 s0 g0 i0 A1 A0 n1 c1 n0 c0 ∧ Turn [b] w w' := by
 obtain ⟨a0, a1, a2, a3, a4, a5, a6, a7, f0, hl⟩ := h.cells
 have HC : Hid (∀ W, Calls Tryz.prog 192 #[pv s1 g1 i1 A1 n1 c1, pv s0 g0 i0 A0 n0 c0] W fun e w' => e = .returned (.int .i64 (if g0 < g1 then -1 else if g1 < g0 then 1 else 0)) ∧ Below W.heap.size W w') := Lib.hid (fun W => cgetcmp s1 g1 i1 s0 g0 i0 A1 A0 n1 c1 n0 c0 W)
 rw [if_pos hg] at HC
 unfold pv at HC
 have HB : Hid (Below w.heap.size w w.drew) := Lib.hid (below_drewN 1 w)
 have wr0 : IntKind.i64.wrap 0 = 0 := by decide
 have HP := Lib.hid h
 clear hg h
 go_enter Tryz.func202, Tryz.ntmps202
 go_wp2_with fail
 refine wp_loop_rounds 2 ?_
 rw [rounds_succ]
 go_wp2_with fail
 refine wp_loop_rounds 2 ?_
 rw [rounds_succ]
 go_wp2_with fail
 go_still_tail 14, (by kernel_rfl)
 change wpList _ _ _ _ _ w.drew
 go_wp2_with fail
 refine (HC.out _).mono ?_
 rintro e w2 ⟨rfl, hb2⟩
 try dsimp only
 have HB2 : Hid (Below w.heap.size w w2) := Lib.hid (HB.out.trans hb2)
 have HP2 := Lib.hid (HP.out.below HB2.out)
 clear hb2 a0 a1 a2 a3 a4 a5 a6 a7 f0 hl
 obtain ⟨a0, a1, a2, a3, a4, a5, a6, a7, f0, hl⟩ := HP2.out.cells
 go_wp2_with fail
 go_region
 all_goals
  obtain ⟨w3, hw3⟩ : ∃ w3, (((((((w2.setCell ⟨b, 4, none⟩ (.int .i64 s0)).setCell ⟨b, 5, none⟩ (.int .i64 g0)).setCell ⟨b, 6, none⟩ (.int .i64 i0)).setCell ⟨b, 7, none⟩ (.slice A0 n0 c0)).setCell ⟨b, 0, none⟩ (.int .i64 s1)).setCell ⟨b, 1, none⟩ (.int .i64 g1)).setCell ⟨b, 2, none⟩ (.int .i64 i1)).setCell ⟨b, 3, none⟩ (.slice A1 n1 c1) = w3 := ⟨_, rfl⟩
  have HP3 := Lib.hid (HP2.out.swap w3 hw3.symm)
  have HT3 : Hid (Turn [b] w w3) := Lib.hid (by rw [← hw3]; exact Turn.put8 (Turn.of HB2.out) _ _ _ _ _ _ _ _ _ _ _ _ _ _ _ _)
  rw [hw3]
  clear hw3 a0 a1 a2 a3 a4 a5 a6 a7 f0 hl HC HB2 HP2
  go_wp2_with fail
  rw [rounds_succ]
  go_wp2_with fail
  go_big_quiet (fail)
  go_wp2_with fail
  rw [rounds_succ]
  go_wp2_with fail
  go_end0
  exact ⟨rfl, HP3.out, HT3.out.trans (Turn.of (below_drewN _ _))⟩
theorem cpdq (A : Option Addr) (n c : Nat) (l : Int) (f : Value) (w : World) (Q : Ending → World → Prop) (hn : n ≤ 12)
  (h : Calls Tryz.prog 202 #[.slice A n c, .int .i64 0, .int .i64 (n : Int), f] w fun e w' => e = .returned (.tuple #[]) ∧ Q (.returned (.tuple #[])) w') :
  Calls Tryz.prog 199 #[.slice A n c, .int .i64 0, .int .i64 (n : Int), .int .i64 l, f] w Q := by
 have HC := Lib.hid h
 have h12 : (n : Int) ≤ 12 := by omega
 clear h
 go_enter Tryz.func199, Tryz.ntmps199
 go_wp2_with fail
 refine wp_loop_rounds 1 ?_
 rw [rounds_succ]
 go_wp2_with fail
 refine HC.out.mono ?_
 rintro e w2 ⟨rfl, hq⟩
 try dsimp only
 have HQ := Lib.hid hq
 clear hq
 go_wp2_with fail
 go_end0
 exact HQ.out
theorem csort (A : Option Addr) (n c : Nat) (f : Value) (w : World) (Q : Ending → World → Prop) (hn : n < 3)
  (h : Calls Tryz.prog 202 #[.slice A n c, .int .i64 0, .int .i64 (n : Int), f] w fun e w' => e = .returned (.tuple #[]) ∧ Q (.returned (.tuple #[])) w') :
  Calls Tryz.prog 191 #[.slice A n c, f] w Q := by
 have HL := Lib.hid (blen n hn w)
 have HC := Lib.hid (cpdq A n c (n : Int) f w (fun e w' => e = .returned (.tuple #[]) ∧ Q (.returned (.tuple #[])) w') (by omega) (h.mono (by rintro e w' ⟨rfl, hq⟩; exact ⟨rfl, rfl, hq⟩)))
 clear h
 go_enter Tryz.func191, Tryz.ntmps191
 go_wp2_with fail
 refine HL.out.mono ?_
 rintro e w' ⟨rfl, hw⟩
 obtain rfl := hw.symm
 go_wp2_with fail
 refine HC.out.mono ?_
 rintro e w2 ⟨rfl, hq⟩
 try dsimp only
 have HQ := Lib.hid hq
 clear hq
 go_wp2_with fail
 go_end0
 exact HQ.out
end Go.Proofs.YtobkmohoepgfmaaGreatDoor
