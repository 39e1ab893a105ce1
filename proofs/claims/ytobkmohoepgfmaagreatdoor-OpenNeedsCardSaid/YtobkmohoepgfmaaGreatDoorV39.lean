import Derived.Test.YtobkmohoepgfmaaGreatDoorV38
import Derived.Test.YtobkmohoepgfmaaGreatDoorV37
import Derived.Test.YtobkmohoepgfmaaGreatDoorV25
namespace Go.Proofs.YtobkmohoepgfmaaGreatDoor
open Go.RowKit Go.Sort
set_option maxRecDepth 100000
set_option maxHeartbeats 8000000

def GatRet (w0 v : World) (g : Nat) (nd : ND) (x : Wp × Option (Nat × Nat) × List Pc) (en : Ending) (w' : World) : Prop :=
 ∃ r u, en = .returned (.tuple #[r, u]) ∧ WL w0 w' g nd x.1 ∧ KeepW v w' ∧ ((∃ z, x.2.1 = some z ∧ r = .slice none 0 0 ∧ ∃ b, u = onv b ∧ OnE w' b (z.1 : Int) (z.2 : Int)) ∨ (x.2.1 = none ∧ u = .nilIface ∧ LP w' v.heap.size r x.2.2))
theorem LP.own_lt {w : World} {B q : Nat} {v : Value} {l : List Pc} (h : LP w B v l) (hq : v.ownBlock = some q) : q < w.heap.size := by
 obtain ⟨xs, ⟨h1, h2⟩, _⟩ := h
 rcases h2 with ⟨rfl, _⟩ | ⟨g, cap, cur, rfl, hg, hh, _⟩
 ·cases hq
 ·cases hq; exact heap_lt hh
section
variable {w0 v : World} {g : Nat} {nd : ND} {s : Wp}
theorem o_gather (h : WL w0 v g nd s) {m : Nat} (hf : s.Fit m) (hm : m ≤ 999999900) {st : Nat} (hst : st < 40) :
  Calls Tryz.prog 48 #[.pointer (some ⟨g, 0, none⟩), .int .i64 (st : Int)] v (GatRet w0 v g nd (gatN s st 6)) := by
 have q1 := we_neqNil
 have q2 := we_neqNilNil
 have HF := Lib.hid hf
 have HH := Lib.hid h
 have HZB : Hid (nd.B ≤ v.heap.size ∧ w0.heap.size ≤ v.heap.size) := Lib.hid ⟨h.zB, h.blw.size⟩
 clear hf h
 go_enter Tryz.func48, Tryz.ntmps48
 go_wp2_with fail
 go_loopg [6, 7, 12] 6 (fun q s6 s7 s12 wr => ∃ (i : Nat) (sw : Wp) (ps : List Pc), s12 = .int .i64 (i : Int) ∧ i ≤ 6 ∧ q = 6 - i ∧ Hid (gatN s st i = (sw, none, ps)) ∧ Hid (WL w0 wr g nd sw ∧ KeepW v wr ∧ LP wr v.heap.size s6 ps))
 case atStart => exact ⟨0, s, [], rfl, by omega, rfl, Lib.hid rfl, Lib.hid ⟨HH.out, KeepW.refl _, LP.nil⟩⟩
 case round =>
  obtain ⟨i, sw, ps, rfl, hi, rfl, HA, HS⟩ := hrel
  obtain ⟨wo, rfl⟩ : ∃ wo : World, wo = wr := ⟨wr, rfl⟩
  clear HH
  by_cases hlt : i < 6
  ·have t1 : (i : Int) < 6 := by omega
   obtain ⟨n, hn⟩ : ∃ n, (st + i) % 8 = n := ⟨_, rfl⟩
   have hn8 : n < 8 := by omega
   have HNN : Hid (nodeN st i = n) := Lib.hid hn
   have HND := Lib.hid (lnode (st : Int) (i : Int) wo)
   rw [nodeF_nat hst hlt, hn] at HND
   have HFS : Hid (sw.Fit (m + 3 * i)) := Lib.hid (by have := gatN_fit (st := st) HF.out i; rw [HA.out] at this; exact this)
   have HC := Lib.hid (wl_call HS.out.1 HFS.out.1 HFS.out.2 (by omega) hn8 (qGt st) none 0 DatN.none_ (fun _ hj => absurd hj (by show ¬ _ < 0; omega)) (by unfold OkQ qGt; dsimp only; omega))
   unfold qGt at HC
   obtain ⟨s1, a, hc⟩ : ∃ s1 a, sw.call (nodeN st i) (qGt st) = (s1, a) := ⟨_, _, rfl⟩
   have hc' : sw.call n ⟨1, (st : Int), 0, 0, 0, fun _ => 0⟩ = (s1, a) := by rw [← hc, HNN.out]; rfl
   rw [hc'] at HC
   have HCC := Lib.hid hc
   clear hc hc' hn
   go_wp2_with fail
   refine HND.out.mono ?_
   rintro en w' ⟨rfl, hw⟩
   obtain rfl := hw.symm
   try dsimp only
   go_wp2_with fail
   refine HC.out.mono ?_
   intro en w1 hr
   obtain ⟨P, hP⟩ : ∃ P, w1.heap.size = P := ⟨_, rfl⟩
   have HP := Lib.hid hP
   cases a with
   | err c =>
    obtain ⟨b, rfl, W1, K1, _, ho⟩ := hr.err rfl
    try dsimp only
    have B2 : Below w1.heap.size w1 (w1.alloc (.cells #[.int .i64 0, .int .i64 0, .slice none 0 0, .slice none 0 0] 103)) := (Below.refl _ _).alloc (Nat.le_refl _) _
    have HZ := Lib.hid (And.intro (W1.below B2) (And.intro ((HS.out.2.1.trans K1).trans (KeepW.of B2)) ((KeepW.of B2).on ho)))
    have HG : Hid (gatN s st 6 = (s1, some (nodeN st i, c), ps)) := Lib.hid (by
     have h7 := gatN_err HA.out HCC.out
     have h8 := gatN_stay h7 (6 - (i + 1))
     rw [show i + 1 + (6 - (i + 1)) = 6 by omega] at h8
     exact h8)
    clear hr W1 K1 ho B2 HC
    go_wp2_with fail
    go_ret2
    rw [HG.out]
    exact ⟨_, _, rfl, HZ.out.1, HZ.out.2.1, Or.inl ⟨_, rfl, rfl, b, rfl, by rw [HNN.out]; exact HZ.out.2.2⟩⟩
   | ok y =>
    obtain ⟨r, u, rfl, W1, K1, ⟨_, h, _⟩ | ⟨y', hy, rfl, A1, c1, A2, c2, rfl, hp, hi2⟩⟩ := hr
    ·cases h
    ·cases hy
     try dsimp only
     obtain ⟨k0, hk0⟩ : ∃ k0 : Nat, y.2.code = k0 := ⟨_, rfl⟩
     obtain ⟨k1, hk1⟩ : ∃ k1 : Nat, y.1.boot = k1 := ⟨_, rfl⟩
     obtain ⟨l2, hl2⟩ : ∃ l2, y.2.its.length = l2 := ⟨_, rfl⟩
     obtain ⟨L, hL⟩ : ∃ L, y.2.ps = L := ⟨_, rfl⟩
     obtain ⟨l1, hl1⟩ : ∃ l1, L.length = l1 := ⟨_, rfl⟩
     rw [hL] at hp
     have HL1 := Lib.hid hl1
     rw [hL, hl1, hk0, hk1, hl2]
     rw [hl1] at hp
     have hlen : l1 ≤ 2 := by rw [← hl1, ← hL]; exact Wp.ps_le hst HCC.out
     have HGN : Hid (gatN s st (i + 1) = (s1, none, ps ++ L.filter (fun p => decide (p.i = i)))) := Lib.hid (by rw [gatN_ok HA.out HCC.out, hL])
     have hpl : ps.length ≤ 12 := by
      have := (gatN_few s hst i).1
      rw [HA.out] at this
      dsimp only at this
      omega
     obtain ⟨w2, hw2, B2, p2⟩ := rep_laid (k0 := k0) (k1 := k1) (A1 := .slice A1 l1 c1) (A2 := .slice A2 l2 c2) hP
     have u2 := p2.c2
     have HV2 := Lib.hid hw2
     have HLP : Hid (LP w2 v.heap.size u6 ps) := Lib.hid ((HS.out.2.2.keepW K1).below B2)
     have HS2 : Hid (WL w0 w2 g nd s1 ∧ KeepW v w2 ∧ PL w2 wo.heap.size (.slice A1 l1 c1) L) := Lib.hid ⟨W1.below B2, (HS.out.2.1.trans K1).trans (KeepW.of B2), hp.below B2⟩
     have HNB : Hid (L ≠ [] → ∀ b q, A1 = some ⟨b, 0, none⟩ → u6.ownBlock = some q → q ≠ b) := Lib.hid (by
      intro hne b q hA hq e
      have h1 := HS.out.2.2.own_lt hq
      rcases hp with ⟨h2, _⟩ | ⟨b', c', cur, hv, hb, _⟩
      ·exact hne h2
      ·rw [hA] at hv
       injection hv with e1
       injection e1 with e1
       injection e1 with e1
       omega)
     clear hk0 hk1 hl2 hL hl1 hp hi2 W1 K1 hP hw2 B2 p2 HC HA HS
     go_upto_region 8 with fail
     rw [HV2.out, HP.out]
     clear HV2 HP
     go_wp2_with fail
     go_loopg [6, 31] l1 (fun q s6 s31 wr => ∃ j : Nat, s31 = .int .i64 (j : Int) ∧ j ≤ l1 ∧ q = l1 - j ∧ Hid (WL w0 wr g nd s1 ∧ KeepW v wr ∧ PL wr wo.heap.size (.slice A1 l1 c1) L) ∧ Hid (LP wr v.heap.size s6 (ps ++ (L.take j).filter (fun p => decide (p.i = i)))) ∧ Hid (L ≠ [] → ∀ b q, A1 = some ⟨b, 0, none⟩ → s6.ownBlock = some q → q ≠ b))
     case atStart => exact ⟨0, rfl, by omega, rfl, HS2, by simpa using HLP, HNB⟩
     case round =>
      obtain ⟨j, rfl, hj, rfl, HS, HLP', HNB'⟩ := hrel
      clear HS2 HLP HNB u2
      obtain ⟨wa, rfl⟩ : ∃ wa : World, wa = wr := ⟨wr, rfl⟩
      by_cases hjt : j < l1
      ·have t9 : (j : Int) < (l1 : Int) := by omega
       obtain ⟨z, hz⟩ : ∃ z, L[j]? = some z := ⟨_, List.getElem?_eq_getElem (by rw [HL1.out]; exact hjt)⟩
       obtain ⟨b, c', Az, cz, hv, hBb, hbl, z0, z1, z2, z3, hdz⟩ := HS.out.2.2.at hz
       rw [HL1.out] at hv
       cases hv
       rw [Nat.mul_comm] at z0 z1 z2 z3
       have HTK : Hid ((L.take (j + 1)).filter (fun p => decide (p.i = i)) = (L.take j).filter (fun p => decide (p.i = i)) ++ if z.i = i then [z] else []) := Lib.hid (by
        rw [List.take_add_one, hz, List.filter_append]
        by_cases e : z.i = i
        ·rw [if_pos e]; simp [e]
        ·rw [if_neg e]; simp [e])
       have HLN : Hid (L ≠ []) := Lib.hid (fun e => by rw [e] at hz; simp at hz)
       have hll : ((L.take j).filter (fun p => decide (p.i = i))).length ≤ 2 := Nat.le_trans (List.length_filter_le _ _) (by rw [List.length_take]; omega)
       have HLL : Hid ((ps ++ (L.take j).filter (fun p => decide (p.i = i))).length ≤ 1000000) := Lib.hid (by rw [List.length_append]; omega)
       clear hll
       obtain ⟨Q, hQ⟩ : ∃ Q, wa.heap.size = Q := ⟨_, rfl⟩
       obtain ⟨w4, hw4⟩ : ∃ w4, wa.alloc (.cells #[.int .i64 (z.s : Int), .int .i64 (z.g : Int), .int .i64 (z.i : Int), .slice Az 32 cz] 162) = w4 := ⟨_, rfl⟩
       have B4 : Below wa.heap.size wa w4 := by rw [← hw4]; exact (Below.refl _ _).alloc (Nat.le_refl _) _
       have p4 : PV w4 Q (z.s : Int) (z.g : Int) (z.i : Int) Az 32 cz := by rw [← hw4, ← hQ]; exact PV.new _ _ _ _ _ _ _
       have y0 := p4.c0
       have y1 := p4.c1
       have y2 := p4.c2
       have y3 := p4.c3
       have HS4 : Hid (WL w0 w4 g nd s1 ∧ KeepW v w4 ∧ PL w4 wo.heap.size (.slice (some ⟨b, 0, none⟩) l1 c1) L) := Lib.hid ⟨HS.out.1.below B4, HS.out.2.1.trans (KeepW.of B4), HS.out.2.2.below B4⟩
       have HL4 := Lib.hid (HLP'.out.below B4)
       have HD4 := Lib.hid (hdz.keep (fun g cs hg => B4.block g (heap_lt hg)))
       obtain ⟨zi, hzi⟩ : ∃ zi, z.i = zi := ⟨_, rfl⟩
       have HZI := Lib.hid hzi
       have HQ := Lib.hid hQ
       have HV4 := Lib.hid hw4
       rw [hzi] at z2 y2 HV4 HTK
       have HBL : Hid (b < w4.heap.size) := Lib.hid (Nat.lt_of_lt_of_le hbl B4.size)
       clear hz hdz hQ hw4 B4 p4 hzi HS HLP'
       go_upto_region 11 with fail
       rw [HV4.out, HQ.out]
       clear HV4 HQ z0 z1 z2 z3
       by_cases hg1 : zi = i
       ·subst hg1
        rw [if_pos rfl] at HTK
        obtain ⟨w5, hw5⟩ : ∃ w5, w4.alloc (.cells #[.int .i64 (z.s : Int), .int .i64 (z.g : Int), .int .i64 (zi : Int), .slice Az 32 cz] 162) = w5 := ⟨_, rfl⟩
        have B5 : Below w4.heap.size w4 w5 := by rw [← hw5]; exact (Below.refl _ _).alloc (Nat.le_refl _) _
        have HP5 : Hid (PV w5 w4.heap.size (z.s : Int) (z.g : Int) (z.i : Int) Az 32 cz) := Lib.hid (by rw [← hw5, HZI.out]; exact PV.new _ _ _ _ _ _ _)
        have HS5 : Hid (WL w0 w5 g nd s1 ∧ KeepW v w5 ∧ PL w5 wo.heap.size (.slice (some ⟨b, 0, none⟩) l1 c1) L) := Lib.hid ⟨HS4.out.1.below B5, HS4.out.2.1.trans (KeepW.of B5), HS4.out.2.2.below B5⟩
        have HL5 := Lib.hid (HL4.out.below B5)
        have HD5 := Lib.hid (HD4.out.keep (fun g cs hg => B5.block g (heap_lt hg)))
        have HW5 := Lib.hid hw5
        have hbv : v.heap.size ≤ w5.heap.size := HS5.out.2.1.1
        have HB5 : Hid (b < w5.heap.size) := Lib.hid (Nat.lt_of_lt_of_le HBL.out B5.size)
        clear B5 HS4 HL4 HD4 hw5
        go_wp2_with (at_builtin; rw [HW5.out]; refine append_pcG _ rfl (.tmp 39) (.tmp 41) rfl v.heap.size u6 _ z rfl HL5.out w4.heap.size Az cz rfl HP5.out HD5.out HLL.out hbv ?_; intro v' w' r' hl' gr' hr' ho' hn'; have HLE := Lib.hid hl'; have HGR := Lib.hid (And.intro gr' (And.intro hr' (And.intro ho' hn'))); clear hl' gr' hr' ho' hn')
        have HS6 : Hid (WL w0 w' g nd s1 ∧ KeepW v w' ∧ PL w' wo.heap.size (.slice (some ⟨b, 0, none⟩) l1 c1) L) := Lib.hid (by
         obtain ⟨g1, g2, g3, g4⟩ := HGR.out
         refine ⟨HS5.out.1.grown g1 (fun q hq => ?_), HS5.out.2.1.grown g1 (fun q hq => (g2 q hq).1), HS5.out.2.2.app g1 (fun q hq => (g2 q hq).2) (fun hne b' hb' e => ?_)⟩
         ·obtain ⟨a1, cs, a2⟩ := g2 q hq
          exact ⟨Nat.le_trans HZB.out.2 a1, fun hz => by have := HS5.out.1.zlt hz; have := HZB.out.1; omega, cs, _, a2, piece_notW, by decide, by decide⟩
         ·injection hb' with hb'
          injection hb' with hb'
          exact HNB'.out hne b b' rfl (by rw [← g3]; exact e) hb'.symm)
        have HL6 : Hid (LP w' v.heap.size v' (ps ++ (L.take (j + 1)).filter (fun p => decide (p.i = zi)))) := Lib.hid (by
         rw [HTK.out, ← List.append_assoc]
         exact HLE.out)
        have HN6 : Hid (L ≠ [] → ∀ b' q, (some ⟨b, 0, none⟩ : Option Addr) = some ⟨b', 0, none⟩ → v'.ownBlock = some q → q ≠ b') := Lib.hid (by
         intro hne b' q hb' hq
         obtain ⟨g1, g2, g3, g4⟩ := HGR.out
         have hbb : b = b' := by
          injection hb' with hb'
          injection hb' with hb'
         rcases g4 q hq with h5 | h5
         ·exact HNB'.out hne b' q (by rw [hbb]) (by rw [← g3]; exact h5)
         ·have := HB5.out
          omega)
        clear HS5 HL5 HD5 HLE HGR HNB' HP5 HW5 y0 y1 y2 y3
        go_roundg (l1 - (j + 1))
        case measure => omega
        case rel => exact ⟨j + 1, by go_num, by omega, rfl, HS6, HL6, HN6⟩
       ·have hg2 : ¬ (zi : Int) = (i : Int) := by omega
        have hg3 : ((zi : Int) == (i : Int)) = false := by rw [beq_eq_false_iff_ne]; exact hg2
        rw [if_neg hg1, List.append_nil] at HTK
        have HL6 : Hid (LP w4 v.heap.size u6 (ps ++ (L.take (j + 1)).filter (fun p => decide (p.i = i)))) := Lib.hid (by rw [HTK.out]; exact HL4.out)
        clear y0 y1 y3 HL4
        go_wp2_with fail
        go_roundg (l1 - (j + 1))
        case measure => omega
        case rel => exact ⟨j + 1, by go_num, by omega, rfl, HS4, HL6, HNB'⟩
      ·obtain rfl : j = l1 := by omega
       have hge : ¬ (j : Int) < (j : Int) := by omega
       have HS6 : Hid (WL w0 wa g nd s1 ∧ KeepW v wa ∧ LP wa v.heap.size u6 (ps ++ L.filter (fun p => decide (p.i = i)))) := Lib.hid (by
        have h1 := HLP'.out
        rw [List.take_of_length_le (Nat.le_of_eq HL1.out)] at h1
        exact ⟨HS.out.1, HS.out.2.1, h1⟩)
       clear HS HLP' HNB' hjt
       go_wp2_with fail
       go_roundg (6 - (i + 1))
       case measure => omega
       case rel => exact ⟨i + 1, s1, _, by go_num, by omega, rfl, HGN, HS6⟩
  ·obtain rfl : i = 6 := by omega
   have hge : ¬ ((6 : Nat) : Int) < 6 := by omega
   obtain ⟨A6, c6, h6⟩ := HS.out.2.2.form
   obtain rfl := h6
   clear hlt
   go_wp2_with fail
   go_ret2
   rw [HA.out]
   exact ⟨_, _, rfl, HS.out.1, HS.out.2.1, Or.inr ⟨rfl, rfl, HS.out.2.2⟩⟩
end
end Go.Proofs.YtobkmohoepgfmaaGreatDoor
namespace Go.Proofs.YtobkmohoepgfmaaGreatDoor
open Go.RowKit Go.Sort
set_option maxRecDepth 100000
set_option maxHeartbeats 8000000

def lackN (s : Wp) (st gn : Nat) : Nat → Wp × Nat
 | 0 => (s, 0)
 | m + 1 => match (lackN s st gn m).1.call (nodeN st m) (qGt st) with
  | (s2, .err _) => (s2, (lackN s st gn m).2 + 1)
  | (s2, .ok y) => (s2, (lackN s st gn m).2 + if (pieceOf y.2.ps gn m).isSome = true then 0 else 1)
theorem lackN_no {s s1 s2 : Wp} {st gn m n : Nat} {a : Ans} (h : lackN s st gn m = (s1, n)) (hc : s1.call (nodeN st m) (qGt st) = (s2, a)) (ha : ∀ y, a = .ok y → pieceOf y.2.ps gn m = none) : lackN s st gn (m + 1) = (s2, n + 1) := by
 cases a with
 | err c => simp only [lackN, h, hc]
 | ok y =>
  simp only [lackN, h, hc, ha y rfl]
  simp
theorem lackN_ok {s s1 s2 : Wp} {st gn m n : Nat} {y : Ns × Rp} {p : Pc} (h : lackN s st gn m = (s1, n)) (hc : s1.call (nodeN st m) (qGt st) = (s2, .ok y)) (hp : pieceOf y.2.ps gn m = some p) : lackN s st gn (m + 1) = (s2, n) := by
 simp only [lackN, h, hc, hp]
 simp
theorem lackN_le (s : Wp) (st gn : Nat) : ∀ m, (lackN s st gn m).2 ≤ m
 | 0 => Nat.le_refl _
 | m + 1 => by
  have ih := lackN_le s st gn m
  unfold lackN
  split
  ·dsimp only; omega
  ·dsimp only; split <;> omega
theorem lackN_fit {s : Wp} {m0 st gn : Nat} (h : s.Fit m0) : ∀ m, (lackN s st gn m).1.Fit (m0 + 3 * m)
 | 0 => h
 | m + 1 => by
  have ih := lackN_fit (st := st) (gn := gn) h m
  have h4 := ih.cal (n := nodeN st m) (q := qGt st) (by unfold nodeN; omega) (none_lt rfl)
  unfold lackN
  split
  ·next s2 c e => rw [e] at h4; exact h4
  ·next s2 y e => rw [e] at h4; exact h4
def lackF (e : Ep) (st : Nat) : Wp × Nat := if e.gen st = 0 then (e.w, 0) else lackN e.w st (e.gen st) 6
section
variable {w0 v : World} {g cb : Nat} {nd : ND} {e : Ep} {A C c f o cap : Nat} {B : Nat → Value}
theorem o_lacking (h1 : WL w0 v g nd e.w) (h2 : CM w0 v g cb nd e A C c f o cap B) {m : Nat} (hf : e.w.Fit m) (hm : m ≤ 999999000) {st : Nat} (hst : st < 40) :
  Calls Tryz.prog 30 #[.pointer (some ⟨cb, 0, none⟩), .int .i64 (st : Int)] v fun en w' => en = .returned (.int .i64 (((lackF e st).2 : Nat) : Int)) ∧ WL w0 w' g nd (lackF e st).1 ∧ KeepW v w' := by
 have q1 := we_neqNil
 have q2 := we_neqNilNil
 have hst' : (st : Int) < 40 := by omega
 obtain ⟨a1, _⟩ := h2.known hst
 obtain ⟨gn, hgg⟩ : ∃ gn, e.gen st = gn := ⟨_, rfl⟩
 rw [hgg] at a1
 have HGG := Lib.hid hgg
 have H1 := Lib.hid h1
 have H2 := Lib.hid h2
 have HF := Lib.hid hf
 clear h1 h2 hf hgg
 by_cases hg0 : gn = 0
 ·subst hg0
  have HX : Hid (lackF e st = (e.w, 0)) := Lib.hid (by unfold lackF; rw [if_pos HGG.out])
  rw [HX.out]
  go_enter Tryz.func30, Tryz.ntmps30
  go_wp2_with fail
  go_ret
  exact ⟨rfl, H1.out, KeepW.refl _⟩
 ·have hg1 : ¬ (gn : Int) = 0 := by omega
  have hg2 : ((gn : Int) == 0) = false := by rw [beq_eq_false_iff_ne]; exact hg1
  have HX : Hid (lackF e st = lackN e.w st gn 6) := Lib.hid (by unfold lackF; rw [HGG.out, if_neg hg0])
  rw [HX.out]
  go_enter Tryz.func30, Tryz.ntmps30
  go_wp2_with fail
  go_loopg [5, 6, 7, 8, 17] 6 (fun q s5 s6 s7 s8 s17 wr => ∃ (i n : Nat) (sw : Wp), s17 = .int .i64 (i : Int) ∧ i ≤ 6 ∧ q = 6 - i ∧ s5 = .int .i64 (n : Int) ∧ n ≤ i ∧ Hid (lackN e.w st gn i = (sw, n)) ∧ Hid (WL w0 wr g nd sw ∧ KeepW v wr))
  case atStart => exact ⟨0, 0, e.w, rfl, by omega, rfl, rfl, Nat.le_refl _, Lib.hid rfl, Lib.hid ⟨H1.out, KeepW.refl _⟩⟩
  case round =>
   obtain ⟨i, n, sw, rfl, hi, rfl, rfl, hn, HA, HS⟩ := hrel
   obtain ⟨wo, rfl⟩ : ∃ wo : World, wo = wr := ⟨wr, rfl⟩
   clear a1
   by_cases hlt : i < 6
   ·have t1 : (i : Int) < 6 := by omega
    have HMo := Lib.hid (H2.out.keep (e' := { e with w := sw }) H1.out HS.out.1 (KeepF.of HS.out.2) rfl rfl rfl rfl)
    have HFS : Hid (sw.Fit (m + 3 * i)) := Lib.hid (by have := lackN_fit (st := st) (gn := gn) HF.out i; rw [HA.out] at this; exact this)
    have HPC := Lib.hid (cy_piece HS.out.1 HMo.out HFS.out (by omega) (st := st) (i := i) hst hlt)
    have hgs : ({ e with w := sw } : Ep).gen st = gn := HGG.out
    rw [hgs] at HPC
    clear hgs
    obtain ⟨s2, a, hca⟩ : ∃ s2 a, sw.call (nodeN st i) (qGt st) = (s2, a) := ⟨_, _, rfl⟩
    rw [hca] at HPC
    have HCA := Lib.hid hca
    clear hca
    go_wp2_with fail
    refine HPC.out.mono ?_
    rintro en w5 ⟨r, u, rfl, W5, K5, hx⟩
    try dsimp only
    try dsimp only at W5 hx
    have HS5 : Hid (WL w0 w5 g nd s2 ∧ KeepW v w5) := Lib.hid ⟨W5, HS.out.2.trans K5⟩
    clear W5 K5
    rcases hx with ⟨y, p, P, k, rfl, hpo, rfl, rfl, _, _⟩ | ⟨d, be, hcase, rfl, rfl, _⟩
    ·have HN : Hid (lackN e.w st gn (i + 1) = (s2, n)) := Lib.hid (lackN_ok HA.out HCA.out hpo)
     clear hpo
     go_wp2_with fail
     go_roundg (6 - (i + 1))
     case measure => omega
     case rel => exact ⟨i + 1, n, s2, by go_num, by omega, rfl, rfl, by omega, HN, HS5⟩
    ·have HN : Hid (lackN e.w st gn (i + 1) = (s2, n + 1)) := Lib.hid (lackN_no HA.out HCA.out (fun y hy => by
      rcases hcase with h7 | ⟨_, y', h7, h8⟩
      ·rw [hy] at h7; cases h7
      ·rw [hy] at h7; cases h7; exact h8))
     clear hcase
     go_wp2_with fail
     go_roundg (6 - (i + 1))
     case measure => omega
     case rel => exact ⟨i + 1, n + 1, s2, by go_num, by omega, rfl, by go_num, by omega, HN, HS5⟩
   ·obtain rfl : i = 6 := by omega
    go_wp2_with fail
    go_ret
    rw [HA.out]
    exact ⟨rfl, HS.out.1, HS.out.2⟩
end
end Go.Proofs.YtobkmohoepgfmaaGreatDoor
namespace Go.Proofs.YtobkmohoepgfmaaGreatDoor
open Go.RowKit Go.Sort
set_option maxRecDepth 100000
set_option maxHeartbeats 4000000

def askI (s : Wp) : Nat → Wp × Option (Nat × Nat) × List (Nat × It)
 | 0 => (s, none, [])
 | m + 1 => match askI s m with
  | (s1, some e, l) => (s1, some e, l)
  | (s1, none, l) => match s1.call m qIn with
   | (s2, .err c) => (s2, some (m, c), l)
   | (s2, .ok y) => (s2, none, l ++ y.2.its.map (fun x => (m, x)))
def gatS (s : Wp) : Nat → Wp × Option (Nat × Nat) × (Nat → List Pc)
 | 0 => (s, none, fun _ => [])
 | k + 1 => match gatS s k with
  | (s1, some e, F) => (s1, some e, F)
  | (s1, none, F) => match gatN s1 k 6 with
   | (s2, some e, _) => (s2, some e, F)
   | (s2, none, l) => (s2, none, fun i => if i = k then l else F i)
def intsF (L : List (Nat × It)) (st : Nat) : List (Nat × It) := L.filter (fun x => decide (x.2.s = st))
def bytF (is : List (Nat × It)) (g : Nat) : Option (Nat → Nat) := (is.find? (fun x => decide (x.2.g = g))).map (·.2.D)
def knownE (w : Wp) (L : List (Nat × It)) (F : Nat → List Pc) : Ep :=
 ⟨w, fun st => genF (intsF L st) (F st), fun st => topF (intsF L st) (F st) + 1, fun _ => false, fun st => bytF (intsF L st) (genF (intsF L st) (F st))⟩
def chL (f : Nat → Option Pc) : Nat → List (Nat × (Nat → Nat))
 | 0 => []
 | i + 1 => chL f i ++ (match f i with | some p => [(i, p.D)] | none => [])
inductive OErr where
 | at_ (n c : Nat)
 | car (st : Nat) (l : List (Nat × Nat))
 | io (st : Nat)
def relsI (s : Wp) (st : Nat) (is : List (Nat × It)) : Wp := is.foldl (fun s x => (s.call x.1 (qRl st x.2.g)).1) s
def mendF (E : (Nat → Nat) → Nat → Nat → Nat) (dec : List (Nat × (Nat → Nat)) → Nat → Nat) (e : Ep) (st : Nat) (is : List (Nat × It)) (ps : List Pc) : Ep × Option OErr :=
 if e.gen st = 0 ∨ (is = [] ∧ cntF (chF ps (e.gen st)) = 6) then (e, none)
 else match e.carry E st (e.gen st) (match e.pend st with | some D => D | none => dec (chL (chF ps (e.gen st)) 6)) with
  | (e1, some l) => (e1, some (.car st l))
  | (e1, none) => if (e1.pend st).isSome = true then (e1, some (.io st)) else ({ e1 with w := relsI e1.w st is }, none)
def mendN (E : (Nat → Nat) → Nat → Nat → Nat) (dec : List (Nat × (Nat → Nat)) → Nat → Nat) (L : List (Nat × It)) (F : Nat → List Pc) (e : Ep) : Nat → Ep × Option OErr
 | 0 => (e, none)
 | k + 1 => match mendN E dec L F e k with
  | (e1, some x) => (e1, some x)
  | (e1, none) => mendF E dec e1 k (intsF L k) (F k)
def opnF (E : (Nat → Nat) → Nat → Nat → Nat) (dec : List (Nat × (Nat → Nat)) → Nat → Nat) (s : Wp) : Wp × (Ep ⊕ OErr) :=
 match askI s 8 with
 | (s1, some z, _) => (s1, .inr (.at_ z.1 z.2))
 | (s1, none, L) => match gatS s1 40 with
  | (s2, some z, _) => (s2, .inr (.at_ z.1 z.2))
  | (s2, none, F) => match mendN E dec L F (knownE s2 L F) 40 with
   | (e, some x) => (e.w, .inr x)
   | (e, none) => (e.w, .inl e)
def Wp.loseN (s : Wp) (n : Nat) : Wp := s.setN n (s.N n).lose
def isL {α β : Type} : α ⊕ β → Bool
 | .inl _ => true
 | .inr _ => false
def getL (x : Ep ⊕ OErr) : Ep := match x with | .inl e => e | .inr _ => Ep.new Wp.new
theorem opn_new (E : (Nat → Nat) → Nat → Nat → Nat) (dec : List (Nat × (Nat → Nat)) → Nat → Nat) : isL (opnF E dec Wp.new).2 = true := by kernel_rfl
abbrev okA (E : (Nat → Nat) → Nat → Nat → Nat) (dec : List (Nat × (Nat → Nat)) → Nat → Nat) : Ep := getL (opnF E dec Wp.new).2
abbrev okB (E : (Nat → Nat) → Nat → Nat → Nat) (dec : List (Nat × (Nat → Nat)) → Nat → Nat) (D : Nat → Nat) : Ep := ((okA E dec).write E 9 D).1
theorem ok_first (E : (Nat → Nat) → Nat → Nat → Nat) (dec : List (Nat × (Nat → Nat)) → Nat → Nat) (D : Nat → Nat) : ((okA E dec).write E 9 D).2 = none := by kernel_rfl
abbrev okC (E : (Nat → Nat) → Nat → Nat → Nat) (dec : List (Nat × (Nat → Nat)) → Nat → Nat) (D : Nat → Nat) : Wp := ((okB E dec D).w.loseN 2).loseN 4
theorem ok_open (E : (Nat → Nat) → Nat → Nat → Nat) (dec : List (Nat × (Nat → Nat)) → Nat → Nat) (D : Nat → Nat) : isL (opnF E dec (okC E dec D)).2 = true := by kernel_rfl
end Go.Proofs.YtobkmohoepgfmaaGreatDoor
namespace Go.Proofs.YtobkmohoepgfmaaGreatDoor
open Go.RowKit Go.Sort
set_option maxRecDepth 100000
set_option maxHeartbeats 8000000

theorem infoTold : (Tryz.prog.info? 112).map (fun i => (i.zero, i.size, i.bytes)) = some (some (.agg #[.int .i64 0, .int .i64 0, .int .i64 0, .slice none 0 0]), 4, 48) := by kernel_rfl
theorem told_notW : ¬ WiT 112 := notWi (by decide) (by decide) (by decide) (by decide) (by decide) (by decide) (by decide)
theorem found_notW : ¬ WiT 65 := notWi (by decide) (by decide) (by decide) (by decide) (by decide) (by decide) (by decide)
theorem ToX.keep {w w' : World} {x : Nat → Option Value} {p : Nat × It} (h : ToX w x p) (k : ∀ (g : Nat) (cs : Array Value), w.heap[g]? = some (Obj.cells cs 5 (0, 0)) → w'.heap[g]? = w.heap[g]?) : ToX w' x p := by
 obtain ⟨A, c, a0, a1, a2, a3, a4⟩ := h
 exact ⟨A, c, a0, a1, a2, a3, a4.keep k⟩
theorem ToX.congr {w : World} {x y : Nat → Option Value} {p : Nat × It} (h : ToX w x p) (e : ∀ k, k < 4 → y k = x k) : ToX w y p := by
 obtain ⟨A, c, a0, a1, a2, a3, a4⟩ := h
 exact ⟨A, c, (e 0 (by omega)).trans a0, (e 1 (by omega)).trans a1, (e 2 (by omega)).trans a2, (e 3 (by omega)).trans a3, a4⟩
def LT (W : World) (B : Nat) (v : Value) (l : List (Nat × It)) : Prop := ∃ xs, W.ownsRow B 112 4 v l.length xs ∧ ∀ i p, l[i]? = some p → ToX W (fun k => xs[i * 4 + k]?) p
theorem LT.nil {W : World} {B : Nat} : LT W B (.slice none 0 0) [] := ⟨[], ⟨rfl, Or.inl ⟨rfl, rfl⟩⟩, fun i p hi => by simp at hi⟩
theorem LT.keep {w w' : World} {B : Nat} {v : Value} {l : List (Nat × It)} (h : LT w B v l) (hb : ∀ q, v.ownBlock = some q → w'.heap[q]? = w.heap[q]?) (k : ∀ (g : Nat) (cs : Array Value), w.heap[g]? = some (Obj.cells cs 5 (0, 0)) → w'.heap[g]? = w.heap[g]?) : LT w' B v l := by
 obtain ⟨xs, ⟨h1, h2⟩, h3⟩ := h
 refine ⟨xs, ⟨h1, ?_⟩, fun i p hi => (h3 i p hi).keep k⟩
 rcases h2 with h2 | ⟨g, cap, cur, hv, hg, hh, r⟩
 ·exact Or.inl h2
 ·exact Or.inr ⟨g, cap, cur, hv, hg, (hb g (by rw [hv]; rfl)).trans hh, r⟩
theorem LT.blk {w : World} {B q : Nat} {v : Value} {l : List (Nat × It)} (h : LT w B v l) (hq : v.ownBlock = some q) : B ≤ q ∧ ∃ cs, w.heap[q]? = some (Obj.cells cs 112 (0, 0)) := by
 obtain ⟨xs, ⟨h1, h2⟩, _⟩ := h
 rcases h2 with ⟨rfl, _⟩ | ⟨g, cap, cur, rfl, hg, hh, _⟩
 ·cases hq
 ·cases hq; exact ⟨hg, cur, hh⟩
theorem LT.below {w w' : World} {B : Nat} {v : Value} {l : List (Nat × It)} (h : LT w B v l) (b : Below w.heap.size w w') : LT w' B v l :=
 h.keep (fun q hq => by obtain ⟨_, cs, hc⟩ := h.blk hq; exact b.block q (heap_lt hc)) (fun g _ hg => b.block g (heap_lt hg))
theorem LT.keepW {w w' : World} {B : Nat} {v : Value} {l : List (Nat × It)} (h : LT w B v l) (k : KeepW w w') : LT w' B v l :=
 h.keep (fun q hq => by obtain ⟨_, cs, hc⟩ := h.blk hq; exact k.cells hc told_notW) (fun g _ hg => k.cells hg u8_notW)
theorem told_app (w : World) (ty : TypeId) (base : Nat) (v : Value) (l : List (Nat × It)) (p : Nat × It) (hl : LT w base v l) (g : Nat) (A : Option Addr) (c : Nat)
  (hp : w.heap[g]? = some (.cells #[.int .i64 (p.1 : Int), .int .i64 (p.2.s : Int), .int .i64 (p.2.g : Int), .slice A 128 c] 112 (0, 0))) (hd : DatI w A p.2.D) (hn : l.length ≤ 1000000) (hbase : base ≤ w.heap.size) :
  ∃ g' cap w', (Builtin.append_ #[62, 62] ty #[v, .slice (some ⟨g, 0, none⟩) 1 1]).run Tryz.prog w = .ok (.slice (some ⟨g', 0, none⟩) (l.length + 1) cap) w' ∧ LT w' base (.slice (some ⟨g', 0, none⟩) (l.length + 1) cap) (l ++ [p]) ∧ w.grownBy w' v.ownBlock ∧ (v.ownBlock = some g' ∨ g' = w.heap.size) := by
 obtain ⟨i0, hi0, hz0, hz1, hz2⟩ := info_parts infoTold
 obtain ⟨xs, hown, hxs⟩ := hl
 have hlen : xs.length = l.length * 4 := hown.1
 obtain ⟨g', cap, w', hr, h2, h3, h4, h5⟩ := run_append_lies (P := Tryz.prog) w 62 ty base 112 i0 (.agg #[.int .i64 0, .int .i64 0, .int .i64 0, .slice none 0 0]) 4 48 Tryz.underlying62 hi0 hz0 hz1 hz2 rfl (by decide) v l.length xs hown ⟨g, 0, none⟩ 1 1 [.int .i64 (p.1 : Int), .int .i64 (p.2.s : Int), .int .i64 (p.2.g : Int), .slice A 128 c] rfl (fun j u hj => by
  match j, hj with
  | 0, hj => simp at hj; subst hj; exact cell_of_block hp
  | 1, hj => simp at hj; subst hj; exact cell_of_block hp
  | 2, hj => simp at hj; subst hj; exact cell_of_block hp
  | 3, hj => simp at hj; subst hj; exact cell_of_block hp) (fun u hu => by simp at hu; rcases hu with rfl | rfl | rfl | rfl <;> rfl) (by omega) (by unfold maxLen; omega) (by omega) hbase w.heap.size rfl
 have hbytes : ∀ (g : Nat) (cs : Array Value), w.heap[g]? = some (Obj.cells cs 5 (0, 0)) → w'.heap[g]? = w.heap[g]? := fun k cs hk => h3.block k (heap_lt hk) (by
  intro e
  rcases hown.2 with ⟨rfl, _⟩ | ⟨g1, cap1, cur, rfl, _, hh, _⟩
  ·simp [Value.ownBlock] at e
  ·simp [Value.ownBlock] at e; subst e; rw [hh] at hk; cases hk)
 refine ⟨g', cap, w', hr, ⟨_, by simpa using h2, fun i q hi => ?_⟩, h3, h4⟩
 by_cases hil : i < l.length
 ·rw [List.getElem?_append_left hil] at hi
  refine ((hxs i q hi).keep hbytes).congr (fun k hk => ?_)
  show (xs ++ _)[i * 4 + k]? = xs[i * 4 + k]?
  rw [List.getElem?_append_left (by omega)]
 ·rw [List.getElem?_append_right (by omega)] at hi
  have hi0 : i = l.length := by
   have := (List.getElem?_eq_some_iff.1 hi).1
   simp at this
   omega
  subst hi0
  simp at hi
  subst hi
  have e : ∀ k, (xs ++ [Value.int .i64 (p.1 : Int), .int .i64 (p.2.s : Int), .int .i64 (p.2.g : Int), .slice A 128 c])[l.length * 4 + k]? = [Value.int .i64 (p.1 : Int), .int .i64 (p.2.s : Int), .int .i64 (p.2.g : Int), .slice A 128 c][k]? := fun k => by
   rw [List.getElem?_append_right (by omega), show l.length * 4 + k - xs.length = k by omega]
  exact ⟨A, c, e 0, e 1, e 2, e 3, hd.keep hbytes⟩
def fndF (V U : Nat → Value) (j : Nat) : Value := if j % 2 = 0 then V (j / 2) else U (j / 2)
structure AS (base : Nat) (w : World) (sb : Nat) (V U : Nat → Value) (F : Nat → List (Nat × It)) : Prop where
 blk : BlkT w 65 sb 80 (fndF V U)
 row : ∀ k, k < 40 → LT w base (V k) (F k)
 dis : ∀ k k' q, k < 40 → k' < 40 → k ≠ k' → (V k).ownBlock = some q → (V k').ownBlock ≠ some q
theorem AS.below {base sb : Nat} {w w' : World} {V U : Nat → Value} {F : Nat → List (Nat × It)} (h : AS base w sb V U F) (b : Below w.heap.size w w') : AS base w' sb V U F :=
 ⟨h.blk.keep (b.block sb h.blk.lt), fun k hk => (h.row k hk).below b, h.dis⟩
theorem AS.keepW {base sb : Nat} {w w' : World} {V U : Nat → Value} {F : Nat → List (Nat × It)} (h : AS base w sb V U F) (k : KeepW w w') : AS base w' sb V U F :=
 ⟨h.blk.keep (by obtain ⟨cs, hb, _⟩ := h.blk; exact k.cells hb found_notW), fun i hi => (h.row i hi).keepW k, h.dis⟩
theorem AS.cell {base sb k : Nat} {w : World} {V U : Nat → Value} {F : Nat → List (Nat × It)} (h : AS base w sb V U F) (hk : k < 40) : w.cell? ⟨sb, k * 2, none⟩ = some (V k) ∧ w.cell? ⟨sb, k * 2 + 1, none⟩ = some (U k) := by
 refine ⟨(h.blk.cell (j := k * 2) (by omega)).trans ?_, (h.blk.cell (j := k * 2 + 1) (by omega)).trans ?_⟩
 ·unfold fndF
  rw [if_pos (by omega), show k * 2 / 2 = k by omega]
 ·unfold fndF
  rw [if_neg (by omega), show (k * 2 + 1) / 2 = k by omega]
theorem AS.app {base sb k g : Nat} {w : World} {V U : Nat → Value} {F : Nat → List (Nat × It)} (h : AS base w sb V U F) (ty : TypeId) (hk : k < 40) (p : Nat × It) (A : Option Addr) (c : Nat)
  (hp : w.heap[g]? = some (.cells #[.int .i64 (p.1 : Int), .int .i64 (p.2.s : Int), .int .i64 (p.2.g : Int), .slice A 128 c] 112 (0, 0))) (hd : DatI w A p.2.D) (hn : (F k).length ≤ 1000000) (hbase : base ≤ w.heap.size) :
  ∃ v' w' r, (∃ g1 n1 c1, v' = .slice (some ⟨g1, 0, none⟩) n1 c1) ∧ (Builtin.append_ #[62, 62] ty #[V k, .slice (some ⟨g, 0, none⟩) 1 1]).run Tryz.prog w = .ok v' w' ∧ w.grownBy w' r ∧ (∀ j, r = some j → base ≤ j ∧ ∃ cs, w.heap[j]? = some (Obj.cells cs 112 (0, 0))) ∧
   AS base (w'.setCell ⟨sb, k * 2, none⟩ v') sb (fun i => if i = k then v' else V i) U (fun i => if i = k then F k ++ [p] else F i) ∧ w'.heap[sb]? = w.heap[sb]? := by
 obtain ⟨g', cap, w', hr, h2, h3, h4⟩ := told_app w ty base (V k) (F k) p (h.row k hk) g A c hp hd hn hbase
 have hty : ∀ j, (V k).ownBlock = some j → base ≤ j ∧ ∃ cs, w.heap[j]? = some (Obj.cells cs 112 (0, 0)) := fun j hj => (h.row k hk).blk hj
 have hsb : w'.heap[sb]? = w.heap[sb]? := h3.block sb h.blk.lt (fun e => by
  obtain ⟨_, cs, hc⟩ := hty sb e.symm
  obtain ⟨us, hu, _⟩ := h.blk
  rw [hu] at hc
  injection hc with hc
  injection hc with _ hc
  exact absurd hc (by decide))
 have hu8 : ∀ (q : Nat) (cs : Array Value), w.heap[q]? = some (Obj.cells cs 5 (0, 0)) → w'.heap[q]? = w.heap[q]? := fun q cs hq => h3.block q (heap_lt hq) (fun e => by
  obtain ⟨_, cs', hc⟩ := hty q e.symm
  rw [hq] at hc
  injection hc with hc
  injection hc with _ hc
  exact absurd hc (by decide))
 have hset : ∀ (x : Value) (q : Nat) (cs : Array Value) (t : TypeId), w'.heap[q]? = some (Obj.cells cs t (0, 0)) → t ≠ 65 → (w'.setCell ⟨sb, k * 2, none⟩ x).heap[q]? = w'.heap[q]? := fun x q cs t hq ht => set_other (fun e => by
  obtain ⟨us, hu, _⟩ := h.blk
  rw [e, hsb, hu] at hq
  injection hq with hq
  injection hq with _ hq
  exact ht hq.symm) _ _
 refine ⟨_, w', (V k).ownBlock, ⟨_, _, _, rfl⟩, hr, h3, hty, ⟨?_, fun i hi => ?_, fun i i' q hi hi' hne hq => ?_⟩, hsb⟩
 ·refine ((h.blk.keep hsb).put (q := k * 2) (x := .slice (some ⟨g', 0, none⟩) ((F k).length + 1) cap) (by omega)).congr (fun j hj => ?_)
  unfold fndF
  by_cases e : j = k * 2
  ·subst e
   rw [if_pos rfl, if_pos (by omega)]
   exact (if_pos (by omega : k * 2 / 2 = k)).symm
  ·rw [if_neg e]
   by_cases e2 : j % 2 = 0
   ·rw [if_pos e2, if_pos e2]
    exact (if_neg (by omega : ¬ j / 2 = k)).symm
   ·rw [if_neg e2, if_neg e2]
 ·by_cases e : i = k
  ·subst e
   rw [if_pos rfl, if_pos rfl]
   exact h2.keep (fun q hq => by obtain ⟨_, cs, hc⟩ := h2.blk hq; exact hset _ q cs _ hc (by decide)) (fun q cs hq => hset _ q cs _ hq (by decide))
  ·rw [if_neg e, if_neg e]
   have h5 := h.row i hi
   have h6 : LT w' base (V i) (F i) := h5.keep (fun q hq => by
    obtain ⟨_, cs, hc⟩ := h5.blk hq
    exact h3.block q (heap_lt hc) (fun e2 => h.dis i k q hi hk e hq e2.symm)) hu8
   exact h6.keep (fun q hq => by obtain ⟨_, cs, hc⟩ := h6.blk hq; exact hset _ q cs _ hc (by decide)) (fun q cs hq => hset _ q cs _ hq (by decide))
 ·have hold : ∀ i q, i < 40 → (V i).ownBlock = some q → q < w.heap.size := fun i q hi hq => by
   obtain ⟨_, cs, hc⟩ := (h.row i hi).blk hq
   exact heap_lt hc
  have hnew : ∀ q, (Value.slice (some ⟨g', 0, none⟩) ((F k).length + 1) cap).ownBlock = some q → g' = q := fun q hq => by simpa [Value.ownBlock] using hq
  by_cases e : i = k
  ·rw [if_pos e] at hq
   have := hnew q hq
   subst this
   rw [if_neg (fun e2 => hne (e.trans e2.symm))]
   intro hq'
   rcases h4 with h4 | h4
   ·exact h.dis k i' g' hk hi' (fun e2 => hne (e.trans e2)) h4 hq'
   ·have := hold i' g' hi' hq'
    omega
  ·rw [if_neg e] at hq
   by_cases e' : i' = k
   ·rw [if_pos e']
    intro hq'
    have := hnew q hq'
    subst this
    rcases h4 with h4 | h4
    ·exact h.dis k i g' hk hi (fun e2 => e e2.symm) h4 hq
    ·have := hold i g' hi hq
     omega
   ·rw [if_neg e']
    exact h.dis i i' q hi hi' hne hq
end Go.Proofs.YtobkmohoepgfmaaGreatDoor
namespace Go.Proofs.YtobkmohoepgfmaaGreatDoor
open Go.RowKit Go.Sort
set_option maxRecDepth 100000
set_option maxHeartbeats 20000000

theorem askI_err {s s1 s2 : Wp} {m c : Nat} {l : List (Nat × It)} (h : askI s m = (s1, none, l)) (hc : s1.call m qIn = (s2, .err c)) : askI s (m + 1) = (s2, some (m, c), l) := by simp only [askI, h, hc]
theorem askI_ok {s s1 s2 : Wp} {m : Nat} {y : Ns × Rp} {l : List (Nat × It)} (h : askI s m = (s1, none, l)) (hc : s1.call m qIn = (s2, .ok y)) : askI s (m + 1) = (s2, none, l ++ y.2.its.map (fun x => (m, x))) := by simp only [askI, h, hc]
theorem askI_stay {s s1 : Wp} {m : Nat} {e : Nat × Nat} {l : List (Nat × It)} (h : askI s m = (s1, some e, l)) : ∀ k, askI s (m + k) = (s1, some e, l)
 | 0 => h
 | k + 1 => by
  have ih := askI_stay h k
  rw [show m + (k + 1) = (m + k) + 1 from rfl]
  simp only [askI, ih]
theorem askI_fit {s : Wp} {m0 : Nat} (h : s.Fit m0) : ∀ m, m ≤ 8 → (askI s m).1.Fit (m0 + 3 * m)
 | 0, _ => h
 | m + 1, hm => by
  have ih := askI_fit h m (by omega)
  obtain ⟨s1, o, l, hx⟩ : ∃ s1 o l, askI s m = (s1, o, l) := ⟨_, _, _, rfl⟩
  rw [hx] at ih
  dsimp only at ih
  cases o with
  | some e => rw [show askI s (m + 1) = (s1, some e, l) from askI_stay hx 1]; exact ih.mono (by omega)
  | none =>
   obtain ⟨s2, a, hc⟩ : ∃ s2 a, s1.call m qIn = (s2, a) := ⟨_, _, rfl⟩
   have h4 := ih.cal (n := m) (q := qIn) (by omega) (none_lt rfl)
   rw [hc] at h4
   cases a with
   | err c => rw [askI_err hx hc]; exact h4
   | ok y => rw [askI_ok hx hc]; exact h4
theorem askI_few (s : Wp) : ∀ m, (askI s m).2.2.length ≤ 16 * m
 | 0 => Nat.le_refl _
 | m + 1 => by
  have ih := askI_few s m
  obtain ⟨s1, o, l, hx⟩ : ∃ s1 o l, askI s m = (s1, o, l) := ⟨_, _, _, rfl⟩
  rw [hx] at ih
  dsimp only at ih
  cases o with
  | some e => rw [show askI s (m + 1) = (s1, some e, l) from askI_stay hx 1]; dsimp only; omega
  | none =>
   obtain ⟨s2, a, hc⟩ : ∃ s2 a, s1.call m qIn = (s2, a) := ⟨_, _, rfl⟩
   cases a with
   | err c => rw [askI_err hx hc]; dsimp only; omega
   | ok y =>
    rw [askI_ok hx hc]
    have := Wp.its_le hc
    dsimp only
    rw [List.length_append, List.length_map]
    omega
theorem step_append_eq {ops : Array Oper} {o : Oper} {a : Act} {K : Act → World → Prop} {Q : Exit → Act → World → Prop} {E : Prop} (w : World) (v' : Value) (w' : World) (hgd : o.guard = none) (s x : Operand) (t : TypeId)
  (ho : o.op = .call { callee := .builtin .append, args := #[s, x], argTypes := #[t, t] }) (v u : Value) (hs : a.eval s = v) (hx : a.eval x = u)
  (hr : (Builtin.append_ #[t, t] o.type #[v, u]).run Tryz.prog w = .ok v' w') (h : K (a.put o.dst v') w') :
  if Region.wanted o (yielded ops a.tmps) = true then Oper.wp Tryz.prog o a w K Q else E := by
 have hw : Region.wanted o (yielded ops a.tmps) = true := by simp [Region.wanted, hgd]
 rw [if_pos hw]
 unfold Oper.wp execOp
 simp only [ho, resolve, invoke, builtin, Sem.run_bind, Sem.run_pure, Result.andThen_ok, List.map_toArray, List.map_cons, List.map_nil, hs, hx, hr]
 exact h
theorem gatS_err {s s1 s2 : Wp} {k : Nat} {F : Nat → List Pc} {z : Nat × Nat} {l : List Pc} (h : gatS s k = (s1, none, F)) (hc : gatN s1 k 6 = (s2, some z, l)) : gatS s (k + 1) = (s2, some z, F) := by simp only [gatS, h, hc]
theorem gatS_ok {s s1 s2 : Wp} {k : Nat} {F : Nat → List Pc} {l : List Pc} (h : gatS s k = (s1, none, F)) (hc : gatN s1 k 6 = (s2, none, l)) : gatS s (k + 1) = (s2, none, fun i => if i = k then l else F i) := by simp only [gatS, h, hc]
theorem gatS_stay {s s1 : Wp} {k : Nat} {z : Nat × Nat} {F : Nat → List Pc} (h : gatS s k = (s1, some z, F)) : ∀ j, gatS s (k + j) = (s1, some z, F)
 | 0 => h
 | j + 1 => by
  have ih := gatS_stay h j
  rw [show k + (j + 1) = (k + j) + 1 from rfl]
  simp only [gatS, ih]
theorem gatS_fit {s : Wp} {m0 : Nat} (h : s.Fit m0) : ∀ k, (gatS s k).1.Fit (m0 + 18 * k)
 | 0 => h
 | k + 1 => by
  have ih := gatS_fit h k
  obtain ⟨s1, o, F, hx⟩ : ∃ s1 o F, gatS s k = (s1, o, F) := ⟨_, _, _, rfl⟩
  rw [hx] at ih
  dsimp only at ih
  cases o with
  | some z => rw [show gatS s (k + 1) = (s1, some z, F) from gatS_stay hx 1]; exact ih.mono (by omega)
  | none =>
   obtain ⟨s2, o2, l, hc⟩ : ∃ s2 o2 l, gatN s1 k 6 = (s2, o2, l) := ⟨_, _, _, rfl⟩
   have h4 := gatN_fit (st := k) ih 6
   rw [hc] at h4
   cases o2 with
   | some z => rw [gatS_err hx hc]; exact h4.mono (by omega)
   | none => rw [gatS_ok hx hc]; exact h4.mono (by omega)
theorem PL.keepW {w w' : World} {B : Nat} {v : Value} {l : List Pc} (h : PL w B v l) (k : KeepW w w') : PL w' B v l :=
 h.keep (fun g cs t hg ht => k.cells hg (by rcases ht with rfl | rfl <;> exact notWi (by decide) (by decide) (by decide) (by decide) (by decide) (by decide) (by decide)))
theorem AS.setU {base sb k : Nat} {w : World} {V U : Nat → Value} {F : Nat → List (Nat × It)} (h : AS base w sb V U F) (hk : k < 40) (x : Value) : AS base (w.setCell ⟨sb, k * 2 + 1, none⟩ x) sb V (fun i => if i = k then x else U i) F := by
 obtain ⟨us, hu, _⟩ := id h.blk
 have hset : ∀ (q : Nat) (cs : Array Value) (t : TypeId), w.heap[q]? = some (Obj.cells cs t (0, 0)) → t ≠ 65 → (w.setCell ⟨sb, k * 2 + 1, none⟩ x).heap[q]? = w.heap[q]? := fun q cs t hq ht => set_other (fun e => by
  rw [e, hu] at hq
  injection hq with hq
  injection hq with _ hq
  exact ht hq.symm) _ _
 refine ⟨(h.blk.put (q := k * 2 + 1) (x := x) (by omega)).congr (fun j hj => ?_), fun i hi => ?_, h.dis⟩
 ·unfold fndF
  by_cases e : j = k * 2 + 1
  ·subst e
   rw [if_pos rfl, if_neg (by omega)]
   exact (if_pos (by omega : (k * 2 + 1) / 2 = k)).symm
  ·rw [if_neg e]
   by_cases e2 : j % 2 = 0
   ·rw [if_pos e2, if_pos e2]
   ·rw [if_neg e2, if_neg e2]
    exact (if_neg (by omega : ¬ j / 2 = k)).symm
 ·have h5 := h.row i hi
  exact h5.keep (fun q hq => by obtain ⟨_, cs, hc⟩ := h5.blk hq; exact hset q cs _ hc (by decide)) (fun q cs hq => hset q cs _ hq (by decide))
theorem intsF_snoc (L : List (Nat × It)) (x : Nat × It) : intsF (L ++ [x]) = fun i => if i = x.2.s then intsF L x.2.s ++ [x] else intsF L i := by
 funext i
 unfold intsF
 rw [List.filter_append]
 by_cases e : i = x.2.s
 ·rw [if_pos e, e]; simp
 ·rw [if_neg e, List.filter_cons_of_neg (by simp; omega)]; simp
end Go.Proofs.YtobkmohoepgfmaaGreatDoor
