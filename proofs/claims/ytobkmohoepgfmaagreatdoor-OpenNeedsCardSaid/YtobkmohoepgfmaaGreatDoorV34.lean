import Derived.Test.YtobkmohoepgfmaaGreatDoorV33
import Derived.Test.YtobkmohoepgfmaaGreatDoorV24
import Derived.Test.YtobkmohoepgfmaaGreatDoorV31
import Derived.Test.YtobkmohoepgfmaaGreatDoorV27
import Derived.Deep.Slices
import Derived.Deep.RegionHeld3
import Derived.Test.YtobkmohoepgfmaaGreatDoorV28
namespace Go.Proofs.YtobkmohoepgfmaaGreatDoor
open Go.RowKit Go.Sort
set_option maxRecDepth 100000
set_option maxHeartbeats 8000000

theorem sclone (a : Addr) (n cap : Nat) (F : Nat → Nat) (w : World) (h : Rd w (some a) n F) (hn : n ≤ 140737488355328) :
  Calls Tryz.prog 66 #[.slice (some a) n cap] w (FewRet n F w) := by
 have HE := Lib.hid (own_empty (t := 5) (base := w.heap.size) (alloc_block w (.cells #[] 5)) (Nat.le_refl _))
 have HB : Hid (Below w.heap.size w (w.alloc (.cells #[] 5))) := Lib.hid ((Below.refl _ _).alloc (Nat.le_refl _) _)
 have HR := Lib.hid h
 have heq : Sem.run Tryz.prog (binOp .eql 36 (.slice (some a) n cap) (.slice none 0 0)) w = .ok (.bool false) w := Lib.run_eql_slice_nil w 36 5 (some a) n cap 0 0 Tryz.underlying36
 clear h
 go_enter Tryz.func66, Tryz.ntmps66
 go_wp2_with (at_builtin; refine append_rd _ rfl _ _ 36 rfl Tryz.underlying36 w.heap.size (.slice (some ⟨w.heap.size, 0, none⟩) 0 0) 0 (fun _ => 0) rfl HE.out (some a) n cap F rfl (HR.out.keep HB.out) (by omega) HB.out.size ?_; intro v' w' own gr _ hne; have HO := Lib.hid own; have HG := Lib.hid gr; have HN := Lib.hid hne; clear own gr hne)
 go_ret
 obtain ⟨g, cp, rfl, hg, hgl, hcp⟩ := own_some HO.out (HN.out (by simp))
 have ho := HO.out
 rw [Nat.zero_add] at ho hcp ⊢
 exact ⟨g, cp, rfl, by simpa using ho, Below.grown HB.out HG.out HB.out.size (fun k hk => by cases hk; exact Nat.le_refl _), hg, hgl, hcp⟩
theorem Blk8.dat {w : World} {b n : Nat} {D : Nat → Nat} (h : Blk8 w b n D) : DatN w (some ⟨b, 0, none⟩) n D := by
 have hr := h.row8
 obtain ⟨cs, hb, hs, _⟩ := h
 exact Or.inr ⟨b, 0, cs, rfl, hb, fun j hj => by rw [Nat.zero_add]; exact hr.cell j hj⟩
def CarRet (w0 v : World) (g cb : Nat) (nd : ND) (st : Nat) (A C c f o cap : Nat) (x : Ep × Option (List (Nat × Nat))) (en : Ending) (w' : World) : Prop :=
 ∃ u, en = .returned u ∧ WL w0 w' g nd x.1.w ∧ (∃ B', CM w0 w' g cb nd x.1 A C c f o cap B') ∧ KeepE 0 v w' ∧ ErrOf w' u st x.2
section
variable {w0 v : World} {g cb : Nat} {nd : ND} {e : Ep} {A C c f o cap : Nat} {B : Nat → Value}
theorem CM.hold (h : CM w0 v g cb nd e A C c f o cap B) (s : Wp) {st gn b k : Nat} {D : Nat → Nat} (hst : st < 40) (hk : 128 ≤ k) (hb : w0.heap.size ≤ b) (hd : Blk8 v b 128 D) (hD : ∀ j, j < 128 → D j < 256) :
  ∃ B', CM w0 (((v.setCell ⟨cb, 1 + st * 4, none⟩ (.int .i64 (gn : Int))).setCell ⟨cb, 1 + st * 4 + 2, none⟩ (.bool false)).setCell ⟨cb, 1 + st * 4 + 3, none⟩ (.slice (some ⟨b, 0, none⟩) 128 k)) g cb nd (e.held s st gn D) A C c f o cap B' := by
 have h1 : CM w0 (v.setCell ⟨cb, 1 + st * 4, none⟩ (.int .i64 (gn : Int))) g cb nd { e with w := s, gen := fun i => if i = st then gn else e.gen i } A C c f o cap B := by
  refine h.put (by omega) (carF_ext ?_ ?_ (fun i hi => ?_) (fun i hi => ?_) (fun i hi => ?_) (fun i hi => ?_)) h.pb
  ·rw [if_neg (by omega)]; rfl
  ·rw [if_neg (by omega)]; rfl
  ·by_cases e2 : i = st
   ·rw [if_pos (by omega)]; dsimp only; rw [if_pos e2]
   ·rw [if_neg (by omega), carF_g _ _ _ _ hi]; dsimp only; rw [if_neg e2]
  ·rw [if_neg (by omega), carF_n _ _ _ _ hi]
  ·rw [if_neg (by omega), carF_d _ _ _ _ hi]
  ·rw [if_neg (by omega), carF_b _ _ _ _ hi]
 have h2 : CM w0 ((v.setCell ⟨cb, 1 + st * 4, none⟩ (.int .i64 (gn : Int))).setCell ⟨cb, 1 + st * 4 + 2, none⟩ (.bool false)) g cb nd { e with w := s, gen := (fun i => if i = st then gn else e.gen i), doubt := (fun i => if i = st then false else e.doubt i) } A C c f o cap B := by
  refine h1.put (by omega) (carF_ext ?_ ?_ (fun i hi => ?_) (fun i hi => ?_) (fun i hi => ?_) (fun i hi => ?_)) h1.pb
  ·rw [if_neg (by omega)]; rfl
  ·rw [if_neg (by omega)]; rfl
  ·rw [if_neg (by omega), carF_g _ _ _ _ hi]
  ·rw [if_neg (by omega), carF_n _ _ _ _ hi]
  ·by_cases e2 : i = st
   ·rw [if_pos (by omega)]; dsimp only; rw [if_pos e2]
   ·rw [if_neg (by omega), carF_d _ _ _ _ hi]; dsimp only; rw [if_neg e2]
  ·rw [if_neg (by omega), carF_b _ _ _ _ hi]
 have hne : b ≠ cb := by
  intro e2
  obtain ⟨cs, hb1, _⟩ := hd
  obtain ⟨cs2, hb2, _⟩ := h.blk
  rw [e2, hb2] at hb1
  injection hb1 with hb1
  injection hb1 with _ hb1
  exact absurd hb1 (by decide)
 have hd2 : Blk8 ((v.setCell ⟨cb, 1 + st * 4, none⟩ (.int .i64 (gn : Int))).setCell ⟨cb, 1 + st * 4 + 2, none⟩ (.bool false)) b 128 D := (hd.keep (set_other hne _ _)).keep (set_other hne _ _)
 refine ⟨fun i => if i = st then .slice (some ⟨b, 0, none⟩) 128 k else B i, h2.put (by omega) (carF_ext ?_ ?_ (fun i hi => ?_) (fun i hi => ?_) (fun i hi => ?_) (fun i hi => ?_)) (fun i hi => ?_)⟩
 ·rw [if_neg (by omega)]; rfl
 ·rw [if_neg (by omega)]; rfl
 ·rw [if_neg (by omega), carF_g _ _ _ _ hi]; rfl
 ·rw [if_neg (by omega), carF_n _ _ _ _ hi]; rfl
 ·rw [if_neg (by omega), carF_d _ _ _ _ hi]; rfl
 ·by_cases e2 : i = st
  ·rw [if_pos (by omega)]; exact (if_pos e2).symm
  ·rw [if_neg (by omega), carF_b _ _ _ _ hi]; exact (if_neg e2).symm
 ·by_cases e2 : i = st
  ·exact Or.inr ⟨D, b, k, if_pos e2, if_pos e2, hk, hb, hd2, hD⟩
  ·rcases h2.pb i hi with ⟨a1, a2⟩ | ⟨D2, b2, k2, a1, a2, a3⟩
   ·exact Or.inl ⟨(if_neg e2).trans a1, (if_neg e2).trans a2⟩
   ·exact Or.inr ⟨D2, b2, k2, (if_neg e2).trans a1, (if_neg e2).trans a2, a3⟩
theorem cy_carry (h1 : WL w0 v g nd e.w) (h2 : CM w0 v g cb nd e A C c f o cap B) {m : Nat} (hf : e.w.Fit m) (hm : m ≤ 999900000) {st gn : Nat} (hst : st < 40) (hgn : gn ≤ 1099511627776) (D : Nat → Nat) (P : Option Addr) (k : Nat) (hd : DatN v P 128 D) (hD : ∀ j, j < 128 → D j < 256) :
  Calls Tryz.prog 38 #[.pointer (some ⟨cb, 0, none⟩), .int .i64 (st : Int), .int .i64 (gn : Int), .slice P 128 k] v (CarRet w0 v g cb nd st A C c f o cap (e.carry (fun D => Kc.enc (Kc.parts D)) st gn D)) := by
 have q1 := we_neqNil
 have q2 := we_neqNilNil
 have hst' : (st : Int) < 40 := by omega
 have HV := Lib.hid h1
 have HM := Lib.hid h2
 have HD := Lib.hid hd
 have HDB := Lib.hid hD
 have HI := Lib.hid (cy_intend h1 h2 hf (by omega) hst hgn D P k hd hD)
 have HFA := Lib.hid (Ep.fit_askN (e := e) (st := st) (q := qLg st gn D) hf hD 8)
 obtain ⟨s1, n1, er, hr⟩ : ∃ s1 n1 er, e.askN (qLg st gn D) st 8 = (s1, n1, er) := ⟨_, _, _, rfl⟩
 obtain ⟨X, hX⟩ : ∃ X, e.carry (fun D => Kc.enc (Kc.parts D)) st gn D = X := ⟨_, rfl⟩
 have HX := Lib.hid hX
 have HR := Lib.hid hr
 rw [hr] at HI HFA
 rw [hX]
 obtain ⟨g0, o0, cs0, rfl, _⟩ : ∃ g o cs, P = some ⟨g, o, none⟩ ∧ v.heap[g]? = some (.cells cs 5 (0, 0)) := by
  rcases hd with h | ⟨g, o, cs, h3, h4, _⟩
  ·omega
  ·exact ⟨g, o, cs, h3, h4⟩
 clear h1 h2 hf hd hD hX hr
 go_enter Tryz.func38, Tryz.ntmps38
 go_wp2_with fail
 refine HI.out.mono ?_
 rintro en w1 ⟨u, rfl, W1, K1, hu⟩
 try dsimp only
 try dsimp only at hu W1
 have HW1 := Lib.hid W1
 have HK1 := Lib.hid K1
 have HM1 := Lib.hid (HM.out.keep (e' := { e with w := s1 }) HV.out W1 (KeepF.of K1) rfl rfl rfl rfl)
 clear W1 K1
 rcases hu with ⟨h3, rfl⟩ | ⟨h3, hev⟩
 ·have HD1 := Lib.hid (HK1.out.b.datN HD.out)
  have HCL := Lib.hid (sclone ⟨g0, o0, none⟩ 128 k D w1 HD1.out.rd (by omega))
  have HXX : Hid (X = (((e.held s1 st gn D).fin st (Kc.enc (Kc.parts D))), none)) := Lib.hid (by
   rw [← HX.out]
   unfold Ep.carry
   rw [HR.out]
   dsimp only
   rw [if_neg (by omega)])
  go_wp2_with fail
  refine HCL.out.mono ?_
  rintro en w2 ⟨gb, cp, rfl, hown, b2, hgb, _, hcp⟩
  try dsimp only
  have HB2 := Lib.hid (own_blk hown)
  have HW2 := Lib.hid (HW1.out.below b2)
  have HK2 := Lib.hid (HK1.out.trans (KeepW.of b2))
  have HM2 := Lib.hid (HM1.out.below b2)
  have hwb : w0.heap.size ≤ gb := Nat.le_trans HW1.out.blw.size hgb
  obtain ⟨B', HM3'⟩ := HM2.out.hold s1 (gn := gn) (k := cp) (D := D) hst hcp hwb HB2.out HDB.out
  have HM3 := Lib.hid HM3'
  have HW3 : Hid (WL w0 (((w2.setCell ⟨cb, 1 + st * 4, none⟩ (.int .i64 (gn : Int))).setCell ⟨cb, 1 + st * 4 + 2, none⟩ (.bool false)).setCell ⟨cb, 1 + st * 4 + 3, none⟩ (.slice (some ⟨gb, 0, none⟩) 128 cp)) g nd s1) := Lib.hid (by
   obtain ⟨cs, hb, _⟩ := HM2.out.blk
   have t1 := set_block hb (1 + st * 4) (.int .i64 (gn : Int))
   have t2 := set_block t1 (1 + st * 4 + 2) (.bool false)
   exact ((HW2.out.setO hb carrier_notW (by decide) HM2.out.w0c HM2.out.zc _ _).setO t1 carrier_notW (by decide) HM2.out.w0c HM2.out.zc _ _).setO t2 carrier_notW (by decide) HM2.out.w0c HM2.out.zc _ _)
  have HK3 : Hid (KeepE 0 v (((w2.setCell ⟨cb, 1 + st * 4, none⟩ (.int .i64 (gn : Int))).setCell ⟨cb, 1 + st * 4 + 2, none⟩ (.bool false)).setCell ⟨cb, 1 + st * 4 + 3, none⟩ (.slice (some ⟨gb, 0, none⟩) 128 cp))) := Lib.hid (by
   obtain ⟨cs, hb, _⟩ := HM2.out.blk
   have t1 := set_block hb (1 + st * 4) (.int .i64 (gn : Int))
   have t2 := set_block t1 (1 + st * 4 + 2) (.bool false)
   exact (((KeepE.of 0 HK2.out).trans (KeepE.set hb _ _)).trans (KeepE.set t1 _ _)).trans (KeepE.set t2 _ _))
  have HS := Lib.hid (cy_spread (e := e.held s1 st gn D) HW3.out HM3.out (m := m + 504) HFA.out (by omega) hst (D := D) (by show (if st = st then some D else e.pend st) = some D; rw [if_pos rfl]) (by show (if st = st then gn else e.gen st) ≤ _; rw [if_pos rfl]; exact hgn))
  obtain ⟨k1, k2, k3, k4⟩ := HM2.out.known hst
  have kf : ∀ j, w2.frozen? ⟨cb, j, none⟩ = false := HM2.out.fr
  clear HM3' hown b2 HCL HI
  go_upto_region 6 with fail
  obtain ⟨w3, hw3⟩ : ∃ w3, ((w2.setCell ⟨cb, 1 + st * 4, none⟩ (.int .i64 (gn : Int))).setCell ⟨cb, 1 + st * 4 + 2, none⟩ (.bool false)).setCell ⟨cb, 1 + st * 4 + 3, none⟩ (.slice (some ⟨gb, 0, none⟩) 128 cp) = w3 := ⟨_, rfl⟩
  rw [hw3] at HS HM3 HW3 HK3 ⊢
  clear hw3 k1 k2 k3 k4 kf
  go_wp2_with fail
  refine HS.out.mono ?_
  rintro en w4 ⟨rfl, W4, M4, K4⟩
  try dsimp only
  have HZ := Lib.hid (And.intro W4 (And.intro M4 (HK3.out.trans K4)))
  clear W4 M4 K4
  go_wp2_with fail
  go_ret
  rw [HXX.out]
  exact ⟨_, rfl, HZ.out.1, HZ.out.2.1, HZ.out.2.2, rfl⟩
 ·obtain ⟨tu, xu, rfl⟩ := hev.iface
  have HE := Lib.hid hev
  have HXX : Hid (X = ({ e with w := s1 }, some er)) := Lib.hid (by
   rw [← HX.out]
   unfold Ep.carry
   rw [HR.out]
   dsimp only
   rw [if_pos h3])
  clear hev
  go_wp2_with fail
  go_ret
  rw [HXX.out]
  exact ⟨_, rfl, HW1.out, ⟨B, HM1.out⟩, KeepE.of 0 HK1.out, HE.out⟩
end
end Go.Proofs.YtobkmohoepgfmaaGreatDoor
namespace Go.Proofs.YtobkmohoepgfmaaGreatDoor
open Go.RowKit Go.Sort
set_option maxRecDepth 100000
set_option maxHeartbeats 8000000

theorem find_take {α : Type} {l : List α} {p : α → Bool} {j : Nat} {x : α} (h : l[j]? = some x) (h0 : (l.take j).find? p = none) : (l.take (j + 1)).find? p = if p x = true then some x else none := by
 rw [List.take_add_one, h, List.find?_append, h0]
 by_cases e : p x = true
 ·rw [if_pos e]; simp [e]
 ·rw [if_neg e]; simp [e]
theorem find_hit {α : Type} {l : List α} {p : α → Bool} {j : Nat} {x : α} (h : l[j]? = some x) (h0 : (l.take j).find? p = none) (hx : p x = true) : l.find? p = some x := by
 have h1 := find_take h h0
 rw [if_pos hx] at h1
 rw [← List.take_append_drop (j + 1) l, List.find?_append, h1]
 rfl
theorem two_le (a b : Option Pc) : (two a b).length ≤ 2 := by
 cases a <;> cases b <;> simp [two, srt] <;> (try split) <;> simp
theorem Wp.ps_le {s s' : Wp} {n st : Nat} {y : Ns × Rp} (hst : st < 40) (e : s.call n (qGt st) = (s', .ok y)) : y.2.ps.length ≤ 2 := by
 obtain ⟨a, _, h2, _⟩ := Wp.tries_some (P := fun _ => True) (fun _ _ => trivial) (fun _ _ => trivial) 3 s trivial e
 rw [h2, Ns.act_gt a hst]
 exact two_le _ _
theorem Wp.ps_ok {s s' : Wp} {m n st : Nat} {y : Ns × Rp} (h : s.Ok m) (hn : n < 8) (hst : st < 40) (e : s.call n (qGt st) = (s', .ok y)) : ∀ p ∈ y.2.ps, p.Ok := by
 obtain ⟨a, h1, h2, _⟩ := Wp.tries_some (P := Ns.Ok) (fun a ha => (ha.act (q := qGt st) (none_lt rfl)).1) (fun a ha => (ha.crash []).1) 3 s (h.ok n hn) e
 rw [h2, Ns.act_gt a hst]
 intro p hp
 have hk : ∀ k, (a.t.now k).pc? = some p → p.Ok := fun k hk => by
  have h3 := (h1.td.now k).1
  rw [pc?_some hk] at h3
  exact h3.1
 have hp2 : p ∈ srt ((a.t.now (2 * st)).pc?.toList ++ (a.t.now (2 * st + 1)).pc?.toList) := hp
 rw [srt_mem, List.mem_append, Option.mem_toList, Option.mem_toList] at hp2
 rcases hp2 with h3 | h3
 ·exact hk _ h3
 ·exact hk _ h3
def PieRet (w0 v : World) (g : Nat) (nd : ND) (st gn i : Nat) (x : Wp × Ans) (en : Ending) (w' : World) : Prop :=
 ∃ r u, en = .returned (.tuple #[r, u]) ∧ WL w0 w' g nd x.1 ∧ KeepW v w' ∧
  ((∃ y p P k, x.2 = .ok y ∧ pieceOf y.2.ps gn i = some p ∧ u = .nilIface ∧ r = .slice P 32 k ∧ Dat w' P p.D ∧ ∀ j, j < 32 → p.D j < 256) ∨
   (∃ d b, (x.2 = .err d ∨ (d = 7 ∧ ∃ y, x.2 = .ok y ∧ pieceOf y.2.ps gn i = none)) ∧ r = .slice none 0 0 ∧ u = onv b ∧ OnE w' b (nodeN st i : Int) (d : Int)))
section
variable {w0 v : World} {g cb : Nat} {nd : ND} {s : Wp} {e : Ep} {A C c f o cap : Nat} {B : Nat → Value}
theorem cy_piece (h : WL w0 v g nd s) (hb : CM w0 v g cb nd e A C c f o cap B) {m : Nat} (hf : s.Fit m) (hm : m ≤ 999999900) {st i : Nat} (hst : st < 40) (hi : i < 6) :
  Calls Tryz.prog 56 #[.pointer (some ⟨cb, 0, none⟩), .int .i64 (st : Int), .int .i64 (i : Int)] v (PieRet w0 v g nd st (e.gen st) i (s.call (nodeN st i) (qGt st))) := by
 have q1 := we_neqNil
 have q2 := we_neqNilNil
 have c0 := hb.cbp.1
 have hst' : (st : Int) < 40 := by omega
 obtain ⟨gn, hgn⟩ : ∃ gn, e.gen st = gn := ⟨_, rfl⟩
 have HGN := Lib.hid hgn
 have HCM := Lib.hid hb
 have HWV := Lib.hid h
 obtain ⟨n, hn⟩ : ∃ n, (st + i) % 8 = n := ⟨_, rfl⟩
 have hn8 : n < 8 := by omega
 have HNN : Hid (nodeN st i = n) := Lib.hid hn
 have HND := Lib.hid (lnode (st : Int) (i : Int) v)
 rw [nodeF_nat hst hi, hn] at HND
 have HC := Lib.hid (wl_call h hf.1 hf.2 (by omega) hn8 (qGt st) none 0 DatN.none_ (fun _ hj => absurd hj (by show ¬ _ < 0; omega)) (by unfold OkQ qGt; dsimp only; omega))
 unfold qGt at HC
 obtain ⟨s1, a, hc⟩ : ∃ s1 a, s.call (nodeN st i) (qGt st) = (s1, a) := ⟨_, _, rfl⟩
 have hc' : s.call n ⟨1, (st : Int), 0, 0, 0, fun _ => 0⟩ = (s1, a) := by rw [← hc, HNN.out]; rfl
 rw [hc'] at HC
 have HCC := Lib.hid hc
 have HOK := Lib.hid hf.1
 rw [hc, hgn]
 clear h hb hf hc hc' hn hgn
 go_enter Tryz.func56, Tryz.ntmps56
 go_wp2_with fail
 refine HND.out.mono ?_
 rintro en w' ⟨rfl, hw⟩
 obtain rfl := hw.symm
 try dsimp only
 go_wp2_with fail
 refine HC.out.mono ?_
 intro en w1 hr
 obtain ⟨P, hP⟩ : ∃ P, w1.heap.size = P := ⟨_, rfl⟩
 have HP := Lib.hid hP
 cases a with
 | err c =>
  obtain ⟨b, rfl, W1, K1, _, ho⟩ := hr.err rfl
  try dsimp only
  have B2 : Below w1.heap.size w1 (w1.alloc (.cells #[.int .i64 0, .int .i64 0, .slice none 0 0, .slice none 0 0] 103)) := (Below.refl _ _).alloc (Nat.le_refl _) _
  have HZ := Lib.hid (And.intro (W1.below B2) (And.intro (K1.trans (KeepW.of B2)) ((KeepW.of B2).on ho)))
  clear hr W1 K1 ho B2
  go_wp2_with fail
  go_ret2
  exact ⟨_, _, rfl, HZ.out.1, HZ.out.2.1, Or.inr ⟨c, b, Or.inl rfl, rfl, rfl, by rw [HNN.out]; exact HZ.out.2.2⟩⟩
 | ok y =>
  obtain ⟨r, u, rfl, W1, K1, ⟨_, h, _⟩ | ⟨y', hy, rfl, A1, c1, A2, c2, rfl, hp, hi2⟩⟩ := hr
  ·cases h
  ·cases hy
   try dsimp only
   obtain ⟨k0, hk0⟩ : ∃ k0 : Nat, y.2.code = k0 := ⟨_, rfl⟩
   obtain ⟨k1, hk1⟩ : ∃ k1 : Nat, y.1.boot = k1 := ⟨_, rfl⟩
   obtain ⟨l2, hl2⟩ : ∃ l2, y.2.its.length = l2 := ⟨_, rfl⟩
   obtain ⟨L, hL⟩ : ∃ L, y.2.ps = L := ⟨_, rfl⟩
   obtain ⟨l1, hl1⟩ : ∃ l1, L.length = l1 := ⟨_, rfl⟩
   rw [hL] at hp
   have HL1 := Lib.hid hl1
   have HLL := Lib.hid hL
   have HI := Lib.hid hp
   rw [hL, hl1, hk0, hk1, hl2]
   rw [hl1] at HI
   have HZ := Lib.hid (And.intro W1 K1)
   have HM1 := Lib.hid (HCM.out.keep (e' := e) HWV.out W1 (KeepF.of K1) rfl rfl rfl rfl)
   have HPO : Hid (∀ p ∈ L, p.Ok) := Lib.hid (by rw [← hL]; exact Wp.ps_ok HOK.out (by rw [HNN.out]; exact hn8) hst HCC.out)
   have hlen : l1 ≤ 2 := by rw [← hl1, ← hL]; exact Wp.ps_le hst HCC.out
   clear hk0 hk1 hl2 hL hl1 hp hi2 W1 K1
   obtain ⟨w2, hw2, B2, p2⟩ := rep_laid (k0 := k0) (k1 := k1) (A1 := .slice A1 l1 c1) (A2 := .slice A2 l2 c2) hP
   have u2 := p2.c2
   have HV2 := Lib.hid hw2
   have HW2 := Lib.hid (HZ.out.1.below B2)
   have HK2 := Lib.hid (HZ.out.2.trans (KeepW.of B2))
   have HI2 := Lib.hid (HI.out.below B2)
   have HM2 := Lib.hid (HM1.out.below B2)
   clear hP hw2 B2 p2
   go_upto_region 3 with fail
   rw [HV2.out, HP.out]
   go_wp2_with fail
   go_loopg [33] l1 (fun k s33 wr => ∃ j : Nat, s33 = .int .i64 (j : Int) ∧ j ≤ l1 ∧ k = l1 - j ∧ Hid ((L.take j).find? (fun p => decide (p.g = gn) && decide (p.i = i)) = none) ∧ Hid (Below w2.heap.size w2 wr))
   case atStart => exact ⟨0, rfl, by omega, rfl, Lib.hid rfl, Lib.hid (Below.refl _ _)⟩
   case round =>
    obtain ⟨j, rfl, hj, rfl, HN, HS⟩ := hrel
    obtain ⟨wo, rfl⟩ : ∃ wo : World, wo = wr := ⟨wr, rfl⟩
    by_cases hlt : j < l1
    ·have hlt' : (j : Int) < (l1 : Int) := by omega
     obtain ⟨z, hz⟩ : ∃ z, L[j]? = some z := ⟨_, List.getElem?_eq_getElem (by rw [HL1.out]; exact hlt)⟩
     obtain ⟨b, c', Az, cz, hv, _, hbl, z0, z1, z2, z3, hdz⟩ := (HI2.out.below HS.out).at hz
     rw [HL1.out] at hv
     cases hv
     rw [Nat.mul_comm] at z0 z1 z2 z3
     have HZI := Lib.hid hz
     have HDZ := Lib.hid hdz
     obtain ⟨Q, hQ⟩ : ∃ Q, wo.heap.size = Q := ⟨_, rfl⟩
     have HQ := Lib.hid hQ
     obtain ⟨w4, hw4⟩ : ∃ w4, wo.alloc (.cells #[.int .i64 (z.s : Int), .int .i64 (z.g : Int), .int .i64 (z.i : Int), .slice Az 32 cz] 162) = w4 := ⟨_, rfl⟩
     have B4 : Below wo.heap.size wo w4 := by rw [← hw4]; exact (Below.refl _ _).alloc (Nat.le_refl _) _
     have p4 : PV w4 Q (z.s : Int) (z.g : Int) (z.i : Int) Az 32 cz := by rw [← hw4, ← hQ]; exact PV.new _ _ _ _ _ _ _
     have HV4 := Lib.hid hw4
     have HB4 := Lib.hid (HS.out.trans (B4.mono HS.out.size))
     have HD4 := Lib.hid (hdz.keep (fun g cs hg => B4.block g (heap_lt hg)))
     have g0 := ((HM2.out.below HB4.out).known hst).1
     rw [HGN.out] at g0
     have y1 := p4.c1
     have y2 := p4.c2
     have y3 := p4.c3
     clear hQ hw4 B4 p4 hz hdz
     obtain ⟨zs, hzs⟩ : ∃ zs, z.s = zs := ⟨_, rfl⟩
     obtain ⟨zg, hzg⟩ : ∃ zg, z.g = zg := ⟨_, rfl⟩
     obtain ⟨zi, hzi⟩ : ∃ zi, z.i = zi := ⟨_, rfl⟩
     rw [hzs] at z0 HV4
     rw [hzg] at z1 y1 HV4
     rw [hzi] at z2 y2 HV4
     have HZE := Lib.hid (And.intro hzg hzi)
     clear hzs hzg hzi
     by_cases hm2 : zg = gn ∧ zi = i
     ·obtain ⟨rfl, rfl⟩ := hm2
      go_upto_region 8 with fail
      rw [HV4.out, HQ.out]
      go_big_quiet (fail)
      have HB5 : Hid (Below w2.heap.size w2 (w4.drewN nq)) := Lib.hid (HB4.out.trans ((below_drewN nq w4).mono HB4.out.size))
      have HD5 := Lib.hid (HD4.out.keep (w' := w4.drewN nq) (fun g cs hg => (below_drewN nq w4).block g (heap_lt hg)))
      go_wp2_with fail
      go_ret2
      exact ⟨_, _, rfl, HW2.out.below HB5.out, HK2.out.trans (KeepW.of HB5.out), Or.inl ⟨y, z, Az, cz, rfl, by
       unfold pieceOf
       rw [HLL.out]
       exact find_hit HZI.out HN.out (by rw [HZE.out.1, HZE.out.2]; simp), rfl, rfl, HD5.out, fun j hj => (HPO.out z (List.mem_of_getElem? HZI.out)).2.2.2.2 j hj⟩⟩
     ·have HNX : Hid ((L.take (j + 1)).find? (fun p => decide (p.g = gn) && decide (p.i = i)) = none) := Lib.hid (by
       rw [find_take HZI.out HN.out, if_neg]
       rw [HZE.out.1, HZE.out.2]
       simp only [Bool.and_eq_true, decide_eq_true_eq]
       exact hm2)
      go_upto_region 8 with fail
      rw [HV4.out, HQ.out]
      by_cases hg1 : zg = gn
      ·subst hg1
       have hi1 : ¬ zi = i := fun e2 => hm2 ⟨rfl, e2⟩
       have hi2 : ¬ (zi : Int) = (i : Int) := by omega
       have hi3 : ((zi : Int) == (i : Int)) = false := by rw [beq_eq_false_iff_ne]; exact hi2
       go_big_quiet (fail)
       have HB5 : Hid (Below w2.heap.size w2 (w4.drewN nq)) := Lib.hid (HB4.out.trans ((below_drewN nq w4).mono HB4.out.size))
       go_wp2_with fail
       go_roundg (l1 - (j + 1))
       case measure => omega
       case rel => exact ⟨j + 1, by go_num, by omega, rfl, HNX, HB5⟩
      ·have hg2 : ¬ (zg : Int) = (gn : Int) := by omega
       have hg3 : ((zg : Int) == (gn : Int)) = false := by rw [beq_eq_false_iff_ne]; exact hg2
       go_big_quiet (fail)
       have HB5 : Hid (Below w2.heap.size w2 (w4.drewN nq)) := Lib.hid (HB4.out.trans ((below_drewN nq w4).mono HB4.out.size))
       go_wp2_with fail
       go_roundg (l1 - (j + 1))
       case measure => omega
       case rel => exact ⟨j + 1, by go_num, by omega, rfl, HNX, HB5⟩
    ·obtain rfl : j = l1 := by omega
     have hge : ¬ (j : Int) < (j : Int) := by omega
     go_wp2_with fail
     refine (we_atNode (n : Int) 7 _).mono ?_
     rintro en w5 ⟨b, rfl, hb, hb5, ho⟩
     try dsimp only
     have HE := Lib.hid (And.intro hb5 ho)
     clear hb hb5 ho
     go_wp2_with fail
     go_ret2
     refine ⟨_, _, rfl, (HW2.out.below HS.out).below HE.out.1, (HK2.out.trans (KeepW.of HS.out)).trans (KeepW.of HE.out.1), Or.inr ⟨7, b, Or.inr ⟨rfl, y, rfl, ?_⟩, rfl, rfl, by rw [HNN.out]; exact HE.out.2⟩⟩
     unfold pieceOf
     rw [HLL.out, ← List.take_of_length_le (Nat.le_of_eq HL1.out)]
     exact HN.out
end
end Go.Proofs.YtobkmohoepgfmaaGreatDoor
namespace Go.Proofs.YtobkmohoepgfmaaGreatDoor.Kc
open Go.RowKit Go.Sort
set_option maxRecDepth 100000
set_option maxHeartbeats 1000000

theorem rowL_add (m n : Nat) (Z D : Nat → Nat) (h : ∀ j, j < n → D j = Z (m + j)) : rowL m Z ++ rowL n D = rowL (m + n) Z := by
 apply List.ext_getElem?
 intro i
 by_cases h1 : i < m
 ·rw [List.getElem?_append_left (by rw [rowL_len]; exact h1), rowL_get h1, rowL_get (by omega)]
 ·by_cases h2 : i < m + n
  ·rw [List.getElem?_append_right (by rw [rowL_len]; omega), rowL_len, rowL_get (by omega), rowL_get h2, h (i - m) (by omega), show m + (i - m) = i by omega]
  ·rw [List.getElem?_eq_none (by rw [List.length_append, rowL_len, rowL_len]; omega), List.getElem?_eq_none (by rw [rowL_len]; omega)]

def flat (D : Mx) : Nat → Nat := fun t => D (t / 32) (t % 32)
theorem flat_at (D : Mx) {k j : Nat} (hj : j < 32) : D k j = flat D (32 * k + j) := by
 unfold flat
 rw [show (32 * k + j) / 32 = k by omega, show (32 * k + j) % 32 = j by omega]

def TyB (w : World) (g : Nat) : Prop := ∃ cs, w.heap[g]? = some (.cells cs 5 (0, 0))
theorem mconcat4 (b cs : Nat) (G K : Nat → Nat) (D : Mx) (w : World) (ho : Own w b 4 32 G K D) :
  Calls Tryz.prog 85 #[.slice (some ⟨b, 0, none⟩) 4 cs] w fun e w' => ∃ cap, e = .returned (.slice (some ⟨w.heap.size, 0, none⟩) 128 cap) ∧ 128 ≤ cap ∧
   (Row8 w' w.heap.size 128 (flat D) ∧ TyB w' w.heap.size) ∧ Below w.heap.size w w' := by
 obtain ⟨i0, hi0, hz0, hz1, hz2⟩ := info_parts infoByte
 have HO := Lib.hid ho
 have lb := ho.lt (by omega)
 have HG := Lib.hid (mgrow 128 w (by omega) (by omega))
 obtain ⟨H, hH⟩ : ∃ H, w.heap.size = H := ⟨_, rfl⟩
 rw [hH] at HG lb ⊢
 have HH := Lib.hid hH
 have HLG : Hid (∀ i, i < 4 → G i < H) := Lib.hid (fun i hi => by have := ho.ltG hi (show 0 < 32 by omega); omega)
 clear hH ho
 go_enter Tryz.func85, Tryz.ntmps85
 go_wp2_with fail
 go_loopg [3, 11] 4 (fun q s3 s11 v => ∃ (k : Nat) (m : Int), s3 = .int .i64 m ∧ Hid (m = 32 * (k : Int)) ∧ s11 = .int .i64 (k : Int) ∧ k ≤ 4 ∧ q = 4 - k ∧ w = v)
 case atStart => exact ⟨0, 0, rfl, Lib.hid rfl, rfl, by omega, rfl, rfl⟩
 case round =>
  obtain ⟨k, m, rfl, hm, rfl, hk, rfl, rfl⟩ := hrel
  by_cases hlt : k < 4
  ·have hk' : (k : Int) < 4 := by omega
   have c1 := HO.out.outer k hlt
   have n1 : ¬ m + 32 < 0 := by have := hm.out; omega
   have n2 : 0 ≤ m ∧ m ≤ 1000 := by have := hm.out; omega
   go_wp2_with fail
   go_roundg (4 - (k + 1))
   case measure => omega
   case rel => exact ⟨k + 1, m + 32, rfl, Lib.hid (by have := hm.out; omega), by go_num, by omega, rfl, rfl⟩
  ·obtain rfl : k = 4 := by omega
   obtain rfl : m = 128 := by have := hm.out; omega
   go_wp2_with fail
   refine HG.out.mono ?_
   rintro e w2 ⟨cap, rfl, hcap, ho2, hb2⟩
   have HB := Lib.hid hb2
   have HHS : Hid (H ≤ w2.heap.size) := Lib.hid (by rw [← HH.out]; have := hb2.size; omega)
   have H0 : Hid (w2.ownsRow H 5 1 (.slice (some ⟨H, 0, none⟩) 0 cap) 0 (rowL 0 (flat D)) ∧ Below H w w2 ∧ H ≤ w2.heap.size) := Lib.hid ⟨ho2, hb2, HHS.out⟩
   clear ho2 hb2 HG
   go_wp2_with fail
   go_loopg [6, 27] 4 (fun q s6 s27 v => ∃ (k m : Nat), s6 = .slice (some ⟨H, 0, none⟩) m cap ∧ Hid (m = 32 * k) ∧ s27 = .int .i64 (k : Int) ∧ k ≤ 4 ∧ q = 4 - k ∧ Hid (v.ownsRow H 5 1 (.slice (some ⟨H, 0, none⟩) m cap) m (rowL m (flat D)) ∧ Below H w v ∧ H ≤ v.heap.size))
   case atStart => exact ⟨0, 0, rfl, Lib.hid rfl, rfl, by omega, rfl, H0⟩
   case round =>
    obtain ⟨k, m, rfl, hm, rfl, hk, rfl, HV⟩ := hrel
    clear H0
    by_cases hlt : k < 4
    ·have hk' : (k : Int) < 4 := by omega
     have c1 := (HV.out.2.1.cell (p := ⟨b, k, none⟩) lb).trans (HO.out.outer k hlt)
     have HX : Hid (∀ j, j < 32 → wr.cell? ⟨G k, 0 + j, none⟩ = some (.int .u8 (D k j : Nat))) := Lib.hid (fun j hj => by
      rw [Nat.zero_add]
      exact (HV.out.2.1.cell (p := ⟨G k, j, none⟩) (HLG.out k hlt)).trans (HO.out.cell k hlt j hj))
     have hmc : m + 32 ≤ cap := by have := hm.out; omega
     go_wp2_with (at_builtin; refine wpList_append_fits _ rfl _ _ 36 rfl H 5 i0 1 Tryz.underlying36 hi0 hz1 H m cap (rowL m (flat D)) rfl HV.out.1 ⟨G k, 0, none⟩ 32 (K k) (rowL 32 (D k)) rfl (by rw [rowL_len]) (rowL_cells HX.out) rowL_one hmc ?_; intro w3 ho3 hg3; rw [rowL_add m 32 (flat D) (D k) (fun j hj => by rw [flat_at D hj, hm.out])] at ho3; have HO3 := Lib.hid ho3; have HG3 := Lib.hid hg3; clear ho3 hg3)
     go_roundg (4 - (k + 1))
     case measure => omega
     case rel => exact ⟨k + 1, m + 32, rfl, Lib.hid (by have := hm.out; omega), by go_num, by omega, rfl, Lib.hid ⟨HO3.out, Below.of_only HV.out.2.1 HG3.out (Nat.le_refl _) HV.out.2.2, Nat.le_trans HV.out.2.2 HG3.out.size⟩⟩
    ·obtain rfl : k = 4 := by omega
     obtain rfl : m = 128 := by have := hm.out; omega
     go_wp2_with fail
     go_ret
     refine ⟨cap, rfl, hcap, ⟨own_row8 HV.out.1 (fun j hj => rowL_get hj), ?_⟩, HV.out.2.1⟩
     rcases HV.out.1.2 with ⟨h0, _⟩ | ⟨g', cap', cur, e1, _, hh, _⟩
     ·cases h0
     ·cases e1
      exact ⟨cur, hh⟩
end Go.Proofs.YtobkmohoepgfmaaGreatDoor.Kc
namespace Go.Proofs.YtobkmohoepgfmaaGreatDoor.Kc
open Go.RowKit Go.Sort
set_option maxRecDepth 100000
set_option maxHeartbeats 1000000

end Go.Proofs.YtobkmohoepgfmaaGreatDoor.Kc
namespace Go.Proofs.YtobkmohoepgfmaaGreatDoor.Kc
open Go.RowKit Go.Sort
set_option maxRecDepth 100000
set_option maxHeartbeats 1000000

theorem own_empty {w : World} {base e : Nat} {t : TypeId} (hb : w.heap[e]? = some (.cells #[] t (0, 0))) (hB : base ≤ e) : w.ownsRow base t 1 (.slice (some ⟨e, 0, none⟩) 0 0) 0 [] :=
 ⟨rfl, Or.inr ⟨e, 0, #[], rfl, hB, hb, Nat.le_refl _, by unfold maxLen; omega, rfl, rfl⟩⟩

theorem own_keep {w w' : World} {B : Nat} {e : TypeId} {v : Value} {n : Nat} {xs : List Value} (h : w.ownsRow B e 1 v n xs) (b : Below w.heap.size w w') : w'.ownsRow B e 1 v n xs := by
 obtain ⟨h1, h2⟩ := h
 refine ⟨h1, ?_⟩
 rcases h2 with h2 | ⟨g, cap, cur, hv, hg', hh, r⟩
 ·exact Or.inl h2
 ·exact Or.inr ⟨g, cap, cur, hv, hg', (b.block _ (heap_lt hh)).trans hh, r⟩
theorem own_cap {w : World} {B g n cap : Nat} {e : TypeId} {xs : List Value} (h : w.ownsRow B e 1 (.slice (some ⟨g, 0, none⟩) n cap) n xs) : n ≤ cap := by
 rcases h.2 with ⟨h0, _⟩ | ⟨g', cap', cur, e1, _, _, h3, _⟩
 ·cases h0
 ·cases e1; exact h3
end Go.Proofs.YtobkmohoepgfmaaGreatDoor.Kc
namespace Go.Proofs.YtobkmohoepgfmaaGreatDoor.Kc
open Go.RowKit Go.Sort
set_option maxRecDepth 100000
set_option maxHeartbeats 4000000

def cnt (row i : Nat) : Nat := if row < i then i - 1 else i
end Go.Proofs.YtobkmohoepgfmaaGreatDoor.Kc
namespace Go.Proofs.YtobkmohoepgfmaaGreatDoor.Kc
open Go.RowKit Go.Sort
set_option maxRecDepth 100000
set_option maxHeartbeats 4000000

end Go.Proofs.YtobkmohoepgfmaaGreatDoor.Kc
namespace Go.Proofs.YtobkmohoepgfmaaGreatDoor.Kc
open Go.RowKit Go.Sort
set_option maxRecDepth 100000
set_option maxHeartbeats 4000000

def adjM (n : Nat) (A : Mx) : Mx := fun i k => mul (inv (det n A)) (det (n - 1) (wo A k i))
end Go.Proofs.YtobkmohoepgfmaaGreatDoor.Kc
namespace Go.Proofs.YtobkmohoepgfmaaGreatDoor.Kc
open Go.RowKit Go.Sort
set_option maxRecDepth 100000
set_option maxHeartbeats 1000000

theorem own_keepBy {w w' : World} {B : Nat} {e : TypeId} {v : Value} {n : Nat} {xs : List Value} (h : w.ownsRow B e 1 v n xs) (he : ∀ k, v.ownBlock = some k → w'.heap[k]? = w.heap[k]?) : w'.ownsRow B e 1 v n xs := by
 obtain ⟨h1, h2⟩ := h
 refine ⟨h1, ?_⟩
 rcases h2 with h2 | ⟨g, cap, cur, rfl, hg', hh, r⟩
 ·exact Or.inl h2
 ·exact Or.inr ⟨g, cap, cur, rfl, hg', (he g rfl).trans hh, r⟩

end Go.Proofs.YtobkmohoepgfmaaGreatDoor.Kc
namespace Go.Proofs.YtobkmohoepgfmaaGreatDoor.Kc
open Go.RowKit Go.Sort
set_option maxRecDepth 100000
set_option maxHeartbeats 2000000

def lenOf (xss : List (List Nat)) (i : Nat) : Nat := ((xss[i]?).getD []).length
def pres (xss : List (List Nat)) (i : Nat) : List Nat := ((List.range i).filter (fun l => decide (lenOf xss l ≠ 0))).take 4
theorem filter_next (xss : List (List Nat)) (i : Nat) : (List.range (i + 1)).filter (fun l => decide (lenOf xss l ≠ 0)) = (List.range i).filter (fun l => decide (lenOf xss l ≠ 0)) ++ (if lenOf xss i ≠ 0 then [i] else []) := by
 rw [List.range_succ, List.filter_append]
 congr 1
 by_cases h : lenOf xss i ≠ 0
 ·rw [if_pos h]; simp [h]
 ·rw [if_neg h]; simp at h; simp [h]
theorem pres_skip {xss : List (List Nat)} {i : Nat} (h : lenOf xss i = 0) : pres xss (i + 1) = pres xss i := by
 unfold pres; rw [filter_next, if_neg (fun hn => hn h), List.append_nil]
theorem pres_full {xss : List (List Nat)} {i : Nat} (h : ¬ (pres xss i).length < 4) : pres xss (i + 1) = pres xss i := by
 unfold pres at *
 rw [filter_next, List.take_append_of_le_length (by rw [List.length_take] at h; omega)]
theorem pres_add {xss : List (List Nat)} {i : Nat} (h0 : lenOf xss i ≠ 0) (h : (pres xss i).length < 4) : pres xss (i + 1) = pres xss i ++ [i] := by
 unfold pres at *
 have hl : ((List.range i).filter (fun l => decide (lenOf xss l ≠ 0))).length < 4 := by rw [List.length_take] at h; omega
 rw [filter_next, if_pos h0, List.take_of_length_le (l := (List.range i).filter _) (by omega), List.take_of_length_le (by rw [List.length_append, List.length_singleton]; omega)]
theorem pres_len (xss : List (List Nat)) (i : Nat) : (pres xss i).length ≤ 4 := by unfold pres; rw [List.length_take]; omega
theorem pres_pre (xss : List (List Nat)) (i d : Nat) : pres xss i <+: pres xss (i + d) := by
 induction d with
 | zero => exact List.prefix_refl _
 | succ d ih =>
  by_cases h0 : lenOf xss (i + d) = 0
  ·rw [← Nat.add_assoc, pres_skip h0]; exact ih
  ·by_cases h : (pres xss (i + d)).length < 4
   ·rw [← Nat.add_assoc, pres_add h0 h]; exact ih.trans (List.prefix_append _ _)
   ·rw [← Nat.add_assoc, pres_full h]; exact ih
theorem pres_at {xss : List (List Nat)} {i : Nat} (hi : i < 6) (h0 : lenOf xss i ≠ 0) (h : (pres xss i).length < 4) : (pres xss 6)[(pres xss i).length]? = some i := by
 have hp := pres_pre xss (i + 1) (6 - (i + 1))
 rw [show i + 1 + (6 - (i + 1)) = 6 by omega, pres_add h0 h] at hp
 obtain ⟨r, hr⟩ := hp
 rw [← hr, List.append_assoc, List.getElem?_append_right (Nat.le_refl _), Nat.sub_self]
 rfl
theorem pres_lt {xss : List (List Nat)} {i l : Nat} (h : l ∈ pres xss i) : l < i ∧ lenOf xss l ≠ 0 := by
 have := List.mem_of_mem_take h
 simpa using this
theorem pres_sorted (xss : List (List Nat)) (i : Nat) : (pres xss i).Pairwise (· < ·) := by
 unfold pres
 exact (List.pairwise_lt_range.filter _).sublist (List.take_sublist _ _)
def fm (F : List Nat) : Mx := fun i j => gr (F.getD i 0) j
theorem fm_bd (F : List Nat) (r c : Nat) : Bd r c (fm F) := fun i _ j hj => gr_bd (F.getD i 0 + 1) c _ (Nat.lt_succ_self _) j hj
theorem fm_det {F : List Nat} (hl : F.length = 4) (hs : F.Pairwise (· < ·)) (h6 : ∀ l ∈ F, l < 6) : det 4 (fm F) ≠ 0 := by
 match F, hl with
 | [a, b, c, d], _ =>
  simp at hs
  have hd := h6 d (by simp)
  have e : EqM 4 4 (fm [a, b, c, d]) (four a b c d) := fun i hi j _ => by
   unfold fm four sel
   match i, hi with
   | 0, _ => rfl
   | 1, _ => rfl
   | 2, _ => rfl
   | 3, _ => rfl
  rw [det_congr e]
  exact four_det hs.1.1 hs.2.1.1 hs.2.2 hd
end Go.Proofs.YtobkmohoepgfmaaGreatDoor.Kc
namespace Go.Proofs.YtobkmohoepgfmaaGreatDoor.Kc
open Go.RowKit Go.Sort
set_option maxRecDepth 100000
set_option maxHeartbeats 4000000

theorem RawIn.place {w : World} {a : Option Addr} {xss : List (List Nat)} (h : RawIn w a xss) {i : Nat} (hi : i < xss.length) :
  ∃ b o g cap, a = some ⟨b, o, none⟩ ∧ b < w.heap.size ∧ w.cell? ⟨b, o + i, none⟩ = some (.slice g (lenOf xss i) cap) ∧
   ∀ j, j < lenOf xss i → ∃ h q, g = some ⟨h, q, none⟩ ∧ h < w.heap.size ∧ w.cell? ⟨h, q + j, none⟩ = some (.int .u8 (ent xss i j : Nat)) := by
 obtain ⟨xs, hxs⟩ : ∃ xs, xss[i]? = some xs := ⟨_, List.getElem?_eq_getElem hi⟩
 obtain ⟨b, o, rfl, hb, g, cap, hc, hx⟩ := h i xs hxs
 have hl : lenOf xss i = xs.length := by unfold lenOf; rw [hxs]; rfl
 rw [hl]
 refine ⟨b, o, g, cap, rfl, hb, hc, fun j hj => ?_⟩
 obtain ⟨h', q, e, hh, hv⟩ := hx j _ (List.getElem?_eq_getElem hj)
 refine ⟨h', q, e, hh, ?_⟩
 rw [hv]
 unfold ent
 rw [hxs, Option.getD_some, List.getElem?_eq_getElem hj]; rfl

def Whole (xss : List (List Nat)) : Prop := xss.length = 6 ∧ (∀ l, l < 6 → lenOf xss l = 0 ∨ lenOf xss l = 32) ∧ (pres xss 6).length = 4

def outF (xss : List (List Nat)) : Nat → Nat := fun t => mm 4 (adjM 4 (fm (pres xss 6))) (fun l k => ent xss ((pres xss 6).getD l 0) k) (t / 32) (t % 32)
theorem own_shape {w : World} {B : Nat} {e : TypeId} {v : Value} {n : Nat} {xs : List Value} (h : w.ownsRow B e 1 v n xs) : ∃ p c, v = .slice p n c := by
 rcases h.2 with ⟨rfl, rfl⟩ | ⟨g, cap, cur, rfl, _⟩
 ·exact ⟨none, 0, rfl⟩
 ·exact ⟨_, cap, rfl⟩
end Go.Proofs.YtobkmohoepgfmaaGreatDoor.Kc
namespace Go.Proofs.YtobkmohoepgfmaaGreatDoor.Kc
open Go.RowKit Go.Sort
set_option maxRecDepth 100000
set_option maxHeartbeats 1000000

theorem ccut (a : Option Addr) (n cap : Nat) (w : World) (t : Bool) (ht : t = decide (n ≠ 0 ∧ n ≠ 32)) :
  Calls Tryz.prog 115 #[.slice a n cap] w fun e w' => e = .returned (.bool t) ∧ w' = w := by
 by_cases h0 : n = 0
 ·have e0 : ((n : Int) != 0) = false := by rw [bne_eq_false_iff_eq]; omega
  obtain rfl : t = false := by rw [ht]; exact decide_eq_false (fun h => h.1 h0)
  clear h0 ht
  go_enter Tryz.func115, Tryz.ntmps115
  go_wp2_with fail
  go_ret
  exact ⟨rfl, rfl⟩
 ·have e0 : ((n : Int) != 0) = true := by rw [bne_iff_ne]; omega
  have e1 : ((n : Int) != 32) = t := by
   rw [ht]
   by_cases h : n = 32
   ·rw [decide_eq_false (fun h2 => h2.2 h), bne_eq_false_iff_eq]; omega
   ·rw [decide_eq_true ⟨h0, h⟩, bne_iff_ne]; omega
  clear ht h0
  go_enter Tryz.func115, Tryz.ntmps115
  go_wp2_with fail
  go_ret
  exact ⟨rfl, rfl⟩

def Cuts (xss : List (List Nat)) (n : Nat) : Prop := ∀ l, l < n → lenOf xss l = 0 ∨ lenOf xss l = 32
def CutAt (xss : List (List Nat)) (w : World) (e : Ending) (w' : World) : Prop := ∃ fd : Int, e = .returned (.int .i64 fd) ∧ ((fd = -1 ∧ Cuts xss xss.length) ∨ (∃ d : Nat, fd = (d : Int) ∧ ¬ Cuts xss xss.length)) ∧ w' = w
theorem RawIn.len {w : World} {a : Option Addr} {xss : List (List Nat)} (h : RawIn w a xss) {i : Nat} (hi : i < xss.length) :
  ∃ b o g cap, a = some ⟨b, o, none⟩ ∧ b < w.heap.size ∧ w.cell? ⟨b, o + i, none⟩ = some (.slice g (lenOf xss i) cap) := by
 obtain ⟨xs, hxs⟩ : ∃ xs, xss[i]? = some xs := ⟨_, List.getElem?_eq_getElem hi⟩
 obtain ⟨b, o, e, hb, g, cap, hc, _⟩ := h i xs hxs
 refine ⟨b, o, g, cap, e, hb, ?_⟩
 unfold lenOf
 rw [hxs, Option.getD_some]
 exact hc

theorem cindex (a : Option Addr) (xss : List (List Nat)) (cap : Nat) (w : World) (h : RawIn w a xss) (hl : xss.length ≤ 9223372036854775807) :
  Calls Tryz.prog 153 #[.slice a xss.length cap, .func (.func 115) #[] #[]] w (CutAt xss w) := by
 have HX := Lib.hid h
 clear h
 obtain ⟨m, hm⟩ : ∃ m, xss.length = m := ⟨_, rfl⟩
 have HM := Lib.hid hm
 rw [hm] at hl ⊢
 clear hm
 go_enter Tryz.func153, Tryz.ntmps153
 go_wp2_with fail
 go_loop [5, 8] (fun _ s => ∃ k : Nat, s = .int .i64 (k : Int) ∧ k ≤ m ∧ Hid (Cuts xss k)) (fun _ s => m - (intOf s).toNat)
 case atStart => exact ⟨0, rfl, Nat.zero_le _, Lib.hid (fun l hl => absurd hl (Nat.not_lt_zero _))⟩
 case round =>
  obtain ⟨k, rfl, hk, HZ⟩ := hrel
  by_cases hlt : k < m
  ·have hk' : (k : Int) < (m : Int) := by omega
   obtain ⟨b, o, g, cap', rfl, hb, hc⟩ := HX.out.len (i := k) (by have := HM.out; omega)
   have HT := Lib.hid (fun t ht => ccut g (lenOf xss k) cap' w t ht)
   by_cases h0 : lenOf xss k = 0 ∨ lenOf xss k = 32
   ·have HT2 := Lib.hid (HT.out false (decide_eq_false (fun h => by omega)).symm)
    have H0 := Lib.hid h0
    clear h0 HT
    go_wp2_with fail
    refine HT2.out.mono ?_
    rintro e w' ⟨rfl, hw⟩
    obtain rfl := hw.symm
    go_wp2_with fail
    go_round
    case measure => simp [intOf]; omega
    case rel => exact ⟨k + 1, by go_num, by omega, Lib.hid (fun l hl => by
     by_cases e : l = k
     ·rw [e]; exact H0.out
     ·exact HZ.out l (by omega))⟩
   ·have HT2 := Lib.hid (HT.out true (decide_eq_true (by omega)).symm)
    have H0 : Hid (¬ Cuts xss xss.length) := Lib.hid (fun h => h0 (h k (by have := HM.out; omega)))
    clear h0 HT
    go_wp2_with fail
    refine HT2.out.mono ?_
    rintro e w' ⟨rfl, hw⟩
    obtain rfl := hw.symm
    go_wp2_with fail
    go_ret
    exact ⟨_, rfl, Or.inr ⟨k, rfl, H0.out⟩, rfl⟩
  ·have hge : ¬ (k : Int) < (m : Int) := by omega
   have HE : Hid (Cuts xss xss.length) := Lib.hid (fun l hl => HZ.out l (by have := HM.out; omega))
   go_wp2_with fail
   go_ret
   exact ⟨_, rfl, Or.inl ⟨rfl, HE.out⟩, rfl⟩

theorem ccontains (a : Option Addr) (xss : List (List Nat)) (cap : Nat) (w : World) (h : RawIn w a xss) (hl : xss.length ≤ 9223372036854775807) (t : Bool) (ht : t = true ↔ ¬ Cuts xss xss.length) :
  Calls Tryz.prog 116 #[.slice a xss.length cap, .func (.func 115) #[] #[]] w fun e w' => e = .returned (.bool t) ∧ w' = w := by
 have HI := Lib.hid (cindex a xss cap w h hl)
 have HT := Lib.hid ht
 clear h ht
 go_enter Tryz.func116, Tryz.ntmps116
 go_wp2_with fail
 refine HI.out.mono ?_
 rintro e w' ⟨fd, rfl, hfd, hw⟩
 obtain rfl := hw.symm
 rcases hfd with ⟨rfl, hC⟩ | ⟨d, rfl, hC⟩
 ·obtain rfl : t = false := not_true HT.out (fun h => h hC)
  clear hC HI HT
  go_wp2_with fail
  go_ret
  exact ⟨rfl, rfl⟩
 ·obtain rfl : t = true := HT.out.2 hC
  clear hC HI HT
  go_wp2_with fail
  go_ret
  exact ⟨rfl, rfl⟩
theorem csized (a : Option Addr) (xss : List (List Nat)) (cap : Nat) (w : World) (h : RawIn w a xss) (hl : xss.length ≤ 9223372036854775807) (t : Bool) (ht : t = true ↔ xss.length = 6 ∧ Cuts xss 6) :
  Calls Tryz.prog 82 #[.slice a xss.length cap] w fun e w' => e = .returned (.bool t) ∧ w' = w := by
 by_cases h6 : xss.length = 6
 ·have HC : Hid (∀ t', (t' = true ↔ ¬ Cuts xss xss.length) → _) := Lib.hid (fun t' ht' => ccontains a xss cap w h hl t' ht')
  rw [h6] at HC ⊢
  by_cases hcut : Cuts xss 6
  ·obtain rfl : t = true := ht.2 ⟨h6, hcut⟩
   have HC2 := Lib.hid (HC.out false ⟨fun h => (by cases h), fun h => absurd hcut h⟩)
   clear HC h ht hcut
   go_enter Tryz.func82, Tryz.ntmps82
   go_wp2_with fail
   refine HC2.out.mono ?_
   rintro e w' ⟨rfl, hw⟩
   obtain rfl := hw.symm
   go_wp2_with fail
   go_ret
   exact ⟨rfl, rfl⟩
  ·obtain rfl : t = false := not_true ht (fun h => hcut h.2)
   have HC2 := Lib.hid (HC.out true ⟨fun _ => hcut, fun _ => rfl⟩)
   clear HC h ht hcut
   go_enter Tryz.func82, Tryz.ntmps82
   go_wp2_with fail
   refine HC2.out.mono ?_
   rintro e w' ⟨rfl, hw⟩
   obtain rfl := hw.symm
   go_wp2_with fail
   go_ret
   exact ⟨rfl, rfl⟩
 ·obtain rfl : t = false := not_true ht (fun h => h6 h.1)
  have e1 : ((xss.length : Int) == 6) = false := by rw [beq_eq_false_iff_ne]; omega
  clear h ht
  generalize xss.length = m at *
  go_enter Tryz.func82, Tryz.ntmps82
  go_wp2_with fail
  go_ret
  exact ⟨rfl, rfl⟩
end Go.Proofs.YtobkmohoepgfmaaGreatDoor.Kc
