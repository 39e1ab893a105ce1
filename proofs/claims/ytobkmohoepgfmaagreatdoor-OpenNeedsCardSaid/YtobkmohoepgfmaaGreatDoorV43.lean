import Derived.Test.YtobkmohoepgfmaaGreatDoorV37
import Derived.Test.YtobkmohoepgfmaaGreatDoorV42
import Derived.Test.YtobkmohoepgfmaaGreatDoorV40
namespace Go.Proofs.YtobkmohoepgfmaaGreatDoor
open Go.RowKit Go.Sort
set_option maxRecDepth 100000
set_option maxHeartbeats 8000000

theorem Ep.fit_fetch {e : Ep} {m st : Nat} (dec : List (Nat × (Nat → Nat)) → Nat → Nat) (h : e.w.Fit m) : (e.fetch dec st).1.Fit (m + 18) := by
 have h6 := Ep.fit_getN (e := e) (st := st) h 6
 have h0 : e.w.Fit (m + 18) := h.mono (by omega)
 unfold Ep.fetch
 repeat' split
 ·exact h0
 ·exact h0
 ·exact h6
 ·exact h6
theorem DatN.keepE {lim : Nat} {w w' : World} {A : Option Addr} {n : Nat} {D : Nat → Nat} (h : DatN w A n D) (k : KeepE lim w w') : DatN w' A n D := by
 rcases h with h | ⟨g, o, cs, h1, h2, h3⟩
 ·exact Or.inl h
 ·have hk := k.cells h2 u8_notW (by decide)
  exact Or.inr ⟨g, o, cs, h1, hk.trans h2, fun j hj => (World.cell?_of_block (w := w) hk).trans (h3 j hj)⟩
section
variable {w0 v : World} {g p lim : Nat} {nd : ND} {e : Ep}
theorem le_read (h : LE w0 v g nd p lim e) {m : Nat} (hf : e.w.Fit m) (hm : m ≤ 100000000 - 18) (hk : ∀ i, e.next i ≤ 1000000) {st : Nat} (hst : st < 40) :
  Calls Tryz.prog 14 #[.pointer (some ⟨p, 0, none⟩), .int .i64 (st : Int)] v (LRRet w0 v g nd p lim st (e.read encK decK st)) := by
 obtain ⟨cb, A, C, c, f, o, cap, B, h⟩ := h
 have q1 := we_neqNil
 have q2 := we_neqNilNil
 have HH := Lib.hid (le_has h.ep hst)
 have c0 := h.ep.c0
 have hst' : (st : Int) < 40 := by omega
 have HF := Lib.hid (cy_fetch h.wl h.cm hf (by omega) hst)
 have HFF := Lib.hid (Ep.fit_fetch (st := st) decK hf)
 have HL := Lib.hid h
 have HK := Lib.hid hk
 obtain ⟨s1, x1, hx1⟩ : ∃ s1 x1, e.fetch decK st = (s1, x1) := ⟨_, _, rfl⟩
 rw [hx1] at HF HFF
 obtain ⟨X, hX⟩ : ∃ X, e.read encK decK st = X := ⟨_, rfl⟩
 have HX := Lib.hid hX
 have HX1 := Lib.hid hx1
 rw [hX]
 obtain ⟨db, hdb⟩ : ∃ db, e.doubt st = db := ⟨_, rfl⟩
 have HDB := Lib.hid hdb
 clear h hf hk hX hx1
 go_enter Tryz.func14, Tryz.ntmps14
 go_wp2_with fail
 refine HH.out.mono ?_
 rintro en w' ⟨rfl, hw⟩
 obtain rfl := hw.symm
 go_wp2_with fail
 refine HF.out.mono ?_
 rintro en w1 ⟨r, u, rfl, W1, K1, hx⟩
 try dsimp only
 try dsimp only at W1 hx
 have HE1 : Hid (LEx w0 w1 g nd p lim { e with w := s1 } cb A C c f o cap B) := Lib.hid ⟨W1, HL.out.cm.keep HL.out.wl W1 (KeepF.of K1) rfl rfl rfl rfl, (K1.cells HL.out.ep eng_notW).trans HL.out.ep, HL.out.pl, HL.out.bl, Nat.le_trans HL.out.lv K1.1, HL.out.w0l⟩
 have HK1 := Lib.hid (KeepE.of lim K1)
 clear W1 K1
 rcases hx with ⟨l, rfl, rfl, hev⟩ | ⟨D, P, k, rfl, rfl, rfl, hd, hk, hD⟩
 ·obtain ⟨tu, xu, rfl⟩ := hev.iface
  have HXX : Hid (X = ({ e with w := s1 }, .no l)) := Lib.hid (by rw [← HX.out]; unfold Ep.read; rw [HX1.out])
  have HE := Lib.hid hev
  clear hev
  go_wp2_with fail
  go_ret2
  rw [HXX.out]
  exact ⟨_, _, rfl, ⟨cb, A, C, c, f, o, cap, B, HE1.out⟩, HK1.out, Or.inl ⟨l, rfl, rfl, HE.out⟩⟩
 ·have HD := Lib.hid (And.intro hd (And.intro hk hD))
  have d0 := HE1.out.ep.c0
  obtain ⟨_, _, k3, _⟩ := HE1.out.cm.known hst
  dsimp only at k3
  rw [hdb] at k3
  clear hd hk hD c0
  cases db with
  | false =>
   have HXX : Hid (X = ({ e with w := s1 }, .yes D)) := Lib.hid (by rw [← HX.out]; unfold Ep.read; rw [HX1.out]; dsimp only; rw [HDB.out]; exact if_neg (by decide))
   go_wp2_with fail
   go_ret2
   rw [HXX.out]
   exact ⟨_, _, rfl, ⟨cb, A, C, c, f, o, cap, B, HE1.out⟩, HK1.out, Or.inr ⟨D, P, k, rfl, rfl, rfl, HD.out.1, HD.out.2.1, HD.out.2.2⟩⟩
  | true =>
   have HWR := Lib.hid (le_write (e := { e with w := s1 }) ⟨cb, A, C, c, f, o, cap, B, HE1.out⟩ HFF.out (by omega) HK.out hst P k D HD.out.1 HD.out.2.2)
   obtain ⟨e2, r2, hr⟩ : ∃ e2 r2, ({ e with w := s1 } : Ep).write encK st D = (e2, r2) := ⟨_, _, rfl⟩
   rw [hr] at HWR
   have HXX : Hid (X = (match (e2, r2) with | (e2, some l) => (e2, .no l) | (e2, none) => (e2, .yes D))) := Lib.hid (by rw [← HX.out]; unfold Ep.read; rw [HX1.out]; dsimp only; rw [HDB.out]; rw [if_pos rfl, hr]; cases r2 <;> rfl)
   clear hr
   go_wp2_with fail
   refine HWR.out.mono ?_
   rintro en w2 ⟨u, rfl, L2, K2, he⟩
   try dsimp only
   try dsimp only at he L2
   have HZ := Lib.hid (And.intro L2 (And.intro (HK1.out.trans K2) (HD.out.1.keepE K2)))
   clear L2 K2
   cases r2 with
   | none =>
    obtain rfl : u = .nilIface := he
    have HX2 : Hid (X = (e2, .yes D)) := HXX
    go_wp2_with fail
    go_ret2
    rw [HX2.out]
    exact ⟨_, _, rfl, HZ.out.1, HZ.out.2.1, Or.inr ⟨D, P, k, rfl, rfl, rfl, HZ.out.2.2, HD.out.2.1, HD.out.2.2⟩⟩
   | some l =>
    have hev : EV w2 u (l.map (fun z => (z.2 : Int))) (l.map (fun z => (z.1 : Int))) [(st : Int)] := he
    obtain ⟨tu, xu, rfl⟩ := hev.iface
    have HX2 : Hid (X = (e2, .no l)) := HXX
    have HE := Lib.hid hev
    clear hev he
    go_wp2_with fail
    go_ret2
    rw [HX2.out]
    exact ⟨_, _, rfl, HZ.out.1, HZ.out.2.1, Or.inl ⟨l, rfl, rfl, HE.out⟩⟩
end
end Go.Proofs.YtobkmohoepgfmaaGreatDoor
namespace Go.Proofs.YtobkmohoepgfmaaGreatDoor
open Go.RowKit Go.Sort
set_option maxRecDepth 100000
set_option maxHeartbeats 8000000

def zF (j : Nat) : Value := if j = 0 then .pointer none else if j = 161 then .pointer none else if j % 4 = 1 then .int .i64 0 else if j % 4 = 2 then .int .i64 0 else if j % 4 = 3 then .bool false else .slice none 0 0
theorem zeroCar : Tryz.zeroCells72.toList = (List.range 162).map zF := by kernel_rfl
def e0 (s : Wp) (i : Nat) : Ep := ⟨s, fun _ => 0, fun j => if j < i then 1 else 0, fun _ => false, fun _ => none⟩
theorem zeroBlk (g c : Nat) (s : Wp) (j : Nat) (hj : j < 162) : ((Tryz.zeroCells72.setIfInBounds 0 (.pointer (some ⟨g, 0, none⟩))).setIfInBounds 161 (.pointer (some ⟨c, 0, none⟩)))[j]? = some (carF g c (e0 s 0) (fun _ => .slice none 0 0) j) := by
 have hsz : Tryz.zeroCells72.size = 162 := by simp
 have hz : Tryz.zeroCells72[j]? = some (zF j) := by
  rw [← Array.getElem?_toList, zeroCar, List.getElem?_map, List.getElem?_range hj]
  rfl
 rw [Array.getElem?_setIfInBounds, Array.getElem?_setIfInBounds]
 unfold carF
 by_cases h1 : j = 161
 ·subst h1
  rw [if_pos rfl, if_pos (by simp [hsz])]
  rfl
 ·rw [if_neg (fun h => h1 h.symm)]
  by_cases h0 : j = 0
  ·subst h0
   rw [if_pos rfl, if_pos (by omega)]
   rfl
  ·rw [if_neg (fun h => h0 h.symm), hz, if_neg h0, if_neg h1]
   unfold zF e0
   rw [if_neg h0, if_neg h1]
   simp only [Nat.not_lt_zero, if_false]
   rfl
theorem CM.same {w0 v : World} {g cb : Nat} {nd : ND} {e e' : Ep} {A C c f o cap : Nat} {B : Nat → Value} (h : CM w0 v g cb nd e A C c f o cap B) (hg : ∀ i, i < 40 → e.gen i = e'.gen i) (hn : ∀ i, i < 40 → e.next i = e'.next i) (hd : ∀ i, i < 40 → e.doubt i = e'.doubt i) (hp : ∀ i, i < 40 → e.pend i = e'.pend i) : CM w0 v g cb nd e' A C c f o cap B :=
 ⟨h.blk.congr (carF_congr hg hn hd (fun _ _ => rfl)), fun i hi => by rw [← hp i hi]; exact h.pb i hi, h.cdr, h.cin, h.cC, h.zA, h.zc, h.w0c⟩
def ND.Le (nd nd' : ND) : Prop := ∀ k, nd.Z k → nd'.Z k ∧ nd'.O k = nd.O k
theorem cy_new2 {w0 v : World} {g : Nat} {nd : ND} {s : Wp} (h : WL w0 v g nd s) : Calls Tryz.prog 26 #[.pointer (some ⟨g, 0, none⟩)] v fun en w' => ∃ cb nd' A C c f o cap B, en = .returned (.pointer (some ⟨cb, 0, none⟩)) ∧ WL w0 w' g nd' s ∧ CM w0 w' g cb nd' (Ep.new s) A C c f o cap B ∧ Below v.heap.size v w' ∧ nd'.B ≤ w'.heap.size ∧ nd'.f = nd.f ∧ nd.Le nd' ∧ v.heap.size ≤ cb := by
 have HW := Lib.hid h
 have HN := Lib.hid (Kc.cnewF v)
 clear h
 go_enter Tryz.func26, Tryz.ntmps26
 go_wp2_with fail
 refine HN.out.mono ?_
 rintro en w1 ⟨c, f, o, cap, rfl, hc, b1, hf⟩
 try dsimp only
 have HC := Lib.hid (And.intro hc (hc.upto hf))
 have HB1 := Lib.hid b1
 clear hc b1 hf
 obtain ⟨cb, hcb⟩ : ∃ cb, w1.heap.size = cb := ⟨_, rfl⟩
 have HCB := Lib.hid hcb
 obtain ⟨w2, hw2⟩ : ∃ w2, w1.alloc (.cells ((Tryz.zeroCells72.setIfInBounds 0 (.pointer (some ⟨g, 0, none⟩))).setIfInBounds 161 (.pointer (some ⟨c, 0, none⟩))) 72) = w2 := ⟨_, rfl⟩
 have b2 : Below w1.heap.size w1 w2 := by rw [← hw2]; exact (Below.refl _ _).alloc (Nat.le_refl _) _
 have hbl : w2.heap[cb]? = some (.cells ((Tryz.zeroCells72.setIfInBounds 0 (.pointer (some ⟨g, 0, none⟩))).setIfInBounds 161 (.pointer (some ⟨c, 0, none⟩))) 72 (0, 0)) := by rw [← hw2, ← hcb]; exact alloc_block _ _
 obtain ⟨nd1, hnd1⟩ : ∃ nd1, nd.add (fun k => v.heap.size ≤ k ∧ k < w1.heap.size) w1 = nd1 := ⟨_, rfl⟩
 have HLE : Hid (nd.Le nd1) := Lib.hid (by
  rw [← hnd1]
  exact fun k hk => ⟨Or.inl hk, (HB1.out.block k (Nat.lt_of_lt_of_le (HW.out.zlt hk) HW.out.zB)).trans (HW.out.zO hk)⟩)
 have HND : Hid (nd1.f = nd.f ∧ nd1.B = w1.heap.size ∧ ∀ k, v.heap.size ≤ k → k < w1.heap.size → nd1.Z k) := Lib.hid (by rw [← hnd1]; exact ⟨rfl, rfl, fun k a b => Or.inr ⟨a, b⟩⟩)
 have HW1 : Hid (WL w0 w1 g nd1 s) := Lib.hid (by rw [← hnd1]; exact HW.out.add HB1.out (fun k hk => hk))
 have HW2 := Lib.hid (HW1.out.below b2)
 have HM2 : Hid (CM w0 w2 g cb nd1 (e0 s 0) v.heap.size w1.heap.size c f o cap (fun _ => .slice none 0 0)) := Lib.hid (by
  obtain ⟨k1, k2⟩ := HC.out.1.keepA HC.out.2 b2.size (fun j _ h4 => b2.block j h4)
  exact ⟨⟨_, hbl, by simp, zeroBlk g c s⟩, fun i _ => Or.inl ⟨rfl, rfl⟩, k1, k2, b2.size, HND.out.2.2, fun hz => by have h7 := HW1.out.zlt hz; rw [HND.out.2.1] at h7; omega, by rw [← hcb]; exact Nat.le_trans HW.out.blw.size HB1.out.size⟩)
 have HB2 := Lib.hid (HB1.out.trans (b2.mono HB1.out.size))
 have HVC : Hid (v.heap.size ≤ cb ∧ w1.heap.size ≤ w2.heap.size) := Lib.hid ⟨by rw [← hcb]; exact HB1.out.size, b2.size⟩
 have HV2 := Lib.hid hw2
 clear hcb hw2 b2 hbl hnd1
 go_upto_region 2 with fail
 rw [HV2.out, HCB.out]
 go_wp2_with fail
 go_loopg [4, 9] 40 (fun kk s4 s9 wr => ∃ i : Nat, s9 = .int .i64 (i : Int) ∧ i ≤ 40 ∧ kk = 40 - i ∧ Hid (WL w0 wr g nd1 s ∧ CM w0 wr g cb nd1 (e0 s i) v.heap.size w1.heap.size c f o cap (fun _ => .slice none 0 0) ∧ Below v.heap.size v wr ∧ w1.heap.size ≤ wr.heap.size))
 case atStart => exact ⟨0, rfl, by omega, rfl, Lib.hid ⟨HW2.out, HM2.out, HB2.out, HVC.out.2⟩⟩
 case round =>
  obtain ⟨i, rfl, hi, rfl, HS⟩ := hrel
  obtain ⟨wo, rfl⟩ : ∃ wo : World, wo = wr := ⟨wr, rfl⟩
  by_cases hlt : i < 40
  ·have hlt' : (i : Int) < 40 := by omega
   obtain ⟨_, k2, _, _⟩ := HS.out.2.1.known hlt
   have kf : ∀ j, wo.frozen? ⟨cb, j, none⟩ = false := HS.out.2.1.fr
   have HX : Hid (WL w0 (wo.setCell ⟨cb, 1 + i * 4 + 1, none⟩ (.int .i64 1)) g nd1 s ∧ CM w0 (wo.setCell ⟨cb, 1 + i * 4 + 1, none⟩ (.int .i64 1)) g cb nd1 (e0 s (i + 1)) v.heap.size w1.heap.size c f o cap (fun _ => .slice none 0 0) ∧ Below v.heap.size v (wo.setCell ⟨cb, 1 + i * 4 + 1, none⟩ (.int .i64 1)) ∧ w1.heap.size ≤ (wo.setCell ⟨cb, 1 + i * 4 + 1, none⟩ (.int .i64 1)).heap.size) := Lib.hid (by
    refine ⟨HS.out.1.cput HS.out.2.1 _ _, HS.out.2.1.put (by omega) (carF_ext ?_ ?_ (fun j hj => ?_) (fun j hj => ?_) (fun j hj => ?_) (fun j hj => ?_)) (fun j hj => Or.inl ⟨rfl, rfl⟩), HS.out.2.2.1.setCell (p := ⟨cb, 1 + i * 4 + 1, none⟩) HVC.out.1 _, by have := HS.out.2.2.2; simpa [World.setCell] using this⟩
    ·rw [if_neg (by omega)]; rfl
    ·rw [if_neg (by omega)]; rfl
    ·rw [if_neg (by omega), carF_g _ _ _ _ hj]; rfl
    ·by_cases e2 : j = i
     ·subst e2
      rw [if_pos (by omega)]
      unfold e0
      dsimp only
      rw [if_pos (by omega)]
      rfl
     ·rw [if_neg (by omega), carF_n _ _ _ _ hj]
      unfold e0
      dsimp only
      congr 2
      by_cases h7 : j < i
      ·rw [if_pos h7, if_pos (by omega)]
      ·rw [if_neg h7, if_neg (by omega)]
    ·rw [if_neg (by omega), carF_d _ _ _ _ hj]; rfl
    ·rw [if_neg (by omega), carF_b _ _ _ _ hj])
   go_wp2_with fail
   go_roundg (40 - (i + 1))
   case measure => omega
   case rel => exact ⟨i + 1, by go_num, by omega, rfl, HX⟩
  ·obtain rfl : i = 40 := by omega
   go_wp2_with fail
   go_ret
   exact ⟨cb, nd1, _, _, c, f, o, cap, _, rfl, HS.out.1, HS.out.2.1.same (fun _ _ => rfl) (fun i hi => by unfold e0 Ep.new; dsimp only; rw [if_pos hi]) (fun _ _ => rfl) (fun _ _ => rfl), HS.out.2.2.1, by rw [HND.out.2.1]; exact HS.out.2.2.2, HND.out.1, HLE.out, HVC.out.1⟩
end Go.Proofs.YtobkmohoepgfmaaGreatDoor
namespace Go.Proofs.YtobkmohoepgfmaaGreatDoor
open Go.RowKit Go.Sort
set_option maxRecDepth 100000
set_option maxHeartbeats 4000000

theorem fin_other (e : Ep) (st : Nat) (C : Nat → Nat → Nat) (i : Nat) (h : i ≠ st) : (e.fin st C).gen i = e.gen i ∧ (e.fin st C).pend i = e.pend i := by
 unfold Ep.fin
 dsimp only
 split
 ·exact ⟨rfl, if_neg h⟩
 ·exact ⟨rfl, rfl⟩
theorem carry_other (E : (Nat → Nat) → Nat → Nat → Nat) (e : Ep) (st gn : Nat) (D : Nat → Nat) (i : Nat) (h : i ≠ st) : (e.carry E st gn D).1.gen i = e.gen i ∧ (e.carry E st gn D).1.pend i = e.pend i := by
 unfold Ep.carry
 dsimp only
 split
 ·exact ⟨rfl, rfl⟩
 ·obtain ⟨h1, h2⟩ := fin_other (e.held (e.askN (qLg st gn D) st 8).1 st gn D) st (E D) i h
  refine ⟨h1.trans ?_, h2.trans ?_⟩
  ·show (if i = st then gn else e.gen i) = e.gen i
   rw [if_neg h]
  ·show (if i = st then some D else e.pend i) = e.pend i
   rw [if_neg h]
theorem mend_other (E : (Nat → Nat) → Nat → Nat → Nat) (dec : List (Nat × (Nat → Nat)) → Nat → Nat) (e : Ep) (st : Nat) (is : List (Nat × It)) (ps : List Pc) (i : Nat) (h : i ≠ st) : (mendF E dec e st is ps).1.gen i = e.gen i ∧ (mendF E dec e st is ps).1.pend i = e.pend i := by
 have key : ∀ Dq : Nat → Nat, (match e.carry E st (e.gen st) Dq with
   | (e1, some l) => (e1, some (OErr.car st l))
   | (e1, none) => if (e1.pend st).isSome = true then (e1, some (OErr.io st)) else ({ e1 with w := relsI e1.w st is }, none)).1.gen i = e.gen i ∧ (match e.carry E st (e.gen st) Dq with
   | (e1, some l) => (e1, some (OErr.car st l))
   | (e1, none) => if (e1.pend st).isSome = true then (e1, some (OErr.io st)) else ({ e1 with w := relsI e1.w st is }, none)).1.pend i = e.pend i := by
  intro Dq
  have hc := carry_other E e st (e.gen st) Dq i h
  split
  ·next e1 l hx => rw [hx] at hc; exact hc
  ·next e1 hx =>
   rw [hx] at hc
   split
   ·exact hc
   ·exact hc
 unfold mendF
 split
 ·exact ⟨rfl, rfl⟩
 ·exact key _
theorem mendN_stay {E : (Nat → Nat) → Nat → Nat → Nat} {dec : List (Nat × (Nat → Nat)) → Nat → Nat} {L : List (Nat × It)} {F : Nat → List Pc} {e e1 : Ep} {k : Nat} {x : OErr} (h : mendN E dec L F e k = (e1, some x)) : ∀ j, mendN E dec L F e (k + j) = (e1, some x)
 | 0 => h
 | j + 1 => by
  have ih := mendN_stay h j
  show mendN E dec L F e ((k + j) + 1) = _
  unfold mendN
  rw [ih]
theorem mendN_next {E : (Nat → Nat) → Nat → Nat → Nat} {dec : List (Nat × (Nat → Nat)) → Nat → Nat} {L : List (Nat × It)} {F : Nat → List Pc} {e e1 : Ep} {k : Nat} (h : mendN E dec L F e k = (e1, none)) : mendN E dec L F e (k + 1) = mendF E dec e1 k (intsF L k) (F k) := by
 show (match mendN E dec L F e k with | (e1, some x) => (e1, some x) | (e1, none) => mendF E dec e1 k (intsF L k) (F k)) = _
 rw [h]
theorem mendN_ahead (E : (Nat → Nat) → Nat → Nat → Nat) (dec : List (Nat × (Nat → Nat)) → Nat → Nat) (L : List (Nat × It)) (F : Nat → List Pc) (e : Ep) : ∀ k i, k ≤ i → (mendN E dec L F e k).1.gen i = e.gen i ∧ (mendN E dec L F e k).1.pend i = e.pend i
 | 0, _, _ => ⟨rfl, rfl⟩
 | k + 1, i, h => by
  have ih := mendN_ahead E dec L F e k i (by omega)
  obtain ⟨e1, x, hx⟩ : ∃ e1 x, mendN E dec L F e k = (e1, x) := ⟨_, _, rfl⟩
  rw [hx] at ih
  cases x with
  | some x => rw [show mendN E dec L F e (k + 1) = (e1, some x) from mendN_stay hx 1]; exact ih
  | none =>
   rw [mendN_next hx]
   obtain ⟨h1, h2⟩ := mend_other E dec e1 k (intsF L k) (F k) i (by omega)
   exact ⟨h1.trans ih.1, h2.trans ih.2⟩
theorem intsF_len (L : List (Nat × It)) (st : Nat) : (intsF L st).length ≤ L.length := List.length_filter_le _ _
theorem bytF_ok {is : List (Nat × It)} (h : ∀ x ∈ is, x.2.Ok) {g : Nat} {D : Nat → Nat} (hb : bytF is g = some D) : ∀ j, j < 128 → D j < 256 := by
 unfold bytF at hb
 obtain ⟨x, hx, rfl⟩ := Option.map_eq_some_iff.1 hb
 exact (h x (List.mem_of_find?_eq_some hx)).2.2.2
theorem mendN_fit {dec : List (Nat × (Nat → Nat)) → Nat → Nat} {E : (Nat → Nat) → Nat → Nat → Nat} {L : List (Nat × It)} {F : Nat → List Pc} {w : Wp} {m : Nat} (h : w.Fit m) (hL : ∀ x ∈ L, x.1 < 8 ∧ x.2.Ok) (hl : L.length ≤ 128) (hd : ∀ l j, j < 128 → dec l j < 256) (hE : ∀ D i j, j < 32 → E D i j < 256) :
  ∀ k, (mendN E dec L F (knownE w L F) k).1.w.Fit (m + 948 * k)
 | 0 => h
 | k + 1 => by
  have ih := mendN_fit (dec := dec) (E := E) (F := F) h hL hl hd hE k
  have ha := mendN_ahead E dec L F (knownE w L F) k k (Nat.le_refl k)
  obtain ⟨e1, x, hx⟩ : ∃ e1 x, mendN E dec L F (knownE w L F) k = (e1, x) := ⟨_, _, rfl⟩
  rw [hx] at ih ha
  dsimp only at ih ha
  cases x with
  | some x => rw [show mendN E dec L F (knownE w L F) (k + 1) = (e1, some x) from mendN_stay hx 1]; exact ih.mono (by omega)
  | none =>
   rw [mendN_next hx]
   have hi := intsF_mem (st := k) hL
   have h2 := mend_fit (st := k) (dec := dec) (E := E) (is := intsF L k) (ps := F k) ih (fun D hD => by
    rw [ha.2] at hD
    exact bytF_ok (fun x hx => (hi x hx).2.1) hD) hd hE (fun x hx => (hi x hx).1)
   have h3 := intsF_len L k
   exact h2.mono (by omega)
end Go.Proofs.YtobkmohoepgfmaaGreatDoor
namespace Go.Proofs.YtobkmohoepgfmaaGreatDoor
open Go.RowKit Go.Sort
set_option maxRecDepth 100000
set_option maxHeartbeats 8000000

theorem LT.keepE {w w' : World} {B : Nat} {v : Value} {l : List (Nat × It)} (h : LT w B v l) (k : KeepE 0 w w') : LT w' B v l :=
 h.keep (fun q hq => by obtain ⟨_, cs, hc⟩ := h.blk hq; exact k.cells hc told_notW (by decide)) (fun g _ hg => k.cells hg u8_notW (by decide))
theorem AS.keepE {base sb : Nat} {w w' : World} {V U : Nat → Value} {F : Nat → List (Nat × It)} (h : AS base w sb V U F) (k : KeepE 0 w w') : AS base w' sb V U F :=
 ⟨h.blk.keep (by obtain ⟨cs, hb, _⟩ := h.blk; exact k.cells hb found_notW (by decide)), fun i hi => (h.row i hi).keepE k, h.dis⟩
theorem PL.keepE {w w' : World} {B : Nat} {v : Value} {l : List Pc} (h : PL w B v l) (k : KeepE 0 w w') : PL w' B v l :=
 h.keep (fun g cs t hg ht => k.cells hg (by rcases ht with rfl | rfl <;> exact notWi (by decide) (by decide) (by decide) (by decide) (by decide) (by decide) (by decide)) (by rcases ht with rfl | rfl <;> decide))
theorem LT.none_ {w : World} {B : Nat} {v : Value} (h : LT w B v []) : ∃ A c, v = .slice A 0 c ∧ ∀ W, TLr W (.slice A 0 c) [] := by
 obtain ⟨xs, h1, _⟩ := h
 obtain ⟨A, c, rfl, _⟩ := own_form h1
 exact ⟨A, c, rfl, fun W => Or.inl ⟨rfl, A, c, rfl⟩⟩
def knT (w : Wp) (F : Nat → List Pc) (k : Nat) : Ep :=
 ⟨w, fun st => if st < k then genF [] (F st) else 0, fun st => if st < k then topF [] (F st) + 1 else 1, fun _ => false, fun _ => none⟩
def OpnRet (w0 v : World) (g : Nat) (nd : ND) (x : Wp × (Ep ⊕ OErr)) (en : Ending) (w' : World) : Prop :=
 ∃ r u nd', en = .returned (.tuple #[r, u]) ∧ KeepE 0 v w' ∧ nd.Le nd' ∧ nd'.f = nd.f ∧ WL w0 w' g nd' x.1 ∧
  ((∃ z, x.2 = .inr z ∧ r = .pointer none ∧ OErrOf w' u z) ∨ ∃ e p, x.2 = .inl e ∧ u = .nilIface ∧ r = .pointer (some ⟨p, 0, none⟩) ∧ v.heap.size ≤ p ∧ LE w0 w' g nd' p w'.heap.size e)
theorem ND.Le.refl (nd : ND) : nd.Le nd := fun _ h => ⟨h, rfl⟩
section
variable {w0 v : World} {g cb : Nat} {nd : ND} {e : Ep} {A C c f o cap : Nat} {B : Nat → Value} {s : Wp}
abbrev stK (v : World) (cb st : Nat) (gn nx : Nat) : World := (((v.setCell ⟨cb, 1 + st * 4, none⟩ (.int .i64 (gn : Int))).setCell ⟨cb, 1 + st * 4 + 1, none⟩ (.int .i64 (nx : Int))).setCell ⟨cb, 1 + st * 4 + 2, none⟩ (.bool false)).setCell ⟨cb, 1 + st * 4 + 3, none⟩ (.slice none 0 0)
theorem CM.store4 (h : CM w0 v g cb nd e A C c f o cap B) (h1 : WL w0 v g nd s) {st gn nx : Nat} (hst : st < 40) :
  (∃ B', CM w0 (stK v cb st gn nx) g cb nd ⟨e.w, fun i => if i = st then gn else e.gen i, fun i => if i = st then nx else e.next i, fun i => if i = st then false else e.doubt i, fun i => if i = st then none else e.pend i⟩ A C c f o cap B') ∧
   WL w0 (stK v cb st gn nx) g nd s ∧ KeepE 0 v (stK v cb st gn nx) := by
 have k1 : CM w0 (v.setCell ⟨cb, 1 + st * 4, none⟩ (.int .i64 (gn : Int))) g cb nd { e with gen := fun i => if i = st then gn else e.gen i } A C c f o cap B := by
  refine h.put (by omega) (carF_ext ?_ ?_ (fun i hi => ?_) (fun i hi => ?_) (fun i hi => ?_) (fun i hi => ?_)) h.pb
  ·rw [if_neg (by omega)]; rfl
  ·rw [if_neg (by omega)]; rfl
  ·by_cases e2 : i = st
   ·rw [if_pos (by omega)]; dsimp only; rw [if_pos e2]
   ·rw [if_neg (by omega), carF_g _ _ _ _ hi]; dsimp only; rw [if_neg e2]
  ·rw [if_neg (by omega), carF_n _ _ _ _ hi]
  ·rw [if_neg (by omega), carF_d _ _ _ _ hi]
  ·rw [if_neg (by omega), carF_b _ _ _ _ hi]
 have k2 : CM w0 ((v.setCell ⟨cb, 1 + st * 4, none⟩ (.int .i64 (gn : Int))).setCell ⟨cb, 1 + st * 4 + 1, none⟩ (.int .i64 (nx : Int))) g cb nd { e with gen := (fun i => if i = st then gn else e.gen i), next := (fun i => if i = st then nx else e.next i) } A C c f o cap B := by
  refine k1.put (by omega) (carF_ext ?_ ?_ (fun i hi => ?_) (fun i hi => ?_) (fun i hi => ?_) (fun i hi => ?_)) k1.pb
  ·rw [if_neg (by omega)]; rfl
  ·rw [if_neg (by omega)]; rfl
  ·rw [if_neg (by omega), carF_g _ _ _ _ hi]
  ·by_cases e2 : i = st
   ·rw [if_pos (by omega)]; dsimp only; rw [if_pos e2]
   ·rw [if_neg (by omega), carF_n _ _ _ _ hi]; dsimp only; rw [if_neg e2]
  ·rw [if_neg (by omega), carF_d _ _ _ _ hi]
  ·rw [if_neg (by omega), carF_b _ _ _ _ hi]
 have k3 : CM w0 (((v.setCell ⟨cb, 1 + st * 4, none⟩ (.int .i64 (gn : Int))).setCell ⟨cb, 1 + st * 4 + 1, none⟩ (.int .i64 (nx : Int))).setCell ⟨cb, 1 + st * 4 + 2, none⟩ (.bool false)) g cb nd { e with gen := (fun i => if i = st then gn else e.gen i), next := (fun i => if i = st then nx else e.next i), doubt := (fun i => if i = st then false else e.doubt i) } A C c f o cap B := by
  refine k2.put (by omega) (carF_ext ?_ ?_ (fun i hi => ?_) (fun i hi => ?_) (fun i hi => ?_) (fun i hi => ?_)) k2.pb
  ·rw [if_neg (by omega)]; rfl
  ·rw [if_neg (by omega)]; rfl
  ·rw [if_neg (by omega), carF_g _ _ _ _ hi]
  ·rw [if_neg (by omega), carF_n _ _ _ _ hi]
  ·by_cases e2 : i = st
   ·rw [if_pos (by omega)]; dsimp only; rw [if_pos e2]
   ·rw [if_neg (by omega), carF_d _ _ _ _ hi]; dsimp only; rw [if_neg e2]
  ·rw [if_neg (by omega), carF_b _ _ _ _ hi]
 refine ⟨⟨fun i => if i = st then .slice none 0 0 else B i, k3.put (by omega) (carF_ext ?_ ?_ (fun i hi => ?_) (fun i hi => ?_) (fun i hi => ?_) (fun i hi => ?_)) (fun i hi => ?_)⟩, ?_, ?_⟩
 ·rw [if_neg (by omega)]; rfl
 ·rw [if_neg (by omega)]; rfl
 ·rw [if_neg (by omega), carF_g _ _ _ _ hi]
 ·rw [if_neg (by omega), carF_n _ _ _ _ hi]
 ·rw [if_neg (by omega), carF_d _ _ _ _ hi]
 ·by_cases e2 : i = st
  ·rw [if_pos (by omega)]; exact (if_pos e2).symm
  ·rw [if_neg (by omega), carF_b _ _ _ _ hi]; exact (if_neg e2).symm
 ·by_cases e2 : i = st
  ·exact Or.inl ⟨if_pos e2, if_pos e2⟩
  ·rcases k3.pb i hi with ⟨a1, a2⟩ | ⟨D2, b2, kk, a1, a2, a3⟩
   ·exact Or.inl ⟨(if_neg e2).trans a1, (if_neg e2).trans a2⟩
   ·exact Or.inr ⟨D2, b2, kk, (if_neg e2).trans a1, (if_neg e2).trans a2, a3⟩
 ·exact (((h1.cput h _ _).cput k1 _ _).cput k2 _ _).cput k3 _ _
 ·obtain ⟨cs, hb, _⟩ := h.blk
  have t1 := set_block hb (1 + st * 4) (.int .i64 (gn : Int))
  have t2 := set_block t1 (1 + st * 4 + 1) (.int .i64 (nx : Int))
  have t3 := set_block t2 (1 + st * 4 + 2) (.bool false)
  exact (((KeepE.set hb _ _).trans (KeepE.set t1 _ _)).trans (KeepE.set t2 _ _)).trans (KeepE.set t3 _ _)
end
end Go.Proofs.YtobkmohoepgfmaaGreatDoor
