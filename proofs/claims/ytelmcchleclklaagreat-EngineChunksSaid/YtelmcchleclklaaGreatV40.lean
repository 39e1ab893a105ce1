import Derived.Test.YtelmcchleclklaaGreatV28
import Derived.Test.YtelmcchleclklaaGreatV39
namespace Go.Proofs.YtelmcchleclklaaGreat.Tr
open Go.RowKit Go.Extern.Stop Go.Stop Go.Extern Go.Extern.Rtype
set_option maxRecDepth 100000
set_option maxHeartbeats 1000000

end Go.Proofs.YtelmcchleclklaaGreat.Tr
namespace Go.Proofs.YtelmcchleclklaaGreat.Tr
open Go.RowKit Go.Extern.Stop Go.Stop Go.Extern Go.Extern.Rtype
set_option maxRecDepth 100000
set_option maxHeartbeats 1000000

theorem holds_nil (w : World) (m : Int) : Calls Tryz.prog 180 #[.nilIface, .int .i64 m] w fun e w' => e = .returned (.bool false) ∧ Below w.heap.size w w' := by
 have hmf : ∀ (fn : Fn) (first cap : Array Value) (w : World), (Instr.makeFunc fn first cap).run Tryz.prog w = .ok (.func fn first cap) w := fun _ _ _ _ => rfl
 go_enter_defers Tryz.func180, Tryz.ntmps180
 go_wp2_with fail
 refine (is22_nil 43 _ _).mono ?_
 rintro e w' ⟨rfl, hw⟩
 obtain rfl := hw
 have hcell : (w.alloc (.cells #[.bool false] 4)).cell? ⟨w.heap.size, 0, none⟩ = some (.bool false) := by simp [go_sem]
 have hfr : (w.alloc (.cells #[.bool false] 4)).frozen? ⟨w.heap.size, 0, none⟩ = false := by simp [go_sem]
 go_wp2_with fail
 refine leaves_cons (f := 205) (args := #[.pointer (some ⟨w.heap.size, 0, none⟩)]) (by simp) (by simp [go_sem]) ?_
 refine (holdsIdle ⟨w.heap.size, 0, none⟩ _).mono ?_
 rintro e u' w'' ⟨rfl, rfl, rfl⟩
 simp [Leaves, settle, results, go_sem]
 exact (Below.refl _ w).alloc (Nat.le_refl _) _
theorem cis_nil (w : World) (m : Int) : Calls Tryz.prog 146 #[.nilIface, .int .i64 m] w fun e w' => e = .returned (.bool false) ∧ Below w.heap.size w w' := by
 go_enter Tryz.func146, Tryz.ntmps146
 go_wp2_with fail
 refine (holds_nil _ m).mono ?_
 rintro e w' ⟨rfl, hb⟩
 have HB := Lib.hid hb
 clear hb
 go_wp2_with fail
 go_ret
 exact ⟨rfl, HB.out⟩
end Go.Proofs.YtelmcchleclklaaGreat.Tr
namespace Go.Proofs.YtelmcchleclklaaGreat
open Go.RowKit Go.Sort
set_option maxRecDepth 100000
set_option maxHeartbeats 4000000

section
variable {w0 v : World} {g cb : Nat} {nd : ND} {e : Ep} {A C c f o cap : Nat} {B : Nat → Value} {s : Wp}
theorem cy_log (h1 : WL w0 v g nd s) (h2 : CM w0 v g cb nd e A C c f o cap B) {m : Nat} (hf : s.Fit m) (hm : m ≤ 999999700) {n : Nat} (hn : n < 8) (q : Rq) (P : Option Addr) (k : Nat) (hd : DatN v P q.n q.D) (hD : ∀ j, j < q.n → q.D j < 256) (hq : OkQ q.k q.s q.g q.i q.n) :
  Calls Tryz.prog 106 #[.pointer (some ⟨cb, 0, none⟩), .int .i64 (n : Int), rqv q.k q.s q.g q.i P q.n k] v (HaveRet w0 v g nd n (e.logs s n q)) := by
 obtain ⟨H, hH⟩ : ∃ H, v.heap.size = H := ⟨_, rfl⟩
 have HHH := Lib.hid hH
 obtain ⟨v1, hv1⟩ : ∃ v1, v.alloc (.cells #[.int .i64 q.k, .int .i64 q.s, .int .i64 q.g, .int .i64 q.i, .slice P q.n k] 50) = v1 := ⟨_, rfl⟩
 have B0 : Below v.heap.size v v1 := by rw [← hv1]; exact (Below.refl _ _).alloc (Nat.le_refl _) _
 have p1 : QV v1 H q.k q.s q.g q.i P q.n k := by rw [← hv1]; exact QV.of_new hH
 have y0 := p1.c0
 have y1 := p1.c1
 have y2 := p1.c2
 have y3 := p1.c3
 have y4 := p1.c4
 have HP1 := Lib.hid p1
 have HV1 := Lib.hid hv1
 have HK0 := Lib.hid (KeepW.of B0)
 have HW := Lib.hid (h1.below B0)
 have HM := Lib.hid (h2.below B0)
 have HD := Lib.hid (hd.below B0)
 have HDB := Lib.hid (And.intro hD hq)
 have HH := Lib.hid (cy_have HW.out HM.out.cbp hf (by omega) hn q P k HD.out hD hq)
 have HF1 := Lib.hid (hf.done (q := q) hn hD)
 obtain ⟨s1, d, hc⟩ : ∃ s1 d, s.done n q = (s1, d) := ⟨_, _, rfl⟩
 obtain ⟨X, hX⟩ : ∃ X, e.logs s n q = X := ⟨_, rfl⟩
 have HY : Hid (X = if d = 6 then (e.sweep s1 n).done n q else (s1, d)) := Lib.hid (by rw [← hX]; unfold Ep.logs; rw [hc])
 rw [hX]
 clear hX
 rw [hc] at HH HF1
 clear h1 h2 hf hc hd hD hq p1 B0 hv1 hH
 go_enter Tryz.func106, Tryz.ntmps106
 go_upto_region 1 with fail
 rw [HV1.out, HHH.out]
 go_wp2_with fail
 refine HH.out.mono ?_
 rintro en w1 ⟨u, rfl, W1, K1, hu⟩
 try dsimp only
 try dsimp only at hu
 have HZ := Lib.hid (And.intro W1 K1)
 have HU := Lib.hid hu
 clear W1 K1
 by_cases h6 : d = 6
 ·subst h6
  have HX : Hid (X = (e.sweep s1 n).done n q) := Lib.hid (HY.out.trans (if_pos rfl))
  rcases hu with ⟨h0, _⟩ | ⟨_, b, rfl, ho⟩
  ·exact absurd h0 (by decide)
  ·have HIS := Lib.hid (en_is 6 ho.ev)
   rw [show Tr.hasCode 6 [((6 : Nat) : Int)] = true from rfl] at HIS
   clear ho HU
   go_wp2_with fail
   refine HIS.out.mono ?_
   rintro en w2 ⟨rfl, b2⟩
   try dsimp only
   have HW2 := Lib.hid (HZ.out.1.below b2)
   have HK2 := Lib.hid (HZ.out.2.trans (KeepW.of b2))
   have HM2 := Lib.hid (HM.out.keep HW.out HW2.out (KeepF.of HK2.out) rfl rfl rfl rfl)
   have HS := Lib.hid (cy_sweep HW2.out HM2.out HF1.out (by omega) hn)
   have HF2 := Lib.hid (e.fit_sweep HF1.out hn)
   clear b2
   go_wp2_with fail
   refine HS.out.mono ?_
   rintro en w3 ⟨rfl, W3, K3⟩
   try dsimp only
   have HK3 := Lib.hid (HK2.out.trans K3)
   have p3 := HK3.out.qv HP1.out
   have z0 := p3.c0
   have z1 := p3.c1
   have z2 := p3.c2
   have z3 := p3.c3
   have z4 := p3.c4
   have HH3 := Lib.hid (cy_have W3 (HM2.out.cbp.keep K3) HF2.out (by omega) hn q P k (HK3.out.b.datN HD.out) HDB.out.1 HDB.out.2)
   clear W3 K3 p3 y0 y1 y2 y3 y4
   go_wp2_with fail
   refine HH3.out.mono ?_
   rintro en w4 ⟨u, rfl, W4, K4, hu⟩
   try dsimp only
   have HZ4 := Lib.hid (And.intro W4 (And.intro (HK3.out.trans K4) hu))
   clear W4 K4 hu
   go_wp2_with fail
   go_ret
   rw [HX.out]
   exact ⟨u, rfl, HZ4.out.1, HK0.out.trans HZ4.out.2.1, HZ4.out.2.2⟩
 ·have HX : Hid (X = (s1, d)) := Lib.hid (HY.out.trans (if_neg h6))
  have HI : Hid (Calls Tryz.prog 146 #[u, .int .i64 6] w1 fun e w' => e = .returned (.bool false) ∧ Below w1.heap.size w1 w') := Lib.hid (by
   rcases hu with ⟨_, rfl⟩ | ⟨_, b, rfl, ho⟩
   ·exact Tr.cis_nil w1 6
   ·have := en_is 6 ho.ev
    rw [show Tr.hasCode 6 [((d : Nat) : Int)] = false from by
     unfold Tr.hasCode
     simp
     omega] at this
    exact this)
  clear hu
  go_wp2_with fail
  refine HI.out.mono ?_
  rintro en w2 ⟨rfl, b2⟩
  try dsimp only
  have HB2 := Lib.hid b2
  clear b2
  go_wp2_with fail
  go_ret
  rw [HX.out]
  refine ⟨u, rfl, HZ.out.1.below HB2.out, HK0.out.trans (HZ.out.2.trans (KeepW.of HB2.out)), ?_⟩
  rcases HU.out with h | ⟨h, b, hb, ho⟩
  ·exact Or.inl h
  ·exact Or.inr ⟨h, b, hb, (KeepW.of HB2.out).on ho⟩
end
end Go.Proofs.YtelmcchleclklaaGreat
namespace Go.Proofs.YtelmcchleclklaaGreat
open Go.RowKit Go.Sort
set_option maxRecDepth 100000
set_option maxHeartbeats 4000000

theorem infoErr : (Tryz.prog.info? 36).map (fun i => (i.zero, i.size, i.bytes)) = some (some .nilIface, 1, 16) := by kernel_rfl
def eOf (z : Nat × Nat) : List Int × List Int × List Int := ([(z.2 : Int)], [(z.1 : Int)], [])
def ErL (w : World) (base : Nat) (u : Value) (l : List (Nat × Nat)) : Prop := ∃ bs : List Nat, w.ownsRow base 36 1 u l.length (bs.map onv) ∧ bs.length = l.length ∧ ∀ (i b : Nat) (z : Nat × Nat), bs[i]? = some b → l[i]? = some z → OnE w b (z.1 : Int) (z.2 : Int)
theorem ErL.nil {w : World} {base : Nat} : ErL w base (.slice none 0 0) [] := ⟨[], ⟨rfl, Or.inl ⟨rfl, rfl⟩⟩, rfl, fun i b z h => by simp at h⟩
theorem err_notW : ¬ WiT 36 := notWi (by decide) (by decide) (by decide) (by decide) (by decide) (by decide) (by decide)
theorem ErL.keep {w w' : World} {base : Nat} {u : Value} {l : List (Nat × Nat)} (h : ErL w base u l) (k : KeepW w w') : ErL w' base u l := by
 obtain ⟨bs, ⟨h1, h2⟩, h3, h4⟩ := h
 refine ⟨bs, ⟨h1, ?_⟩, h3, fun i b z hb hz => k.on (h4 i b z hb hz)⟩
 rcases h2 with h2 | ⟨g, cap, cur, hv, hg, hh, r⟩
 ·exact Or.inl h2
 ·exact Or.inr ⟨g, cap, cur, hv, hg, (k.cells hh err_notW).trans hh, r⟩
theorem ErL.form {w : World} {base : Nat} {u : Value} {l : List (Nat × Nat)} (h : ErL w base u l) : ∃ A c, u = .slice A l.length c := by
 obtain ⟨bs, h1, _⟩ := h
 obtain ⟨A, c, rfl, _⟩ := own_form h1
 exact ⟨A, c, rfl⟩
theorem ErL.el {w : World} {base : Nat} {A : Option Addr} {n c : Nat} {l : List (Nat × Nat)} (h : ErL w base (.slice A n c) l) : ∃ vs, vs.length = l.length ∧ EL w vs (l.map eOf) ∧ Tr.Holds w A vs := by
 obtain ⟨bs, h1, h2, h3⟩ := h
 refine ⟨bs.map onv, by simp [h2], ⟨by simp [h2], fun i v e hv he => ?_⟩, fun i x hx => ?_⟩
 ·rw [List.getElem?_map] at hv he
  obtain ⟨b, hb, rfl⟩ := Option.map_eq_some_iff.1 hv
  obtain ⟨z, hz, rfl⟩ := Option.map_eq_some_iff.1 he
  exact (h3 i b z hb hz).ev
 ·rcases h1.2 with ⟨h0, h4⟩ | ⟨g, cap, cur, e, hg, hh, _⟩
  ·have hi := (List.getElem?_eq_some_iff.1 hx).1
   rw [List.length_map, h2] at hi
   omega
  ·cases e
   have := h1.cells (g := g) rfl i x hx
   rw [addr_add] at this
   exact ⟨g, 0, rfl, heap_lt hh, this⟩
theorem KeepW.grown {w1 w w' : World} {r : Option Nat} (k : KeepW w1 w) (gr : w.grownBy w' r) (hr : ∀ j, r = some j → w1.heap.size ≤ j) : KeepW w1 w' :=
 ⟨Nat.le_trans k.1 gr.size, fun j o hj ho => (gr.block j (Nat.lt_of_lt_of_le (heap_lt hj) k.1) (fun e => by have := hr j e.symm; have := heap_lt hj; omega)).trans (k.2 j o hj ho)⟩
theorem WL.grown {w0 v v' : World} {g : Nat} {nd : ND} {s : Wp} {r : Option Nat} (h : WL w0 v g nd s) (gr : v.grownBy v' r) (hr : ∀ j, r = some j → w0.heap.size ≤ j ∧ ¬ nd.Z j ∧ ∃ cs t, v.heap[j]? = some (.cells cs t (0, 0)) ∧ ¬ WiT t ∧ t ≠ 5 ∧ t ≠ 3) : WL w0 v' g nd s := by
 obtain ⟨T, fv, h1, h2, h3, h4, h5, h6⟩ := h
 have hne : ∀ (j : Nat) (cs' : Array Value) (t' : TypeId) (fr' : Nat × Nat), v.heap[j]? = some (.cells cs' t' fr') → WiT t' ∨ t' = 5 ∨ t' = 3 → v'.heap[j]? = v.heap[j]? := by
  intro j cs' t' fr' hj hw
  refine gr.block j (heap_lt hj) (fun e => ?_)
  obtain ⟨_, _, cs, t, hb, a1, a2, a3⟩ := hr j e.symm
  rw [hb] at hj
  cases hj
  rcases hw with hw | hw | hw
  ·exact a1 hw
  ·exact a2 hw
  ·exact a3 hw
 refine ⟨T, fv, h1.same (fun j hj => ?_) (fun i hi j hj => ?_) (fun j cs' hj => hne _ _ _ _ hj (Or.inr (Or.inl rfl))), h2.grown gr h2.size (fun j hj => (hr j hj).1), h3, h4, h5, h6.keep gr.size (fun k hk => gr.block k (Nat.lt_of_lt_of_le (h6.2 k hk).1 h6.1) (fun e => (hr k e.symm).2.1 hk))⟩
 ·rw [List.mem_cons] at hj
  rcases hj with rfl | hj
  ·exact hne _ _ _ _ h1.hd (Or.inl (Or.inr rfl))
  ·obtain ⟨row, hr'⟩ := h1.fat.type j hj
   exact hne _ _ _ _ hr' (Or.inr (Or.inr rfl))
 ·obtain ⟨r, p, sb, S, q1, q2, q3⟩ := h1.node i hi
  have hj' : j ∈ nd i :: r :: sb :: S := by
   rw [q3] at hj
   simp only [List.mem_cons] at hj ⊢
   rcases hj with rfl | rfl | rfl | rfl | hj
   ·simp
   ·simp
   ·obtain ⟨db, nb, pv, _, _, hS⟩ := q1.plt
    rw [hS]
    simp
   ·simp
   ·simp [hj]
  obtain ⟨cs', t', hc, hT⟩ := q1.type j hj'
  exact hne _ _ _ _ hc (Or.inl (Or.inl hT))
theorem append_err (w : World) {ops : Array Oper} {rest : List Oper} {o : Oper} {a : Act} {Q : Exit → Act → World → Prop} (hgd : o.guard = none) (s x : Operand)
  (ho : o.op = .call { callee := .builtin .append, args := #[s, x], argTypes := #[128, 128] })
  (base : Nat) (v : Value) (l : List (Nat × Nat)) (hs : a.eval s = v) (hl : ErL w base v l) (g b : Nat) (z : Nat × Nat) (hx : a.eval x = .slice (some ⟨g, 0, none⟩) 1 1)
  (hc : w.cell? ⟨g, 0, none⟩ = some (onv b)) (hu : OnE w b (z.1 : Int) (z.2 : Int)) (hn : l.length ≤ 1000) (hbase : base ≤ w.heap.size)
  (h : ∀ v' w' r, ErL w' base v' (l ++ [z]) → w.grownBy w' r → (∀ j, r = some j → base ≤ j ∧ ∃ cs, w.heap[j]? = some (.cells cs 36 (0, 0))) → wpList Tryz.prog ops Q rest (a.put o.dst v') w') : wpList Tryz.prog ops Q (o :: rest) a w := by
 obtain ⟨i0, hi0, hz0, hz1, hz2⟩ := info_parts infoErr
 obtain ⟨bs, hown, hbl, hel⟩ := hl
 refine wpList_append_lies w hgd s x 128 ho base 36 i0 .nilIface 1 16 Tryz.underlying128 hi0 hz0 hz1 hz2 rfl (by decide) v l.length (bs.map onv) hs hown ⟨g, 0, none⟩ 1 1 [onv b] hx rfl (fun j y hj => ?_) (fun y hy => ?_) (by omega) (by unfold maxLen; omega) (by omega) hbase w.heap.size rfl (fun g' cap w' h2 h3 h4 h5 => ?_)
 ·match j, hj with
  | 0, hj => simp at hj; subst hj; exact hc
 ·simp at hy; subst hy; rfl
 ·have hty : ∀ (k : Nat), v.ownBlock = some k → base ≤ k ∧ ∃ cs, w.heap[k]? = some (.cells cs 36 (0, 0)) := by
   intro k hk
   rcases hown.2 with ⟨rfl, _⟩ | ⟨g1, cap1, cur, rfl, hb1, hh, _⟩
   ·cases hk
   ·cases hk; exact ⟨hb1, cur, hh⟩
  have hon : ∀ (b' : Nat) (n c : Int), OnE w b' n c → OnE w' b' n c := fun b' n c ho' => ho'.keep (h3.block b' (heap_lt ho') (fun e => by
   obtain ⟨_, cs', hc'⟩ := hty b' e.symm
   rw [show w.heap[b']? = _ from ho'] at hc'
   injection hc' with hc'
   injection hc' with _ hc'
   exact absurd hc' (by decide)))
  refine h _ w' v.ownBlock ⟨bs ++ [b], by simpa using h2, by simp [hbl], fun i b' z' hb' hz' => ?_⟩ h3 hty
  by_cases hi : i < bs.length
  ·rw [List.getElem?_append_left hi] at hb'
   rw [List.getElem?_append_left (by omega)] at hz'
   exact hon _ _ _ (hel i b' z' hb' hz')
  ·rw [List.getElem?_append_right (by omega)] at hb'
   rw [List.getElem?_append_right (by omega), ← hbl] at hz'
   have hi0 : i - bs.length = 0 := by
    have := (List.getElem?_eq_some_iff.1 hb').1
    simp at this
    omega
   rw [hi0] at hb' hz'
   simp at hb' hz'
   subst hb'
   subst hz'
   exact hon _ _ _ hu
theorem eOf_codes (l : List (Nat × Nat)) : ((l.map eOf).map (·.1)).flatten = l.map (fun z => (z.2 : Int)) := by induction l <;> simp_all [eOf]
theorem eOf_nodes (l : List (Nat × Nat)) : ((l.map eOf).map (·.2.1)).flatten = l.map (fun z => (z.1 : Int)) := by induction l <;> simp_all [eOf]
theorem eOf_stripes (l : List (Nat × Nat)) : ((l.map eOf).map (·.2.2)).flatten = [] := by induction l <;> simp_all [eOf]
theorem Ep.askN_stay {e : Ep} {q : Rq} {st m : Nat} (h : 3 ≤ (e.askN q st m).2.1) : ∀ k, e.askN q st (m + k) = e.askN q st m
 | 0 => rfl
 | k + 1 => by
  have ih := Ep.askN_stay h k
  rw [← Nat.add_assoc, Ep.askN_succ, ih, if_pos h]
end Go.Proofs.YtelmcchleclklaaGreat
namespace Go.Proofs.YtelmcchleclklaaGreat
open Go.RowKit Go.Sort
set_option maxRecDepth 100000
set_option maxHeartbeats 8000000

def IntRet (w0 v : World) (g : Nat) (nd : ND) (st : Nat) (x : Wp × Nat × List (Nat × Nat)) (en : Ending) (w' : World) : Prop :=
 ∃ u, en = .returned u ∧ WL w0 w' g nd x.1 ∧ KeepW v w' ∧ ((3 ≤ x.2.1 ∧ u = .nilIface) ∨ (x.2.1 < 3 ∧ EV w' u (x.2.2.map (fun z => (z.2 : Int))) (x.2.2.map (fun z => (z.1 : Int))) [(st : Int)]))
theorem JoinRet.some_ {es : List (List Int × List Int × List Int)} {w w' : World} {e : Ending} (h : JoinRet es w e w') (hne : es ≠ []) : ∃ v, e = .returned v ∧ Below w.heap.size w w' ∧ EV w' v (es.map (·.1)).flatten (es.map (·.2.1)).flatten (es.map (·.2.2)).flatten := by
 obtain ⟨v, h1, h2, ⟨h3, _⟩ | ⟨_, h3⟩⟩ := h
 ·exact absurd h3 hne
 ·exact ⟨v, h1, h2, h3⟩
section
variable {w0 v : World} {g cb : Nat} {nd : ND} {e : Ep} {A C c f o cap : Nat} {B : Nat → Value}
theorem cy_intend (h1 : WL w0 v g nd e.w) (h2 : CM w0 v g cb nd e A C c f o cap B) {m : Nat} (hf : e.w.Fit m) (hm : m ≤ 999990000) {st gn : Nat} (hst : st < 40) (hgn : gn ≤ 1099511627776) (D : Nat → Nat) (P : Option Addr) (k : Nat) (hd : DatN v P 128 D) (hD : ∀ j, j < 128 → D j < 256) :
  Calls Tryz.prog 76 #[.pointer (some ⟨cb, 0, none⟩), rqv 3 (st : Int) (gn : Int) 0 P 128 k] v (IntRet w0 v g nd st (e.askN (qLg st gn D) st 8)) := by
 have q1 := we_neqNil
 have q2 := we_neqNilNil
 obtain ⟨H, hH⟩ : ∃ H, v.heap.size = H := ⟨_, rfl⟩
 have HH := Lib.hid hH
 obtain ⟨v1, hv1⟩ : ∃ v1, v.alloc (.cells #[.int .i64 3, .int .i64 (st : Int), .int .i64 (gn : Int), .int .i64 0, .slice P 128 k] 50) = v1 := ⟨_, rfl⟩
 have B0 : Below v.heap.size v v1 := by rw [← hv1]; exact (Below.refl _ _).alloc (Nat.le_refl _) _
 have p1 : QV v1 H 3 (st : Int) (gn : Int) 0 P 128 k := by rw [← hv1]; exact QV.of_new hH
 have y1 := p1.c1
 have HP1 := Lib.hid p1
 have HB0 := Lib.hid B0
 have HV1 := Lib.hid hv1
 have HV := Lib.hid h1
 have HW := Lib.hid (h1.below B0)
 have HM := Lib.hid (h2.below B0)
 have HD := Lib.hid (hd.below B0)
 have HDB := Lib.hid hD
 have HF := Lib.hid hf
 have HQ : Hid (OkQ 3 (st : Int) (gn : Int) 0 128) := Lib.hid (by unfold OkQ; omega)
 have HLG := Lib.hid (fun w => llogs (st : Int) w)
 obtain ⟨X, hX⟩ : ∃ X, e.askN (qLg st gn D) st 8 = X := ⟨_, rfl⟩
 have HX := Lib.hid hX
 rw [hX]
 clear h1 h2 hf hX hd hD B0 p1 hv1 hH
 go_enter Tryz.func76, Tryz.ntmps76
 go_upto_region 1 with fail
 rw [HV1.out, HH.out]
 go_wp2_with fail
 refine (HLG.out _).mono ?_
 rintro en w2 ⟨A2, c2, rfl, n2, b2, hc2, hg2⟩
 try dsimp only
 have hll : (logsF (st : Int)).length = 8 := logsF_len hst
 rw [hll] at hc2
 rw [hll]
 obtain ⟨g2, o2, rfl, hgl, _⟩ := n2 0 _ (logsF_at hst (j := 0) (by omega))
 have HN2 := Lib.hid n2
 have HG2 : Hid (v1.heap.size ≤ g2 ∧ g2 < w2.heap.size) := Lib.hid ⟨hg2 g2 o2 rfl, hgl⟩
 have HB2 := Lib.hid b2
 obtain ⟨nd2, hnd2⟩ : ∃ nd2, nd.add (fun k => v1.heap.size ≤ k ∧ k < w2.heap.size) w2 = nd2 := ⟨_, rfl⟩
 have HND := Lib.hid hnd2
 have HW2 : Hid (WL w0 w2 g nd2 e.w) := Lib.hid (by rw [← hnd2]; exact HW.out.add b2 (fun k hk => hk))
 have HZB : Hid (∀ k, nd2.Z k → k < w2.heap.size) := Lib.hid (fun k hk => Nat.lt_of_lt_of_le (HW2.out.zlt hk) HW2.out.zB)
 have HM2 : Hid (CM w0 w2 g cb nd2 e A C c f o cap B) := Lib.hid (by
  rw [← hnd2]
  refine (HM.out.below b2).other (fun k hk => Or.inl hk) (fun hk => ?_)
  rcases hk with hk | hk
  ·exact HM.out.zc hk
  ·have := HM.out.lt
   omega)
 have HK2 : Hid (KeepW v w2) := Lib.hid ((KeepW.of HB0.out).trans (KeepW.of b2))
 have HP2 := Lib.hid (HP1.out.below b2)
 have HD2 := Lib.hid (HD.out.below b2)
 have HS2 : Hid (w0.heap.size ≤ w2.heap.size) := Lib.hid HW2.out.blw.size
 have HST : Hid (∀ w' s', WL w0 w' g nd2 s' → WL w0 w' g nd s' ∧ w'.heap[g2]? = w2.heap[g2]?) := Lib.hid (fun w' s' hw => by
  rw [← hnd2] at hw
  exact ⟨WL.sub HW.out b2 hw, hw.stays ⟨hg2 g2 o2 rfl, hgl⟩⟩)
 clear n2 b2 hc2 hg2 hgl hnd2 hll
 go_wp2_with fail
 go_loopg [5, 6, 8, 9, 14] 8 (fun kk s5 s6 s8 s9 s14 wr => ∃ (i cnt : Nat) (er : List (Nat × Nat)) (sw : Wp), s14 = .int .i64 (i : Int) ∧ s6 = .int .i64 (cnt : Int) ∧ i ≤ 8 ∧ cnt < 3 ∧ kk = 8 - i ∧ Hid (e.askN (qLg st gn D) st i = (sw, cnt, er) ∧ er.length + cnt = i) ∧ Hid (WL w0 wr g nd2 sw ∧ KeepW w2 wr) ∧ Hid (ErL wr w2.heap.size s5 er))
 case atStart => exact ⟨0, 0, [], e.w, rfl, rfl, by omega, by omega, rfl, Lib.hid ⟨Ep.askN_zero _ _ _, rfl⟩, Lib.hid ⟨HW2.out, KeepW.refl _⟩, Lib.hid ErL.nil⟩
 case round =>
  obtain ⟨i, cnt, er, sw, rfl, rfl, hi, hcnt, rfl, HA, HS, HE⟩ := hrel
  obtain ⟨wo, rfl⟩ : ∃ wo : World, wo = wr := ⟨wr, rfl⟩
  have pp := HS.out.2.qv HP2.out
  have z0 := pp.c0
  have z1 := pp.c1
  have z2 := pp.c2
  have z3 := pp.c3
  have z4 := pp.c4
  clear pp
  by_cases hlt : i < 8
  ·have hlt' : (i : Int) < 8 := by omega
   obtain ⟨g2', o2', e2, _, hcell⟩ := HN2.out i _ (logsF_at hst hlt)
   cases e2
   have hcell' : wo.cell? ⟨g2, o2 + i, none⟩ = some (.int .i64 (((st + 5 + i) % 8 : Nat) : Int)) := (World.cell?_of_block (w := w2) (HST.out _ _ HS.out.1).2).trans hcell
   obtain ⟨n, hn⟩ : ∃ n, (st + 5 + i) % 8 = n := ⟨_, rfl⟩
   rw [hn] at hcell'
   have hn8 : n < 8 := by omega
   have HNN : Hid (logN st i = n) := Lib.hid hn
   have HMo := Lib.hid (HM2.out.keep HW2.out HS.out.1 (KeepF.of HS.out.2) rfl rfl rfl rfl)
   have HFS : Hid (sw.Fit (m + 63 * i)) := Lib.hid (by have := Ep.fit_askN (e := e) (st := st) (q := qLg st gn D) HF.out HDB.out i; rw [HA.out.1] at this; exact this)
   have HL := Lib.hid (cy_log HS.out.1 HMo.out HFS.out (by omega) hn8 (qLg st gn D) P k (HS.out.2.b.datN HD2.out) HDB.out HQ.out)
   unfold qLg at HL
   obtain ⟨s2, d, hlg⟩ : ∃ s2 d, e.logs sw n (qLg st gn D) = (s2, d) := ⟨_, _, rfl⟩
   have hlg' : e.logs sw n ⟨3, (st : Int), (gn : Int), 0, 128, D⟩ = (s2, d) := hlg
   rw [hlg'] at HL
   have HLGG := Lib.hid hlg
   clear hn hcell hlg hlg'
   go_wp2_with fail
   refine HL.out.mono ?_
   rintro en w3 ⟨u, rfl, W3, K3, hu⟩
   try dsimp only
   try dsimp only at hu W3
   have HZ3 := Lib.hid (And.intro W3 (HS.out.2.trans K3))
   have HE3 := Lib.hid (HE.out.keep K3)
   clear W3 K3
   rcases hu with ⟨rfl, rfl⟩ | ⟨hd0, b, rfl, ho⟩
   ·have HA2 : Hid (e.askN (qLg st gn D) st (i + 1) = (s2, cnt + 1, er)) := Lib.hid (by
     rw [Ep.askN_succ, HA.out.1, if_neg (show ¬ 3 ≤ cnt by omega), HNN.out, HLGG.out, if_pos rfl])
    by_cases h3 : cnt = 2
    ·subst h3
     go_wp2_with fail
     go_ret
     have hst' : X = (s2, 2 + 1, er) := by
      rw [← HX.out, show (8 : Nat) = (i + 1) + (7 - i) by omega, Ep.askN_stay (by rw [HA2.out]; exact Nat.le_refl _), HA2.out]
     rw [hst']
     exact ⟨_, rfl, (HST.out _ _ HZ3.out.1).1, HK2.out.trans HZ3.out.2, Or.inl ⟨Nat.le_refl _, rfl⟩⟩
    ·have h3' : ¬ (cnt : Int) + 1 = 3 := by omega
     have h3b : ((cnt : Int) + 1 == 3) = false := by rw [beq_eq_false_iff_ne]; exact h3'
     go_wp2_with fail
     go_roundg (8 - (i + 1))
     case measure => omega
     case rel => exact ⟨i + 1, cnt + 1, er, s2, by go_num, by go_num, by omega, by omega, rfl, Lib.hid ⟨HA2.out, by have := HA.out.2; omega⟩, HZ3, HE3⟩
   ·have HA2 : Hid (e.askN (qLg st gn D) st (i + 1) = (s2, cnt, er ++ [(n, d)])) := Lib.hid (by
     rw [Ep.askN_succ, HA.out.1, if_neg (show ¬ 3 ≤ cnt by omega), HNN.out, HLGG.out, if_neg hd0])
    obtain ⟨A5, c5, rfl⟩ := HE3.out.form
    have HO := Lib.hid ho
    obtain ⟨el, hel⟩ : ∃ el, er.length = el := ⟨_, rfl⟩
    have HEL := Lib.hid hel
    have hel8 : el ≤ 8 := by have := HA.out.2; omega
    rw [hel] at HE3 ⊢
    have hs3 : w2.heap.size ≤ w3.heap.size := HZ3.out.2.1
    have b4 : Below w3.heap.size w3 (w3.alloc (.cells #[onv b] 36)) := (Below.refl _ _).alloc (Nat.le_refl _) _
    have HE4 := Lib.hid (HE3.out.keep (KeepW.of b4))
    have HO4 := Lib.hid ((KeepW.of b4).on ho)
    have HZ4 := Lib.hid (And.intro (HZ3.out.1.below b4) (HZ3.out.2.trans (KeepW.of b4)))
    have hc4 : (w3.alloc (.cells #[onv b] 36)).cell? ⟨w3.heap.size, 0, none⟩ = some (onv b) := by rw [cell_of_block (alloc_block w3 _)]; rfl
    have HC4 := Lib.hid hc4
    clear ho hel b4 hc4
    go_wp2_with (at_builtin; refine append_err _ rfl (.tmp 24) (.tmp 26) rfl w2.heap.size (.slice A5 el c5) er rfl HE4.out w3.heap.size b (n, d) rfl HC4.out HO4.out (by rw [HEL.out]; omega) (by have := HZ4.out.2.1; exact this) ?_; intro v5 w5 r5 he5 gr5 hr5; have HE5 := Lib.hid he5; have HK5 := Lib.hid (HZ4.out.2.grown gr5 (fun j hj => (hr5 j hj).1)); have HW5 := Lib.hid (HZ4.out.1.grown gr5 (fun j hj => ⟨Nat.le_trans HS2.out (hr5 j hj).1, fun hz => by have := HZB.out j hz; have := (hr5 j hj).1; omega, by obtain ⟨_, cs, hcs⟩ := hr5 j hj; exact ⟨cs, _, hcs, err_notW, by decide, by decide⟩⟩)); clear he5 gr5 hr5)
    go_roundg (8 - (i + 1))
    case measure => omega
    case rel => exact ⟨i + 1, cnt, er ++ [(n, d)], s2, by go_num, rfl, by omega, hcnt, rfl, Lib.hid ⟨HA2.out, by rw [List.length_append]; have := HA.out.2; have := HEL.out; simp; omega⟩, Lib.hid ⟨HW5.out, HK5.out⟩, HE5⟩
  ·obtain rfl : i = 8 := by omega
   have HXX : Hid (X = (sw, cnt, er)) := Lib.hid (HX.out.symm.trans HA.out.1)
   obtain ⟨A5, c5, rfl⟩ := HE.out.form
   have hne : er.map eOf ≠ [] := by
    intro h0
    have : er = [] := List.map_eq_nil_iff.1 h0
    have h4 := HA.out.2
    rw [this] at h4
    simp at h4
    omega
   have HNE := Lib.hid hne
   obtain ⟨vs, hvl, hel, hho⟩ := HE.out.el
   have HJ := Lib.hid (fun (W : World) (b : Below wo.heap.size wo W) => en_join c5 (w := W) (A := A5) (vs := vs) (es := er.map eOf) ⟨hel.1, fun i v e' h1 h2 => (hel.2 i v e' h1 h2).below b⟩ (fun i x hx => by
    obtain ⟨g', o', e1, e2, e3⟩ := hho i x hx
    exact ⟨g', o', e1, Nat.lt_of_lt_of_le e2 b.size, (b.cell (p := ⟨g', o' + i, none⟩) e2).trans e3⟩) (by rw [hvl]; have := HA.out.2; omega))
   rw [hvl] at HJ
   obtain ⟨el, hel2⟩ : ∃ el, er.length = el := ⟨_, rfl⟩
   rw [hel2] at HJ ⊢
   have BDD : Hid (Below wo.heap.size wo wo.drew) := Lib.hid (below_drewN 1 wo)
   have HSK : Hid (∀ W, Below wo.heap.size wo W → W.cell? ⟨H, 1, none⟩ = some (.int .i64 (st : Int))) := Lib.hid (fun W hW => ((HS.out.2.qv HP2.out).below hW).c1)
   have HJ2 := Lib.hid ((HJ.out wo.drew BDD.out).mono (fun en w' hj => JoinRet.some_ hj hne))
   clear hvl hel hho hne hel2 HJ
   go_wp2_with fail
   go_region_held_law (fun W => W.cell? ⟨H, 1, none⟩ = some (.int .i64 (st : Int)))
    (first | (with_reducible assumption) | (with_reducible exact HSK.out _ BDD.out) | (with_reducible exact HSK.out _ HB3.out) | (with_reducible exact HSK.out _ HB4.out))
    (first
     | (go_simp; go_at_call 71; (with_reducible refine HJ2.out.mono ?_); rintro en w3 ⟨uj, rfl, b3, hj⟩; (try dsimp only); rw [eOf_codes, eOf_nodes, eOf_stripes] at hj; have HOF := Lib.hid (en_of (st : Int) hj); have HB3 : Hid (Below wo.heap.size wo w3) := Lib.hid (BDD.out.trans (b3.mono (Nat.le_refl _))); clear b3 hj)
     | (go_simp; go_at_call 37; (with_reducible refine HOF.out.mono ?_); rintro en w4 ⟨uo, rfl, b4, ho⟩; (try dsimp only); have HB4 : Hid (Below wo.heap.size wo w4) := Lib.hid (HB3.out.trans (b4.mono HB3.out.size)); have HO := Lib.hid ho; clear b4 ho)
     | fail)
   go_wp2_with fail
   go_ret
   rw [HXX.out]
   exact ⟨uo, rfl, (HST.out _ _ (HS.out.1.below HB4.out)).1, HK2.out.trans (HS.out.2.trans (KeepW.of HB4.out)), Or.inr ⟨hcnt, HO.out⟩⟩
end
end Go.Proofs.YtelmcchleclklaaGreat
