import Derived.Test.YtelmcchleclklaaGreatV25
import Derived.Test.YtelmcchleclklaaGreatV05
namespace Go.Proofs.YtelmcchleclklaaGreat
open Go.RowKit Go.Sort
set_option maxRecDepth 100000
set_option maxHeartbeats 1000000

theorem nodup_sub : ∀ (l o : List Nat), l.Nodup → (∀ x ∈ l, x ∈ o) → l.length ≤ o.length
 | [], _, _, _ => Nat.zero_le _
 | x :: l, o, hn, h => by
  obtain ⟨h1, h2⟩ := List.nodup_cons.1 hn
  have h3 := nodup_sub l (o.erase x) h2 (fun y hy => (List.mem_erase_of_ne (fun e => h1 (by rw [← e]; exact hy))).2 (h y (List.mem_cons_of_mem _ hy)))
  have h4 := h x (List.mem_cons_self ..)
  have h5 := List.length_erase_of_mem h4
  have h6 := List.length_pos_of_mem h4
  show l.length + 1 ≤ o.length
  omega
structure Ep.Tl (e : Ep) (F K : Nat) : Prop where
 inv : e.Inv
 calm : e.w.Calm
 lo : ∀ n y, Ent (e.w.N n) y → n < 8 → y.s < 5 ∧ y.g < e.next y.s
 up : cntW (fun y => decide (e.gen y.s < y.g)) e.w 8 ≤ 2 * F
 at3 : ∀ st, st < 5 → (e.pend st).isSome = true → cntW (fun y => decide (y.s = st) && decide (y.g = e.gen st)) e.w 8 ≤ 3
 nk : ∀ st, e.next st ≤ K
 pl : ∀ st, (e.pend st).isSome = true → st < 5
 ps : ∀ st, (e.pend st).isSome = true → e.gen st ≠ 0
theorem Ep.Tl.blocked {e : Ep} {F K : Nat} (h : e.Tl F K) : cntW (fun y => !e.rel y) e.w 8 ≤ 2 * F + 15 := by
 have hq : ∀ i, i < 5 → cntW (fun y => (e.pend i).isSome && (decide (y.s = i) && decide (y.g = e.gen i))) e.w 8 ≤ 3 := fun i hi => by
  cases hp : (e.pend i).isSome with
  | true =>
   refine Nat.le_trans (cntW_mono (fun y hy => ?_) e.w 8) (h.at3 i hi hp)
   simpa using hy
  | false =>
   exact Nat.le_trans (Nat.le_of_eq (cntW_none (fun y => Bool.false_and _) e.w 8)) (Nat.zero_le _)
 have hbig : cntW (fun y => decide (5 ≤ y.s)) e.w 8 = 0 := cntW_zero e.w 8 (fun n hn k x no hk hR => by
  have := (h.lo n x ⟨k, no, hk, hR⟩ hn).1
  simp
  omega)
 have c0 := cntW_or (p := fun y => (e.pend 3).isSome && (decide (y.s = 3) && decide (y.g = e.gen 3)) || ((e.pend 4).isSome && (decide (y.s = 4) && decide (y.g = e.gen 4)))) (p1 := fun y => (e.pend 3).isSome && (decide (y.s = 3) && decide (y.g = e.gen 3))) (p2 := fun y => (e.pend 4).isSome && (decide (y.s = 4) && decide (y.g = e.gen 4))) (fun y hy => by rw [Bool.or_eq_true] at hy; exact hy) e.w 8
 have c1 := cntW_or (p := fun y => (e.pend 1).isSome && (decide (y.s = 1) && decide (y.g = e.gen 1)) || ((e.pend 2).isSome && (decide (y.s = 2) && decide (y.g = e.gen 2)))) (p1 := fun y => (e.pend 1).isSome && (decide (y.s = 1) && decide (y.g = e.gen 1))) (p2 := fun y => (e.pend 2).isSome && (decide (y.s = 2) && decide (y.g = e.gen 2))) (fun y hy => by rw [Bool.or_eq_true] at hy; exact hy) e.w 8
 have c2 := cntW_or (p := fun y => ((e.pend 1).isSome && (decide (y.s = 1) && decide (y.g = e.gen 1)) || ((e.pend 2).isSome && (decide (y.s = 2) && decide (y.g = e.gen 2)))) || ((e.pend 3).isSome && (decide (y.s = 3) && decide (y.g = e.gen 3)) || ((e.pend 4).isSome && (decide (y.s = 4) && decide (y.g = e.gen 4))))) (p1 := fun y => (e.pend 1).isSome && (decide (y.s = 1) && decide (y.g = e.gen 1)) || ((e.pend 2).isSome && (decide (y.s = 2) && decide (y.g = e.gen 2)))) (p2 := fun y => (e.pend 3).isSome && (decide (y.s = 3) && decide (y.g = e.gen 3)) || ((e.pend 4).isSome && (decide (y.s = 4) && decide (y.g = e.gen 4)))) (fun y hy => by rw [Bool.or_eq_true] at hy; exact hy) e.w 8
 have c3 := cntW_or (p := fun y => (e.pend 0).isSome && (decide (y.s = 0) && decide (y.g = e.gen 0)) || (((e.pend 1).isSome && (decide (y.s = 1) && decide (y.g = e.gen 1)) || ((e.pend 2).isSome && (decide (y.s = 2) && decide (y.g = e.gen 2)))) || ((e.pend 3).isSome && (decide (y.s = 3) && decide (y.g = e.gen 3)) || ((e.pend 4).isSome && (decide (y.s = 4) && decide (y.g = e.gen 4)))))) (p1 := fun y => (e.pend 0).isSome && (decide (y.s = 0) && decide (y.g = e.gen 0))) (p2 := fun y => ((e.pend 1).isSome && (decide (y.s = 1) && decide (y.g = e.gen 1)) || ((e.pend 2).isSome && (decide (y.s = 2) && decide (y.g = e.gen 2)))) || ((e.pend 3).isSome && (decide (y.s = 3) && decide (y.g = e.gen 3)) || ((e.pend 4).isSome && (decide (y.s = 4) && decide (y.g = e.gen 4))))) (fun y hy => by rw [Bool.or_eq_true] at hy; exact hy) e.w 8
 obtain ⟨pp, hpp⟩ : ∃ pp : It → Bool, pp = fun y => (e.pend 0).isSome && (decide (y.s = 0) && decide (y.g = e.gen 0)) || (((e.pend 1).isSome && (decide (y.s = 1) && decide (y.g = e.gen 1)) || ((e.pend 2).isSome && (decide (y.s = 2) && decide (y.g = e.gen 2)))) || ((e.pend 3).isSome && (decide (y.s = 3) && decide (y.g = e.gen 3)) || ((e.pend 4).isSome && (decide (y.s = 4) && decide (y.g = e.gen 4))))) := ⟨_, rfl⟩
 rw [← hpp] at c3
 have c4 := cntW_or (p := fun y => decide (e.gen y.s < y.g) || (pp y || decide (5 ≤ y.s))) (p1 := fun y => decide (e.gen y.s < y.g)) (p2 := fun y => pp y || decide (5 ≤ y.s)) (fun y hy => by rw [Bool.or_eq_true] at hy; exact hy) e.w 8
 have c5 := cntW_or (p := fun y => pp y || decide (5 ≤ y.s)) (p1 := pp) (p2 := fun y => decide (5 ≤ y.s)) (fun y hy => by rw [Bool.or_eq_true] at hy; exact hy) e.w 8
 have c6 := cntW_mono (p := fun y => !e.rel y) (p' := fun y => decide (e.gen y.s < y.g) || (pp y || decide (5 ≤ y.s))) (fun y hy => by
  have hr : e.rel y = false := by simpa using hy
  unfold Ep.rel at hr
  by_cases h1 : e.gen y.s < y.g
  ·simp [h1]
  ·by_cases h5 : 5 ≤ y.s
   ·simp [h5]
   ·have h2 : y.g ≤ e.gen y.s := by omega
    rw [decide_eq_true h2, Bool.true_and] at hr
    have h3 : (e.pend y.s).isSome = true ∧ y.g = e.gen y.s := by simpa using hr
    rw [hpp]
    have h4 : y.s = 0 ∨ y.s = 1 ∨ y.s = 2 ∨ y.s = 3 ∨ y.s = 4 := by omega
    rcases h4 with h4 | h4 | h4 | h4 | h4 <;> (have h6 := h3.1; have h7 := h3.2; rw [h4] at h6 h7; simp [h4, h6, h7])) e.w 8
 have := hq 0 (by omega)
 have := hq 1 (by omega)
 have := hq 2 (by omega)
 have := hq 3 (by omega)
 have := hq 4 (by omega)
 have := h.up
 omega
theorem Ep.Tl.few {e : Ep} {F K st g : Nat} {D : Nat → Nat} {r : Wp × Nat × List (Nat × Nat)} (h : e.Tl F K) (a : AskC e st ⟨st, g, D⟩ 8 r) (hk : r.2.1 < 3) (o : List Nat) (ho : ∀ n, n < 8 → e.w.dn n = true → n ∈ o) : 16 * (8 - r.2.1 - o.length) ≤ 2 * F + 15 + r.2.1 := by
 have hall := a.all hk
 have h8 : ∀ z ∈ r.2.2, z.1 < 8 := fun z hz => by
  obtain ⟨j, _, ej⟩ := a.nd z hz
  rw [ej]
  unfold logN
  omega
 have hsp : ∀ l : List (Nat × Nat), (l.filter (fun z => decide (z.2 = 6))).length + (l.filter (fun z => decide (z.2 ≠ 6))).length = l.length := by
  intro l
  induction l with
  | nil => rfl
  | cons z l ih =>
   by_cases hz : z.2 = 6
   ·rw [List.filter_cons_of_pos (by simp [hz]), List.filter_cons_of_neg (by simp [hz])]
    simp only [List.length_cons]
    omega
   ·rw [List.filter_cons_of_neg (by simp [hz]), List.filter_cons_of_pos (by simp [hz])]
    simp only [List.length_cons]
    omega
 have hsum := hsp r.2.2
 have hnd : ∀ f : Nat × Nat → Bool, ((r.2.2.filter f).map (fun z : Nat × Nat => z.1)).Nodup := fun f => List.Pairwise.sublist (List.Sublist.map (fun z : Nat × Nat => z.1) (List.filter_sublist (p := f))) a.un
 have h4 : ((r.2.2.filter (fun z => decide (z.2 ≠ 6))).map (·.1)).length ≤ o.length := by
  refine nodup_sub _ _ (hnd _) (fun x hx => ?_)
  obtain ⟨z, hz, ez⟩ := List.mem_map.1 hx
  obtain ⟨hz1, hz2⟩ := List.mem_filter.1 hz
  rw [← ez]
  rcases a.er z hz1 with ⟨_, b⟩ | ⟨b, _⟩
  ·exact ho _ (h8 z hz1) b
  ·exact absurd b (by simpa using hz2)
 have h6 := cntW_ge (p := fun y => !e.rel y) (s := r.1) 8 ((r.2.2.filter (fun z => decide (z.2 = 6))).map (·.1)) (hnd _) (fun n hn => by
  obtain ⟨z, hz, ez⟩ := List.mem_map.1 hn
  obtain ⟨hz1, hz2⟩ := List.mem_filter.1 hz
  rw [← ez]
  rcases a.er z hz1 with ⟨b, _⟩ | ⟨_, _, b⟩
  ·rw [b] at hz2; simp at hz2
  ·exact ⟨h8 z hz1, b⟩)
 have hc := a.cnt (fun y => !e.rel y)
 have hb := h.blocked
 rw [List.length_map] at h4 h6
 split at hc <;> omega
structure Qt (s s' : Wp) : Prop where
 calm : s'.Calm
 dn : s'.dn = s.dn
 cnt : ∀ p : It → Bool, cntW p s' 8 ≤ cntW p s 8
 ent : ∀ n y, Ent (s'.N n) y → Ent (s.N n) y
theorem Qt.refl {s : Wp} (h : s.Calm) : Qt s s := ⟨h, rfl, fun _ => Nat.le_refl _, fun _ _ h => h⟩
theorem Qt.trans {a b c : Wp} (h : Qt a b) (k : Qt b c) : Qt a c := ⟨k.calm, k.dn.trans h.dn, fun p => Nat.le_trans (k.cnt p) (h.cnt p), fun n y x => h.ent n y (k.ent n y x)⟩
theorem Qt.hit {s : Wp} (h : s.Calm) (n : Nat) {q : Rq} (hq : q.k ≠ 3) : Qt s (s.hit n q) := ⟨h.hit n q, rfl, fun p => by
  have := cntW_hit p s n q 8
  rw [if_neg (fun x => hq x.1)] at this
  exact this, fun j y hy => by
  by_cases e : j = n
  ·subst e
   rw [Wp.hit_at] at hy
   rcases hy.act with h1 | h1
   ·exact h1
   ·exact absurd h1.1 hq
  ·rw [Wp.hit_far _ _ e] at hy
   exact hy⟩
theorem Qt.call {s : Wp} (h : s.Calm) (n : Nat) {q : Rq} (hq : q.k ≠ 3) : Qt s (s.call n q).1 := by
 cases hd : s.dn n with
 | true => rw [h.call_down hd]; exact Qt.refl h
 | false =>
  by_cases hc : ((s.N n).act q).2.code = 0
  ·rw [h.call_ok hd hc]; exact Qt.hit h n hq
  ·rw [h.call_no hd hc]; exact Qt.hit h n hq
theorem Qt.done {s : Wp} (h : s.Calm) (n : Nat) {q : Rq} (hq : q.k ≠ 3) : Qt s (s.done n q).1 := by
 cases hd : s.dn n with
 | true => rw [h.done_down hd]; exact Qt.refl h
 | false =>
  by_cases hc : ((s.N n).act q).2.code = 0
  ·rw [h.done_ok hd hc]; exact (Qt.hit h n hq).trans (Qt.hit (h.hit n q) n (q := qFl) (by show (4 : Int) ≠ 3; decide))
  ·rw [h.done_no hd hc]; exact Qt.hit h n hq
theorem Qt.puts {s : Wp} (h : s.Calm) (st g : Nat) (C : Nat → Nat → Nat) : ∀ m, Qt s (s.puts st g C m).1
 | 0 => by rw [Wp.puts_zero]; exact Qt.refl h
 | m + 1 => by
  have ih := Qt.puts h st g C m
  rw [Wp.puts_succ]
  exact ih.trans (Qt.done ih.calm _ (by show (2 : Int) ≠ 3; decide))
theorem Wp.puts_all {s : Wp} (h : s.Calm) (hd : ∀ n, n < 8 → s.dn n = false) {st g : Nat} (hs : st < 40) (h1 : 1 ≤ g) (h2 : g ≤ 1099511627776) (C : Nat → Nat → Nat) : ∀ m, m ≤ 6 → (s.puts st g C m).2 = true
 | 0, _ => by rw [Wp.puts_zero]
 | m + 1, hm => by
  have q := Qt.puts h st g C m
  have ih := Wp.puts_all h hd hs h1 h2 C m (by omega)
  rw [Wp.puts_succ, ih, q.calm.done_ok (by rw [q.dn]; exact hd _ (by unfold nodeN; omega)) (Ns.put_code hs h1 h2 (by omega))]
  rfl
theorem Qt.relAll {s : Wp} (h : s.Calm) (st g : Nat) : ∀ m, Qt s (s.relAll st g m)
 | 0 => by rw [Wp.relAll_zero]; exact Qt.refl h
 | m + 1 => by
  have ih := Qt.relAll h st g m
  rw [Wp.relAll_succ]
  exact ih.trans (Qt.call ih.calm _ (by show (6 : Int) ≠ 3; decide))
theorem Ep.Tl.turn {e : Ep} {F K : Nat} (h : e.Tl F K) {s : Wp} (q : Qt e.w s) (hi : ({ e with w := s } : Ep).Inv) : ({ e with w := s } : Ep).Tl F K :=
 ⟨hi, q.calm, fun n y hy hn => h.lo n y (q.ent n y hy) hn, Nat.le_trans (q.cnt _) h.up, fun st hs hp => Nat.le_trans (q.cnt _) (h.at3 st hs hp), h.nk, h.pl, h.ps⟩
theorem Ep.Tl.fin {e : Ep} {F K : Nat} (h : e.Tl F K) (hK : K ≤ 1000000) {st : Nat} (hs : st < 5) (hp : (e.pend st).isSome = true) (C : Nat → Nat → Nat) :
  (e.fin st C).Tl F K ∧ (e.fin st C).w.dn = e.w.dn ∧ (e.fin st C).gen = e.gen ∧ (e.fin st C).next = e.next ∧ (e.fin st C).doubt = e.doubt ∧ (∀ i, i ≠ st → (e.fin st C).pend i = e.pend i) ∧ ((e.fin st C).pend st = e.pend st ∨ (e.fin st C).pend st = none) ∧ ((∀ n, n < 8 → e.w.dn n = false) → (e.fin st C).pend st = none) := by
 have hi := h.inv.fin (st := st) (by omega) hp C
 have hg : e.gen st ≠ 0 := h.ps st hp
 have hgk : e.gen st ≤ K := by have := h.inv.nx st (by omega); have := h.nk st; omega
 have q1 := Qt.puts h.calm st (e.gen st) C 6
 have q2 := Qt.relAll q1.calm st (e.gen st) 8
 have q12 := q1.trans q2
 have hall : (∀ n, n < 8 → e.w.dn n = false) → (e.w.puts st (e.gen st) C 6).2 = true := fun hd => Wp.puts_all h.calm hd (by omega) (by omega) (by omega) C 6 (Nat.le_refl _)
 revert hi
 unfold Ep.fin
 dsimp only
 split
 ·next hb =>
  intro hi
  refine ⟨⟨hi, q12.calm, fun n y hy hn => h.lo n y (q12.ent n y hy) hn, Nat.le_trans (q12.cnt _) h.up, fun i hii hpp => ?_, h.nk, fun i hpp => ?_, fun i hpp => ?_⟩, q12.dn, rfl, rfl, rfl, fun i hn => if_neg hn, Or.inr (if_pos rfl), fun _ => if_pos rfl⟩
  ·have hpp2 : (if i = st then none else e.pend i).isSome = true := hpp
   split at hpp2
   ·cases hpp2
   ·exact Nat.le_trans (q12.cnt _) (h.at3 i hii hpp2)
  ·have hpp2 : (if i = st then none else e.pend i).isSome = true := hpp
   split at hpp2
   ·cases hpp2
   ·exact h.pl i hpp2
  ·have hpp2 : (if i = st then none else e.pend i).isSome = true := hpp
   split at hpp2
   ·cases hpp2
   ·exact h.ps i hpp2
 ·next hb =>
  intro hi
  exact ⟨h.turn q1 hi, q1.dn, rfl, rfl, rfl, fun _ _ => rfl, Or.inl rfl, fun hd => absurd (hall hd) hb⟩
structure WrC (e e' : Ep) (st : Nat) (D : Nat → Nat) (r : Option (List (Nat × Nat))) : Prop where
 dn : e'.w.dn = e.w.dn
 gen : ∀ i, i ≠ st → e'.gen i = e.gen i
 dbt : ∀ i, i ≠ st → e'.doubt i = e.doubt i
 pnd : ∀ i, i ≠ st → e'.pend i = e.pend i
 ok : r = none → e.gen st < e'.gen st ∧ e'.doubt st = false ∧ (e'.pend st = none ∨ e'.pend st = some D) ∧ ((∀ n, n < 8 → e.w.dn n = false) → e'.pend st = none)
 no : ∀ l, r = some l → e'.gen st = e.gen st ∧ e'.doubt st = true ∧ e'.pend st = e.pend st ∧ l ≠ [] ∧ ∀ z ∈ l, z.1 < 8 ∧ ((z.2 = 4 ∧ e.w.dn z.1 = true) ∨ z.2 = 6)
theorem Ep.Tl.write {e : Ep} {F K : Nat} (h : e.Tl F K) (hK : K ≤ 999999) {st : Nat} (hs : st < 5) (E : (Nat → Nat) → Nat → Nat → Nat) (D : Nat → Nat) :
  WrC e (e.write E st D).1 st D (e.write E st D).2 ∧ ((e.write E st D).2 = none → (e.write E st D).1.Tl F (K + 1)) ∧ ((e.write E st D).2 ≠ none → (e.write E st D).1.Tl (F + 1) (K + 1)) ∧
  (∀ o : List Nat, (∀ n, n < 8 → e.w.dn n = true → n ∈ o) → (e.write E st D).2 ≠ none → ∃ k, k < 3 ∧ 16 * (8 - k - o.length) ≤ 2 * F + 15 + k) := by
 have hinv := h.inv.write (st := st) (by omega) E D
 obtain ⟨g, hg⟩ : ∃ g, e.next st = g := ⟨_, rfl⟩
 have hgn := h.inv.nx st (by omega)
 have hgk := h.nk st
 rw [hg] at hgn hgk
 have hU : (e.up st).Tl F (K + 1) := by
  refine ⟨⟨h.inv.wf, fun i hi => ?_, h.inv.pd, h.inv.fl⟩, h.calm, fun n y hy hn => ?_, h.up, h.at3, fun i => ?_, h.pl, h.ps⟩
  ·show e.gen i < if i = st then e.next st + 1 else e.next i
   split
   ·next e2 => rw [e2]; omega
   ·exact h.inv.nx i hi
  ·obtain ⟨a, b⟩ := h.lo n y hy hn
   refine ⟨a, ?_⟩
   show y.g < if y.s = st then e.next st + 1 else e.next y.s
   split
   ·next e2 => rw [e2] at b; omega
   ·exact b
  ·show (if i = st then e.next st + 1 else e.next i) ≤ K + 1
   have := h.nk i
   split <;> omega
 have ha := askN_calm (e := e.up st) h.calm (st := st) (g := g) D (by omega) (by omega) (by omega) 8 (Nat.le_refl _)
 obtain ⟨r, hr⟩ : ∃ r, (e.up st).askN (qLg st g D) st 8 = r := ⟨_, rfl⟩
 rw [hr] at ha
 have hfew := fun hk o ho => hU.few ha hk o ho
 have hx : ∀ n y, Ent (r.1.N n) y → n < 8 → y.s < 5 ∧ y.g < (if y.s = st then e.next st + 1 else e.next y.s) := fun n y hy hn => by
  rcases ha.ent n y hy with h1 | h1
  ·exact hU.lo n y h1 hn
  ·rw [h1]
   refine ⟨hs, ?_⟩
   show g < if st = st then e.next st + 1 else e.next st
   rw [if_pos rfl]
   omega
 have hnk : ∀ i, (if i = st then e.next st + 1 else e.next i) ≤ K + 1 := hU.nk
 by_cases hk : r.2.1 < 3
 ·have ew : e.write E st D = ({ (e.up st) with w := r.1, doubt := fun i => if i = st then true else e.doubt i }, some r.2.2) := by
   unfold Ep.write Ep.carry
   dsimp only
   rw [hg, hr, if_pos hk]
   rfl
  rw [ew] at hinv ⊢
  refine ⟨⟨ha.dn, fun _ _ => rfl, fun i hi => if_neg hi, fun _ _ => rfl, (fun x => by cases x), fun l hl => ?_⟩, (fun x => by cases x), fun _ => ?_, fun o ho _ => ⟨r.2.1, hk, hfew hk o ho⟩⟩
  ·cases hl
   refine ⟨rfl, if_pos rfl, rfl, fun hn => ?_, fun z hz => ⟨?_, ?_⟩⟩
   ·have := ha.all hk
    rw [hn] at this
    simp at this
    omega
   ·obtain ⟨j, _, ej⟩ := ha.nd z hz
    rw [ej]
    unfold logN
    omega
   ·rcases ha.er z hz with b | b
    ·exact Or.inl b
    ·exact Or.inr b.1
  ·refine ⟨hinv, ha.calm, hx, ?_, fun i hi hp => ?_, hnk, h.pl, h.ps⟩
   ·have h1 := ha.cnt (fun y => decide (e.gen y.s < y.g))
    have h2 := h.up
    show cntW (fun y => decide (e.gen y.s < y.g)) r.1 8 ≤ 2 * (F + 1)
    have h3 : (e.up st).w = e.w := rfl
    rw [h3] at h1
    split at h1 <;> omega
   ·have h1 := ha.cnt (fun y => decide (y.s = i) && decide (y.g = e.gen i))
    have h2 := h.at3 i hi hp
    have h3 : (e.up st).w = e.w := rfl
    rw [h3, if_neg (by
     intro hh
     simp at hh
     have e5 := hh.2
     rw [← hh.1] at e5
     omega)] at h1
    show cntW (fun y => decide (y.s = i) && decide (y.g = e.gen i)) r.1 8 ≤ 3
    omega
 ·have hc3 : r.2.1 = 3 := by have := ha.le; omega
  have ew : e.write E st D = (((e.up st).held r.1 st g D).fin st (E D), none) := by
   unfold Ep.write Ep.carry
   dsimp only
   rw [hg, hr, if_neg hk]
   rfl
  have hH : ((e.up st).held r.1 st g D).Tl F (K + 1) := by
   have hinv0 : ((e.up st).held r.1 st g D).Inv := by
    have hk2 := Kp.askN (e.up st) st g D 8
    have hg2 : ¬ (e.up st).Rel st g := fun x => by have := x.1; have e6 : (e.up st).gen st = e.gen st := rfl; omega
    have hl := Ep.askN_has (D := D) hU.inv.wf hg2 8 (Nat.le_refl _)
    have hi2 := hU.inv.step hk2 (fun i _ hp x => x.2 ⟨hp, rfl⟩) (fun _ _ _ f => f)
    rw [hr] at hl hi2
    obtain ⟨l, l1, l2, l3⟩ := hl
    refine ⟨hi2.wf, fun i hii => ?_, fun i D' hii hd => ?_, fun i hii hn hgg j hj => ?_⟩
    ·show (if i = st then g else e.gen i) < if i = st then e.next st + 1 else e.next i
     split
     ·omega
     ·exact h.inv.nx i hii
    ·have hd2 : (if i = st then some D else e.pend i) = some D' := hd
     show ∃ l : List Nat, l.Nodup ∧ 3 ≤ l.length ∧ ∀ n ∈ l, n < 8 ∧ (r.1.N n).HasI i (if i = st then g else e.gen i) D'
     split at hd2
     ·next e2 =>
      cases hd2
      rw [if_pos e2, e2]
      exact ⟨l, l1, by omega, fun n hn => ⟨by obtain ⟨j, _, ej⟩ := (l3 n hn).1; rw [ej]; unfold logN; omega, (l3 n hn).2⟩⟩
     ·next ne =>
      rw [if_neg ne]
      exact hi2.pd i D' hii hd2
    ·have hn2 : (if i = st then some D else e.pend i) = none := hn
     have hg3 : (if i = st then g else e.gen i) ≠ 0 := hgg
     show (r.1.N (nodeN i j)).HasF i (if i = st then g else e.gen i) j
     split at hn2
     ·cases hn2
     ·next ne =>
      rw [if_neg ne] at hg3 ⊢
      exact hi2.fl i hii hn2 hg3 j hj
   refine ⟨hinv0, ha.calm, hx, ?_, fun i hi hp => ?_, hnk, fun i hp => ?_, fun i hp => ?_⟩
   ·show cntW (fun y => decide ((if y.s = st then g else e.gen y.s) < y.g)) r.1 8 ≤ 2 * F
    have z1 : cntW (fun y => decide (y.s = st) && decide (g < y.g)) r.1 8 = 0 := cntW_zero r.1 8 (fun n hn k x no hkk hR => by
     have := (hx n x ⟨k, no, hkk, hR⟩ hn).2
     by_cases e5 : x.s = st
     ·rw [if_pos e5] at this
      simp
      omega
     ·simp [e5])
    have z2 := ha.cnt (fun y => decide (y.s ≠ st) && decide (e.gen y.s < y.g))
    rw [if_neg (by simp)] at z2
    have z3 := cntW_mono (p := fun y => decide (y.s ≠ st) && decide (e.gen y.s < y.g)) (p' := fun y => decide (e.gen y.s < y.g)) (fun y hy => by rw [Bool.and_eq_true] at hy; exact hy.2) e.w 8
    have z4 := cntW_or (p := fun y => decide ((if y.s = st then g else e.gen y.s) < y.g)) (p1 := fun y => decide (y.s = st) && decide (g < y.g)) (p2 := fun y => decide (y.s ≠ st) && decide (e.gen y.s < y.g)) (fun y hy => by
     by_cases e5 : y.s = st
     ·rw [if_pos e5] at hy
      exact Or.inl (by simp [e5]; simpa using hy)
     ·rw [if_neg e5] at hy
      exact Or.inr (by simp [e5]; simpa using hy)) r.1 8
    have z5 := h.up
    have h3 : (e.up st).w = e.w := rfl
    rw [h3] at z2
    omega
   ·show cntW (fun y => decide (y.s = i) && decide (y.g = if i = st then g else e.gen i)) r.1 8 ≤ 3
    have h3 : (e.up st).w = e.w := rfl
    by_cases e2 : i = st
    ·subst e2
     rw [if_pos rfl]
     have h1 := ha.cnt (fun y => decide (y.s = i) && decide (y.g = g))
     have z1 : cntW (fun y => decide (y.s = i) && decide (y.g = g)) e.w 8 = 0 := cntW_zero e.w 8 (fun n hn k x no hkk hR => by
      have := (h.lo n x ⟨k, no, hkk, hR⟩ hn).2
      by_cases e5 : x.s = i
      ·rw [e5] at this
       simp
       omega
      ·simp [e5])
     rw [h3, z1] at h1
     split at h1 <;> omega
    ·rw [if_neg e2]
     have hp2 : (if i = st then some D else e.pend i).isSome = true := hp
     rw [if_neg e2] at hp2
     have h1 := ha.cnt (fun y => decide (y.s = i) && decide (y.g = e.gen i))
     have h2 := h.at3 i hi hp2
     rw [h3, if_neg (by
      intro hh
      simp at hh
      exact e2 hh.1.symm)] at h1
     omega
   ·have hp2 : (if i = st then some D else e.pend i).isSome = true := hp
    split at hp2
    ·next e2 => omega
    ·exact h.pl i hp2
   ·show (if i = st then g else e.gen i) ≠ 0
    have hp2 : (if i = st then some D else e.pend i).isSome = true := hp
    split at hp2
    ·next e2 => rw [if_pos e2]; omega
    ·next e2 => rw [if_neg e2]; exact h.ps i hp2
  obtain ⟨f1, f2, f3, f4, f5, f6, f7, f8⟩ := hH.fin (by omega) hs (by show (if st = st then some D else e.pend st).isSome = true; rw [if_pos rfl]; rfl) (E D)
  rw [ew]
  have hhp : ((e.up st).held r.1 st g D).pend st = some D := if_pos rfl
  refine ⟨⟨f2.trans ha.dn, fun i hi => ?_, fun i hi => ?_, fun i hi => ?_, fun _ => ⟨?_, ?_, ?_, fun hd => f8 (fun n hn => by show r.1.dn n = false; rw [ha.dn]; exact hd n hn)⟩, (fun l hl => by cases hl)⟩, fun _ => f1, fun x => absurd rfl x, fun _ _ x => absurd rfl x⟩
  ·rw [f3]; exact if_neg hi
  ·rw [f5]; exact if_neg hi
  ·rw [f6 i hi]; exact if_neg hi
  ·rw [f3]
   show e.gen st < if st = st then g else e.gen st
   rw [if_pos rfl]
   exact hgn
  ·rw [f5]; exact if_pos rfl
  ·rcases f7 with f7 | f7
   ·rw [hhp] at f7; exact Or.inr f7
   ·exact Or.inl f7
end Go.Proofs.YtelmcchleclklaaGreat
namespace Go.Proofs.YtelmcchleclklaaGreat
open Go.RowKit Go.Sort
set_option maxRecDepth 100000
set_option maxHeartbeats 1000000

def pieceOf (l : List Pc) (g i : Nat) : Option Pc := l.find? (fun p => decide (p.g = g) && decide (p.i = i))
def Ep.getN (e : Ep) (st : Nat) : Nat → Wp × List (Nat × (Nat → Nat)) × List (Nat × Nat)
 | 0 => (e.w, [], [])
 | m + 1 => let r := e.getN st m
  if 4 ≤ r.2.1.length then r else
   match r.1.call (nodeN st m) (qGt st) with
   | (s1, .err c) => (s1, r.2.1, r.2.2 ++ [(nodeN st m, c)])
   | (s1, .ok y) => match pieceOf y.2.ps (e.gen st) m with
    | some p => (s1, r.2.1 ++ [(m, p.D)], r.2.2)
    | none => (s1, r.2.1, r.2.2 ++ [(nodeN st m, 7)])
theorem Ep.getN_zero (e : Ep) (st : Nat) : e.getN st 0 = (e.w, [], []) := rfl
theorem Ep.getN_full {e : Ep} {st m : Nat} (h : 4 ≤ (e.getN st m).2.1.length) : e.getN st (m + 1) = e.getN st m := by
 show (if 4 ≤ (e.getN st m).2.1.length then e.getN st m else _) = _
 rw [if_pos h]
theorem Ep.getN_err {e : Ep} {st m c : Nat} {s1 : Wp} (h : ¬ 4 ≤ (e.getN st m).2.1.length) (hc : (e.getN st m).1.call (nodeN st m) (qGt st) = (s1, .err c)) : e.getN st (m + 1) = (s1, (e.getN st m).2.1, (e.getN st m).2.2 ++ [(nodeN st m, c)]) := by
 show (if 4 ≤ (e.getN st m).2.1.length then e.getN st m else _) = _
 rw [if_neg h, hc]
theorem Ep.getN_some {e : Ep} {st m : Nat} {s1 : Wp} {y : Ns × Rp} {p : Pc} (h : ¬ 4 ≤ (e.getN st m).2.1.length) (hc : (e.getN st m).1.call (nodeN st m) (qGt st) = (s1, .ok y)) (hp : pieceOf y.2.ps (e.gen st) m = some p) : e.getN st (m + 1) = (s1, (e.getN st m).2.1 ++ [(m, p.D)], (e.getN st m).2.2) := by
 show (if 4 ≤ (e.getN st m).2.1.length then e.getN st m else _) = _
 rw [if_neg h, hc]
 dsimp only
 rw [hp]
theorem Ep.getN_none {e : Ep} {st m : Nat} {s1 : Wp} {y : Ns × Rp} (h : ¬ 4 ≤ (e.getN st m).2.1.length) (hc : (e.getN st m).1.call (nodeN st m) (qGt st) = (s1, .ok y)) (hp : pieceOf y.2.ps (e.gen st) m = none) : e.getN st (m + 1) = (s1, (e.getN st m).2.1, (e.getN st m).2.2 ++ [(nodeN st m, 7)]) := by
 show (if 4 ≤ (e.getN st m).2.1.length then e.getN st m else _) = _
 rw [if_neg h, hc]
 dsimp only
 rw [hp]
attribute [irreducible] Ep.getN
inductive Got where
 | no (l : List (Nat × Nat))
 | yes (D : Nat → Nat)
def Ep.fetch (dec : List (Nat × (Nat → Nat)) → Nat → Nat) (e : Ep) (st : Nat) : Wp × Got :=
 match e.pend st with
 | some D => (e.w, .yes D)
 | none => if e.gen st = 0 then (e.w, .yes (fun _ => 0)) else if (e.getN st 6).2.1.length < 4 then ((e.getN st 6).1, .no (e.getN st 6).2.2) else ((e.getN st 6).1, .yes (dec (e.getN st 6).2.1))
def Ep.read (E : (Nat → Nat) → Nat → Nat → Nat) (dec : List (Nat × (Nat → Nat)) → Nat → Nat) (e : Ep) (st : Nat) : Ep × Got :=
 match e.fetch dec st with
 | (s, .no l) => ({ e with w := s }, .no l)
 | (s, .yes D) => if e.doubt st = true then (match ({ e with w := s } : Ep).write E st D with
   | (e2, some l) => (e2, .no l)
   | (e2, none) => (e2, .yes D)) else ({ e with w := s }, .yes D)
theorem srt_mem (l : List Pc) (p : Pc) : p ∈ srt l ↔ p ∈ l := by
 unfold srt
 split
 ·split
  ·simp only [List.mem_cons, List.not_mem_nil, or_false]
   exact Or.comm
  ·exact Iff.rfl
 ·exact Iff.rfl
theorem Ns.act_gt (a : Ns) {s : Nat} (hs : s < 40) : a.act (qGt s) = (a, ⟨0, a.pcs s, []⟩) := by
 unfold Ns.act qGt
 simp [show (s : Int) < 40 by omega]
end Go.Proofs.YtelmcchleclklaaGreat
namespace Go.Proofs.YtelmcchleclklaaGreat
open Go.RowKit Go.Sort
set_option maxRecDepth 100000
set_option maxHeartbeats 1000000

theorem Wp.Fit.cal {s : Wp} {m n : Nat} {q : Rq} (h : s.Fit m) (hn : n < 8) (hD : ∀ j, j < q.n → q.D j < 256) : (s.call n q).1.Fit (m + 3) := h.call hn hD (a := (s.call n q).2) rfl
theorem none_lt {q : Rq} (h : q.n = 0) : ∀ j, j < q.n → q.D j < 256 := fun j hj => absurd hj (by omega)
theorem Wp.Fit.done {s : Wp} {m n : Nat} {q : Rq} (h : s.Fit m) (hn : n < 8) (hD : ∀ j, j < q.n → q.D j < 256) : (s.done n q).1.Fit (m + 6) := by
 have h1 := h.cal (q := q) hn hD
 unfold Wp.done
 split
 ·next s1 c e => rw [e] at h1; exact h1.mono (by omega)
 ·next s1 y e =>
  rw [e] at h1
  have h2 := h1.cal (n := n) (q := qFl) hn (none_lt rfl)
  split
  ·next s2 c e2 => rw [e2] at h2; exact h2
  ·next s2 z e2 => rw [e2] at h2; exact h2
theorem Wp.Fit.rels {n : Nat} (hn : n < 8) : ∀ (l : List It) (s : Wp) (m : Nat), s.Fit m → (s.rels n l).Fit (m + 3 * l.length)
 | [], s, m, h => h
 | x :: l, s, m, h => by
  have h1 := Wp.Fit.rels hn l _ _ (h.cal (n := n) (q := qRl x.s x.g) hn (none_lt rfl))
  refine Wp.Fit.mono (s := (s.rels n (x :: l))) h1 (by simp only [List.length_cons]; omega)
theorem Wp.its_le {s s' : Wp} {n : Nat} {y : Ns × Rp} (e : s.call n qIn = (s', .ok y)) : y.2.its.length ≤ 16 := by
 obtain ⟨a, _, h2, _⟩ := Wp.tries_some (P := fun _ => True) (fun _ _ => trivial) (fun _ _ => trivial) 3 s trivial e
 rw [h2, Ns.act_in]
 show ((liveT a.R).map (·.2)).length ≤ 16
 rw [List.length_map, liveT_len]
 exact colR_len _ _
theorem Ep.fit_sweep (e : Ep) {s : Wp} {m n : Nat} (h : s.Fit m) (hn : n < 8) : (e.sweep s n).Fit (m + 51) := by
 have h1 := h.cal (n := n) (q := qIn) hn (none_lt rfl)
 unfold Ep.sweep
 split
 ·next s1 c e1 => rw [e1] at h1; exact h1.mono (by omega)
 ·next s1 y e1 =>
  have hl := Wp.its_le e1
  rw [e1] at h1
  have h2 := List.length_filter_le e.rel y.2.its
  exact (Wp.Fit.rels hn (y.2.its.filter e.rel) s1 _ h1).mono (by omega)
theorem Ep.fit_logs (e : Ep) {s : Wp} {m n : Nat} {q : Rq} (h : s.Fit m) (hn : n < 8) (hD : ∀ j, j < q.n → q.D j < 256) : (e.logs s n q).1.Fit (m + 63) := by
 have h1 := h.done (q := q) hn hD
 unfold Ep.logs
 split
 ·exact ((e.fit_sweep h1 hn).done hn hD).mono (by omega)
 ·exact h1.mono (by omega)
theorem Ep.fit_askN {e : Ep} {m st : Nat} {q : Rq} (h : e.w.Fit m) (hD : ∀ j, j < q.n → q.D j < 256) : ∀ k, (e.askN q st k).1.Fit (m + 63 * k)
 | 0 => by rw [Ep.askN_zero]; exact h
 | k + 1 => by
  have ih := Ep.fit_askN h hD k (st := st)
  have h2 := e.fit_logs (n := logN st k) ih (by unfold logN; omega) hD
  rw [Ep.askN_succ]
  split
  ·exact ih.mono (by omega)
  ·split <;> exact h2.mono (by omega)
theorem Wp.fit_puts {s : Wp} {m st g : Nat} {C : Nat → Nat → Nat} (h : s.Fit m) (hC : ∀ i j, j < 32 → C i j < 256) : ∀ k, (s.puts st g C k).1.Fit (m + 6 * k)
 | 0 => by rw [Wp.puts_zero]; exact h
 | k + 1 => by
  have ih := Wp.fit_puts h hC k (st := st) (g := g)
  rw [Wp.puts_succ]
  exact (ih.done (n := nodeN st k) (by unfold nodeN; omega) (fun j hj => hC k j hj)).mono (by omega)
theorem Wp.fit_relAll {s : Wp} {m st g : Nat} (h : s.Fit m) : ∀ k, k ≤ 8 → (s.relAll st g k).Fit (m + 3 * k)
 | 0, _ => by rw [Wp.relAll_zero]; exact h
 | k + 1, hk => by
  have ih := Wp.fit_relAll h k (by omega) (st := st) (g := g)
  rw [Wp.relAll_succ]
  exact (ih.cal (by omega) (none_lt rfl)).mono (by omega)
theorem Ep.fit_fin {e : Ep} {m st : Nat} {C : Nat → Nat → Nat} (h : e.w.Fit m) (hC : ∀ i j, j < 32 → C i j < 256) : (e.fin st C).w.Fit (m + 60) := by
 have h1 := Wp.fit_puts h hC 6 (st := st) (g := e.gen st)
 have h2 := Wp.fit_relAll h1 8 (Nat.le_refl _) (st := st) (g := e.gen st)
 unfold Ep.fin
 dsimp only
 split
 ·exact h2.mono (by omega)
 ·exact h1.mono (by omega)
theorem Ep.fit_write {e : Ep} {m st : Nat} {E : (Nat → Nat) → Nat → Nat → Nat} {D : Nat → Nat} (h : e.w.Fit m) (hD : ∀ j, j < 128 → D j < 256) (hE : ∀ i j, j < 32 → E D i j < 256) : (e.write E st D).1.w.Fit (m + 564) := by
 have h1 := Ep.fit_askN (e := e.up st) (q := qLg st (e.next st) D) (st := st) h (fun j hj => hD j hj) 8
 unfold Ep.write Ep.carry
 dsimp only
 by_cases hk : ((e.up st).askN (qLg st (e.next st) D) st 8).2.1 < 3
 ·rw [if_pos hk]
  exact h1.mono (by omega)
 ·rw [if_neg hk]
  exact (Ep.fit_fin (e := (e.up st).held ((e.up st).askN (qLg st (e.next st) D) st 8).1 st (e.next st) D) (m := m + 63 * 8) h1 hE).mono (by omega)
theorem Ep.write_next (E : (Nat → Nat) → Nat → Nat → Nat) (e : Ep) (st : Nat) (D : Nat → Nat) : (e.write E st D).1.next = (e.up st).next := by
 unfold Ep.write Ep.carry Ep.fin Ep.held
 dsimp only
 repeat' split
 all_goals rfl
theorem Ep.fit_getN {e : Ep} {m st : Nat} (h : e.w.Fit m) : ∀ k, (e.getN st k).1.Fit (m + 3 * k)
 | 0 => by rw [Ep.getN_zero]; exact h
 | k + 1 => by
  have ih := Ep.fit_getN h k (st := st)
  have h2 := ih.cal (n := nodeN st k) (q := qGt st) (by unfold nodeN; omega) (none_lt rfl)
  by_cases h4 : 4 ≤ (e.getN st k).2.1.length
  ·rw [Ep.getN_full h4]; exact ih.mono (by omega)
  ·obtain ⟨x, hx⟩ : ∃ x, (e.getN st k).1.call (nodeN st k) (qGt st) = x := ⟨_, rfl⟩
   rw [hx] at h2
   obtain ⟨s1, a⟩ := x
   cases a with
   | err c => rw [Ep.getN_err h4 hx]; exact h2.mono (by omega)
   | ok y =>
    cases hp : pieceOf y.2.ps (e.gen st) k with
    | some p => rw [Ep.getN_some h4 hx hp]; exact h2.mono (by omega)
    | none => rw [Ep.getN_none h4 hx hp]; exact h2.mono (by omega)
end Go.Proofs.YtelmcchleclklaaGreat
namespace Go.Proofs.YtelmcchleclklaaGreat
open Go.RowKit Go.Sort
set_option maxRecDepth 100000
set_option maxHeartbeats 1000000

def cPc (a : Ns) (s gn i : Nat) (p : Pc) : Bool := decide (p.g = gn) && decide (p.i = i) && !decide (2 * s + gn % 2 ∈ a.t.pend.map (·.1))
def cIt (s gn : Nat) (D : Nat → Nat) (x : It) : Bool := decide (x.s = s) && decide (x.g = gn) && decide ((List.range 128).map x.D = (List.range 128).map D)
theorem countP_srt (f : Pc → Bool) (l : List Pc) : (srt l).countP f = l.countP f := by
 unfold srt
 split
 ·split
  ·simp only [List.countP_cons, List.countP_nil]
   omega
  ·rfl
 ·rfl
theorem count_has {a : Ns} {s gn i : Nat} (ho : a.Ok) (h : a.HasF s gn i) : (a.pcs s).countP (cPc a s gn i) = 1 := by
 obtain ⟨D, hb⟩ := h
 have hpn : decide (2 * s + gn % 2 ∈ a.t.pend.map (·.1)) = false := by
  rw [decide_eq_false_iff_not, List.mem_map]
  rintro ⟨e, he, h2⟩
  exact hb.2 e he h2
 have h1 : (a.t.now (2 * s + gn % 2)).pc?.toList.countP (cPc a s gn i) = 1 := by
  rw [hb.now]
  simp [Ct.pc?, cPc, hpn]
 have hx : ∀ k, k ≠ 2 * s + gn % 2 → k = 2 * s ∨ k = 2 * s + 1 → (a.t.now k).pc?.toList.countP (cPc a s gn i) = 0 := by
  intro k hk h2
  cases hq : (a.t.now k).pc? with
  | none => rfl
  | some q =>
   have h3 := (ho.td.now k).1
   rw [pc?_some hq] at h3
   have h4 : 2 * q.s + q.g % 2 = k := h3.2
   have h5 : q.g ≠ gn := fun e => by rw [e] at h4; omega
   simp [cPc, h5]
 unfold Ns.pcs two
 rw [countP_srt, List.countP_append]
 rcases Nat.mod_two_eq_zero_or_one gn with hg | hg
 ·rw [hg] at h1 hx
  rw [hx (2 * s + 1) (by omega) (Or.inr rfl)]
  exact h1
 ·rw [hg] at h1 hx
  rw [hx (2 * s) (by omega) (Or.inl rfl), h1]
theorem count_int {a : Ns} {s gn : Nat} {D : Nat → Nat} (h : a.HasI s gn D) : 1 ≤ ((liveT a.R).map (·.2)).countP (cIt s gn D) := by
 obtain ⟨k, n, x, hk, e, _, e1, e2, e3⟩ := h
 rw [Nat.one_le_iff_ne_zero, Nat.ne_zero_iff_zero_lt, List.countP_pos_iff]
 refine ⟨x, List.mem_map.2 ⟨(n, x), (liveT_perm _).mem_iff.2 (colR_mem.2 ⟨k, hk, e⟩), rfl⟩, ?_⟩
 have : (List.range 128).map x.D = (List.range 128).map D := List.map_congr_left (fun j hj => e3 j (List.mem_range.1 hj))
 simp [cIt, e1, e2, this]
def idxN (s n : Nat) : Nat := (n + 8 - s % 8) % 8
theorem idxN_node {s n : Nat} (hn : n < 8) : nodeN s (idxN s n) = n := by
 unfold nodeN idxN
 omega
def cC1 (e : Ep) (s n : Nat) : Nat := if idxN s n < 6 then ((e.w.N n).pcs s).countP (cPc (e.w.N n) s (e.gen s) (idxN s n)) else 0
def cI1 (e : Ep) (s : Nat) (D : Nat → Nat) (n : Nat) : Nat := ((liveT (e.w.N n).R).map (·.2)).countP (cIt s (e.gen s) D)
def sumT (f : Nat → Nat) : Nat → Nat
 | 0 => 0
 | n + 1 => sumT f n + f n
theorem sumT_le {f : Nat → Nat} {b : Nat} (h : ∀ n, f n ≤ b) : ∀ n, sumT f n ≤ b * n
 | 0 => Nat.le_refl _
 | n + 1 => by
  have := sumT_le h n
  have := h n
  show sumT f n + f n ≤ b * (n + 1)
  rw [Nat.mul_succ]
  omega
theorem sumT_congr {f g : Nat → Nat} : ∀ n, (∀ k, k < n → f k = g k) → sumT f n = sumT g n
 | 0, _ => rfl
 | n + 1, h => by
  show sumT f n + f n = sumT g n + g n
  rw [sumT_congr n (fun k hk => h k (by omega)), h n (by omega)]
theorem sumT_ge {f : Nat → Nat} {l : List Nat} (h : ∀ n ∈ l, 1 ≤ f n) : ∀ n, ((List.range n).filter (fun k => decide (k ∈ l))).length ≤ sumT f n
 | 0 => Nat.le_refl _
 | n + 1 => by
  have ih := sumT_ge h n
  rw [List.range_succ, List.filter_append, List.length_append]
  show _ ≤ sumT f n + f n
  by_cases hn : n ∈ l
  ·have := h n hn
   rw [List.filter_cons_of_pos (by simp [hn])]
   simp
   omega
  ·rw [List.filter_cons_of_neg (by simp [hn])]
   simp
   omega
theorem sub_len : ∀ (l o : List Nat), l.Nodup → (∀ x ∈ l, x ∈ o) → l.length ≤ o.length
 | [], _, _, _ => Nat.zero_le _
 | x :: l, o, h, k => by
  have hx := k x (List.mem_cons_self ..)
  have h2 := List.nodup_cons.1 h
  have := sub_len l (o.erase x) h2.2 (fun y hy => (List.mem_erase_of_ne (fun e => h2.1 (by rw [← e]; exact hy))).2 (k y (List.mem_cons_of_mem _ hy)))
  rw [List.length_erase_of_mem hx] at this
  have : 0 < o.length := List.length_pos_of_mem hx
  show l.length + 1 ≤ o.length
  omega
theorem chunks_six {e : Ep} (h : e.Inv) (ho : ∀ i, i < 8 → (e.w.N i).Ok) {s : Nat} (hs : s < 4) (hp : e.pend s = none) (hg : e.gen s ≠ 0) : sumT (cC1 e s) 8 = 6 := by
 have h1 : ∀ n, n < 8 → cC1 e s n = if idxN s n < 6 then 1 else 0 := fun n hn => by
  unfold cC1
  split
  ·next hi =>
   have hf := h.fl s (by omega) hp hg (idxN s n) hi
   rw [idxN_node hn] at hf
   exact count_has (ho n hn) hf
  ·rfl
 rw [sumT_congr 8 h1]
 rcases (show s = 0 ∨ s = 1 ∨ s = 2 ∨ s = 3 by omega) with rfl | rfl | rfl | rfl <;> rfl
theorem ints_three {e : Ep} (h : e.Inv) {s : Nat} (hs : s < 40) {D : Nat → Nat} (hp : e.pend s = some D) : 3 ≤ sumT (cI1 e s D) 8 := by
 obtain ⟨l, l1, l2, l3⟩ := h.pd s D hs hp
 have h1 := sumT_ge (f := cI1 e s D) (l := l) (fun n hn => count_int (l3 n hn).2) 8
 have h2 := sub_len l ((List.range 8).filter (fun k => decide (k ∈ l))) l1 (fun x hx => List.mem_filter.2 ⟨List.mem_range.2 (l3 x hx).1, by simp [hx]⟩)
 omega
structure LaM (e : Ep) (f : Nat → Option (Nat × Int)) : Prop where
 gn : ∀ s b d, f s = some (b, d) → e.gen s ≠ 0
 pd : ∀ s b d D, f s = some (b, d) → e.pend s = some D → D = bytesF d
theorem LaM.same {e e' : Ep} {f : Nat → Option (Nat × Int)} (h : LaM e f) (hg : e'.gen = e.gen) (hp : e'.pend = e.pend) : LaM e' f :=
 ⟨fun s b d hf => by rw [hg]; exact h.gn s b d hf, fun s b d D hf hD => h.pd s b d D hf (by rw [← hp]; exact hD)⟩
theorem LaM.none_ (e : Ep) : LaM e (fun _ => none) := ⟨(fun s b d h => by cases h), (fun s b d D h => by cases h)⟩
theorem LaM.fail {e : Ep} {f : Nat → Option (Nat × Int)} (h : LaM e f) (E : (Nat → Nat) → Nat → Nat → Nat) (st : Nat) (D : Nat → Nat) (hr : (e.write E st D).2 ≠ none) : LaM (e.write E st D).1 f := by
 have hs : (e.write E st D).2.isSome = true := by
  cases hx : (e.write E st D).2 with
  | none => exact absurd hx hr
  | some l => rfl
 exact h.same (funext fun i => ((Ep.write_pend E e st D i).2.1 hs).2) (funext fun i => ((Ep.write_pend E e st D i).2.1 hs).1)
theorem LaM.good {e : Ep} {f : Nat → Option (Nat × Int)} (h : LaM e f) (E : (Nat → Nat) → Nat → Nat → Nat) {st : Nat} (hi : e.gen st < e.next st) (b : Nat) (d : Int) (hr : (e.write E st (bytesF d)).2 = none) : LaM (e.write E st (bytesF d)).1 (fun i => if i = st then some (b, d) else f i) := by
 refine ⟨fun s b' d' hf => ?_, fun s b' d' D hf hD => ?_⟩
 ·by_cases es : s = st
  ·subst es
   rw [((Ep.write_pend E e s (bytesF d) s).2.2 hr).1]
   omega
  ·try dsimp only at hf
   rw [if_neg es] at hf
   rw [((Ep.write_pend E e st (bytesF d) s).1 es).2]
   exact h.gn s b' d' hf
 ·by_cases es : s = st
  ·subst es
   try dsimp only at hf
   rw [if_pos rfl] at hf
   cases hf
   rcases ((Ep.write_pend E e s (bytesF d) s).2.2 hr).2 with h1 | h1
   ·rw [h1] at hD; cases hD
   ·rw [h1] at hD; cases hD; rfl
  ·try dsimp only at hf
   rw [if_neg es] at hf
   rw [((Ep.write_pend E e st (bytesF d) s).1 es).1] at hD
   exact h.pd s b' d' D hf hD
end Go.Proofs.YtelmcchleclklaaGreat
