import Derived.Test.YtelmcchleclklaaGreatDoorV28
namespace Go.Proofs.YtelmcchleclklaaGreatDoor
open Go.RowKit Go.Sort
set_option maxRecDepth 100000
set_option maxHeartbeats 1000000

theorem nodup_sub : ∀ (l o : List Nat), l.Nodup → (∀ x ∈ l, x ∈ o) → l.length ≤ o.length
 | [], _, _, _ => Nat.zero_le _
 | x :: l, o, hn, h => by
  obtain ⟨h1, h2⟩ := List.nodup_cons.1 hn
  have h3 := nodup_sub l (o.erase x) h2 (fun y hy => (List.mem_erase_of_ne (fun e => h1 (by rw [← e]; exact hy))).2 (h y (List.mem_cons_of_mem _ hy)))
  have h4 := h x (List.mem_cons_self ..)
  have h5 := List.length_erase_of_mem h4
  have h6 := List.length_pos_of_mem h4
  show l.length + 1 ≤ o.length
  omega
structure Ep.Tl (e : Ep) (F K : Nat) : Prop where
 inv : e.Inv
 calm : e.w.Calm
 lo : ∀ n y, Ent (e.w.N n) y → n < 8 → y.s < 5 ∧ y.g < e.next y.s
 up : cntW (fun y => decide (e.gen y.s < y.g)) e.w 8 ≤ 2 * F
 at3 : ∀ st, st < 5 → (e.pend st).isSome = true → cntW (fun y => decide (y.s = st) && decide (y.g = e.gen st)) e.w 8 ≤ 3
 nk : ∀ st, e.next st ≤ K
 pl : ∀ st, (e.pend st).isSome = true → st < 5
 ps : ∀ st, (e.pend st).isSome = true → e.gen st ≠ 0
theorem Ep.Tl.blocked {e : Ep} {F K : Nat} (h : e.Tl F K) : cntW (fun y => !e.rel y) e.w 8 ≤ 2 * F + 15 := by
 have hq : ∀ i, i < 5 → cntW (fun y => (e.pend i).isSome && (decide (y.s = i) && decide (y.g = e.gen i))) e.w 8 ≤ 3 := fun i hi => by
  cases hp : (e.pend i).isSome with
  | true =>
   refine Nat.le_trans (cntW_mono (fun y hy => ?_) e.w 8) (h.at3 i hi hp)
   simpa using hy
  | false =>
   exact Nat.le_trans (Nat.le_of_eq (cntW_none (fun y => Bool.false_and _) e.w 8)) (Nat.zero_le _)
 have hbig : cntW (fun y => decide (5 ≤ y.s)) e.w 8 = 0 := cntW_zero e.w 8 (fun n hn k x no hk hR => by
  have := (h.lo n x ⟨k, no, hk, hR⟩ hn).1
  simp
  omega)
 have c0 := cntW_or (p := fun y => (e.pend 3).isSome && (decide (y.s = 3) && decide (y.g = e.gen 3)) || ((e.pend 4).isSome && (decide (y.s = 4) && decide (y.g = e.gen 4)))) (p1 := fun y => (e.pend 3).isSome && (decide (y.s = 3) && decide (y.g = e.gen 3))) (p2 := fun y => (e.pend 4).isSome && (decide (y.s = 4) && decide (y.g = e.gen 4))) (fun y hy => by rw [Bool.or_eq_true] at hy; exact hy) e.w 8
 have c1 := cntW_or (p := fun y => (e.pend 1).isSome && (decide (y.s = 1) && decide (y.g = e.gen 1)) || ((e.pend 2).isSome && (decide (y.s = 2) && decide (y.g = e.gen 2)))) (p1 := fun y => (e.pend 1).isSome && (decide (y.s = 1) && decide (y.g = e.gen 1))) (p2 := fun y => (e.pend 2).isSome && (decide (y.s = 2) && decide (y.g = e.gen 2))) (fun y hy => by rw [Bool.or_eq_true] at hy; exact hy) e.w 8
 have c2 := cntW_or (p := fun y => ((e.pend 1).isSome && (decide (y.s = 1) && decide (y.g = e.gen 1)) || ((e.pend 2).isSome && (decide (y.s = 2) && decide (y.g = e.gen 2)))) || ((e.pend 3).isSome && (decide (y.s = 3) && decide (y.g = e.gen 3)) || ((e.pend 4).isSome && (decide (y.s = 4) && decide (y.g = e.gen 4))))) (p1 := fun y => (e.pend 1).isSome && (decide (y.s = 1) && decide (y.g = e.gen 1)) || ((e.pend 2).isSome && (decide (y.s = 2) && decide (y.g = e.gen 2)))) (p2 := fun y => (e.pend 3).isSome && (decide (y.s = 3) && decide (y.g = e.gen 3)) || ((e.pend 4).isSome && (decide (y.s = 4) && decide (y.g = e.gen 4)))) (fun y hy => by rw [Bool.or_eq_true] at hy; exact hy) e.w 8
 have c3 := cntW_or (p := fun y => (e.pend 0).isSome && (decide (y.s = 0) && decide (y.g = e.gen 0)) || (((e.pend 1).isSome && (decide (y.s = 1) && decide (y.g = e.gen 1)) || ((e.pend 2).isSome && (decide (y.s = 2) && decide (y.g = e.gen 2)))) || ((e.pend 3).isSome && (decide (y.s = 3) && decide (y.g = e.gen 3)) || ((e.pend 4).isSome && (decide (y.s = 4) && decide (y.g = e.gen 4)))))) (p1 := fun y => (e.pend 0).isSome && (decide (y.s = 0) && decide (y.g = e.gen 0))) (p2 := fun y => ((e.pend 1).isSome && (decide (y.s = 1) && decide (y.g = e.gen 1)) || ((e.pend 2).isSome && (decide (y.s = 2) && decide (y.g = e.gen 2)))) || ((e.pend 3).isSome && (decide (y.s = 3) && decide (y.g = e.gen 3)) || ((e.pend 4).isSome && (decide (y.s = 4) && decide (y.g = e.gen 4))))) (fun y hy => by rw [Bool.or_eq_true] at hy; exact hy) e.w 8
 obtain ⟨pp, hpp⟩ : ∃ pp : It → Bool, pp = fun y => (e.pend 0).isSome && (decide (y.s = 0) && decide (y.g = e.gen 0)) || (((e.pend 1).isSome && (decide (y.s = 1) && decide (y.g = e.gen 1)) || ((e.pend 2).isSome && (decide (y.s = 2) && decide (y.g = e.gen 2)))) || ((e.pend 3).isSome && (decide (y.s = 3) && decide (y.g = e.gen 3)) || ((e.pend 4).isSome && (decide (y.s = 4) && decide (y.g = e.gen 4))))) := ⟨_, rfl⟩
 rw [← hpp] at c3
 have c4 := cntW_or (p := fun y => decide (e.gen y.s < y.g) || (pp y || decide (5 ≤ y.s))) (p1 := fun y => decide (e.gen y.s < y.g)) (p2 := fun y => pp y || decide (5 ≤ y.s)) (fun y hy => by rw [Bool.or_eq_true] at hy; exact hy) e.w 8
 have c5 := cntW_or (p := fun y => pp y || decide (5 ≤ y.s)) (p1 := pp) (p2 := fun y => decide (5 ≤ y.s)) (fun y hy => by rw [Bool.or_eq_true] at hy; exact hy) e.w 8
 have c6 := cntW_mono (p := fun y => !e.rel y) (p' := fun y => decide (e.gen y.s < y.g) || (pp y || decide (5 ≤ y.s))) (fun y hy => by
  have hr : e.rel y = false := by simpa using hy
  unfold Ep.rel at hr
  by_cases h1 : e.gen y.s < y.g
  ·simp [h1]
  ·by_cases h5 : 5 ≤ y.s
   ·simp [h5]
   ·have h2 : y.g ≤ e.gen y.s := by omega
    rw [decide_eq_true h2, Bool.true_and] at hr
    have h3 : (e.pend y.s).isSome = true ∧ y.g = e.gen y.s := by simpa using hr
    rw [hpp]
    have h4 : y.s = 0 ∨ y.s = 1 ∨ y.s = 2 ∨ y.s = 3 ∨ y.s = 4 := by omega
    rcases h4 with h4 | h4 | h4 | h4 | h4 <;> (have h6 := h3.1; have h7 := h3.2; rw [h4] at h6 h7; simp [h4, h6, h7])) e.w 8
 have := hq 0 (by omega)
 have := hq 1 (by omega)
 have := hq 2 (by omega)
 have := hq 3 (by omega)
 have := hq 4 (by omega)
 have := h.up
 omega
theorem Ep.Tl.few {e : Ep} {F K st g : Nat} {D : Nat → Nat} {r : Wp × Nat × List (Nat × Nat)} (h : e.Tl F K) (a : AskC e st ⟨st, g, D⟩ 8 r) (hk : r.2.1 < 3) (o : List Nat) (ho : ∀ n, n < 8 → e.w.dn n = true → n ∈ o) : 16 * (8 - r.2.1 - o.length) ≤ 2 * F + 15 + r.2.1 := by
 have hall := a.all hk
 have h8 : ∀ z ∈ r.2.2, z.1 < 8 := fun z hz => by
  obtain ⟨j, _, ej⟩ := a.nd z hz
  rw [ej]
  unfold logN
  omega
 have hsp : ∀ l : List (Nat × Nat), (l.filter (fun z => decide (z.2 = 6))).length + (l.filter (fun z => decide (z.2 ≠ 6))).length = l.length := by
  intro l
  induction l with
  | nil => rfl
  | cons z l ih =>
   by_cases hz : z.2 = 6
   ·rw [List.filter_cons_of_pos (by simp [hz]), List.filter_cons_of_neg (by simp [hz])]
    simp only [List.length_cons]
    omega
   ·rw [List.filter_cons_of_neg (by simp [hz]), List.filter_cons_of_pos (by simp [hz])]
    simp only [List.length_cons]
    omega
 have hsum := hsp r.2.2
 have hnd : ∀ f : Nat × Nat → Bool, ((r.2.2.filter f).map (fun z : Nat × Nat => z.1)).Nodup := fun f => List.Pairwise.sublist (List.Sublist.map (fun z : Nat × Nat => z.1) (List.filter_sublist (p := f))) a.un
 have h4 : ((r.2.2.filter (fun z => decide (z.2 ≠ 6))).map (·.1)).length ≤ o.length := by
  refine nodup_sub _ _ (hnd _) (fun x hx => ?_)
  obtain ⟨z, hz, ez⟩ := List.mem_map.1 hx
  obtain ⟨hz1, hz2⟩ := List.mem_filter.1 hz
  rw [← ez]
  rcases a.er z hz1 with ⟨_, b⟩ | ⟨b, _⟩
  ·exact ho _ (h8 z hz1) b
  ·exact absurd b (by simpa using hz2)
 have h6 := cntW_ge (p := fun y => !e.rel y) (s := r.1) 8 ((r.2.2.filter (fun z => decide (z.2 = 6))).map (·.1)) (hnd _) (fun n hn => by
  obtain ⟨z, hz, ez⟩ := List.mem_map.1 hn
  obtain ⟨hz1, hz2⟩ := List.mem_filter.1 hz
  rw [← ez]
  rcases a.er z hz1 with ⟨b, _⟩ | ⟨_, _, b⟩
  ·rw [b] at hz2; simp at hz2
  ·exact ⟨h8 z hz1, b⟩)
 have hc := a.cnt (fun y => !e.rel y)
 have hb := h.blocked
 rw [List.length_map] at h4 h6
 split at hc <;> omega
structure Qt (s s' : Wp) : Prop where
 calm : s'.Calm
 dn : s'.dn = s.dn
 cnt : ∀ p : It → Bool, cntW p s' 8 ≤ cntW p s 8
 ent : ∀ n y, Ent (s'.N n) y → Ent (s.N n) y
theorem Qt.refl {s : Wp} (h : s.Calm) : Qt s s := ⟨h, rfl, fun _ => Nat.le_refl _, fun _ _ h => h⟩
theorem Qt.trans {a b c : Wp} (h : Qt a b) (k : Qt b c) : Qt a c := ⟨k.calm, k.dn.trans h.dn, fun p => Nat.le_trans (k.cnt p) (h.cnt p), fun n y x => h.ent n y (k.ent n y x)⟩
theorem Qt.hit {s : Wp} (h : s.Calm) (n : Nat) {q : Rq} (hq : q.k ≠ 3) : Qt s (s.hit n q) := ⟨h.hit n q, rfl, fun p => by
  have := cntW_hit p s n q 8
  rw [if_neg (fun x => hq x.1)] at this
  exact this, fun j y hy => by
  by_cases e : j = n
  ·subst e
   rw [Wp.hit_at] at hy
   rcases hy.act with h1 | h1
   ·exact h1
   ·exact absurd h1.1 hq
  ·rw [Wp.hit_far _ _ e] at hy
   exact hy⟩
theorem Qt.call {s : Wp} (h : s.Calm) (n : Nat) {q : Rq} (hq : q.k ≠ 3) : Qt s (s.call n q).1 := by
 cases hd : s.dn n with
 | true => rw [h.call_down hd]; exact Qt.refl h
 | false =>
  by_cases hc : ((s.N n).act q).2.code = 0
  ·rw [h.call_ok hd hc]; exact Qt.hit h n hq
  ·rw [h.call_no hd hc]; exact Qt.hit h n hq
theorem Qt.done {s : Wp} (h : s.Calm) (n : Nat) {q : Rq} (hq : q.k ≠ 3) : Qt s (s.done n q).1 := by
 cases hd : s.dn n with
 | true => rw [h.done_down hd]; exact Qt.refl h
 | false =>
  by_cases hc : ((s.N n).act q).2.code = 0
  ·rw [h.done_ok hd hc]; exact (Qt.hit h n hq).trans (Qt.hit (h.hit n q) n (q := qFl) (by show (4 : Int) ≠ 3; decide))
  ·rw [h.done_no hd hc]; exact Qt.hit h n hq
theorem Qt.puts {s : Wp} (h : s.Calm) (st g : Nat) (C : Nat → Nat → Nat) : ∀ m, Qt s (s.puts st g C m).1
 | 0 => by rw [Wp.puts_zero]; exact Qt.refl h
 | m + 1 => by
  have ih := Qt.puts h st g C m
  rw [Wp.puts_succ]
  exact ih.trans (Qt.done ih.calm _ (by show (2 : Int) ≠ 3; decide))
theorem Wp.puts_all {s : Wp} (h : s.Calm) (hd : ∀ n, n < 8 → s.dn n = false) {st g : Nat} (hs : st < 40) (h1 : 1 ≤ g) (h2 : g ≤ 1099511627776) (C : Nat → Nat → Nat) : ∀ m, m ≤ 6 → (s.puts st g C m).2 = true
 | 0, _ => by rw [Wp.puts_zero]
 | m + 1, hm => by
  have q := Qt.puts h st g C m
  have ih := Wp.puts_all h hd hs h1 h2 C m (by omega)
  rw [Wp.puts_succ, ih, q.calm.done_ok (by rw [q.dn]; exact hd _ (by unfold nodeN; omega)) (Ns.put_code hs h1 h2 (by omega))]
  rfl
theorem Qt.relAll {s : Wp} (h : s.Calm) (st g : Nat) : ∀ m, Qt s (s.relAll st g m)
 | 0 => by rw [Wp.relAll_zero]; exact Qt.refl h
 | m + 1 => by
  have ih := Qt.relAll h st g m
  rw [Wp.relAll_succ]
  exact ih.trans (Qt.call ih.calm _ (by show (6 : Int) ≠ 3; decide))
theorem Ep.Tl.turn {e : Ep} {F K : Nat} (h : e.Tl F K) {s : Wp} (q : Qt e.w s) (hi : ({ e with w := s } : Ep).Inv) : ({ e with w := s } : Ep).Tl F K :=
 ⟨hi, q.calm, fun n y hy hn => h.lo n y (q.ent n y hy) hn, Nat.le_trans (q.cnt _) h.up, fun st hs hp => Nat.le_trans (q.cnt _) (h.at3 st hs hp), h.nk, h.pl, h.ps⟩
theorem Ep.Tl.fin {e : Ep} {F K : Nat} (h : e.Tl F K) (hK : K ≤ 1000000) {st : Nat} (hs : st < 5) (hp : (e.pend st).isSome = true) (C : Nat → Nat → Nat) :
  (e.fin st C).Tl F K ∧ (e.fin st C).w.dn = e.w.dn ∧ (e.fin st C).gen = e.gen ∧ (e.fin st C).next = e.next ∧ (e.fin st C).doubt = e.doubt ∧ (∀ i, i ≠ st → (e.fin st C).pend i = e.pend i) ∧ ((e.fin st C).pend st = e.pend st ∨ (e.fin st C).pend st = none) ∧ ((∀ n, n < 8 → e.w.dn n = false) → (e.fin st C).pend st = none) := by
 have hi := h.inv.fin (st := st) (by omega) hp C
 have hg : e.gen st ≠ 0 := h.ps st hp
 have hgk : e.gen st ≤ K := by have := h.inv.nx st (by omega); have := h.nk st; omega
 have q1 := Qt.puts h.calm st (e.gen st) C 6
 have q2 := Qt.relAll q1.calm st (e.gen st) 8
 have q12 := q1.trans q2
 have hall : (∀ n, n < 8 → e.w.dn n = false) → (e.w.puts st (e.gen st) C 6).2 = true := fun hd => Wp.puts_all h.calm hd (by omega) (by omega) (by omega) C 6 (Nat.le_refl _)
 revert hi
 unfold Ep.fin
 dsimp only
 split
 ·next hb =>
  intro hi
  refine ⟨⟨hi, q12.calm, fun n y hy hn => h.lo n y (q12.ent n y hy) hn, Nat.le_trans (q12.cnt _) h.up, fun i hii hpp => ?_, h.nk, fun i hpp => ?_, fun i hpp => ?_⟩, q12.dn, rfl, rfl, rfl, fun i hn => if_neg hn, Or.inr (if_pos rfl), fun _ => if_pos rfl⟩
  ·have hpp2 : (if i = st then none else e.pend i).isSome = true := hpp
   split at hpp2
   ·cases hpp2
   ·exact Nat.le_trans (q12.cnt _) (h.at3 i hii hpp2)
  ·have hpp2 : (if i = st then none else e.pend i).isSome = true := hpp
   split at hpp2
   ·cases hpp2
   ·exact h.pl i hpp2
  ·have hpp2 : (if i = st then none else e.pend i).isSome = true := hpp
   split at hpp2
   ·cases hpp2
   ·exact h.ps i hpp2
 ·next hb =>
  intro hi
  exact ⟨h.turn q1 hi, q1.dn, rfl, rfl, rfl, fun _ _ => rfl, Or.inl rfl, fun hd => absurd (hall hd) hb⟩
structure WrC (e e' : Ep) (st : Nat) (D : Nat → Nat) (r : Option (List (Nat × Nat))) : Prop where
 dn : e'.w.dn = e.w.dn
 gen : ∀ i, i ≠ st → e'.gen i = e.gen i
 dbt : ∀ i, i ≠ st → e'.doubt i = e.doubt i
 pnd : ∀ i, i ≠ st → e'.pend i = e.pend i
 ok : r = none → e.gen st < e'.gen st ∧ e'.doubt st = false ∧ (e'.pend st = none ∨ e'.pend st = some D) ∧ ((∀ n, n < 8 → e.w.dn n = false) → e'.pend st = none)
 no : ∀ l, r = some l → e'.gen st = e.gen st ∧ e'.doubt st = true ∧ e'.pend st = e.pend st ∧ l ≠ [] ∧ ∀ z ∈ l, z.1 < 8 ∧ ((z.2 = 4 ∧ e.w.dn z.1 = true) ∨ z.2 = 6)
theorem Ep.Tl.write {e : Ep} {F K : Nat} (h : e.Tl F K) (hK : K ≤ 999999) {st : Nat} (hs : st < 5) (E : (Nat → Nat) → Nat → Nat → Nat) (D : Nat → Nat) :
  WrC e (e.write E st D).1 st D (e.write E st D).2 ∧ ((e.write E st D).2 = none → (e.write E st D).1.Tl F (K + 1)) ∧ ((e.write E st D).2 ≠ none → (e.write E st D).1.Tl (F + 1) (K + 1)) ∧
  (∀ o : List Nat, (∀ n, n < 8 → e.w.dn n = true → n ∈ o) → (e.write E st D).2 ≠ none → ∃ k, k < 3 ∧ 16 * (8 - k - o.length) ≤ 2 * F + 15 + k) := by
 have hinv := h.inv.write (st := st) (by omega) E D
 obtain ⟨g, hg⟩ : ∃ g, e.next st = g := ⟨_, rfl⟩
 have hgn := h.inv.nx st (by omega)
 have hgk := h.nk st
 rw [hg] at hgn hgk
 have hU : (e.up st).Tl F (K + 1) := by
  refine ⟨⟨h.inv.wf, fun i hi => ?_, h.inv.pd, h.inv.fl⟩, h.calm, fun n y hy hn => ?_, h.up, h.at3, fun i => ?_, h.pl, h.ps⟩
  ·show e.gen i < if i = st then e.next st + 1 else e.next i
   split
   ·next e2 => rw [e2]; omega
   ·exact h.inv.nx i hi
  ·obtain ⟨a, b⟩ := h.lo n y hy hn
   refine ⟨a, ?_⟩
   show y.g < if y.s = st then e.next st + 1 else e.next y.s
   split
   ·next e2 => rw [e2] at b; omega
   ·exact b
  ·show (if i = st then e.next st + 1 else e.next i) ≤ K + 1
   have := h.nk i
   split <;> omega
 have ha := askN_calm (e := e.up st) h.calm (st := st) (g := g) D (by omega) (by omega) (by omega) 8 (Nat.le_refl _)
 obtain ⟨r, hr⟩ : ∃ r, (e.up st).askN (qLg st g D) st 8 = r := ⟨_, rfl⟩
 rw [hr] at ha
 have hfew := fun hk o ho => hU.few ha hk o ho
 have hx : ∀ n y, Ent (r.1.N n) y → n < 8 → y.s < 5 ∧ y.g < (if y.s = st then e.next st + 1 else e.next y.s) := fun n y hy hn => by
  rcases ha.ent n y hy with h1 | h1
  ·exact hU.lo n y h1 hn
  ·rw [h1]
   refine ⟨hs, ?_⟩
   show g < if st = st then e.next st + 1 else e.next st
   rw [if_pos rfl]
   omega
 have hnk : ∀ i, (if i = st then e.next st + 1 else e.next i) ≤ K + 1 := hU.nk
 by_cases hk : r.2.1 < 3
 ·have ew : e.write E st D = ({ (e.up st) with w := r.1, doubt := fun i => if i = st then true else e.doubt i }, some r.2.2) := by
   unfold Ep.write Ep.carry
   dsimp only
   rw [hg, hr, if_pos hk]
   rfl
  rw [ew] at hinv ⊢
  refine ⟨⟨ha.dn, fun _ _ => rfl, fun i hi => if_neg hi, fun _ _ => rfl, (fun x => by cases x), fun l hl => ?_⟩, (fun x => by cases x), fun _ => ?_, fun o ho _ => ⟨r.2.1, hk, hfew hk o ho⟩⟩
  ·cases hl
   refine ⟨rfl, if_pos rfl, rfl, fun hn => ?_, fun z hz => ⟨?_, ?_⟩⟩
   ·have := ha.all hk
    rw [hn] at this
    simp at this
    omega
   ·obtain ⟨j, _, ej⟩ := ha.nd z hz
    rw [ej]
    unfold logN
    omega
   ·rcases ha.er z hz with b | b
    ·exact Or.inl b
    ·exact Or.inr b.1
  ·refine ⟨hinv, ha.calm, hx, ?_, fun i hi hp => ?_, hnk, h.pl, h.ps⟩
   ·have h1 := ha.cnt (fun y => decide (e.gen y.s < y.g))
    have h2 := h.up
    show cntW (fun y => decide (e.gen y.s < y.g)) r.1 8 ≤ 2 * (F + 1)
    have h3 : (e.up st).w = e.w := rfl
    rw [h3] at h1
    split at h1 <;> omega
   ·have h1 := ha.cnt (fun y => decide (y.s = i) && decide (y.g = e.gen i))
    have h2 := h.at3 i hi hp
    have h3 : (e.up st).w = e.w := rfl
    rw [h3, if_neg (by
     intro hh
     simp at hh
     have e5 := hh.2
     rw [← hh.1] at e5
     omega)] at h1
    show cntW (fun y => decide (y.s = i) && decide (y.g = e.gen i)) r.1 8 ≤ 3
    omega
 ·have hc3 : r.2.1 = 3 := by have := ha.le; omega
  have ew : e.write E st D = (((e.up st).held r.1 st g D).fin st (E D), none) := by
   unfold Ep.write Ep.carry
   dsimp only
   rw [hg, hr, if_neg hk]
   rfl
  have hH : ((e.up st).held r.1 st g D).Tl F (K + 1) := by
   have hinv0 : ((e.up st).held r.1 st g D).Inv := by
    have hk2 := Kp.askN (e.up st) st g D 8
    have hg2 : ¬ (e.up st).Rel st g := fun x => by have := x.1; have e6 : (e.up st).gen st = e.gen st := rfl; omega
    have hl := Ep.askN_has (D := D) hU.inv.wf hg2 8 (Nat.le_refl _)
    have hi2 := hU.inv.step hk2 (fun i _ hp x => x.2 ⟨hp, rfl⟩) (fun _ _ _ f => f)
    rw [hr] at hl hi2
    obtain ⟨l, l1, l2, l3⟩ := hl
    refine ⟨hi2.wf, fun i hii => ?_, fun i D' hii hd => ?_, fun i hii hn hgg j hj => ?_⟩
    ·show (if i = st then g else e.gen i) < if i = st then e.next st + 1 else e.next i
     split
     ·omega
     ·exact h.inv.nx i hii
    ·have hd2 : (if i = st then some D else e.pend i) = some D' := hd
     show ∃ l : List Nat, l.Nodup ∧ 3 ≤ l.length ∧ ∀ n ∈ l, n < 8 ∧ (r.1.N n).HasI i (if i = st then g else e.gen i) D'
     split at hd2
     ·next e2 =>
      cases hd2
      rw [if_pos e2, e2]
      exact ⟨l, l1, by omega, fun n hn => ⟨by obtain ⟨j, _, ej⟩ := (l3 n hn).1; rw [ej]; unfold logN; omega, (l3 n hn).2⟩⟩
     ·next ne =>
      rw [if_neg ne]
      exact hi2.pd i D' hii hd2
    ·have hn2 : (if i = st then some D else e.pend i) = none := hn
     have hg3 : (if i = st then g else e.gen i) ≠ 0 := hgg
     show (r.1.N (nodeN i j)).HasF i (if i = st then g else e.gen i) j
     split at hn2
     ·cases hn2
     ·next ne =>
      rw [if_neg ne] at hg3 ⊢
      exact hi2.fl i hii hn2 hg3 j hj
   refine ⟨hinv0, ha.calm, hx, ?_, fun i hi hp => ?_, hnk, fun i hp => ?_, fun i hp => ?_⟩
   ·show cntW (fun y => decide ((if y.s = st then g else e.gen y.s) < y.g)) r.1 8 ≤ 2 * F
    have z1 : cntW (fun y => decide (y.s = st) && decide (g < y.g)) r.1 8 = 0 := cntW_zero r.1 8 (fun n hn k x no hkk hR => by
     have := (hx n x ⟨k, no, hkk, hR⟩ hn).2
     by_cases e5 : x.s = st
     ·rw [if_pos e5] at this
      simp
      omega
     ·simp [e5])
    have z2 := ha.cnt (fun y => decide (y.s ≠ st) && decide (e.gen y.s < y.g))
    rw [if_neg (by simp)] at z2
    have z3 := cntW_mono (p := fun y => decide (y.s ≠ st) && decide (e.gen y.s < y.g)) (p' := fun y => decide (e.gen y.s < y.g)) (fun y hy => by rw [Bool.and_eq_true] at hy; exact hy.2) e.w 8
    have z4 := cntW_or (p := fun y => decide ((if y.s = st then g else e.gen y.s) < y.g)) (p1 := fun y => decide (y.s = st) && decide (g < y.g)) (p2 := fun y => decide (y.s ≠ st) && decide (e.gen y.s < y.g)) (fun y hy => by
     by_cases e5 : y.s = st
     ·rw [if_pos e5] at hy
      exact Or.inl (by simp [e5]; simpa using hy)
     ·rw [if_neg e5] at hy
      exact Or.inr (by simp [e5]; simpa using hy)) r.1 8
    have z5 := h.up
    have h3 : (e.up st).w = e.w := rfl
    rw [h3] at z2
    omega
   ·show cntW (fun y => decide (y.s = i) && decide (y.g = if i = st then g else e.gen i)) r.1 8 ≤ 3
    have h3 : (e.up st).w = e.w := rfl
    by_cases e2 : i = st
    ·subst e2
     rw [if_pos rfl]
     have h1 := ha.cnt (fun y => decide (y.s = i) && decide (y.g = g))
     have z1 : cntW (fun y => decide (y.s = i) && decide (y.g = g)) e.w 8 = 0 := cntW_zero e.w 8 (fun n hn k x no hkk hR => by
      have := (h.lo n x ⟨k, no, hkk, hR⟩ hn).2
      by_cases e5 : x.s = i
      ·rw [e5] at this
       simp
       omega
      ·simp [e5])
     rw [h3, z1] at h1
     split at h1 <;> omega
    ·rw [if_neg e2]
     have hp2 : (if i = st then some D else e.pend i).isSome = true := hp
     rw [if_neg e2] at hp2
     have h1 := ha.cnt (fun y => decide (y.s = i) && decide (y.g = e.gen i))
     have h2 := h.at3 i hi hp2
     rw [h3, if_neg (by
      intro hh
      simp at hh
      exact e2 hh.1.symm)] at h1
     omega
   ·have hp2 : (if i = st then some D else e.pend i).isSome = true := hp
    split at hp2
    ·next e2 => omega
    ·exact h.pl i hp2
   ·show (if i = st then g else e.gen i) ≠ 0
    have hp2 : (if i = st then some D else e.pend i).isSome = true := hp
    split at hp2
    ·next e2 => rw [if_pos e2]; omega
    ·next e2 => rw [if_neg e2]; exact h.ps i hp2
  obtain ⟨f1, f2, f3, f4, f5, f6, f7, f8⟩ := hH.fin (by omega) hs (by show (if st = st then some D else e.pend st).isSome = true; rw [if_pos rfl]; rfl) (E D)
  rw [ew]
  have hhp : ((e.up st).held r.1 st g D).pend st = some D := if_pos rfl
  refine ⟨⟨f2.trans ha.dn, fun i hi => ?_, fun i hi => ?_, fun i hi => ?_, fun _ => ⟨?_, ?_, ?_, fun hd => f8 (fun n hn => by show r.1.dn n = false; rw [ha.dn]; exact hd n hn)⟩, (fun l hl => by cases hl)⟩, fun _ => f1, fun x => absurd rfl x, fun _ _ x => absurd rfl x⟩
  ·rw [f3]; exact if_neg hi
  ·rw [f5]; exact if_neg hi
  ·rw [f6 i hi]; exact if_neg hi
  ·rw [f3]
   show e.gen st < if st = st then g else e.gen st
   rw [if_pos rfl]
   exact hgn
  ·rw [f5]; exact if_pos rfl
  ·rcases f7 with f7 | f7
   ·rw [hhp] at f7; exact Or.inr f7
   ·exact Or.inl f7
end Go.Proofs.YtelmcchleclklaaGreatDoor
