import Derived.Test.YtelmcchleclklaaGreatDoorV29
import Derived.Test.YtelmcchleclklaaGreatDoorV27
import Derived.Maps.OwnOps
import Derived.Test.YtelmcchleclklaaGreatDoorV26
import Derived.Test.YtelmcchleclklaaGreatDoorV12
namespace Go.Proofs.YtelmcchleclklaaGreatDoor
open Go.RowKit Go.Sort
set_option maxRecDepth 100000
set_option maxHeartbeats 1000000

def pieceOf (l : List Pc) (g i : Nat) : Option Pc := l.find? (fun p => decide (p.g = g) && decide (p.i = i))
def Ep.getN (e : Ep) (st : Nat) : Nat → Wp × List (Nat × (Nat → Nat)) × List (Nat × Nat)
 | 0 => (e.w, [], [])
 | m + 1 => let r := e.getN st m
  if 4 ≤ r.2.1.length then r else
   match r.1.call (nodeN st m) (qGt st) with
   | (s1, .err c) => (s1, r.2.1, r.2.2 ++ [(nodeN st m, c)])
   | (s1, .ok y) => match pieceOf y.2.ps (e.gen st) m with
    | some p => (s1, r.2.1 ++ [(m, p.D)], r.2.2)
    | none => (s1, r.2.1, r.2.2 ++ [(nodeN st m, 7)])
theorem Ep.getN_zero (e : Ep) (st : Nat) : e.getN st 0 = (e.w, [], []) := rfl
theorem Ep.getN_full {e : Ep} {st m : Nat} (h : 4 ≤ (e.getN st m).2.1.length) : e.getN st (m + 1) = e.getN st m := by
 show (if 4 ≤ (e.getN st m).2.1.length then e.getN st m else _) = _
 rw [if_pos h]
theorem Ep.getN_err {e : Ep} {st m c : Nat} {s1 : Wp} (h : ¬ 4 ≤ (e.getN st m).2.1.length) (hc : (e.getN st m).1.call (nodeN st m) (qGt st) = (s1, .err c)) : e.getN st (m + 1) = (s1, (e.getN st m).2.1, (e.getN st m).2.2 ++ [(nodeN st m, c)]) := by
 show (if 4 ≤ (e.getN st m).2.1.length then e.getN st m else _) = _
 rw [if_neg h, hc]
theorem Ep.getN_some {e : Ep} {st m : Nat} {s1 : Wp} {y : Ns × Rp} {p : Pc} (h : ¬ 4 ≤ (e.getN st m).2.1.length) (hc : (e.getN st m).1.call (nodeN st m) (qGt st) = (s1, .ok y)) (hp : pieceOf y.2.ps (e.gen st) m = some p) : e.getN st (m + 1) = (s1, (e.getN st m).2.1 ++ [(m, p.D)], (e.getN st m).2.2) := by
 show (if 4 ≤ (e.getN st m).2.1.length then e.getN st m else _) = _
 rw [if_neg h, hc]
 dsimp only
 rw [hp]
theorem Ep.getN_none {e : Ep} {st m : Nat} {s1 : Wp} {y : Ns × Rp} (h : ¬ 4 ≤ (e.getN st m).2.1.length) (hc : (e.getN st m).1.call (nodeN st m) (qGt st) = (s1, .ok y)) (hp : pieceOf y.2.ps (e.gen st) m = none) : e.getN st (m + 1) = (s1, (e.getN st m).2.1, (e.getN st m).2.2 ++ [(nodeN st m, 7)]) := by
 show (if 4 ≤ (e.getN st m).2.1.length then e.getN st m else _) = _
 rw [if_neg h, hc]
 dsimp only
 rw [hp]
attribute [irreducible] Ep.getN
inductive Got where
 | no (l : List (Nat × Nat))
 | yes (D : Nat → Nat)
def Ep.fetch (dec : List (Nat × (Nat → Nat)) → Nat → Nat) (e : Ep) (st : Nat) : Wp × Got :=
 match e.pend st with
 | some D => (e.w, .yes D)
 | none => if e.gen st = 0 then (e.w, .yes (fun _ => 0)) else if (e.getN st 6).2.1.length < 4 then ((e.getN st 6).1, .no (e.getN st 6).2.2) else ((e.getN st 6).1, .yes (dec (e.getN st 6).2.1))
def Ep.read (E : (Nat → Nat) → Nat → Nat → Nat) (dec : List (Nat × (Nat → Nat)) → Nat → Nat) (e : Ep) (st : Nat) : Ep × Got :=
 match e.fetch dec st with
 | (s, .no l) => ({ e with w := s }, .no l)
 | (s, .yes D) => if e.doubt st = true then (match ({ e with w := s } : Ep).write E st D with
   | (e2, some l) => (e2, .no l)
   | (e2, none) => (e2, .yes D)) else ({ e with w := s }, .yes D)
theorem srt_mem (l : List Pc) (p : Pc) : p ∈ srt l ↔ p ∈ l := by
 unfold srt
 split
 ·split
  ·simp only [List.mem_cons, List.not_mem_nil, or_false]
   exact Or.comm
  ·exact Iff.rfl
 ·exact Iff.rfl
theorem Ns.HasF.piece {a : Ns} {s g i : Nat} (h : a.HasF s g i) : ∃ p, pieceOf (a.pcs s) g i = some p := by
 obtain ⟨D, hD⟩ := h
 have hn := hD.now
 cases hf : pieceOf (a.pcs s) g i with
 | some p => exact ⟨p, rfl⟩
 | none =>
  exfalso
  unfold pieceOf at hf
  have h2 := List.find?_eq_none.1 hf ⟨s, g, i, D⟩ (by
   unfold Ns.pcs two
   rw [srt_mem, List.mem_append]
   rcases Nat.mod_two_eq_zero_or_one g with h0 | h0
   ·rw [h0, Nat.add_zero] at hn
    rw [hn]
    exact Or.inl (by simp [Ct.pc?])
   ·rw [h0] at hn
    rw [hn]
    exact Or.inr (by simp [Ct.pc?]))
  simp at h2
theorem Ns.act_gt (a : Ns) {s : Nat} (hs : s < 40) : a.act (qGt s) = (a, ⟨0, a.pcs s, []⟩) := by
 unfold Ns.act qGt
 simp [show (s : Int) < 40 by omega]
structure GetC (e : Ep) (st m : Nat) (r : Wp × List (Nat × (Nat → Nat)) × List (Nat × Nat)) : Prop where
 qt : Qt e.w r.1
 kp : Kp e.w r.1 (fun _ _ => False) (fun _ => False)
 er : ∀ z ∈ r.2.2, z.2 = 4 ∧ e.w.dn z.1 = true
 nd : ∀ z ∈ r.2.2, ∃ j, j < m ∧ z.1 = nodeN st j
 un : (r.2.2.map (fun z : Nat × Nat => z.1)).Nodup
 all : r.2.1.length < 4 → r.2.1.length + r.2.2.length = m
theorem getN_calm {e : Ep} (h : e.w.Calm) {st : Nat} (hs : st < 40) (hf : ∀ i, i < 6 → (e.w.N (nodeN st i)).HasF st (e.gen st) i) : ∀ m, m ≤ 6 → GetC e st m (e.getN st m)
 | 0, _ => by
  rw [Ep.getN_zero]
  exact ⟨Qt.refl h, Kp.refl _ _ _, (fun z hz => by cases hz), (fun z hz => by cases hz), List.nodup_nil, fun _ => rfl⟩
 | m + 1, hm => by
  have ih := getN_calm h hs hf m (by omega)
  by_cases h4 : 4 ≤ (e.getN st m).2.1.length
  ·rw [Ep.getN_full h4]
   exact ⟨ih.qt, ih.kp, ih.er, fun z hz => by obtain ⟨j, hj, ej⟩ := ih.nd z hz; exact ⟨j, by omega, ej⟩, ih.un, fun hlt => by omega⟩
  ·have hne : ∀ z ∈ (e.getN st m).2.2, z.1 ≠ nodeN st m := fun z hz ez => by
    obtain ⟨j, hj, ej⟩ := ih.nd z hz
    have := nodeN_inj (by omega) (by omega) (ej.symm.trans ez)
    omega
   have hnd : ∀ z ∈ (e.getN st m).2.2, ∃ j, j < m + 1 ∧ z.1 = nodeN st j := fun z hz => by obtain ⟨j, hj, ej⟩ := ih.nd z hz; exact ⟨j, by omega, ej⟩
   have hlen := ih.all (by omega)
   cases hd : (e.getN st m).1.dn (nodeN st m) with
   | true =>
    rw [Ep.getN_err h4 (ih.qt.calm.call_down hd _)]
    refine ⟨ih.qt, ih.kp, fun z hz => ?_, fun z hz => ?_, ?_, fun hlt => ?_⟩
    ·rcases List.mem_append.1 hz with hz | hz
     ·exact ih.er z hz
     ·rw [List.mem_singleton] at hz
      subst hz
      exact ⟨rfl, by rw [← ih.qt.dn]; exact hd⟩
    ·rcases List.mem_append.1 hz with hz | hz
     ·exact hnd z hz
     ·rw [List.mem_singleton] at hz
      subst hz
      exact ⟨m, by omega, rfl⟩
    ·show (((e.getN st m).2.2 ++ [(nodeN st m, 4)]).map (fun z : Nat × Nat => z.1)).Nodup
     rw [List.map_append]
     refine List.nodup_append.2 ⟨ih.un, by simp, fun x hx y hy exy => ?_⟩
     have hy2 : y = nodeN st m := by simpa using hy
     obtain ⟨z, hz, ez⟩ := List.mem_map.1 hx
     exact hne z hz (ez.trans (exy.trans hy2))
    ·show (e.getN st m).2.1.length + ((e.getN st m).2.2 ++ [(nodeN st m, 4)]).length = m + 1
     rw [List.length_append, List.length_singleton]
     omega
   | false =>
    have hF : ((e.getN st m).1.N (nodeN st m)).HasF st (e.gen st) m := ih.kp.hf _ st _ m hs (fun f => f) (hf m (by omega))
    obtain ⟨p, hp⟩ := hF.piece
    have hc := ih.qt.calm.call_ok (q := qGt st) hd (by rw [Ns.act_gt _ hs])
    have hk := Kp.call (e.getN st m).1 (nodeN st m) (qGt st)
    have hq := Qt.call ih.qt.calm (nodeN st m) (q := qGt st) (by show (1 : Int) ≠ 3; decide)
    rw [hc] at hk hq
    rw [Ep.getN_some h4 hc (by rw [Ns.act_gt _ hs]; exact hp)]
    refine ⟨ih.qt.trans hq, ih.kp.trans (hk.mono (fun _ _ h => absurd h.1 (by show (1 : Int) ≠ 6; decide)) (fun _ h => absurd h.1 (by show (1 : Int) ≠ 2; decide))), ih.er, hnd, ih.un, fun hlt => ?_⟩
    show ((e.getN st m).2.1 ++ [(m, p.D)]).length + (e.getN st m).2.2.length = m + 1
    rw [List.length_append, List.length_singleton]
    omega
structure RdC (e e' : Ep) (st : Nat) (x : Got) : Prop where
 dn : e'.w.dn = e.w.dn
 gen : e.gen st ≤ e'.gen st
 geno : ∀ i, i ≠ st → e'.gen i = e.gen i
 dbt : ∀ i, i ≠ st → e'.doubt i = e.doubt i
 pnd : ∀ i, i ≠ st → e'.pend i = e.pend i
 ok : ∀ D, x = .yes D → e'.doubt st = false
 no : ∀ l, x = .no l → l ≠ [] ∧ ∀ z ∈ l, z.1 < 8 ∧ ((z.2 = 4 ∧ e.w.dn z.1 = true) ∨ z.2 = 6)
theorem Ep.Tl.read {e : Ep} {F K : Nat} (h : e.Tl F K) (hK : K ≤ 999999) {st : Nat} (hs : st < 5) (E : (Nat → Nat) → Nat → Nat → Nat) (dec : List (Nat × (Nat → Nat)) → Nat → Nat) :
  RdC e (e.read E dec st).1 st (e.read E dec st).2 ∧ (∃ F', F' ≤ F + 1 ∧ (e.read E dec st).1.Tl F' (K + 1) ∧ ((∃ D, (e.read E dec st).2 = .yes D) → F' = F)) ∧
  (∀ o : List Nat, o.length ≤ 2 → (∀ n, n < 8 → e.w.dn n = true → n ∈ o) → (∃ l, (e.read E dec st).2 = .no l) → ∃ k, k < 3 ∧ 16 * (8 - k - o.length) ≤ 2 * F + 15 + k) := by
 have hw : ∀ s : Wp, (q : Qt e.w s) → (k : Kp e.w s (fun _ _ => False) (fun _ => False)) → ({ e with w := s } : Ep).Tl F K := fun s q k => h.turn q (h.inv.step k (fun _ _ _ f => f) (fun _ _ _ f => f))
 have hup : ∀ {x : Ep} {F : Nat}, x.Tl F K → x.Tl F (K + 1) := fun {x F} t => ⟨t.inv, t.calm, t.lo, t.up, t.at3, fun i => by have := t.nk i; omega, t.pl, t.ps⟩
 -- a fetch that tells bytes
 have yes : ∀ (s : Wp) (D : Nat → Nat), Qt e.w s → Kp e.w s (fun _ _ => False) (fun _ => False) → e.fetch dec st = (s, .yes D) →
   RdC e (e.read E dec st).1 st (e.read E dec st).2 ∧ (∃ F', F' ≤ F + 1 ∧ (e.read E dec st).1.Tl F' (K + 1) ∧ ((∃ D, (e.read E dec st).2 = .yes D) → F' = F)) ∧
   (∀ o : List Nat, o.length ≤ 2 → (∀ n, n < 8 → e.w.dn n = true → n ∈ o) → (∃ l, (e.read E dec st).2 = .no l) → ∃ k, k < 3 ∧ 16 * (8 - k - o.length) ≤ 2 * F + 15 + k) := by
  intro s D q k hfe
  have t := hw s q k
  by_cases hb : e.doubt st = true
  ·obtain ⟨w1, w2, w3, w4⟩ := t.write hK hs E D
   have er : e.read E dec st = (match ({ e with w := s } : Ep).write E st D with
    | (e2, some l) => (e2, .no l)
    | (e2, none) => (e2, .yes D)) := by unfold Ep.read; rw [hfe]; dsimp only; rw [if_pos hb]
   obtain ⟨x, hx⟩ : ∃ x, ({ e with w := s } : Ep).write E st D = x := ⟨_, rfl⟩
   rw [hx] at w1 w2 w3 w4 er
   obtain ⟨e2, r⟩ := x
   cases r with
   | none =>
    rw [er]
    dsimp only at w1 w2 ⊢
    obtain ⟨o1, o2, o3, o4⟩ := w1.ok rfl
    exact ⟨⟨w1.dn.trans q.dn, Nat.le_of_lt o1, w1.gen, w1.dbt, w1.pnd, fun _ _ => o2, (fun l hl => by cases hl)⟩, ⟨F, by omega, w2 rfl, fun _ => rfl⟩, fun o _ _ ⟨l, hl⟩ => by cases hl⟩
   | some l =>
    rw [er]
    dsimp only at w1 w3 w4 ⊢
    obtain ⟨o1, o2, o3, o4, o5⟩ := w1.no l rfl
    refine ⟨⟨w1.dn.trans q.dn, Nat.le_of_eq o1.symm, w1.gen, w1.dbt, w1.pnd, (fun D' hD => by cases hD), fun l' hl => ?_⟩, ⟨F + 1, Nat.le_refl _, w3 (by simp), fun ⟨D', hD⟩ => by cases hD⟩, fun o _ ho _ => w4 o (fun n hn hd => ho n hn (by rw [← q.dn]; exact hd)) (by simp)⟩
    cases hl
    exact ⟨o4, fun z hz => by rw [← q.dn]; exact o5 z hz⟩
  ·have er : e.read E dec st = ({ e with w := s }, .yes D) := by unfold Ep.read; rw [hfe]; dsimp only; rw [if_neg hb]
   rw [er]
   exact ⟨⟨q.dn, Nat.le_refl _, fun _ _ => rfl, fun _ _ => rfl, fun _ _ => rfl, fun _ _ => by simpa using hb, (fun l hl => by cases hl)⟩, ⟨F, by omega, hup t, fun _ => rfl⟩, fun o _ _ ⟨l, hl⟩ => by cases hl⟩
 cases hp : e.pend st with
 | some D => exact yes e.w D (Qt.refl h.calm) (Kp.refl _ _ _) (by unfold Ep.fetch; rw [hp])
 | none =>
  by_cases hg : e.gen st = 0
  ·exact yes e.w _ (Qt.refl h.calm) (Kp.refl _ _ _) (by unfold Ep.fetch; rw [hp]; dsimp only; rw [if_pos hg])
  ·have hG := getN_calm h.calm (st := st) (by omega) (fun i hi => h.inv.fl st (by omega) hp hg i hi) 6 (Nat.le_refl _)
   by_cases h4 : (e.getN st 6).2.1.length < 4
   ·have er : e.read E dec st = ({ e with w := (e.getN st 6).1 }, .no (e.getN st 6).2.2) := by
     unfold Ep.read Ep.fetch
     rw [hp]
     dsimp only
     rw [if_neg hg, if_pos h4]
    rw [er]
    have hall := hG.all h4
    refine ⟨⟨hG.qt.dn, Nat.le_refl _, fun _ _ => rfl, fun _ _ => rfl, fun _ _ => rfl, (fun D' hD => by cases hD), fun l hl => ?_⟩, ⟨F, by omega, hup (hw _ hG.qt hG.kp), fun _ => rfl⟩, fun o ho2 ho _ => ?_⟩
    ·cases hl
     refine ⟨fun e0 => ?_, fun z hz => ⟨?_, Or.inl (hG.er z hz)⟩⟩
     ·rw [e0] at hall
      simp at hall
      omega
     ·obtain ⟨j, _, ej⟩ := hG.nd z hz
      rw [ej]
      unfold nodeN
      omega
    ·exfalso
     have h2 := nodup_sub _ o hG.un (fun x hx => by
      obtain ⟨z, hz, ez⟩ := List.mem_map.1 hx
      rw [← ez]
      refine ho _ ?_ (hG.er z hz).2
      obtain ⟨j, _, ej⟩ := hG.nd z hz
      rw [ej]
      unfold nodeN
      omega)
     rw [List.length_map] at h2
     omega
   ·exact yes _ _ hG.qt hG.kp (by unfold Ep.fetch; rw [hp]; dsimp only; rw [if_neg hg, if_neg h4])
end Go.Proofs.YtelmcchleclklaaGreatDoor
namespace Go.Proofs.YtelmcchleclklaaGreatDoor
open Go.RowKit Go.Sort
set_option maxRecDepth 100000
set_option maxHeartbeats 1000000

theorem Wp.Fit.cal {s : Wp} {m n : Nat} {q : Rq} (h : s.Fit m) (hn : n < 8) (hD : ∀ j, j < q.n → q.D j < 256) : (s.call n q).1.Fit (m + 3) := h.call hn hD (a := (s.call n q).2) rfl
theorem none_lt {q : Rq} (h : q.n = 0) : ∀ j, j < q.n → q.D j < 256 := fun j hj => absurd hj (by omega)
theorem Wp.Fit.done {s : Wp} {m n : Nat} {q : Rq} (h : s.Fit m) (hn : n < 8) (hD : ∀ j, j < q.n → q.D j < 256) : (s.done n q).1.Fit (m + 6) := by
 have h1 := h.cal (q := q) hn hD
 unfold Wp.done
 split
 ·next s1 c e => rw [e] at h1; exact h1.mono (by omega)
 ·next s1 y e =>
  rw [e] at h1
  have h2 := h1.cal (n := n) (q := qFl) hn (none_lt rfl)
  split
  ·next s2 c e2 => rw [e2] at h2; exact h2
  ·next s2 z e2 => rw [e2] at h2; exact h2
theorem Wp.Fit.rels {n : Nat} (hn : n < 8) : ∀ (l : List It) (s : Wp) (m : Nat), s.Fit m → (s.rels n l).Fit (m + 3 * l.length)
 | [], s, m, h => h
 | x :: l, s, m, h => by
  have h1 := Wp.Fit.rels hn l _ _ (h.cal (n := n) (q := qRl x.s x.g) hn (none_lt rfl))
  refine Wp.Fit.mono (s := (s.rels n (x :: l))) h1 (by simp only [List.length_cons]; omega)
theorem Wp.its_le {s s' : Wp} {n : Nat} {y : Ns × Rp} (e : s.call n qIn = (s', .ok y)) : y.2.its.length ≤ 16 := by
 obtain ⟨a, _, h2, _⟩ := Wp.tries_some (P := fun _ => True) (fun _ _ => trivial) (fun _ _ => trivial) 3 s trivial e
 rw [h2, Ns.act_in]
 show ((liveT a.R).map (·.2)).length ≤ 16
 rw [List.length_map, liveT_len]
 exact colR_len _ _
theorem Ep.fit_sweep (e : Ep) {s : Wp} {m n : Nat} (h : s.Fit m) (hn : n < 8) : (e.sweep s n).Fit (m + 51) := by
 have h1 := h.cal (n := n) (q := qIn) hn (none_lt rfl)
 unfold Ep.sweep
 split
 ·next s1 c e1 => rw [e1] at h1; exact h1.mono (by omega)
 ·next s1 y e1 =>
  have hl := Wp.its_le e1
  rw [e1] at h1
  have h2 := List.length_filter_le e.rel y.2.its
  exact (Wp.Fit.rels hn (y.2.its.filter e.rel) s1 _ h1).mono (by omega)
theorem Ep.fit_logs (e : Ep) {s : Wp} {m n : Nat} {q : Rq} (h : s.Fit m) (hn : n < 8) (hD : ∀ j, j < q.n → q.D j < 256) : (e.logs s n q).1.Fit (m + 63) := by
 have h1 := h.done (q := q) hn hD
 unfold Ep.logs
 split
 ·exact ((e.fit_sweep h1 hn).done hn hD).mono (by omega)
 ·exact h1.mono (by omega)
theorem Ep.fit_askN {e : Ep} {m st : Nat} {q : Rq} (h : e.w.Fit m) (hD : ∀ j, j < q.n → q.D j < 256) : ∀ k, (e.askN q st k).1.Fit (m + 63 * k)
 | 0 => by rw [Ep.askN_zero]; exact h
 | k + 1 => by
  have ih := Ep.fit_askN h hD k (st := st)
  have h2 := e.fit_logs (n := logN st k) ih (by unfold logN; omega) hD
  rw [Ep.askN_succ]
  split
  ·exact ih.mono (by omega)
  ·split <;> exact h2.mono (by omega)
theorem Wp.fit_puts {s : Wp} {m st g : Nat} {C : Nat → Nat → Nat} (h : s.Fit m) (hC : ∀ i j, j < 32 → C i j < 256) : ∀ k, (s.puts st g C k).1.Fit (m + 6 * k)
 | 0 => by rw [Wp.puts_zero]; exact h
 | k + 1 => by
  have ih := Wp.fit_puts h hC k (st := st) (g := g)
  rw [Wp.puts_succ]
  exact (ih.done (n := nodeN st k) (by unfold nodeN; omega) (fun j hj => hC k j hj)).mono (by omega)
theorem Wp.fit_relAll {s : Wp} {m st g : Nat} (h : s.Fit m) : ∀ k, k ≤ 8 → (s.relAll st g k).Fit (m + 3 * k)
 | 0, _ => by rw [Wp.relAll_zero]; exact h
 | k + 1, hk => by
  have ih := Wp.fit_relAll h k (by omega) (st := st) (g := g)
  rw [Wp.relAll_succ]
  exact (ih.cal (by omega) (none_lt rfl)).mono (by omega)
theorem Ep.fit_fin {e : Ep} {m st : Nat} {C : Nat → Nat → Nat} (h : e.w.Fit m) (hC : ∀ i j, j < 32 → C i j < 256) : (e.fin st C).w.Fit (m + 60) := by
 have h1 := Wp.fit_puts h hC 6 (st := st) (g := e.gen st)
 have h2 := Wp.fit_relAll h1 8 (Nat.le_refl _) (st := st) (g := e.gen st)
 unfold Ep.fin
 dsimp only
 split
 ·exact h2.mono (by omega)
 ·exact h1.mono (by omega)
theorem Ep.fit_write {e : Ep} {m st : Nat} {E : (Nat → Nat) → Nat → Nat → Nat} {D : Nat → Nat} (h : e.w.Fit m) (hD : ∀ j, j < 128 → D j < 256) (hE : ∀ i j, j < 32 → E D i j < 256) : (e.write E st D).1.w.Fit (m + 564) := by
 have h1 := Ep.fit_askN (e := e.up st) (q := qLg st (e.next st) D) (st := st) h (fun j hj => hD j hj) 8
 unfold Ep.write Ep.carry
 dsimp only
 by_cases hk : ((e.up st).askN (qLg st (e.next st) D) st 8).2.1 < 3
 ·rw [if_pos hk]
  exact h1.mono (by omega)
 ·rw [if_neg hk]
  exact (Ep.fit_fin (e := (e.up st).held ((e.up st).askN (qLg st (e.next st) D) st 8).1 st (e.next st) D) (m := m + 63 * 8) h1 hE).mono (by omega)
theorem Ep.write_next (E : (Nat → Nat) → Nat → Nat → Nat) (e : Ep) (st : Nat) (D : Nat → Nat) : (e.write E st D).1.next = (e.up st).next := by
 unfold Ep.write Ep.carry Ep.fin Ep.held
 dsimp only
 repeat' split
 all_goals rfl
theorem Ep.fit_getN {e : Ep} {m st : Nat} (h : e.w.Fit m) : ∀ k, (e.getN st k).1.Fit (m + 3 * k)
 | 0 => by rw [Ep.getN_zero]; exact h
 | k + 1 => by
  have ih := Ep.fit_getN h k (st := st)
  have h2 := ih.cal (n := nodeN st k) (q := qGt st) (by unfold nodeN; omega) (none_lt rfl)
  by_cases h4 : 4 ≤ (e.getN st k).2.1.length
  ·rw [Ep.getN_full h4]; exact ih.mono (by omega)
  ·obtain ⟨x, hx⟩ : ∃ x, (e.getN st k).1.call (nodeN st k) (qGt st) = x := ⟨_, rfl⟩
   rw [hx] at h2
   obtain ⟨s1, a⟩ := x
   cases a with
   | err c => rw [Ep.getN_err h4 hx]; exact h2.mono (by omega)
   | ok y =>
    cases hp : pieceOf y.2.ps (e.gen st) k with
    | some p => rw [Ep.getN_some h4 hx hp]; exact h2.mono (by omega)
    | none => rw [Ep.getN_none h4 hx hp]; exact h2.mono (by omega)
end Go.Proofs.YtelmcchleclklaaGreatDoor
namespace Go.Proofs.YtelmcchleclklaaGreatDoor
open Go.RowKit Go.Sort
set_option maxRecDepth 100000
set_option maxHeartbeats 2000000

section
variable {w0 v v' : World} {g : Nat} {nd : ND} {s s' : Wp} {l : List (Nat × Int × Int)}
end
end Go.Proofs.YtelmcchleclklaaGreatDoor
namespace Go.Proofs.YtelmcchleclklaaGreatDoor
open Go.RowKit Go.Sort
set_option maxRecDepth 100000
set_option maxHeartbeats 1000000

theorem lawIntB : Maps.Keyed Tryz.prog 3 := Maps.int_keyed Tryz.underlying3
abbrev ikB (c : Nat) : Lit := .int .i64 (c : Int)
abbrev bvl (b : Bool) : DataW Unit := .lit (.bool b)
theorem ikB_wf {c : Nat} (h : c < 1000) : (ikB c).wf = true := by
 simp [Lit.wf, IntKind.min, IntKind.max, IntKind.signed, IntKind.bits]
 omega
def IB (w : World) (mb n : Nat) (f : Nat → Bool) : Prop := ∃ D : DataW Unit, w.ownsMap Tryz.prog 3 (plainElem Tryz.prog 4) mb n D ∧ ∀ c, c < 1000 → D.atKey (ikB c) (bvl false) = bvl (f c)
theorem ikB_inj {a b : Nat} (h : ikB a = ikB b) : a = b := by
 injection h with _ h
 omega
theorem zeroBl (w : World) : (zeroValue 4).run Tryz.prog w = .ok (.bool false) w := by kernel_rfl
theorem IB.look {w : World} {mb n c : Nat} {f : Nat → Bool} (h : IB w mb n f) (hc : c < 1000) : (Instr.lookup 63 (.map (some mb)) (.int .i64 (c : Int)) false).run Tryz.prog w = .ok (.bool (f c)) w := by
 obtain ⟨D, ⟨es, clock, hb, F, _, rfl⟩, h2⟩ := h
 have h3 := h2 c hc
 rcases Maps.fit_look false lawIntB Tryz.underlying63 (zeroBl w) hb F (Maps.keyOf_int_mk Tryz.underlying3 (ikB_wf hc)) with ⟨hrun, _, hat⟩ | ⟨e0, y, _, _, hrun, hRv, hat, _⟩
 ·rw [hat] at h3
  injection h3 with h3
  injection h3 with h3
  rw [← h3]
  exact hrun
 ·rw [hat] at h3
  have : e0.val = .bool (f c) := by
   unfold plainElem at hRv
   rw [Tryz.underlying4] at hRv
   split at hRv
   ·rename_i x hx
    simp at hRv
    rw [← hRv] at h3
    injection h3 with h3
    injection h3 with h3
    rw [hx, h3]
   ·rename_i hh _
    cases hh
   ·rename_i hh _
    cases hh
   ·cases hRv
  rw [this] at hrun
  exact hrun
theorem KeepW.map {w w' : World} {mb : Nat} {es : Array MapEntry} {clock : Nat} (hb : w.heap[mb]? = some (.map es clock)) (g : w.grownBy w' (some mb)) {k : Nat} {cs : Array Value} {t : TypeId} {fr : Nat × Nat} (hk : w.heap[k]? = some (.cells cs t fr)) : w'.heap[k]? = w.heap[k]? :=
 g.block k (heap_lt hk) (fun e => by
  injection e with e
  rw [← e, hk] at hb
  cases hb)
theorem WL.map {w0 v v' : World} {g mb : Nat} {nd : ND} {s : Wp} {es : Array MapEntry} {clock : Nat} (h : WL w0 v g nd s) (hb : v.heap[mb]? = some (.map es clock)) (hmb : w0.heap.size ≤ mb) (gr : v.grownBy v' (some mb)) (hz : ¬ nd.Z mb) : WL w0 v' g nd s := by
 obtain ⟨T, fv, h1, h2, h3, h4, h5, h6⟩ := h
 refine ⟨T, fv, h1.same (fun j hj => ?_) (fun i hi j hj => ?_) (fun j cs hj => KeepW.map hb gr hj), h2.grown gr h2.size (fun k hk => by cases hk; exact hmb), h3, h4, h5, h6.keep gr.size (fun k hk => gr.block k (Nat.lt_of_lt_of_le (h6.2 k hk).1 h6.1) (fun e => by cases e; exact hz hk))⟩
 ·rw [List.mem_cons] at hj
  rcases hj with rfl | hj
  ·exact KeepW.map hb gr h1.hd
  ·obtain ⟨row, hr⟩ := h1.fat.type j hj
   exact KeepW.map hb gr hr
 ·obtain ⟨r, p, sb, S, q1, q2, q3⟩ := h1.node i hi
  have hj' : j ∈ nd i :: r :: sb :: S := by
   rw [q3] at hj
   simp only [List.mem_cons] at hj ⊢
   rcases hj with rfl | rfl | rfl | rfl | hj
   ·simp
   ·simp
   ·obtain ⟨db, nb, pv, _, _, hS⟩ := q1.plt
    rw [hS]
    simp
   ·simp
   ·simp [hj]
  obtain ⟨cs', t', hc, hT⟩ := q1.type j hj'
  exact KeepW.map hb gr hc
end Go.Proofs.YtelmcchleclklaaGreatDoor
namespace Go.Proofs.YtelmcchleclklaaGreatDoor
open Go.RowKit Go.Sort
set_option maxRecDepth 100000
set_option maxHeartbeats 2000000

def KeepE (lim : Nat) (w w' : World) : Prop := w.heap.size ≤ w'.heap.size ∧ ∀ (k : Nat) (o : Obj), w.heap[k]? = some o → (∀ cs t fr, o = .cells cs t fr → ¬ WiB cs t ∧ t ≠ 115) → (∀ es c, o = .map es c → lim ≤ k) → w'.heap[k]? = some o
theorem KeepE.refl (lim : Nat) (w : World) : KeepE lim w w := ⟨Nat.le_refl _, fun _ _ h _ _ => h⟩
theorem KeepE.trans {lim : Nat} {a b c : World} (h : KeepE lim a b) (k : KeepE lim b c) : KeepE lim a c := ⟨Nat.le_trans h.1 k.1, fun i o hi ho hm => k.2 i o (h.2 i o hi ho hm) ho hm⟩
theorem KeepE.of (lim : Nat) {w w' : World} (h : KeepW w w') : KeepE lim w w' := ⟨h.1, fun k o hk ho _ => h.2 k o hk (fun cs t fr e => (ho cs t fr e).1)⟩
theorem KeepE.cells {lim : Nat} {w w' : World} (h : KeepE lim w w') {k : Nat} {cs : Array Value} {t : TypeId} {fr : Nat × Nat} (hk : w.heap[k]? = some (.cells cs t fr)) (ht : ¬ WiT t) (h7 : t ≠ 115) : w'.heap[k]? = w.heap[k]? := (h.2 k _ hk (fun cs' t' fr' e => by cases e; exact ⟨fun h => ht (h.elim (fun x => Or.inl x.1) Or.inr), h7⟩) (fun es c e => by cases e)).trans hk.symm
theorem KeepE.map {lim : Nat} {w w' : World} (h : KeepE lim w w') {k : Nat} {es : Array MapEntry} {c : Nat} (hk : w.heap[k]? = some (.map es c)) (hl : lim ≤ k) : w'.heap[k]? = w.heap[k]? := (h.2 k _ hk (fun cs t fr e => by cases e) (fun _ _ _ => hl)).trans hk.symm
theorem EV.keepE {lim : Nat} {w w' : World} {v : Value} {cs ks ss : List Int} (h : EV w v cs ks ss) (k : KeepE lim w w') : EV w' v cs ks ss :=
 h.mono k.1 (fun _ _ t ht e => (k.cells e (tree_notW ht).1 (by rcases ht with rfl | rfl | rfl | rfl <;> decide)).trans e)
def ErrOf (w : World) (u : Value) (st : Nat) : Option (List (Nat × Nat)) → Prop
 | none => u = .nilIface
 | some l => EV w u (l.map (fun z => (z.2 : Int))) (l.map (fun z => (z.1 : Int))) [(st : Int)]
end Go.Proofs.YtelmcchleclklaaGreatDoor
namespace Go.Proofs.YtelmcchleclklaaGreatDoor
open Go.RowKit Go.Sort
set_option maxRecDepth 100000
set_option maxHeartbeats 1000000

def BlkT (w : World) (t : TypeId) (g n : Nat) (f : Nat → Value) : Prop := ∃ cs : Array Value, w.heap[g]? = some (.cells cs t (0, 0)) ∧ n ≤ cs.size ∧ ∀ j, j < n → cs[j]? = some (f j)
theorem BlkT.keep {w w' : World} {t : TypeId} {g n : Nat} {f : Nat → Value} (h : BlkT w t g n f) (e : w'.heap[g]? = w.heap[g]?) : BlkT w' t g n f := by
 obtain ⟨cs, hb, hc⟩ := h
 exact ⟨cs, e.trans hb, hc⟩
theorem BlkT.lt {w : World} {t : TypeId} {g n : Nat} {f : Nat → Value} (h : BlkT w t g n f) : g < w.heap.size := by
 obtain ⟨cs, hb, _⟩ := h
 exact heap_lt hb
theorem BlkT.cell {w : World} {t : TypeId} {g n j : Nat} {f : Nat → Value} (h : BlkT w t g n f) (hj : j < n) : w.cell? ⟨g, j, none⟩ = some (f j) := by
 obtain ⟨cs, hb, hs, hc⟩ := h
 exact (cell_of_block hb).trans (hc j hj)
theorem BlkT.free {w : World} {t : TypeId} {g n : Nat} {f : Nat → Value} (h : BlkT w t g n f) (k : Nat) : w.frozen? ⟨g, k, none⟩ = false := by
 obtain ⟨cs, hb, _⟩ := h
 exact free_of_block hb
theorem BlkT.congr {w : World} {t : TypeId} {g n : Nat} {f f' : Nat → Value} (h : BlkT w t g n f) (e : ∀ j, j < n → f j = f' j) : BlkT w t g n f' := by
 obtain ⟨cs, hb, hs, hc⟩ := h
 exact ⟨cs, hb, hs, fun j hj => by rw [← e j hj]; exact hc j hj⟩
theorem BlkT.put {w : World} {t : TypeId} {g n q : Nat} {x : Value} {f : Nat → Value} (h : BlkT w t g n f) (hq : q < n) : BlkT (w.setCell ⟨g, q, none⟩ x) t g n (fun j => if j = q then x else f j) := by
 obtain ⟨cs, hb, hs, hc⟩ := h
 refine ⟨cs.setIfInBounds q x, set_block hb q _, by simpa using hs, fun j hj => ?_⟩
 dsimp only
 rw [Array.getElem?_setIfInBounds]
 by_cases e : q = j
 ·subst e
  rw [if_pos rfl, if_pos (by omega), if_pos rfl]
 ·rw [if_neg e, if_neg (fun h => e h.symm), hc j hj]
end Go.Proofs.YtelmcchleclklaaGreatDoor
