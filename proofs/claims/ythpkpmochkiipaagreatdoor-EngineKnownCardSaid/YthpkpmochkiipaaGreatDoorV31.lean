import Derived.Test.YthpkpmochkiipaaGreatDoorV30
import Derived.Test.YthpkpmochkiipaaGreatDoorV28
import Derived.Maps.OwnOps
import Derived.Test.YthpkpmochkiipaaGreatDoorV27
import Derived.Test.YthpkpmochkiipaaGreatDoorV13
import Derived.Test.YthpkpmochkiipaaGreatDoorRows
namespace Go.Proofs.YthpkpmochkiipaaGreatDoor
open Go.RowKit Go.Sort
set_option maxRecDepth 100000
set_option maxHeartbeats 1000000

def pieceOf (l : List Pc) (g i : Nat) : Option Pc := l.find? (fun p => decide (p.g = g) && decide (p.i = i))
def Ep.getN (e : Ep) (st : Nat) : Nat → Wp × List (Nat × (Nat → Nat)) × List (Nat × Nat)
  | 0 => (e.w, [], [])
  | m + 1 => let r := e.getN st m
    if 4 ≤ r.2.1.length then r else
      match r.1.call (nodeN st m) (qGt st) with
      | (s1, .err c) => (s1, r.2.1, r.2.2 ++ [(nodeN st m, c)])
      | (s1, .ok y) => match pieceOf y.2.ps (e.gen st) m with
        | some p => (s1, r.2.1 ++ [(m, p.D)], r.2.2)
        | none => (s1, r.2.1, r.2.2 ++ [(nodeN st m, 7)])
theorem Ep.getN_zero (e : Ep) (st : Nat) : e.getN st 0 = (e.w, [], []) := rfl
theorem Ep.getN_full {e : Ep} {st m : Nat} (h : 4 ≤ (e.getN st m).2.1.length) : e.getN st (m + 1) = e.getN st m := by
  show (if 4 ≤ (e.getN st m).2.1.length then e.getN st m else _) = _
  rw [if_pos h]
theorem Ep.getN_err {e : Ep} {st m c : Nat} {s1 : Wp} (h : ¬ 4 ≤ (e.getN st m).2.1.length) (hc : (e.getN st m).1.call (nodeN st m) (qGt st) = (s1, .err c)) : e.getN st (m + 1) = (s1, (e.getN st m).2.1, (e.getN st m).2.2 ++ [(nodeN st m, c)]) := by
  show (if 4 ≤ (e.getN st m).2.1.length then e.getN st m else _) = _
  rw [if_neg h, hc]
theorem Ep.getN_some {e : Ep} {st m : Nat} {s1 : Wp} {y : Ns × Rp} {p : Pc} (h : ¬ 4 ≤ (e.getN st m).2.1.length) (hc : (e.getN st m).1.call (nodeN st m) (qGt st) = (s1, .ok y)) (hp : pieceOf y.2.ps (e.gen st) m = some p) : e.getN st (m + 1) = (s1, (e.getN st m).2.1 ++ [(m, p.D)], (e.getN st m).2.2) := by
  show (if 4 ≤ (e.getN st m).2.1.length then e.getN st m else _) = _
  rw [if_neg h, hc]
  dsimp only
  rw [hp]
theorem Ep.getN_none {e : Ep} {st m : Nat} {s1 : Wp} {y : Ns × Rp} (h : ¬ 4 ≤ (e.getN st m).2.1.length) (hc : (e.getN st m).1.call (nodeN st m) (qGt st) = (s1, .ok y)) (hp : pieceOf y.2.ps (e.gen st) m = none) : e.getN st (m + 1) = (s1, (e.getN st m).2.1, (e.getN st m).2.2 ++ [(nodeN st m, 7)]) := by
  show (if 4 ≤ (e.getN st m).2.1.length then e.getN st m else _) = _
  rw [if_neg h, hc]
  dsimp only
  rw [hp]
attribute [irreducible] Ep.getN
inductive Got where
  | no (l : List (Nat × Nat))
  | yes (D : Nat → Nat)
def Ep.fetch (dec : List (Nat × (Nat → Nat)) → Nat → Nat) (e : Ep) (st : Nat) : Wp × Got :=
  match e.pend st with
  | some D => (e.w, .yes D)
  | none => if e.gen st = 0 then (e.w, .yes (fun _ => 0)) else if (e.getN st 6).2.1.length < 4 then ((e.getN st 6).1, .no (e.getN st 6).2.2) else ((e.getN st 6).1, .yes (dec (e.getN st 6).2.1))
def Ep.read (E : (Nat → Nat) → Nat → Nat → Nat) (dec : List (Nat × (Nat → Nat)) → Nat → Nat) (e : Ep) (st : Nat) : Ep × Got :=
  match e.fetch dec st with
  | (s, .no l) => ({ e with w := s }, .no l)
  | (s, .yes D) => if e.doubt st = true then (match ({ e with w := s } : Ep).write E st D with
      | (e2, some l) => (e2, .no l)
      | (e2, none) => (e2, .yes D)) else ({ e with w := s }, .yes D)
theorem srt_mem (l : List Pc) (p : Pc) : p ∈ srt l ↔ p ∈ l := by
  unfold srt
  split
  · split
    · simp only [List.mem_cons, List.not_mem_nil, or_false]
      exact Or.comm
    · exact Iff.rfl
  · exact Iff.rfl
theorem Ns.act_gt (a : Ns) {s : Nat} (hs : s < 40) : a.act (qGt s) = (a, ⟨0, a.pcs s, []⟩) := by
  unfold Ns.act qGt
  simp [show (s : Int) < 40 by omega]
end Go.Proofs.YthpkpmochkiipaaGreatDoor
namespace Go.Proofs.YthpkpmochkiipaaGreatDoor
open Go.RowKit Go.Sort
set_option maxRecDepth 100000
set_option maxHeartbeats 1000000

theorem Wp.Fit.cal {s : Wp} {m n : Nat} {q : Rq} (h : s.Fit m) (hn : n < 8) (hD : ∀ j, j < q.n → q.D j < 256) : (s.call n q).1.Fit (m + 3) := h.call hn hD (a := (s.call n q).2) rfl
theorem none_lt {q : Rq} (h : q.n = 0) : ∀ j, j < q.n → q.D j < 256 := fun j hj => absurd hj (by omega)
theorem Wp.Fit.done {s : Wp} {m n : Nat} {q : Rq} (h : s.Fit m) (hn : n < 8) (hD : ∀ j, j < q.n → q.D j < 256) : (s.done n q).1.Fit (m + 6) := by
  have h1 := h.cal (q := q) hn hD
  unfold Wp.done
  split
  · next s1 c e => rw [e] at h1; exact h1.mono (by omega)
  · next s1 y e =>
    rw [e] at h1
    have h2 := h1.cal (n := n) (q := qFl) hn (none_lt rfl)
    split
    · next s2 c e2 => rw [e2] at h2; exact h2
    · next s2 z e2 => rw [e2] at h2; exact h2
theorem Wp.Fit.rels {n : Nat} (hn : n < 8) : ∀ (l : List It) (s : Wp) (m : Nat), s.Fit m → (s.rels n l).Fit (m + 3 * l.length)
  | [], s, m, h => h
  | x :: l, s, m, h => by
    have h1 := Wp.Fit.rels hn l _ _ (h.cal (n := n) (q := qRl x.s x.g) hn (none_lt rfl))
    refine Wp.Fit.mono (s := (s.rels n (x :: l))) h1 (by simp only [List.length_cons]; omega)
theorem Wp.its_le {s s' : Wp} {n : Nat} {y : Ns × Rp} (e : s.call n qIn = (s', .ok y)) : y.2.its.length ≤ 16 := by
  obtain ⟨a, _, h2, _⟩ := Wp.tries_some (P := fun _ => True) (fun _ _ => trivial) (fun _ _ => trivial) 3 s trivial e
  rw [h2, Ns.act_in]
  show ((liveT a.R).map (·.2)).length ≤ 16
  rw [List.length_map, liveT_len]
  exact colR_len _ _
theorem Ep.fit_sweep (e : Ep) {s : Wp} {m n : Nat} (h : s.Fit m) (hn : n < 8) : (e.sweep s n).Fit (m + 51) := by
  have h1 := h.cal (n := n) (q := qIn) hn (none_lt rfl)
  unfold Ep.sweep
  split
  · next s1 c e1 => rw [e1] at h1; exact h1.mono (by omega)
  · next s1 y e1 =>
    have hl := Wp.its_le e1
    rw [e1] at h1
    have h2 := List.length_filter_le e.rel y.2.its
    exact (Wp.Fit.rels hn (y.2.its.filter e.rel) s1 _ h1).mono (by omega)
theorem Ep.fit_logs (e : Ep) {s : Wp} {m n : Nat} {q : Rq} (h : s.Fit m) (hn : n < 8) (hD : ∀ j, j < q.n → q.D j < 256) : (e.logs s n q).1.Fit (m + 63) := by
  have h1 := h.done (q := q) hn hD
  unfold Ep.logs
  split
  · exact ((e.fit_sweep h1 hn).done hn hD).mono (by omega)
  · exact h1.mono (by omega)
theorem Ep.fit_askN {e : Ep} {m st : Nat} {q : Rq} (h : e.w.Fit m) (hD : ∀ j, j < q.n → q.D j < 256) : ∀ k, (e.askN q st k).1.Fit (m + 63 * k)
  | 0 => by rw [Ep.askN_zero]; exact h
  | k + 1 => by
    have ih := Ep.fit_askN h hD k (st := st)
    have h2 := e.fit_logs (n := logN st k) ih (by unfold logN; omega) hD
    rw [Ep.askN_succ]
    split
    · exact ih.mono (by omega)
    · split <;> exact h2.mono (by omega)
theorem Wp.fit_puts {s : Wp} {m st g : Nat} {C : Nat → Nat → Nat} (h : s.Fit m) (hC : ∀ i j, j < 32 → C i j < 256) : ∀ k, (s.puts st g C k).1.Fit (m + 6 * k)
  | 0 => by rw [Wp.puts_zero]; exact h
  | k + 1 => by
    have ih := Wp.fit_puts h hC k (st := st) (g := g)
    rw [Wp.puts_succ]
    exact (ih.done (n := nodeN st k) (by unfold nodeN; omega) (fun j hj => hC k j hj)).mono (by omega)
theorem Wp.fit_relAll {s : Wp} {m st g : Nat} (h : s.Fit m) : ∀ k, k ≤ 8 → (s.relAll st g k).Fit (m + 3 * k)
  | 0, _ => by rw [Wp.relAll_zero]; exact h
  | k + 1, hk => by
    have ih := Wp.fit_relAll h k (by omega) (st := st) (g := g)
    rw [Wp.relAll_succ]
    exact (ih.cal (by omega) (none_lt rfl)).mono (by omega)
theorem Ep.fit_fin {e : Ep} {m st : Nat} {C : Nat → Nat → Nat} (h : e.w.Fit m) (hC : ∀ i j, j < 32 → C i j < 256) : (e.fin st C).w.Fit (m + 60) := by
  have h1 := Wp.fit_puts h hC 6 (st := st) (g := e.gen st)
  have h2 := Wp.fit_relAll h1 8 (Nat.le_refl _) (st := st) (g := e.gen st)
  unfold Ep.fin
  dsimp only
  split
  · exact h2.mono (by omega)
  · exact h1.mono (by omega)
theorem Ep.fit_write {e : Ep} {m st : Nat} {E : (Nat → Nat) → Nat → Nat → Nat} {D : Nat → Nat} (h : e.w.Fit m) (hD : ∀ j, j < 128 → D j < 256) (hE : ∀ i j, j < 32 → E D i j < 256) : (e.write E st D).1.w.Fit (m + 564) := by
  have h1 := Ep.fit_askN (e := e.up st) (q := qLg st (e.next st) D) (st := st) h (fun j hj => hD j hj) 8
  unfold Ep.write Ep.carry
  dsimp only
  by_cases hk : ((e.up st).askN (qLg st (e.next st) D) st 8).2.1 < 3
  · rw [if_pos hk]
    exact h1.mono (by omega)
  · rw [if_neg hk]
    exact (Ep.fit_fin (e := (e.up st).held ((e.up st).askN (qLg st (e.next st) D) st 8).1 st (e.next st) D) (m := m + 63 * 8) h1 hE).mono (by omega)
theorem Ep.write_next (E : (Nat → Nat) → Nat → Nat → Nat) (e : Ep) (st : Nat) (D : Nat → Nat) : (e.write E st D).1.next = (e.up st).next := by
  unfold Ep.write Ep.carry Ep.fin Ep.held
  dsimp only
  repeat' split
  all_goals rfl
theorem Ep.fit_getN {e : Ep} {m st : Nat} (h : e.w.Fit m) : ∀ k, (e.getN st k).1.Fit (m + 3 * k)
  | 0 => by rw [Ep.getN_zero]; exact h
  | k + 1 => by
    have ih := Ep.fit_getN h k (st := st)
    have h2 := ih.cal (n := nodeN st k) (q := qGt st) (by unfold nodeN; omega) (none_lt rfl)
    by_cases h4 : 4 ≤ (e.getN st k).2.1.length
    · rw [Ep.getN_full h4]; exact ih.mono (by omega)
    · obtain ⟨x, hx⟩ : ∃ x, (e.getN st k).1.call (nodeN st k) (qGt st) = x := ⟨_, rfl⟩
      rw [hx] at h2
      obtain ⟨s1, a⟩ := x
      cases a with
      | err c => rw [Ep.getN_err h4 hx]; exact h2.mono (by omega)
      | ok y =>
        cases hp : pieceOf y.2.ps (e.gen st) k with
        | some p => rw [Ep.getN_some h4 hx hp]; exact h2.mono (by omega)
        | none => rw [Ep.getN_none h4 hx hp]; exact h2.mono (by omega)
end Go.Proofs.YthpkpmochkiipaaGreatDoor
namespace Go.Proofs.YthpkpmochkiipaaGreatDoor
open Go.RowKit Go.Sort
set_option maxRecDepth 100000
set_option maxHeartbeats 2000000

section
variable {w0 v v' : World} {g : Nat} {nd : ND} {s s' : Wp} {l : List (Nat × Int × Int)}
end
end Go.Proofs.YthpkpmochkiipaaGreatDoor
namespace Go.Proofs.YthpkpmochkiipaaGreatDoor
open Go.RowKit Go.Sort
set_option maxRecDepth 100000
set_option maxHeartbeats 1000000

theorem KeepW.map {w w' : World} {mb : Nat} {es : Array MapEntry} {clock : Nat} (hb : w.heap[mb]? = some (.map es clock)) (g : w.grownBy w' (some mb)) {k : Nat} {cs : Array Value} {t : TypeId} {fr : Nat × Nat} (hk : w.heap[k]? = some (.cells cs t fr)) : w'.heap[k]? = w.heap[k]? :=
  g.block k (heap_lt hk) (fun e => by
    injection e with e
    rw [← e, hk] at hb
    cases hb)
theorem WL.map {w0 v v' : World} {g mb : Nat} {nd : ND} {s : Wp} {es : Array MapEntry} {clock : Nat} (h : WL w0 v g nd s) (hb : v.heap[mb]? = some (.map es clock)) (hmb : w0.heap.size ≤ mb) (gr : v.grownBy v' (some mb)) (hz : ¬ nd.Z mb) : WL w0 v' g nd s := by
  obtain ⟨T, fv, h1, h2, h3, h4, h5, h6⟩ := h
  refine ⟨T, fv, h1.same (fun j hj => ?_) (fun i hi j hj => ?_) (fun j cs hj => KeepW.map hb gr hj), h2.grown gr h2.size (fun k hk => by cases hk; exact hmb), h3, h4, h5, h6.keep gr.size (fun k hk => gr.block k (Nat.lt_of_lt_of_le (h6.2 k hk).1 h6.1) (fun e => by cases e; exact hz hk))⟩
  · rw [List.mem_cons] at hj
    rcases hj with rfl | hj
    · exact KeepW.map hb gr h1.hd
    · obtain ⟨row, hr⟩ := h1.fat.type j hj
      exact KeepW.map hb gr hr
  · obtain ⟨r, p, sb, S, q1, q2, q3⟩ := h1.node i hi
    have hj' : j ∈ nd i :: r :: sb :: S := by
      rw [q3] at hj
      simp only [List.mem_cons] at hj ⊢
      rcases hj with rfl | rfl | rfl | rfl | hj
      · simp
      · simp
      · obtain ⟨db, nb, pv, _, _, hS⟩ := q1.plt
        rw [hS]
        simp
      · simp
      · simp [hj]
    obtain ⟨cs', t', hc, hT⟩ := q1.type j hj'
    exact KeepW.map hb gr hc
end Go.Proofs.YthpkpmochkiipaaGreatDoor
namespace Go.Proofs.YthpkpmochkiipaaGreatDoor
open Go.RowKit Go.Sort
set_option maxRecDepth 100000
set_option maxHeartbeats 2000000

def KeepE (lim : Nat) (w w' : World) : Prop := w.heap.size ≤ w'.heap.size ∧ ∀ (k : Nat) (o : Obj), w.heap[k]? = some o → (∀ cs t fr, o = .cells cs t fr → ¬ WiB cs t ∧ t ≠ 80) → (∀ es c, o = .map es c → lim ≤ k) → w'.heap[k]? = some o
theorem KeepE.refl (lim : Nat) (w : World) : KeepE lim w w := ⟨Nat.le_refl _, fun _ _ h _ _ => h⟩
theorem KeepE.trans {lim : Nat} {a b c : World} (h : KeepE lim a b) (k : KeepE lim b c) : KeepE lim a c := ⟨Nat.le_trans h.1 k.1, fun i o hi ho hm => k.2 i o (h.2 i o hi ho hm) ho hm⟩
theorem KeepE.of (lim : Nat) {w w' : World} (h : KeepW w w') : KeepE lim w w' := ⟨h.1, fun k o hk ho _ => h.2 k o hk (fun cs t fr e => (ho cs t fr e).1)⟩
theorem KeepE.cells {lim : Nat} {w w' : World} (h : KeepE lim w w') {k : Nat} {cs : Array Value} {t : TypeId} {fr : Nat × Nat} (hk : w.heap[k]? = some (.cells cs t fr)) (ht : ¬ WiT t) (h7 : t ≠ 80) : w'.heap[k]? = w.heap[k]? := (h.2 k _ hk (fun cs' t' fr' e => by cases e; exact ⟨fun h => ht (h.elim (fun x => Or.inl x.1) Or.inr), h7⟩) (fun es c e => by cases e)).trans hk.symm
theorem KeepE.map {lim : Nat} {w w' : World} (h : KeepE lim w w') {k : Nat} {es : Array MapEntry} {c : Nat} (hk : w.heap[k]? = some (.map es c)) (hl : lim ≤ k) : w'.heap[k]? = w.heap[k]? := (h.2 k _ hk (fun cs t fr e => by cases e) (fun _ _ _ => hl)).trans hk.symm
theorem EV.keepE {lim : Nat} {w w' : World} {v : Value} {cs ks ss : List Int} (h : EV w v cs ks ss) (k : KeepE lim w w') : EV w' v cs ks ss :=
  h.mono k.1 (fun _ _ t ht e => (k.cells e (tree_notW ht).1 (by rcases ht with rfl | rfl | rfl | rfl <;> decide)).trans e)
def ErrOf (w : World) (u : Value) (st : Nat) : Option (List (Nat × Nat)) → Prop
  | none => u = .nilIface
  | some l => EV w u (l.map (fun z => (z.2 : Int))) (l.map (fun z => (z.1 : Int))) [(st : Int)]
end Go.Proofs.YthpkpmochkiipaaGreatDoor
namespace Go.Proofs.YthpkpmochkiipaaGreatDoor
open Go.RowKit Go.Sort
set_option maxRecDepth 100000
set_option maxHeartbeats 1000000

def BlkT (w : World) (t : TypeId) (g n : Nat) (f : Nat → Value) : Prop := ∃ cs : Array Value, w.heap[g]? = some (.cells cs t (0, 0)) ∧ n ≤ cs.size ∧ ∀ j, j < n → cs[j]? = some (f j)
theorem BlkT.keep {w w' : World} {t : TypeId} {g n : Nat} {f : Nat → Value} (h : BlkT w t g n f) (e : w'.heap[g]? = w.heap[g]?) : BlkT w' t g n f := by
  obtain ⟨cs, hb, hc⟩ := h
  exact ⟨cs, e.trans hb, hc⟩
theorem BlkT.lt {w : World} {t : TypeId} {g n : Nat} {f : Nat → Value} (h : BlkT w t g n f) : g < w.heap.size := by
  obtain ⟨cs, hb, _⟩ := h
  exact heap_lt hb
theorem BlkT.cell {w : World} {t : TypeId} {g n j : Nat} {f : Nat → Value} (h : BlkT w t g n f) (hj : j < n) : w.cell? ⟨g, j, none⟩ = some (f j) := by
  obtain ⟨cs, hb, hs, hc⟩ := h
  exact (cell_of_block hb).trans (hc j hj)
theorem BlkT.free {w : World} {t : TypeId} {g n : Nat} {f : Nat → Value} (h : BlkT w t g n f) (k : Nat) : w.frozen? ⟨g, k, none⟩ = false := by
  obtain ⟨cs, hb, _⟩ := h
  exact free_of_block hb
theorem BlkT.congr {w : World} {t : TypeId} {g n : Nat} {f f' : Nat → Value} (h : BlkT w t g n f) (e : ∀ j, j < n → f j = f' j) : BlkT w t g n f' := by
  obtain ⟨cs, hb, hs, hc⟩ := h
  exact ⟨cs, hb, hs, fun j hj => by rw [← e j hj]; exact hc j hj⟩
theorem BlkT.put {w : World} {t : TypeId} {g n q : Nat} {x : Value} {f : Nat → Value} (h : BlkT w t g n f) (hq : q < n) : BlkT (w.setCell ⟨g, q, none⟩ x) t g n (fun j => if j = q then x else f j) := by
  obtain ⟨cs, hb, hs, hc⟩ := h
  refine ⟨cs.setIfInBounds q x, set_block hb q _, by simpa using hs, fun j hj => ?_⟩
  dsimp only
  rw [Array.getElem?_setIfInBounds]
  by_cases e : q = j
  · subst e
    rw [if_pos rfl, if_pos (by omega), if_pos rfl]
  · rw [if_neg e, if_neg (fun h => e h.symm), hc j hj]
end Go.Proofs.YthpkpmochkiipaaGreatDoor
namespace Go.Proofs.YthpkpmochkiipaaGreatDoor
open Go.RowKit Go.Sort
set_option maxRecDepth 100000
set_option maxHeartbeats 1000000

def nodeF (s i : Int) : Int := if 0 ≤ s ∧ s < 40 ∧ 0 ≤ i ∧ i < 6 then (s + i) % 8 else -1
def logsF (s : Int) : List Int := if 0 ≤ s ∧ s < 40 then (List.range 8).map (fun j : Nat => (s + 5 + (j : Int)) % 8) else []
theorem nodeF_nat {s i : Nat} (h : s < 40) (hi : i < 6) : nodeF s i = (((s + i) % 8 : Nat) : Int) := by
  unfold nodeF
  rw [if_pos (by omega)]
  omega
theorem nodeF_no {s i : Int} (h : ¬ (0 ≤ s ∧ s < 40 ∧ 0 ≤ i ∧ i < 6)) : nodeF s i = -1 := if_neg h
theorem logsF_len {s : Nat} (h : s < 40) : (logsF s).length = 8 := by
  unfold logsF
  rw [if_pos (by omega)]
  simp
theorem logsF_at {s j : Nat} (h : s < 40) (hj : j < 8) : (logsF s)[j]? = some (((s + 5 + j) % 8 : Nat) : Int) := by
  unfold logsF
  rw [if_pos (by omega)]
  simp [hj]
theorem lright (s : Int) (w : World) : Calls Tryz.prog 71 #[.int .i64 s] w fun e w' => e = .returned (.bool (decide (0 ≤ s ∧ s < 40))) ∧ w' = w := by
  by_cases h0 : 0 ≤ s
  · by_cases h1 : s < 40
    · rw [decide_eq_true (show 0 ≤ s ∧ s < 40 from ⟨h0, h1⟩)]
      go_enter Tryz.func71, Tryz.ntmps71
      go_wp2_with fail
      go_ret
      exact ⟨rfl, rfl⟩
    · rw [decide_eq_false (show ¬ (0 ≤ s ∧ s < 40) by omega)]
      go_enter Tryz.func71, Tryz.ntmps71
      go_wp2_with fail
      go_ret
      exact ⟨rfl, rfl⟩
  · rw [decide_eq_false (show ¬ (0 ≤ s ∧ s < 40) by omega)]
    go_enter Tryz.func71, Tryz.ntmps71
    go_wp2_with fail
    go_ret
    exact ⟨rfl, rfl⟩
theorem lright_yes {s : Int} (h0 : 0 ≤ s) (h1 : s < 40) (w : World) : Calls Tryz.prog 71 #[.int .i64 s] w fun e w' => e = .returned (.bool true) ∧ w' = w := by
  have := lright s w
  rwa [decide_eq_true (show 0 ≤ s ∧ s < 40 from ⟨h0, h1⟩)] at this
theorem lright_no {s : Int} (h : ¬ (0 ≤ s ∧ s < 40)) (w : World) : Calls Tryz.prog 71 #[.int .i64 s] w fun e w' => e = .returned (.bool false) ∧ w' = w := by
  have := lright s w
  rwa [decide_eq_false h] at this

theorem lnode (s i : Int) (w : World) : Calls Tryz.prog 101 #[.int .i64 s, .int .i64 i] w fun e w' => e = .returned (.int .i64 (nodeF s i)) ∧ w' = w := by
  by_cases hs : 0 ≤ s ∧ s < 40
  · obtain ⟨h0, h1⟩ := hs
    have HR := Lib.hid (lright_yes h0 h1 w)
    by_cases i0 : 0 ≤ i
    · by_cases i1 : i < 6
      · obtain ⟨y, hy⟩ : ∃ y, nodeF s i = y := ⟨_, rfl⟩
        have hy2 : (s + i) % 8 = y := by
          rw [← hy]
          unfold nodeF
          rw [if_pos ⟨h0, h1, i0, i1⟩]
        rw [hy]
        have HY := Lib.hid hy2
        clear hy hy2
        go_enter Tryz.func101, Tryz.ntmps101
        go_wp2_with fail
        refine HR.out.mono ?_
        rintro e w' ⟨rfl, hw⟩
        obtain rfl := hw.symm
        go_wp2_with fail
        go_ret
        exact ⟨congrArg (fun z => Ending.returned (Value.int .i64 z)) HY.out, rfl⟩
      · rw [nodeF_no (by omega)]
        go_enter Tryz.func101, Tryz.ntmps101
        go_wp2_with fail
        refine HR.out.mono ?_
        rintro e w' ⟨rfl, hw⟩
        obtain rfl := hw.symm
        go_wp2_with fail
        go_ret
        exact ⟨rfl, rfl⟩
    · rw [nodeF_no (by omega)]
      go_enter Tryz.func101, Tryz.ntmps101
      go_wp2_with fail
      refine HR.out.mono ?_
      rintro e w' ⟨rfl, hw⟩
      obtain rfl := hw.symm
      go_wp2_with fail
      go_ret
      exact ⟨rfl, rfl⟩
  · have HR := Lib.hid (lright_no hs w)
    rw [nodeF_no (by omega)]
    clear hs
    go_enter Tryz.func101, Tryz.ntmps101
    go_wp2_with fail
    refine HR.out.mono ?_
    rintro e w' ⟨rfl, hw⟩
    obtain rfl := hw.symm
    go_wp2_with fail
    go_ret
    exact ⟨rfl, rfl⟩

theorem makeI (n : Nat) (hn : n ≤ 1000000) : ∃ zs : Array Value, n ≤ zs.size ∧ (∀ j, j < n → zs[j]? = some (.int .i64 0)) ∧
    ∀ W : World, Sem.run Tryz.prog (Instr.makeSlice 39 (.int .i64 (n : Int)) (.int .i64 (n : Int))) W = .ok (.slice (some ⟨W.heap.size, 0, none⟩) n n) (W.alloc (.cells zs 3)) := by
  obtain ⟨i0, hi0, hz0, hz1, hz2⟩ := info_parts infoInt
  have hz : ∀ j, j < n → (madeCells (Value.int .i64 0).cells (n * i0.size))[j]? = some (.int .i64 0) := fun j hj => by
    rw [hz1]
    simp [madeCells, Value.cells, hj]
    rw [Nat.mod_one]; rfl
  refine ⟨madeCells (Value.int .i64 0).cells (n * i0.size), ?_, hz, fun W => ?_⟩
  · rcases Nat.eq_zero_or_pos n with h0 | h0
    · omega
    · have := (Array.getElem?_eq_some_iff.1 (hz (n - 1) (by omega))).1
      omega
  · have h := run_make W 39 3 i0 (.int .i64 0) Tryz.underlying39 hi0 hz0 .i64 .i64 (n : Int) (n : Int) (by omega) (by omega) (by rw [hz2]; omega) (by omega)
    simpa using h
def LogsRet (s : Int) (w : World) (e : Ending) (w' : World) : Prop := ∃ A c, e = .returned (.slice A (logsF s).length c) ∧ Nums w' A (logsF s) ∧ Below w.heap.size w w' ∧ (logsF s).length ≤ c ∧ ∀ g o, A = some ⟨g, o, none⟩ → w.heap.size ≤ g
theorem nums_blk {w : World} {g s : Nat} {f : Nat → Int} (hs : s < 40) (h : BlkT w 3 g 8 (fun j => .int .i64 (f j))) (hf : ∀ j, j < 8 → f j = (((s + 5 + j) % 8 : Nat) : Int)) : Nums w (some ⟨g, 0, none⟩) (logsF s) := fun i x hx => by
  have hi : i < 8 := by have := (List.getElem?_eq_some_iff.1 hx).1; rw [logsF_len hs] at this; exact this
  rw [logsF_at hs hi] at hx
  cases hx
  refine ⟨g, 0, rfl, h.lt, ?_⟩
  rw [Nat.zero_add, h.cell hi, hf i hi]
theorem llogs (s : Int) (w : World) : Calls Tryz.prog 110 #[.int .i64 s] w (LogsRet s w) := by
  by_cases hs : 0 ≤ s ∧ s < 40
  · obtain ⟨p, rfl⟩ : ∃ p : Nat, s = (p : Int) := ⟨s.toNat, by omega⟩
    have hp : p < 40 := by omega
    have HR := Lib.hid (lright_yes hs.1 hs.2 w)
    obtain ⟨zs, z0, z1, z2⟩ := makeI 8 (by omega)
    have z3 : ∀ W : World, Sem.run Tryz.prog (Instr.makeSlice 39 (.int .i64 8) (.int .i64 8)) W = .ok (.slice (some ⟨W.heap.size, 0, none⟩) 8 8) (W.alloc (.cells zs 3)) := z2
    have HK : Hid (BlkT (w.alloc (.cells zs 3)) 3 w.heap.size 8 (fun _ => .int .i64 0)) := Lib.hid ⟨zs, alloc_block _ _, z0, z1⟩
    have HB0 : Hid (Below w.heap.size w (w.alloc (.cells zs 3))) := Lib.hid ((Below.refl _ _).alloc (Nat.le_refl _) _)
    clear z0 z1 z2 hs
    go_enter Tryz.func110, Tryz.ntmps110
    go_wp2_with fail
    refine HR.out.mono ?_
    rintro e w' ⟨rfl, hw⟩
    obtain rfl := hw.symm
    go_upto_region 5 with fail
    generalize w.alloc (.cells zs 3) = w1 at *
    obtain ⟨g, hg⟩ : ∃ g, w.heap.size = g := ⟨_, rfl⟩
    have HG := Lib.hid hg
    rw [hg] at HK ⊢
    clear hg z3
    go_loopg [11, 4] 8 (fun q s11 s4 v => ∃ i : Nat, s11 = .int .i64 (i : Int) ∧ i ≤ 8 ∧ q = 8 - i ∧ Hid (Below w.heap.size w v ∧ ∃ f : Nat → Int, BlkT v 3 g 8 (fun j => .int .i64 (f j)) ∧ ∀ j, j < i → f j = (((p + 5 + j) % 8 : Nat) : Int)))
    case atStart => exact ⟨0, rfl, by omega, rfl, Lib.hid ⟨HB0.out, fun _ => 0, HK.out, fun j hj => by omega⟩⟩
    case round =>
      obtain ⟨i, rfl, hi, rfl, HS⟩ := hrel
      clear HK HB0
      generalize wr = v at *
      by_cases hlt : i < 8
      · have t1 : (i : Int) < 8 := by omega
        obtain ⟨hb, f, hf, he⟩ := HS.out
        have HF := Lib.hid hf
        have HE := Lib.hid he
        have HB := Lib.hid hb
        have c1 := hf.cell hlt
        have c2 := hf.free i
        clear HS hf he hb
        go_wp2_with fail
        go_roundg (8 - (i + 1))
        case measure => omega
        case rel => exact ⟨i + 1, by go_num, by omega, rfl, Lib.hid ⟨HB.out.setCell (p := ⟨g, i, none⟩) (by rw [HG.out]; exact Nat.le_refl _) _, fun j => if j = i then (((p + 5 + i) % 8 : Nat) : Int) else f j, ((HF.out.put (x := .int .i64 (((p + 5 + i) % 8 : Nat) : Int)) hlt).congr (fun j hj => by dsimp only; split <;> rfl)), fun j hj => by
          dsimp only
          split
          · rename_i h; rw [h]
          · exact HE.out j (by omega)⟩⟩
      · obtain rfl : i = 8 := by omega
        have t1 : ¬ ((8 : Nat) : Int) < 8 := by omega
        have HL := Lib.hid (logsF_len hp)
        clear hlt
        go_wp2_with fail
        go_ret
        obtain ⟨hb, f, hf, he⟩ := HS.out
        exact ⟨some ⟨g, 0, none⟩, 8, by rw [HL.out]; rfl, nums_blk hp hf he, hb, by rw [HL.out]; exact Nat.le_refl _, fun g' o' e => by cases e; rw [HG.out]; exact Nat.le_refl _⟩
  · have HR := Lib.hid (lright_no hs w)
    have HL : Hid (logsF s = []) := Lib.hid (by unfold logsF; rw [if_neg hs])
    clear hs
    go_enter Tryz.func110, Tryz.ntmps110
    go_wp2_with fail
    refine HR.out.mono ?_
    rintro e w' ⟨rfl, hw⟩
    obtain rfl := hw.symm
    go_wp2_with fail
    go_ret
    refine ⟨none, 0, by rw [HL.out]; rfl, by rw [HL.out]; exact fun i x hx => by simp at hx, Below.refl _ _, by rw [HL.out]; exact Nat.le_refl _, fun g' o' e => by cases e⟩
theorem litNums {w : World} {cs : Array Value} {xs : List Int} (h : cs.toList = intsV xs) : Nums (w.alloc (.cells cs 3)) (some ⟨w.heap.size, 0, none⟩) xs := fun i x hx => by
  refine ⟨w.heap.size, 0, rfl, by rw [alloc_size]; omega, ?_⟩
  rw [cell_of_block (alloc_block w _), Nat.zero_add, ← Array.getElem?_toList, h]
  simp [intsV, hx]
end Go.Proofs.YthpkpmochkiipaaGreatDoor
namespace Go.Proofs.YthpkpmochkiipaaGreatDoor.Kc

def dbl (x : Nat) : Nat := bif Nat.ble 256 (2 * x) then (2 * x) ^^^ 285 else 2 * x
def pw : Nat → Nat
  | 0 => 1
  | n + 1 => dbl (pw n)
def dbls : Nat → Nat → Nat
  | 0, x => x
  | n + 1, x => dbl (dbls n x)
def lgFrom (a : Nat) : Nat → Nat → Nat → Nat
  | 0, _, n => n
  | fuel + 1, x, n => bif Nat.beq x a then n else lgFrom a fuel (dbl x) (n + 1)
def lg (a : Nat) : Nat := lgFrom a 255 1 0

def all (n : Nat) (p : Nat → Bool) : Bool := Nat.rec true (fun k ih => p k && ih) n

theorem all_of {n : Nat} {p : Nat → Bool} (h : all n p = true) : ∀ k, k < n → p k = true := by
  induction n with
  | zero => intro k hk; omega
  | succ n ih =>
    have h' : (p n && all n p) = true := h
    rw [Bool.and_eq_true] at h'
    intro k hk
    rcases Nat.lt_or_eq_of_le (Nat.le_of_lt_succ hk) with hl | rfl
    · exact ih h'.2 k hl
    · exact h'.1

theorem check_dbl : all 256 (fun x => Nat.ble (dbl x) 255) = true := by kernel_rfl
theorem check_lg : all 256 (fun a => Nat.beq a 0 || (Nat.beq (pw (lg a)) a && Nat.ble (lg a) 254)) = true := by kernel_rfl
theorem check_pw : all 255 (fun n => Nat.beq (lg (pw n)) n) = true := by kernel_rfl
theorem pw_255 : pw 255 = 1 := by kernel_rfl

theorem dbl_lt {x : Nat} (h : x < 256) : dbl x < 256 := by
  have := all_of check_dbl x h
  have := Nat.le_of_ble_eq_true this
  omega
theorem pw_lt (n : Nat) : pw n < 256 := by
  induction n with
  | zero => decide
  | succ n ih => exact dbl_lt ih
theorem dbls_lt (n : Nat) {x : Nat} (h : x < 256) : dbls n x < 256 := by
  induction n with
  | zero => exact h
  | succ n ih => exact dbl_lt ih
theorem lg_ok {a : Nat} (h : a < 256) (h0 : a ≠ 0) : pw (lg a) = a ∧ lg a < 255 := by
  have := all_of check_lg a h
  rw [Bool.or_eq_true, Bool.and_eq_true] at this
  rcases this with h1 | ⟨h1, h2⟩
  · exact absurd (Nat.eq_of_beq_eq_true h1) h0
  · exact ⟨Nat.eq_of_beq_eq_true h1, by have := Nat.le_of_ble_eq_true h2; omega⟩
theorem lg_pw {n : Nat} (h : n < 255) : lg (pw n) = n := Nat.eq_of_beq_eq_true (all_of check_pw n h)
theorem pw_inj {n m : Nat} (hn : n < 255) (hm : m < 255) (e : pw n = pw m) : n = m := by rw [← lg_pw hn, ← lg_pw hm, e]
theorem pw_add (n m : Nat) : pw (n + m) = dbls n (pw m) := by
  induction n with
  | zero => rw [Nat.zero_add]; rfl
  | succ n ih => rw [Nat.succ_add]; show dbl (pw (n + m)) = dbl (dbls n (pw m)); rw [ih]
theorem pw_period (n : Nat) : pw (n + 255) = pw n := by rw [pw_add, pw_255]; exact (pw_add n 0).symm
theorem pw_mod (n : Nat) : pw (n % 255) = pw n := by
  have h : ∀ k, pw (n % 255 + 255 * k) = pw (n % 255) := by
    intro k
    induction k with
    | zero => rfl
    | succ k ih => rw [Nat.mul_succ, ← Nat.add_assoc, pw_period, ih]
  have := h (n / 255)
  rw [Nat.mod_add_div] at this
  exact this.symm
theorem dbls_zero (n : Nat) : dbls n 0 = 0 := by
  induction n with
  | zero => rfl
  | succ n ih => show dbl (dbls n 0) = 0; rw [ih]; rfl
theorem dbl_eq (x : Nat) : dbl x = if 256 ≤ 2 * x then (2 * x) ^^^ 285 else 2 * x := by
  unfold dbl
  by_cases h : 256 ≤ 2 * x
  · rw [if_pos h, Nat.ble_eq_true_of_le h]; rfl
  · rw [if_neg h]
    cases e : Nat.ble 256 (2 * x)
    · rfl
    · exact absurd (Nat.le_of_ble_eq_true e) h
theorem pw_pos (n : Nat) : pw n ≠ 0 := by
  rw [← pw_mod]
  have h : all 255 (fun n => !(Nat.beq (pw n) 0)) = true := by kernel_rfl
  have := all_of h (n % 255) (Nat.mod_lt _ (by decide))
  intro e
  rw [e] at this
  exact absurd this (by decide)

theorem two_xor (x y : Nat) : 2 * (x ^^^ y) = (2 * x) ^^^ (2 * y) := by
  have := Nat.shiftLeft_xor_distrib (a := x) (b := y) (i := 1)
  rw [Nat.shiftLeft_eq, Nat.shiftLeft_eq, Nat.shiftLeft_eq, Nat.mul_comm, Nat.mul_comm x, Nat.mul_comm y] at this
  exact this
theorem big_testBit {x : Nat} (h : x < 512) : (256 ≤ x) ↔ x.testBit 8 = true := by
  rw [Nat.testBit_eq_decide_div_mod_eq]
  simp
  omega
theorem dbl_xor {x y : Nat} (hx : x < 256) (hy : y < 256) : dbl (x ^^^ y) = dbl x ^^^ dbl y := by
  have hxy : x ^^^ y < 256 := Nat.xor_lt_two_pow (n := 8) hx hy
  rw [dbl_eq, dbl_eq, dbl_eq, two_xor]
  have e : (256 ≤ (2 * x) ^^^ (2 * y)) ↔ ((2 * x).testBit 8 ^^ (2 * y).testBit 8) = true := by
    rw [big_testBit (by rw [← two_xor]; omega), Nat.testBit_xor]
  have e1 := big_testBit (x := 2 * x) (by omega)
  have e2 := big_testBit (x := 2 * y) (by omega)
  by_cases h1 : 256 ≤ 2 * x <;> by_cases h2 : 256 ≤ 2 * y
  · rw [if_neg (by rw [e, e1.1 h1, e2.1 h2]; decide), if_pos h1, if_pos h2]
    apply Nat.eq_of_testBit_eq
    intro i
    simp only [Nat.testBit_xor]
    cases (2 * x).testBit i <;> cases (2 * y).testBit i <;> cases Nat.testBit 285 i <;> rfl
  · have n2 : (2 * y).testBit 8 = false := by cases h : (2 * y).testBit 8; rfl; exact absurd (e2.2 h) h2
    rw [if_pos (by rw [e, e1.1 h1, n2]; decide), if_pos h1, if_neg h2]
    apply Nat.eq_of_testBit_eq
    intro i
    simp only [Nat.testBit_xor]
    cases (2 * x).testBit i <;> cases (2 * y).testBit i <;> cases Nat.testBit 285 i <;> rfl
  · have n1 : (2 * x).testBit 8 = false := by cases h : (2 * x).testBit 8; rfl; exact absurd (e1.2 h) h1
    rw [if_pos (by rw [e, n1, e2.1 h2]; decide), if_neg h1, if_pos h2]
    apply Nat.eq_of_testBit_eq
    intro i
    simp only [Nat.testBit_xor]
    cases (2 * x).testBit i <;> cases (2 * y).testBit i <;> cases Nat.testBit 285 i <;> rfl
  · have n1 : (2 * x).testBit 8 = false := by cases h : (2 * x).testBit 8; rfl; exact absurd (e1.2 h) h1
    have n2 : (2 * y).testBit 8 = false := by cases h : (2 * y).testBit 8; rfl; exact absurd (e2.2 h) h2
    rw [if_neg (by rw [e, n1, n2]; decide), if_neg h1, if_neg h2]
theorem xor_lt {x y : Nat} (hx : x < 256) (hy : y < 256) : x ^^^ y < 256 := Nat.xor_lt_two_pow (n := 8) hx hy
theorem dbls_xor (n : Nat) {x y : Nat} (hx : x < 256) (hy : y < 256) : dbls n (x ^^^ y) = dbls n x ^^^ dbls n y := by
  induction n with
  | zero => rfl
  | succ n ih => show dbl _ = dbl _ ^^^ dbl _; rw [ih, dbl_xor (dbls_lt n hx) (dbls_lt n hy)]

def mul (a b : Nat) : Nat := if a = 0 ∨ b = 0 then 0 else pw ((lg a + lg b) % 255)
def inv (a : Nat) : Nat := pw ((255 - lg a) % 255)

theorem mul_lt (a b : Nat) : mul a b < 256 := by
  unfold mul
  split
  · decide
  · exact pw_lt _
theorem mul_comm (a b : Nat) : mul a b = mul b a := by unfold mul; simp only [Or.comm (a := a = 0), Nat.add_comm (lg a)]
theorem zero_mul (a : Nat) : mul 0 a = 0 := by unfold mul; rw [if_pos (Or.inl rfl)]
theorem mul_zero (a : Nat) : mul a 0 = 0 := by unfold mul; rw [if_pos (Or.inr rfl)]
theorem mul_dbls {a b : Nat} (_ha : a < 256) (hb : b < 256) (h0 : a ≠ 0) : mul a b = dbls (lg a) b := by
  by_cases hb0 : b = 0
  · subst hb0; rw [mul_zero, dbls_zero]
  · unfold mul
    rw [if_neg (by simp [h0, hb0]), pw_mod, pw_add, (lg_ok hb hb0).1]
theorem mul_pw (n m : Nat) : mul (pw n) (pw m) = pw (n + m) := by
  rw [← pw_mod n, ← pw_mod m]
  unfold mul
  rw [if_neg (by simp [pw_pos]), lg_pw (Nat.mod_lt _ (by decide)), lg_pw (Nat.mod_lt _ (by decide)), ← Nat.add_mod, pw_mod]
theorem as_pw {a : Nat} (h : a < 256) (h0 : a ≠ 0) : ∃ n, n < 255 ∧ a = pw n := ⟨lg a, (lg_ok h h0).2, (lg_ok h h0).1.symm⟩
theorem mul_assoc {a b c : Nat} (ha : a < 256) (hb : b < 256) (hc : c < 256) : mul a (mul b c) = mul (mul a b) c := by
  by_cases a0 : a = 0
  · subst a0; rw [zero_mul, zero_mul, zero_mul]
  by_cases b0 : b = 0
  · subst b0; rw [zero_mul, mul_zero, zero_mul]
  by_cases c0 : c = 0
  · subst c0; rw [mul_zero, mul_zero, mul_zero]
  obtain ⟨i, -, rfl⟩ := as_pw ha a0
  obtain ⟨j, -, rfl⟩ := as_pw hb b0
  obtain ⟨k, -, rfl⟩ := as_pw hc c0
  rw [mul_pw, mul_pw, mul_pw, mul_pw, Nat.add_assoc]
theorem mul_xor {a b c : Nat} (ha : a < 256) (hb : b < 256) (hc : c < 256) : mul a (b ^^^ c) = mul a b ^^^ mul a c := by
  by_cases a0 : a = 0
  · subst a0; rw [zero_mul, zero_mul, zero_mul]; rfl
  rw [mul_dbls ha (xor_lt hb hc) a0, mul_dbls ha hb a0, mul_dbls ha hc a0, dbls_xor _ hb hc]
theorem mul_one {a : Nat} (ha : a < 256) : mul a 1 = a := by
  by_cases a0 : a = 0
  · subst a0; rw [zero_mul]
  obtain ⟨i, -, rfl⟩ := as_pw ha a0
  exact mul_pw i 0
theorem mul_eq_zero {a b : Nat} : mul a b = 0 ↔ a = 0 ∨ b = 0 := by
  unfold mul
  split
  · simp [*]
  · simp only [pw_pos, false_iff]; assumption
theorem inv_lt (a : Nat) : inv a < 256 := pw_lt _
theorem inv_pos (a : Nat) : inv a ≠ 0 := pw_pos _
theorem inv_pw {n : Nat} (h : n < 255) : inv (pw n) = pw (255 - n) := by unfold inv; rw [lg_pw h, pw_mod]
theorem mul_inv {a : Nat} (ha : a < 256) (h0 : a ≠ 0) : mul a (inv a) = 1 := by
  obtain ⟨i, hi, rfl⟩ := as_pw ha h0
  rw [inv_pw hi, mul_pw, show i + (255 - i) = 0 + 255 by omega, pw_period]; rfl
theorem pw_zero : pw 0 = 1 := rfl
theorem pw_succ (n : Nat) : pw (n + 1) = dbl (pw n) := rfl
theorem mul_def (a b : Nat) : mul a b = if a = 0 ∨ b = 0 then 0 else pw ((lg a + lg b) % 255) := rfl
theorem inv_def (a : Nat) : inv a = pw ((255 - lg a) % 255) := rfl
attribute [irreducible] pw lg lgFrom inv mul dbls dbl
end Go.Proofs.YthpkpmochkiipaaGreatDoor.Kc
