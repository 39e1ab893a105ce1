import Derived.Test.YtelmcchleclklaaGreatV24
namespace Go.Proofs.YtelmcchleclklaaGreat
open Go.RowKit Go.Sort
set_option maxRecDepth 100000
set_option maxHeartbeats 1000000

structure Wp.Calm (s : Wp) : Prop where
 F : s.F = []
 dead : s.dead = false
 fuse : s.fuse < 0
def Wp.hit (s : Wp) (n : Nat) (q : Rq) : Wp := s.cnt.took.setN n ((s.N n).act q).1
theorem Wp.hit_at (s : Wp) (n : Nat) (q : Rq) : (s.hit n q).N n = ((s.N n).act q).1 := Wp.at_ _ _ _
theorem Wp.hit_far (s : Wp) {n j : Nat} (q : Rq) (h : j ≠ n) : (s.hit n q).N j = s.N j := Wp.far _ _ h
theorem Wp.Calm.hit {s : Wp} (h : s.Calm) (n : Nat) (q : Rq) : (s.hit n q).Calm := ⟨by show s.F.tail = []; rw [h.F]; rfl, h.dead, h.fuse⟩
theorem Wp.Calm.call_down {s : Wp} (_h : s.Calm) {n : Nat} (hd : s.dn n = true) (q : Rq) : s.call n q = (s, .err 4) := Wp.tries_down (by unfold Wp.leads; rw [hd, Bool.or_true, if_pos rfl])
theorem Wp.Calm.send {s : Wp} (h : s.Calm) (n : Nat) (q : Rq) : s.send n q = (s.hit n q, some ((s.N n).act q)) := by
 have hf : s.fate = 0 := by unfold Wp.fate; rw [h.F]; rfl
 unfold Wp.send Wp.sendF
 rw [hf, if_neg (by decide), if_neg (by decide), if_neg (by decide)]
 rfl
theorem Wp.Calm.call_ok {s : Wp} (h : s.Calm) {n : Nat} (hd : s.dn n = false) {q : Rq} (hc : ((s.N n).act q).2.code = 0) : s.call n q = (s.hit n q, .ok ((s.N n).act q)) :=
 Wp.tries_ok (Wp.leads_free h.dead hd h.fuse) (h.send n q) hc
theorem Wp.Calm.call_no {s : Wp} (h : s.Calm) {n : Nat} (hd : s.dn n = false) {q : Rq} (hc : ((s.N n).act q).2.code ≠ 0) : s.call n q = (s.hit n q, .err ((s.N n).act q).2.code) :=
 Wp.tries_no (Wp.leads_free h.dead hd h.fuse) (h.send n q) hc
theorem Wp.Calm.flush {s : Wp} (h : s.Calm) {n : Nat} (hd : s.dn n = false) : s.call n qFl = (s.hit n qFl, .ok ((s.N n).act qFl)) := h.call_ok hd (by rw [Ns.act_flush])
theorem Wp.Calm.done_ok {s : Wp} (h : s.Calm) {n : Nat} (hd : s.dn n = false) {q : Rq} (hc : ((s.N n).act q).2.code = 0) : s.done n q = ((s.hit n q).hit n qFl, 0) := by
 have h2 := (h.hit n q).flush (n := n) hd
 unfold Wp.done
 rw [h.call_ok hd hc]
 dsimp only
 rw [h2]
 dsimp only
 rw [Wp.hit_at, Ns.act_boot, if_pos rfl]
theorem Wp.Calm.done_no {s : Wp} (h : s.Calm) {n : Nat} (hd : s.dn n = false) {q : Rq} (hc : ((s.N n).act q).2.code ≠ 0) : s.done n q = (s.hit n q, ((s.N n).act q).2.code) := by
 unfold Wp.done
 rw [h.call_no hd hc]
theorem Wp.Calm.done_down {s : Wp} (h : s.Calm) {n : Nat} (hd : s.dn n = true) (q : Rq) : s.done n q = (s, 4) := by
 unfold Wp.done
 rw [h.call_down hd]
def cntP (p : It → Bool) (a : Ns) : Nat := (colR a.R 16).countP (fun e => p e.2)
def cntW (p : It → Bool) (s : Wp) : Nat → Nat
 | 0 => 0
 | m + 1 => cntW p s m + cntP p (s.N m)
theorem colR_count_upd (p : It → Bool) (R : Nat → Option Nt) (k : Nat) (e : Nt) : ∀ m, (colR (updR R k (some e)) m).countP (fun e => p e.2) ≤ (colR R m).countP (fun e => p e.2) + (if k < m ∧ p e.2 = true then 1 else 0)
 | 0 => Nat.zero_le _
 | m + 1 => by
  have ih := colR_count_upd p R k e m
  unfold colR
  rw [List.countP_append, List.countP_append]
  by_cases ek : m = k
  ·subst ek
   rw [if_neg (by omega)] at ih
   rw [updR_at]
   have : (List.countP (fun e => p e.2) (some e).toList) ≤ if p e.2 = true then 1 else 0 := by simp [Option.toList, List.countP_cons]
   split at this
   ·next hp => rw [if_pos ⟨by omega, hp⟩]; omega
   ·omega
  ·have e2 : updR R k (some e) m = R m := by unfold updR; rw [if_neg ek]
   rw [e2]
   split at ih
   ·next hh => rw [if_pos ⟨by omega, hh.2⟩]; omega
   ·omega
theorem colR_count_rel (p : It → Bool) (R : Nat → Option Nt) (s g : Int) : ∀ m, (colR (fun k => relO s g (R k)) m).countP (fun e => p e.2) ≤ (colR R m).countP (fun e => p e.2)
 | 0 => Nat.le_refl _
 | m + 1 => by
  have ih := colR_count_rel p R s g m
  unfold colR
  rw [List.countP_append, List.countP_append]
  have : List.countP (fun e => p e.2) (relO s g (R m)).toList ≤ List.countP (fun e => p e.2) (R m).toList := by
   cases hr : R m with
   | none => exact Nat.le_refl _
   | some e =>
    obtain ⟨n, x⟩ := e
    unfold relO
    dsimp only
    split
    ·exact Nat.zero_le _
    ·exact Nat.le_refl _
  omega
theorem cntP_act (p : It → Bool) (a : Ns) (q : Rq) : cntP p (a.act q).1 ≤ cntP p a + (if q.k = 3 ∧ p q.it = true then 1 else 0) := by
 refine Ns.act_cases (P := fun b => cntP p b ≤ cntP p a + (if q.k = 3 ∧ p q.it = true then 1 else 0)) a q (Nat.le_add_right _ _) (fun _ _ => Nat.le_add_right _ _) (fun hk hf => ?_) (Nat.le_add_right _ _) (fun _ => ?_)
 ·have := colR_count_upd p a.R (freeTo a.R 16) (a.last + 1, q.it) 16
  show (colR (updR a.R (freeTo a.R 16) (some (a.last + 1, q.it))) 16).countP _ ≤ (colR a.R 16).countP _ + _
  by_cases hp : p q.it = true
  ·rw [if_pos ⟨hk, hp⟩]
   split at this <;> omega
  ·rw [if_neg (fun x => hp x.2)]
   rw [if_neg (fun x => hp x.2)] at this
   exact this
 ·have := colR_count_rel p a.R q.s q.g 16
  show (colR (fun k => relO q.s q.g (a.R k)) 16).countP _ ≤ (colR a.R 16).countP _ + _
  omega
theorem cntW_at {p : It → Bool} {s s' : Wp} {n d : Nat} (h : cntP p (s'.N n) ≤ cntP p (s.N n) + d) (ho : ∀ j, j ≠ n → s'.N j = s.N j) : ∀ m, cntW p s' m ≤ cntW p s m + d
 | 0 => Nat.zero_le _
 | m + 1 => by
  have ih := cntW_at h ho m
  unfold cntW
  by_cases e : m = n
  ·subst e
   have : cntW p s' m = cntW p s m := by
    have : ∀ k, k ≤ m → cntW p s' k = cntW p s k := by
     intro k hk
     induction k with
     | zero => rfl
     | succ k ih => unfold cntW; rw [ih (by omega), ho k (by omega)]
    exact this m (Nat.le_refl _)
   omega
  ·rw [ho m e]
   omega
theorem cntW_hit (p : It → Bool) (s : Wp) (n : Nat) (q : Rq) (m : Nat) : cntW p (s.hit n q) m ≤ cntW p s m + (if q.k = 3 ∧ p q.it = true then 1 else 0) :=
 cntW_at (n := n) (by rw [Wp.hit_at]; exact cntP_act p _ q) (fun j hj => Wp.hit_far _ _ hj) m
theorem cntW_mono {p p' : It → Bool} (h : ∀ x, p x = true → p' x = true) (s : Wp) : ∀ m, cntW p s m ≤ cntW p' s m
 | 0 => Nat.le_refl _
 | m + 1 => by
  have := cntW_mono h s m
  have : cntP p (s.N m) ≤ cntP p' (s.N m) := List.countP_mono_left (fun e _ he => h _ he)
  unfold cntW
  omega
theorem cntW_or {p p1 p2 : It → Bool} (h : ∀ x, p x = true → p1 x = true ∨ p2 x = true) (s : Wp) : ∀ m, cntW p s m ≤ cntW p1 s m + cntW p2 s m
 | 0 => Nat.le_refl _
 | m + 1 => by
  have := cntW_or h s m
  have : cntP p (s.N m) ≤ cntP p1 (s.N m) + cntP p2 (s.N m) := by
   unfold cntP
   induction colR (s.N m).R 16 with
   | nil => exact Nat.le_refl _
   | cons e l ih =>
    rw [List.countP_cons, List.countP_cons, List.countP_cons]
    by_cases hp : p e.2 = true
    ·rcases h _ hp with h1 | h1
     ·rw [if_pos hp, if_pos h1]; split <;> omega
     ·rw [if_pos hp, if_pos h1]; split <;> omega
    ·rw [if_neg hp]
     split <;> split <;> omega
  unfold cntW
  omega
theorem cntW_none {p : It → Bool} (h : ∀ x, p x = false) (s : Wp) : ∀ m, cntW p s m = 0
 | 0 => rfl
 | m + 1 => by
  have : cntP p (s.N m) = 0 := List.countP_eq_zero.2 (fun e _ he => by rw [h] at he; cases he)
  unfold cntW
  rw [cntW_none h s m, this]
theorem cntW_zero {p : It → Bool} (s : Wp) : ∀ m, (∀ n, n < m → ∀ k x no, k < 16 → (s.N n).R k = some (no, x) → p x = false) → cntW p s m = 0
 | 0, _ => rfl
 | m + 1, h => by
  have : cntP p (s.N m) = 0 := List.countP_eq_zero.2 (fun e he hp => by
   obtain ⟨k, hk, ek⟩ := colR_mem.1 he
   have := h m (by omega) k e.2 e.1 hk ek
   rw [this] at hp
   cases hp)
  unfold cntW
  rw [cntW_zero s m (fun n hn => h n (by omega)), this]
theorem cntP_full {p : It → Bool} {a : Ns} (h : ∀ k, k < 16 → ∃ no x, a.R k = some (no, x) ∧ p x = true) : cntP p a = 16 := by
 have : ∀ m, m ≤ 16 → (colR a.R m).countP (fun e => p e.2) = m := by
  intro m hm
  induction m with
  | zero => rfl
  | succ m ih =>
   obtain ⟨no, x, e, hp⟩ := h m (by omega)
   unfold colR
   rw [List.countP_append, ih (by omega), e]
   simp [Option.toList, hp]
 exact this 16 (Nat.le_refl _)
theorem cntW_ge {p : It → Bool} {s : Wp} : ∀ (m : Nat) (l : List Nat), l.Nodup → (∀ n ∈ l, n < m ∧ cntP p (s.N n) = 16) → 16 * l.length ≤ cntW p s m
 | 0, l, _, h => by
  cases l with
  | nil => exact Nat.le_refl _
  | cons x l => exact absurd (h x (List.mem_cons_self ..)).1 (by omega)
 | m + 1, l, hn, h => by
  by_cases hm : m ∈ l
  ·have h2 := cntW_ge m (l.erase m) (hn.erase m) (fun n hx => by
    have h3 := h n (List.mem_of_mem_erase hx)
    have h4 : n ≠ m := fun e => by rw [e] at hx; exact (List.Nodup.not_mem_erase hn) hx
    exact ⟨by omega, h3.2⟩)
   have h5 := List.length_erase_of_mem hm
   have h6 : 1 ≤ l.length := List.length_pos_of_mem hm
   have h7 := (h m hm).2
   unfold cntW
   omega
  ·have h2 := cntW_ge m l hn (fun n hx => by
    have h3 := h n hx
    have h4 : n ≠ m := fun e => by rw [e] at hx; exact hm hx
    exact ⟨by omega, h3.2⟩)
   unfold cntW
   omega
theorem cntW_congr {p : It → Bool} {s s' : Wp} (h : s'.N = s.N) : ∀ m, cntW p s' m = cntW p s m
 | 0 => rfl
 | m + 1 => by unfold cntW; rw [cntW_congr h m, h]
attribute [irreducible] cntW
end Go.Proofs.YtelmcchleclklaaGreat
namespace Go.Proofs.YtelmcchleclklaaGreat
open Go.RowKit Go.Sort
set_option maxRecDepth 100000
set_option maxHeartbeats 1000000

def Ent (a : Ns) (x : It) : Prop := ∃ k no, k < 16 ∧ a.R k = some (no, x)
theorem Ent.act {a : Ns} {q : Rq} {x : It} (h : Ent (a.act q).1 x) : Ent a x ∨ (q.k = 3 ∧ x = q.it) := by
 revert h
 refine Ns.act_cases (P := fun b => Ent b x → Ent a x ∨ (q.k = 3 ∧ x = q.it)) a q Or.inl (fun _ _ => Or.inl) (fun hk hf h => ?_) Or.inl (fun _ h => ?_)
 ·obtain ⟨k, no, hk2, e⟩ := h
  have e2 : updR a.R (freeTo a.R 16) (some (a.last + 1, q.it)) k = some (no, x) := e
  unfold updR at e2
  split at e2
  ·injection e2 with e2
   injection e2 with _ e3
   exact Or.inr ⟨hk, e3.symm⟩
  ·exact Or.inl ⟨k, no, hk2, e2⟩
 ·obtain ⟨k, no, hk2, e⟩ := h
  exact Or.inl ⟨k, no, hk2, (relO_some e).1⟩
theorem Ns.log_code {a : Ns} {st g : Nat} {D : Nat → Nat} (hs : st < 40) (h1 : 1 ≤ g) (h2 : g ≤ 1099511627776) : (a.act (qLg st g D)).2.code = 0 ∨ ((a.act (qLg st g D)).2.code = 6 ∧ (a.act (qLg st g D)).1 = a ∧ ∀ k, k < 16 → a.R k ≠ none) := by
 have ho : (qLg st g D).okI = true := (Rq.okI_iff _).2 (by unfold OkJ qLg; dsimp only; omega)
 rw [Ns.act_lg, if_pos ho]
 unfold Ns.log
 split
 ·exact Or.inl rfl
 ·split
  ·next hf =>
   refine Or.inr ⟨rfl, rfl, fun k hk => ?_⟩
   have := (freeTo_spec a.R 16).2.1
   rw [hf] at this
   exact this k hk
  ·exact Or.inl rfl
theorem Ns.act_rl (a : Ns) (s g : Nat) : a.act (qRl s g) = (⟨a.t, fun k => relO (s : Int) (g : Int) (a.R k), a.last, a.boot, a.nw⟩, ⟨0, [], []⟩) := by
 unfold Ns.act qRl
 simp
theorem Ns.act_in (a : Ns) : a.act qIn = (a, ⟨0, [], (liveT a.R).map (·.2)⟩) := by
 unfold Ns.act qIn
 simp
theorem Ns.put_code {a : Ns} {st g i : Nat} {D : Nat → Nat} (hs : st < 40) (h1 : 1 ≤ g) (h2 : g ≤ 1099511627776) (hi : i < 6) : (a.act (qPt st g i D)).2.code = 0 := by
 have ho : (qPt st g i D).okP = true := (Rq.okP_iff _).2 (by unfold OkI qPt; dsimp only; omega)
 rw [Ns.act_pt, if_pos ho]
structure Ad (s s' : Wp) (n d : Nat) (x : It) : Prop where
 calm : s'.Calm
 dn : s'.dn = s.dn
 far : ∀ j, j ≠ n → s'.N j = s.N j
 cnt : ∀ p : It → Bool, cntP p (s'.N n) ≤ cntP p (s.N n) + (if p x = true then d else 0)
 ent : ∀ y, Ent (s'.N n) y → Ent (s.N n) y ∨ y = x
theorem Ad.refl {s : Wp} (h : s.Calm) (n d : Nat) (x : It) : Ad s s n d x := ⟨h, rfl, fun _ _ => rfl, fun _ => Nat.le_add_right _ _, fun _ h => Or.inl h⟩
theorem Ad.trans {a b c : Wp} {n d d' : Nat} {x : It} (h : Ad a b n d x) (k : Ad b c n d' x) : Ad a c n (d + d') x :=
 ⟨k.calm, k.dn.trans h.dn, fun j hj => (k.far j hj).trans (h.far j hj), fun p => by
  have h1 := h.cnt p
  have h2 := k.cnt p
  by_cases hp : p x = true
  ·rw [if_pos hp] at *; omega
  ·rw [if_neg hp] at *; omega, fun y hy => by
  rcases k.ent y hy with h1 | h1
  ·exact h.ent y h1
  ·exact Or.inr h1⟩
theorem Ad.hit {s : Wp} (h : s.Calm) (n : Nat) {q : Rq} (hq : q.k ≠ 3) (x : It) : Ad s (s.hit n q) n 0 x :=
 ⟨h.hit n q, rfl, fun j hj => Wp.hit_far _ _ hj, fun p => by
  have := cntP_act p (s.N n) q
  rw [if_neg (fun y => hq y.1)] at this
  rw [Wp.hit_at]
  omega, fun y hy => by
  rw [Wp.hit_at] at hy
  rcases hy.act with h1 | h1
  ·exact Or.inl h1
  ·exact absurd h1.1 hq⟩
theorem Ad.log {s : Wp} (h : s.Calm) (n st g : Nat) (D : Nat → Nat) : Ad s (s.hit n (qLg st g D)) n 1 ⟨st, g, D⟩ :=
 ⟨h.hit n _, rfl, fun j hj => Wp.hit_far _ _ hj, fun p => by
  have := cntP_act p (s.N n) (qLg st g D)
  rw [Wp.hit_at]
  by_cases hp : p ⟨st, g, D⟩ = true
  ·rw [if_pos hp]
   split at this <;> omega
  ·rw [if_neg hp]
   rw [if_neg (fun y => hp y.2)] at this
   exact this, fun y hy => by
  rw [Wp.hit_at] at hy
  rcases hy.act with h1 | h1
  ·exact Or.inl h1
  ·exact Or.inr h1.2⟩
theorem Ad.same {s : Wp} (h : s.Calm) {n : Nat} {q : Rq} (e : ((s.N n).act q).1 = s.N n) (x : It) : Ad s (s.hit n q) n 0 x :=
 ⟨h.hit n _, rfl, fun j hj => Wp.hit_far _ _ hj, fun p => by rw [Wp.hit_at, e]; exact Nat.le_add_right _ _, fun y hy => by rw [Wp.hit_at, e] at hy; exact Or.inl hy⟩
theorem rels_calm {n : Nat} (x : It) : ∀ (l : List It) (s : Wp), s.Calm → s.dn n = false → Ad s (s.rels n l) n 0 x ∧ ∀ k no y, ((s.rels n l).N n).R k = some (no, y) → (s.N n).R k = some (no, y) ∧ ∀ z ∈ l, ¬ (y.s = z.s ∧ y.g = z.g)
 | [], s, h, _ => ⟨Ad.refl h n 0 x, fun k no y e => ⟨e, fun z hz => by cases hz⟩⟩
 | z :: l, s, h, hd => by
  have e0 : s.rels n (z :: l) = (s.hit n (qRl z.s z.g)).rels n l := by
   show ((s.call n (qRl z.s z.g)).1).rels n l = _
   rw [h.call_ok hd (by rw [Ns.act_rl])]
  have a1 := Ad.hit h n (q := qRl z.s z.g) (by show (6 : Int) ≠ 3; decide) x
  obtain ⟨a2, a3⟩ := rels_calm x l (s.hit n (qRl z.s z.g)) a1.calm hd
  rw [e0]
  refine ⟨a1.trans a2, fun k no y e => ?_⟩
  obtain ⟨b1, b2⟩ := a3 k no y e
  rw [Wp.hit_at, Ns.act_rl] at b1
  obtain ⟨c1, c2⟩ := relO_some b1
  refine ⟨c1, fun z' hz' => ?_⟩
  rcases List.mem_cons.1 hz' with rfl | hz'
  ·exact fun hh => c2 ⟨by omega, by omega⟩
  ·exact b2 z' hz'
theorem sweep_calm {e : Ep} {s : Wp} (h : s.Calm) {n : Nat} (hd : s.dn n = false) (x : It) : Ad s (e.sweep s n) n 0 x ∧ ∀ k no y, k < 16 → ((e.sweep s n).N n).R k = some (no, y) → e.rel y = false := by
 have e0 : e.sweep s n = (s.hit n qIn).rels n (((liveT (s.N n).R).map (·.2)).filter e.rel) := by
  unfold Ep.sweep
  rw [h.call_ok hd (by rw [Ns.act_in]), Ns.act_in]
 have a1 := Ad.hit h n (q := qIn) (by show (5 : Int) ≠ 3; decide) x
 obtain ⟨a2, a3⟩ := rels_calm (n := n) x (((liveT (s.N n).R).map (·.2)).filter e.rel) (s.hit n qIn) a1.calm hd
 rw [e0]
 refine ⟨a1.trans a2, fun k no y hk hy => ?_⟩
 obtain ⟨b1, b2⟩ := a3 k no y hy
 rw [Wp.hit_at, Ns.act_in] at b1
 cases hr : e.rel y with
 | false => rfl
 | true =>
  exfalso
  refine b2 y (List.mem_filter.2 ⟨List.mem_map.2 ⟨(no, y), (liveT_perm _).mem_iff.2 (colR_mem.2 ⟨k, hk, b1⟩), rfl⟩, hr⟩) ⟨rfl, rfl⟩
theorem logs_calm {e : Ep} {s : Wp} (h : s.Calm) (n : Nat) {st g : Nat} (D : Nat → Nat) (hs : st < 40) (h1 : 1 ≤ g) (h2 : g ≤ 1099511627776) :
  Ad s (e.logs s n (qLg st g D)).1 n (if (e.logs s n (qLg st g D)).2 = 0 then 1 else 0) ⟨st, g, D⟩ ∧
  ((s.dn n = true ∧ (e.logs s n (qLg st g D)).2 = 4) ∨ (s.dn n = false ∧ (e.logs s n (qLg st g D)).2 = 0) ∨ (s.dn n = false ∧ (e.logs s n (qLg st g D)).2 = 6 ∧ cntP (fun x => !e.rel x) ((e.logs s n (qLg st g D)).1.N n) = 16)) := by
 have hfl : ∀ s : Wp, s.Calm → Ad s ((s.hit n (qLg st g D)).hit n qFl) n 1 ⟨st, g, D⟩ := fun s hc => (Ad.log hc n st g D).trans (Ad.hit (hc.hit n _) n (q := qFl) (by show (4 : Int) ≠ 3; decide) _)
 cases hd : s.dn n with
 | true =>
  have e0 : e.logs s n (qLg st g D) = (s, 4) := by
   unfold Ep.logs
   rw [h.done_down hd, if_neg (show ¬ (4 : Nat) = 6 by decide)]
  rw [e0]
  exact ⟨Ad.refl h n _ _, Or.inl ⟨rfl, rfl⟩⟩
 | false =>
  rcases Ns.log_code (a := s.N n) (D := D) hs h1 h2 with hc | ⟨hc, ha, _⟩
  ·have e0 : e.logs s n (qLg st g D) = ((s.hit n (qLg st g D)).hit n qFl, 0) := by
    unfold Ep.logs
    rw [h.done_ok hd hc, if_neg (show ¬ (0 : Nat) = 6 by decide)]
   rw [e0]
   exact ⟨by rw [if_pos rfl]; exact hfl s h, Or.inr (Or.inl ⟨rfl, rfl⟩)⟩
  ·obtain ⟨s1, hs1⟩ : ∃ s1, s.hit n (qLg st g D) = s1 := ⟨_, rfl⟩
   have a1 : Ad s s1 n 0 ⟨st, g, D⟩ := by rw [← hs1]; exact Ad.same h ha _
   have d1 : s1.dn n = false := by rw [a1.dn]; exact hd
   obtain ⟨a2, a3⟩ := sweep_calm (e := e) a1.calm d1 ⟨st, g, D⟩
   obtain ⟨s2, hs2⟩ : ∃ s2, e.sweep s1 n = s2 := ⟨_, rfl⟩
   rw [hs2] at a2 a3
   have d2 : s2.dn n = false := by rw [a2.dn]; exact d1
   have e1 : e.logs s n (qLg st g D) = s2.done n (qLg st g D) := by
    unfold Ep.logs
    rw [h.done_no hd (by rw [hc]; decide), hc, if_pos rfl]
    dsimp only
    rw [hs1, hs2]
   rw [e1]
   rcases Ns.log_code (a := s2.N n) (D := D) hs h1 h2 with hc2 | ⟨hc2, ha2, hf2⟩
   ·rw [a2.calm.done_ok d2 hc2]
    exact ⟨by rw [if_pos rfl]; exact (a1.trans a2).trans (hfl s2 a2.calm), Or.inr (Or.inl ⟨rfl, rfl⟩)⟩
   ·rw [a2.calm.done_no d2 (by rw [hc2]; decide), hc2]
    refine ⟨by rw [if_neg (show ¬ (6 : Nat) = 0 by decide)]; exact (a1.trans a2).trans (Ad.same a2.calm ha2 _), Or.inr (Or.inr ⟨rfl, rfl, ?_⟩)⟩
    dsimp only
    rw [Wp.hit_at, ha2]
    refine cntP_full (fun k hk => ?_)
    cases hr : (s2.N n).R k with
    | none => exact absurd hr (hf2 k hk)
    | some e3 => exact ⟨e3.1, e3.2, rfl, by rw [a3 k e3.1 e3.2 hk hr]; rfl⟩
structure AskC (e : Ep) (st : Nat) (x : It) (m : Nat) (r : Wp × Nat × List (Nat × Nat)) : Prop where
 calm : r.1.Calm
 dn : r.1.dn = e.w.dn
 cnt : ∀ p : It → Bool, cntW p r.1 8 ≤ cntW p e.w 8 + (if p x = true then r.2.1 else 0)
 ent : ∀ n y, Ent (r.1.N n) y → Ent (e.w.N n) y ∨ y = x
 le : r.2.1 ≤ 3
 er : ∀ z ∈ r.2.2, (z.2 = 4 ∧ e.w.dn z.1 = true) ∨ (z.2 = 6 ∧ e.w.dn z.1 = false ∧ cntP (fun y => !e.rel y) (r.1.N z.1) = 16)
 nd : ∀ z ∈ r.2.2, ∃ j, j < m ∧ z.1 = logN st j
 un : (r.2.2.map (·.1)).Nodup
 all : r.2.1 < 3 → r.2.2.length + r.2.1 = m
theorem askN_calm {e : Ep} (h : e.w.Calm) {st g : Nat} (D : Nat → Nat) (hs : st < 40) (h1 : 1 ≤ g) (h2 : g ≤ 1099511627776) : ∀ m, m ≤ 8 → AskC e st ⟨st, g, D⟩ m (e.askN (qLg st g D) st m)
 | 0, _ => by
  rw [Ep.askN_zero]
  exact ⟨h, rfl, fun _ => Nat.le_add_right _ _, fun _ _ h => Or.inl h, by show 0 ≤ 3; decide, (fun z hz => by cases hz), (fun z hz => by cases hz), List.nodup_nil, fun _ => rfl⟩
 | m + 1, hm => by
  have ih := askN_calm h D hs h1 h2 m (by omega)
  rw [Ep.askN_succ]
  obtain ⟨r, hr⟩ : ∃ r, e.askN (qLg st g D) st m = r := ⟨_, rfl⟩
  rw [hr] at ih ⊢
  split
  ·exact ⟨ih.calm, ih.dn, ih.cnt, ih.ent, ih.le, ih.er, fun z hz => by obtain ⟨j, hj, ej⟩ := ih.nd z hz; exact ⟨j, by omega, ej⟩, ih.un, fun hlt => by omega⟩
  ·next h3 =>
   obtain ⟨a, b⟩ := logs_calm (e := e) ih.calm (logN st m) D hs h1 h2
   obtain ⟨c, hc⟩ : ∃ c, e.logs r.1 (logN st m) (qLg st g D) = c := ⟨_, rfl⟩
   rw [hc] at a b ⊢
   have hcnt : ∀ p : It → Bool, cntW p c.1 8 ≤ cntW p r.1 8 + (if p ⟨st, g, D⟩ = true then (if c.2 = 0 then 1 else 0) else 0) := fun p => cntW_at (a.cnt p) a.far 8
   have hent : ∀ n y, Ent (c.1.N n) y → Ent (e.w.N n) y ∨ y = ⟨st, g, D⟩ := fun n y hy => by
    by_cases en : n = logN st m
    ·subst en
     rcases a.ent y hy with h5 | h5
     ·exact ih.ent _ y h5
     ·exact Or.inr h5
    ·rw [a.far n en] at hy
     exact ih.ent n y hy
   have hne : ∀ z ∈ r.2.2, z.1 ≠ logN st m := fun z hz ez => by
    obtain ⟨j, hj, ej⟩ := ih.nd z hz
    have := logN_inj (by omega) (by omega) (ej.symm.trans ez)
    omega
   have her : ∀ z ∈ r.2.2, (z.2 = 4 ∧ e.w.dn z.1 = true) ∨ (z.2 = 6 ∧ e.w.dn z.1 = false ∧ cntP (fun y => !e.rel y) (c.1.N z.1) = 16) := fun z hz => by
    rw [a.far _ (hne z hz)]
    exact ih.er z hz
   have hnd : ∀ z ∈ r.2.2, ∃ j, j < m + 1 ∧ z.1 = logN st j := fun z hz => by obtain ⟨j, hj, ej⟩ := ih.nd z hz; exact ⟨j, by omega, ej⟩
   split
   ·next h0 =>
    refine ⟨a.calm, a.dn.trans ih.dn, fun p => ?_, hent, by show r.2.1 + 1 ≤ 3; omega, her, hnd, ih.un, fun hlt => ?_⟩
    ·have := hcnt p
     have := ih.cnt p
     show cntW p c.1 8 ≤ cntW p e.w 8 + (if p ⟨st, g, D⟩ = true then r.2.1 + 1 else 0)
     rw [if_pos h0] at *
     by_cases hp : p ⟨st, g, D⟩ = true
     ·rw [if_pos hp] at *; omega
     ·rw [if_neg hp] at *; omega
    ·have := ih.all (by omega)
     show r.2.2.length + (r.2.1 + 1) = m + 1
     omega
   ·next h0 =>
    refine ⟨a.calm, a.dn.trans ih.dn, fun p => ?_, hent, ih.le, fun z hz => ?_, fun z hz => ?_, ?_, fun hlt => ?_⟩
    ·have := hcnt p
     have := ih.cnt p
     show cntW p c.1 8 ≤ cntW p e.w 8 + (if p ⟨st, g, D⟩ = true then r.2.1 else 0)
     rw [if_neg h0] at *
     by_cases hp : p ⟨st, g, D⟩ = true
     ·rw [if_pos hp] at *; omega
     ·rw [if_neg hp] at *; omega
    ·rcases List.mem_append.1 hz with hz | hz
     ·exact her z hz
     ·rw [List.mem_singleton] at hz
      subst hz
      rw [← ih.dn]
      rcases b with ⟨b1, b2⟩ | ⟨b1, b2⟩ | ⟨b1, b2, b3⟩
      ·exact Or.inl ⟨b2, b1⟩
      ·exact absurd b2 h0
      ·exact Or.inr ⟨b2, b1, b3⟩
    ·rcases List.mem_append.1 hz with hz | hz
     ·exact hnd z hz
     ·rw [List.mem_singleton] at hz
      subst hz
      exact ⟨m, by omega, rfl⟩
    ·show ((r.2.2 ++ [(logN st m, c.2)]).map (·.1)).Nodup
     rw [List.map_append]
     refine List.nodup_append.2 ⟨ih.un, by simp, fun x hx y hy exy => ?_⟩
     have hy2 : y = logN st m := by simpa using hy
     obtain ⟨z, hz, ez⟩ := List.mem_map.1 hx
     exact hne z hz (ez.trans (exy.trans hy2))
    ·have := ih.all hlt
     show (r.2.2 ++ [(logN st m, c.2)]).length + r.2.1 = m + 1
     rw [List.length_append]
     show r.2.2.length + 1 + r.2.1 = m + 1
     omega
end Go.Proofs.YtelmcchleclklaaGreat
