import Derived.Test.YtoofgcdilgfclaaU41
import Derived.Test.YtoofgcdilgfclaaU45
namespace Go.Proofs.Ytoofgcdilgfclaa
open Go.RowKit Go.Sort
set_option maxRecDepth 100000
set_option maxHeartbeats 2000000

/-! A byte less, or more, is none. -/
theorem Qx.lay_count {q : Qx} (h : q.Right) : numF (fun j => gt q.lay (10 + j)) 2 = q.D.length := by
  have h9 := h.2.2.2.2.2.2.2.2
  have e : numF (fun j => gt q.lay (10 + j)) 2 = numL (byteL q.D.length 2) := by
    unfold numL
    rw [byteL_len]
    refine numF_congr (fun j hj => ?_)
    have e1 := byteL_len q.k.toNat 1
    have e2 := byteL_len q.s.toNat 2
    have e3 := byteL_len q.g.toNat 6
    have e4 := byteL_len q.i.toNat 1
    have e5 := byteL_len q.D.length 2
    unfold Qx.lay
    rw [gt_app, if_neg (by omega), gt_app, if_neg (by omega), gt_app, if_neg (by omega), gt_app, if_neg (by omega), gt_app, if_pos (by omega)]
    congr 1
    omega
  rw [e]
  exact numL_byteL (by omega)
theorem projQ_off {q : Qx} (h : q.Right) {M : List Nat} (hM : By M) (hl : M.length ≠ q.lay.length) (hg : ∀ j, j < 12 → j < M.length → gt M j = gt q.lay j) : projQ M = none := by
  cases e : projQ M with
  | none => rfl
  | some p =>
    obtain ⟨h1, h2⟩ := of_projQ hM e
    exfalso
    have l1 := p.lay_len
    have l2 := q.lay_len
    rw [h2] at l1
    have c1 := Qx.lay_count h1
    have c2 := Qx.lay_count h
    rw [h2] at c1
    have : numF (fun j => gt M (10 + j)) 2 = numF (fun j => gt q.lay (10 + j)) 2 := numF_congr (fun j hj => hg _ (by omega) (by omega))
    omega
theorem projR_off {q : Rx} (h : q.Right) {M : List Nat} (hM : By M) (hl : M.length ≠ q.lay.length) (hg : ∀ j, j < q.lay.length → j < M.length → gt M j = gt q.lay j) : projR M = none := by
  cases e : projR M with
  | none => rfl
  | some p =>
    obtain ⟨h1, h2⟩ := of_projR hM e
    exfalso
    have l1 := Rx.lay_len h1
    have l2 := Rx.lay_len h
    rw [h2] at l1
    obtain ⟨c1, c2⟩ := Rx.lay_counts h1
    obtain ⟨d1, d2⟩ := Rx.lay_counts h
    rw [h2] at c1 c2
    rw [hg 5 (by omega) (by omega), d1] at c1
    rw [← c1, hg _ (by omega) (by omega), d2] at c2
    omega
/-! A reply under way, in a law. -/
structure RPS (w0 : World) (B P : Nat) (v : World) (code boot : Int) (u1 u2 : Value) (l : List Px) (m : List Ix) : Prop where
  cur : RV v P code boot u1 u2
  ps : PL1 v B u1 l
  xs : IL1 v B u2 m
  blw : Below B w0 v
  big : B ≤ P
section
variable {w0 v v' : World} {B P : Nat} {code boot : Int} {u1 u2 : Value} {l : List Px} {m : List Ix}
theorem RPS.below (h : RPS w0 B P v code boot u1 u2 l m) (b : Below v.heap.size v v') : RPS w0 B P v' code boot u1 u2 l m :=
  ⟨h.cur.below b, h.ps.below b, h.xs.below b, h.blw.trans (b.mono (by have := h.cur.lt; have := h.big; omega)), h.big⟩
theorem RPS.p0 (h : RPS w0 B P v code boot u1 u2 l m) (y : Int) : RPS w0 B P (v.setCell ⟨P, 0, none⟩ (.int .i64 y)) y boot u1 u2 l m :=
  ⟨h.cur.put0, h.ps.set h.cur (by decide) (by decide), h.xs.set h.cur (by decide) (by decide), h.blw.setCell h.big _, h.big⟩
theorem RPS.p1 (h : RPS w0 B P v code boot u1 u2 l m) (y : Int) : RPS w0 B P (v.setCell ⟨P, 1, none⟩ (.int .i64 y)) code y u1 u2 l m :=
  ⟨h.cur.put1 y, h.ps.set h.cur (by decide) (by decide), h.xs.set h.cur (by decide) (by decide), h.blw.setCell h.big _, h.big⟩
theorem RPS.appP (h : RPS w0 B P v code boot u1 u2 l m) (hb : ∀ w0, Below B w0 v → Below B w0 v') (ht : ∃ S0, Turn S0 v v' ∧ ∀ k ∈ S0, B ≤ k ∧ ∃ cs, v.heap[k]? = some (Obj.cells cs 31 (0, 0))) {u : Value} {k : List Px} (hk : PL1 v' B u k) : RV v' P code boot u1 u2 ∧ RPS w0 B P (v'.setCell ⟨P, 2, none⟩ u) code boot u u2 k m := by
  obtain ⟨S0, t, hS⟩ := ht
  have keep : ∀ (g : Nat) (cs : Array Value) (ty : TypeId), v.heap[g]? = some (Obj.cells cs ty (0, 0)) → ty ≠ 31 → v'.heap[g]? = v.heap[g]? := fun g cs ty hg hne => t.block g (heap_lt hg) (fun hm => by
    obtain ⟨_, cs', h'⟩ := hS g hm
    rw [hg] at h'
    injection h' with h'
    injection h' with _ h'
    exact hne h')
  have hc := h.cur.keep (keep _ _ _ h.cur (by decide))
  exact ⟨hc, hc.put2, hk.set hc (by decide) (by decide), (h.xs.keep (fun g cs ty hg ho => keep g cs ty hg (by rcases ho with rfl | rfl <;> decide))).set hc (by decide) (by decide), (hb _ h.blw).setCell h.big _, h.big⟩
theorem RPS.appI (h : RPS w0 B P v code boot u1 u2 l m) (hb : ∀ w0, Below B w0 v → Below B w0 v') (ht : ∃ S0, Turn S0 v v' ∧ ∀ k ∈ S0, B ≤ k ∧ ∃ cs, v.heap[k]? = some (Obj.cells cs 35 (0, 0))) {u : Value} {k : List Ix} (hk : IL1 v' B u k) : RV v' P code boot u1 u2 ∧ RPS w0 B P (v'.setCell ⟨P, 3, none⟩ u) code boot u1 u l k := by
  obtain ⟨S0, t, hS⟩ := ht
  have keep : ∀ (g : Nat) (cs : Array Value) (ty : TypeId), v.heap[g]? = some (Obj.cells cs ty (0, 0)) → ty ≠ 35 → v'.heap[g]? = v.heap[g]? := fun g cs ty hg hne => t.block g (heap_lt hg) (fun hm => by
    obtain ⟨_, cs', h'⟩ := hS g hm
    rw [hg] at h'
    injection h' with h'
    injection h' with _ h'
    exact hne h')
  have hc := h.cur.keep (keep _ _ _ h.cur (by decide))
  exact ⟨hc, hc.put3, (h.ps.keep (fun g cs ty hg ho => keep g cs ty hg (by rcases ho with rfl | rfl <;> decide))).set hc (by decide) (by decide), hk.set hc (by decide) (by decide), (hb _ h.blw).setCell h.big _, h.big⟩
end
theorem PL1.by_ {w : World} {B : Nat} {v : Value} {l : List Px} (h : PL1 w B v l) : ∀ x ∈ l, By x.D := fun x hx => by
  obtain ⟨xs, _, h3⟩ := h
  obtain ⟨i, hi⟩ := List.getElem?_of_mem hx
  obtain ⟨A, c, _, _, _, _, _, hy⟩ := h3 i x hi
  exact hy
theorem IL1.by_ {w : World} {B : Nat} {v : Value} {l : List Ix} (h : IL1 w B v l) : ∀ x ∈ l, By x.D := fun x hx => by
  obtain ⟨xs, _, h3⟩ := h
  obtain ⟨i, hi⟩ := List.getElem?_of_mem hx
  obtain ⟨A, c, _, _, _, _, hy⟩ := h3 i x hi
  exact hy
theorem RPS.val {w0 v : World} {B P : Nat} {code boot : Int} {A1 A2 : Option Addr} {c1 c2 n1 n2 : Nat} {l : List Px} {m : List Ix} (h : RPS w0 B P v code boot (.slice A1 n1 c1) (.slice A2 n2 c2) l m) (h1 : l.length = n1) (h2 : m.length = n2) : RVal v (rpv code boot (.slice A1 n1 c1) (.slice A2 n2 c2)) ⟨code, boot, l, m⟩ := by
  subst h1 h2
  exact ⟨A1, c1, A2, c2, rfl, h.ps.read, h.xs.read⟩
theorem RPS.len {w0 v : World} {B P : Nat} {code boot : Int} {A1 A2 : Option Addr} {c1 c2 n1 n2 : Nat} {l : List Px} {m : List Ix} (h : RPS w0 B P v code boot (.slice A1 n1 c1) (.slice A2 n2 c2) l m) : l.length = n1 ∧ m.length = n2 := by
  obtain ⟨a, b, e⟩ := h.ps.form
  obtain ⟨a', b', e'⟩ := h.xs.form
  injection e with _ e _
  injection e' with _ e' _
  exact ⟨e.symm, e'.symm⟩
end Go.Proofs.Ytoofgcdilgfclaa
