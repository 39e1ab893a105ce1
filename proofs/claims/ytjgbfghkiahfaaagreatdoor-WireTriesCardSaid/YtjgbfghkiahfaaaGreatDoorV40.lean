import Derived.Test.YtjgbfghkiahfaaaGreatDoorV39
import Derived.Maps.OwnOps
namespace Go.Proofs.YtjgbfghkiahfaaaGreatDoor
open Go.RowKit Go.Sort
set_option maxRecDepth 100000
set_option maxHeartbeats 2000000

theorem Wp.Bd.mono {s : Wp} {m m' : Nat} (h : s.Bd m) (hm : m ≤ m') : s.Bd m' := ⟨h.1, h.2.1, Nat.le_trans h.2.2 hm⟩
theorem Wp.Bd.tries {q : Rq} {n : Nat} : ∀ {k m : Nat} {s : Wp}, s.Bd m → (s.tries k n q).1.Bd (m + k)
  | 0, _, _, h => h
  | k + 1, m, s, h => by
    unfold Wp.tries
    have h1 := h.leads n
    split
    · next s1 e => rw [e] at h1; exact h1.mono (by omega)
    · next s1 e =>
      rw [e] at h1
      have h2 := h1.send n q
      split
      · next s2 e2 =>
        rw [e2] at h2
        exact (Wp.Bd.tries h2).mono (by omega)
      · next s2 x e2 =>
        rw [e2] at h2
        split
        · exact h2.mono (by omega)
        · exact h2.mono (by omega)
/-- All is well and in its bounds. -/
def Wp.Fit (s : Wp) (m : Nat) : Prop := s.Ok m ∧ s.Bd m
theorem Wp.Fit.new : Wp.new.Fit 0 := ⟨Wp.new_ok, Wp.new_bd⟩
theorem Wp.Fit.mono {s : Wp} {m m' : Nat} (h : s.Fit m) (hm : m ≤ m') : s.Fit m' := ⟨h.1.mono hm, h.2.mono hm⟩
theorem Wp.Fit.congr {s s' : Wp} {m : Nat} (h : s.Fit m) (e1 : s'.N = s.N) (e2 : s'.fuse = s.fuse) (e3 : s'.sent = s.sent) : s'.Fit m := ⟨h.1.congr e1, by unfold Wp.Bd; rw [e2, e3]; exact h.2⟩
theorem Wp.Fit.call {s s' : Wp} {m n : Nat} {q : Rq} {a : Ans} (h : s.Fit m) (hn : n < 8) (hD : ∀ j, j < q.n → q.D j < 256) (e : s.call n q = (s', a)) : s'.Fit (m + 3) := by
  have h1 := h.1.tries (q := q) (k := 3) hn hD
  have h2 := h.2.tries (q := q) (k := 3) (n := n)
  unfold Wp.call at e
  rw [e] at h1 h2
  exact ⟨h1, h2⟩
theorem wl_call_fit {w0 v : World} {g : Nat} {nd : Nat → Nat} {s : Wp} (h : WL w0 v g nd s) {m : Nat} (hf : s.Fit m) (hm : m ≤ 999999980) {n : Nat} (hn : n < 8) :
    Calls Tryz.prog 9 #[.pointer (some ⟨g, 0, none⟩), .int .i64 (n : Int), rqv 4 0 0 0 none 0 0] v (CallRet w0 v g nd (n : Int) (s.call n qFlush)) := wl_call_flush h hf.1 hf.2 hm hn
/-- A flush that a reply comes to. -/
structure Flushed (s s' : Wp) (n : Nat) (y : Ns × Rp) : Prop where
  F : s'.F = s.F.tail
  sent : s'.sent = s.sent + 1
  dead : s'.dead = false
  dn : s'.dn = s.dn
  fuse : s'.fuse = if 0 < s.fuse then s.fuse - 1 else s.fuse
  code : y.2.code = 0
  ps : y.2.ps.length = 0
  its : y.2.its.length = 0
  at_ : s'.N n = y.1
  boot : y.1.boot = (s.N n).boot + (if s.fate = 3 then 1 else 0)
  gone : s.fate = 3 → ((s.N n).t.done = fun _ => .no) → cntR (s'.N n).R = 0
  oth : ∀ j, j ≠ n → s'.N j = s.N j
theorem call_flush {s : Wp} {n : Nat} (h1 : s.dead = false) (h2 : s.dn n = false) (h3 : s.fuse ≠ 0) (e1 : s.fate ≠ 1) (e2 : s.fate ≠ 2) : ∃ s' y, s.call n qFlush = (s', .ok y) ∧ Flushed s s' n y := by
  obtain ⟨s1, hl, a1, a2, a3, a4, a5, a6⟩ : ∃ s1, s.leads n = (s1, true) ∧ s1.N = s.N ∧ s1.F = s.F ∧ s1.sent = s.sent ∧ s1.dead = false ∧ s1.dn = s.dn ∧ s1.fuse = if 0 < s.fuse then s.fuse - 1 else s.fuse := by
    unfold Wp.leads
    rw [h1, h2, if_neg (by decide), if_neg h3]
    split
    · exact ⟨_, rfl, rfl, rfl, rfl, rfl, rfl, rfl⟩
    · exact ⟨_, rfl, rfl, rfl, rfl, h1, rfl, rfl⟩
  have hfa : s1.fate = s.fate := by unfold Wp.fate; rw [a2]
  by_cases e3 : s.fate = 3
  · have hs : s1.send n qFlush = (s1.cnt.took.setN n (((s1.N n).crash []).act qFlush).1, some (((s1.N n).crash []).act qFlush)) := by unfold Wp.send Wp.sendF; rw [hfa, if_neg e1, if_neg e2, if_pos e3]; rfl
    refine ⟨_, _, Wp.tries_ok hl hs (by rw [flush_act]), ⟨by show s1.F.tail = _; rw [a2], by show s1.sent + 1 = _; rw [a3], a4, a5, a6, by rw [flush_act], by rw [flush_act]; rfl, by rw [flush_act]; rfl, Wp.setN_at _ _ _, ?_, fun _ hd => ?_, fun j hj => by show (if j = n then _ else s1.N j) = _; rw [if_neg hj, a1]⟩⟩
    · rw [flush_act, if_pos e3, a1]
      rfl
    · rw [Wp.setN_at, flush_act]
      obtain ⟨_, h⟩ := crash_blank (a := s1.N n) (by rw [a1]; exact hd)
      unfold cntR
      show (colR ((s1.N n).crash []).R 16).length = 0
      rw [colR_none _ 16 (fun j _ => h j)]
      rfl
  · have hs : s1.send n qFlush = (s1.cnt.took.setN n ((s1.N n).act qFlush).1, some ((s1.N n).act qFlush)) := by unfold Wp.send Wp.sendF; rw [hfa, if_neg e1, if_neg e2, if_neg e3]; rfl
    refine ⟨_, _, Wp.tries_ok hl hs (by rw [flush_act]), ⟨by show s1.F.tail = _; rw [a2], by show s1.sent + 1 = _; rw [a3], a4, a5, a6, by rw [flush_act], by rw [flush_act]; rfl, by rw [flush_act]; rfl, Wp.setN_at _ _ _, ?_, fun h _ => absurd h e3, fun j hj => by show (if j = n then _ else s1.N j) = _; rw [if_neg hj, a1]⟩⟩
    rw [flush_act, if_neg e3, a1]
    rfl
/-- A call that nobody hears: the node is down, or the wire dead. -/
theorem call_down {s : Wp} {n : Nat} {q : Rq} (h : (s.dead || s.dn n) = true) : s.call n q = (s, .err 4) := Wp.tries_down (by unfold Wp.leads; rw [if_pos h])
/-- The fuse ends. -/
theorem call_fuse {s : Wp} {n : Nat} {q : Rq} (h1 : s.dead = false) (h2 : s.dn n = false) (h3 : s.fuse = 0) : s.call n q = ({ s with dead := true }, .err 4) := Wp.tries_down (by unfold Wp.leads; rw [h1, h2, if_neg (by decide), if_pos h3])
/-- The law's put, that is none. -/
theorem put_act (a : Ns) : a.act qPut0 = (a, ⟨1, [], []⟩) := rfl
theorem call_put {s : Wp} {n : Nat} (h1 : s.dead = false) (h2 : s.dn n = false) (h3 : s.fuse < 0) (h4 : s.F = []) : ∃ s', s.call n qPut0 = (s', .err 1) ∧ s'.N n = s.N n ∧ (∀ j, j ≠ n → s'.N j = s.N j) ∧ s'.F = [] ∧ s'.sent = s.sent + 1 ∧ s'.dead = false ∧ s'.dn = s.dn ∧ s'.fuse = s.fuse := by
  have hf : s.fate = 0 := by unfold Wp.fate; rw [h4]; rfl
  have hs : s.send n qPut0 = (s.cnt.took.setN n ((s.N n).act qPut0).1, some ((s.N n).act qPut0)) := by unfold Wp.send Wp.sendF; rw [hf]; rfl
  refine ⟨_, Wp.tries_no (Wp.leads_free h1 h2 h3) hs (by rw [put_act]; exact fun h => by cases h), by rw [Wp.setN_at, put_act], fun j hj => by show (if j = n then _ else s.N j) = _; rw [if_neg hj], by show s.F.tail = []; rw [h4]; rfl, rfl, h1, rfl, rfl⟩
/-- The law's log: lost, lost, heard. -/
theorem call_log {s : Wp} {n : Nat} {q : Rq} (hk : q.k = 3) (hq : q.okI = true) (h1 : s.dead = false) (h2 : s.dn n = false) (h3 : s.fuse < 0) (h4 : s.F = [2, 2, 0, 3, 77]) (h5 : cntR (s.N n).R = 0) (h6 : (s.N n).t.done = fun _ => .no) :
    ∃ s' y, s.call n q = (s', .ok y) ∧ s'.F = [3, 77] ∧ s'.sent = s.sent + 3 ∧ s'.dead = false ∧ s'.dn = s.dn ∧ s'.fuse = s.fuse ∧ cntR (s'.N n).R = 1 ∧ (s'.N n).boot = (s.N n).boot ∧ (s'.N n).t.done = (fun _ => .no) ∧ ∀ j, j ≠ n → s'.N j = s.N j := by
  have m0 : Sm (s.N n) q.it 1 := ⟨h6, by have := msr_le (s.N n).R q.it; omega⟩
  obtain ⟨a1, a2, a3⟩ := m0.log (by omega)
  rw [← log_act (a := s.N n) hk hq] at a1 a2 a3
  obtain ⟨b1, b2, b3⟩ := a3.log (by omega)
  rw [← log_act (a := ((s.N n).act q).1) hk hq] at b1 b2 b3
  obtain ⟨c1, c2, c3⟩ := b3.log (by omega)
  rw [← log_act (a := ((((s.N n).act q).1).act q).1) hk hq] at c1 c2 c3
  have e1 : s.send n q = (s.cnt.took.setN n ((s.N n).act q).1, none) := by
    have hf : s.fate = 2 := by unfold Wp.fate; rw [h4]; rfl
    unfold Wp.send Wp.sendF
    rw [hf]
    rfl
  obtain ⟨s1, hs1⟩ : ∃ s1, s.cnt.took.setN n ((s.N n).act q).1 = s1 := ⟨_, rfl⟩
  rw [hs1] at e1
  have f1 : s1.F = [2, 0, 3, 77] := by rw [← hs1]; show s.F.tail = _; rw [h4]; rfl
  have n1 : s1.N n = ((s.N n).act q).1 := by rw [← hs1]; exact Wp.setN_at _ _ _
  have k1 : s1.dead = false ∧ s1.dn = s.dn ∧ s1.fuse = s.fuse ∧ s1.sent = s.sent + 1 ∧ ∀ j, j ≠ n → s1.N j = s.N j := by rw [← hs1]; exact ⟨h1, rfl, rfl, rfl, fun j hj => by show (if j = n then _ else s.N j) = _; rw [if_neg hj]⟩
  clear hs1
  have e2 : s1.send n q = (s1.cnt.took.setN n ((s1.N n).act q).1, none) := by
    have hf : s1.fate = 2 := by unfold Wp.fate; rw [f1]; rfl
    unfold Wp.send Wp.sendF
    rw [hf]
    rfl
  rw [n1] at e2
  obtain ⟨s2, hs2⟩ : ∃ s2, s1.cnt.took.setN n ((((s.N n).act q).1).act q).1 = s2 := ⟨_, rfl⟩
  rw [hs2] at e2
  have f2 : s2.F = [0, 3, 77] := by rw [← hs2]; show s1.F.tail = _; rw [f1]; rfl
  have n2 : s2.N n = ((((s.N n).act q).1).act q).1 := by rw [← hs2]; exact Wp.setN_at _ _ _
  have k2 : s2.dead = false ∧ s2.dn = s.dn ∧ s2.fuse = s.fuse ∧ s2.sent = s.sent + 2 ∧ ∀ j, j ≠ n → s2.N j = s.N j := by rw [← hs2]; exact ⟨k1.1, k1.2.1, k1.2.2.1, by show s1.sent + 1 = _; rw [k1.2.2.2.1], fun j hj => by show (if j = n then _ else s1.N j) = _; rw [if_neg hj]; exact k1.2.2.2.2 j hj⟩
  clear hs2
  have e3 : s2.send n q = (s2.cnt.took.setN n ((s2.N n).act q).1, some ((s2.N n).act q)) := by
    have hf : s2.fate = 0 := by unfold Wp.fate; rw [f2]; rfl
    unfold Wp.send Wp.sendF
    rw [hf]
    rfl
  rw [n2] at e3
  have l0 := Wp.leads_free h1 h2 h3
  have l1 : s1.leads n = (s1, true) := Wp.leads_free k1.1 (by rw [k1.2.1]; exact h2) (by rw [k1.2.2.1]; exact h3)
  have l2 : s2.leads n = (s2, true) := Wp.leads_free k2.1 (by rw [k2.2.1]; exact h2) (by rw [k2.2.2.1]; exact h3)
  refine ⟨_, _, (Wp.tries_none l0 e1).trans ((Wp.tries_none l1 e2).trans (Wp.tries_ok l2 e3 c1)), by show s2.F.tail = _; rw [f2]; rfl, by show s2.sent + 1 = _; rw [k2.2.2.2.1], k2.1, k2.2.1, k2.2.2.1, ?_, ?_, ?_, fun j hj => by show (if j = n then _ else s2.N j) = _; rw [if_neg hj]; exact k2.2.2.2.2 j hj⟩
  · rw [Wp.setN_at]
    have h := c3.le
    unfold msr at h
    rw [if_pos c2] at h
    have := cnt_pos c2
    omega
  · rw [Wp.setN_at, Ns.act_boot, Ns.act_boot, Ns.act_boot]
  · rw [Wp.setN_at]
    exact c3.done
end Go.Proofs.YtjgbfghkiahfaaaGreatDoor
namespace Go.Proofs.YtjgbfghkiahfaaaGreatDoor
open Go.RowKit Go.Sort
set_option maxRecDepth 100000
set_option maxHeartbeats 1000000

/-! Sets of numbers: map[int]bool. -/
theorem lawIntB : Maps.Keyed Tryz.prog 3 := Maps.int_keyed Tryz.underlying3
abbrev ikB (c : Nat) : Lit := .int .i64 (c : Int)
abbrev bvl (b : Bool) : DataW Unit := .lit (.bool b)
theorem ikB_wf {c : Nat} (h : c < 1000) : (ikB c).wf = true := by
  simp [Lit.wf, IntKind.min, IntKind.max, IntKind.signed, IntKind.bits]
  omega
/-- A set in memory: which numbers it tells. -/
def IB (w : World) (mb n : Nat) (f : Nat → Bool) : Prop := ∃ D : DataW Unit, w.ownsMap Tryz.prog 3 (plainElem Tryz.prog 4) mb n D ∧ ∀ c, c < 1000 → D.atKey (ikB c) (bvl false) = bvl (f c)
theorem IB.lt {w : World} {mb n : Nat} {f : Nat → Bool} (h : IB w mb n f) : mb < w.heap.size := by
  obtain ⟨D, hD, _⟩ := h
  exact World.ownsMap.lt hD
theorem IB.keep {w w' : World} {mb n : Nat} {f : Nat → Bool} (h : IB w mb n f) (e : w'.heap[mb]? = w.heap[mb]?) : IB w' mb n f := by
  obtain ⟨D, ⟨es, clock, hb, r⟩, h2⟩ := h
  exact ⟨D, ⟨es, clock, e.trans hb, r⟩, h2⟩
theorem IB.block {w : World} {mb n : Nat} {f : Nat → Bool} (h : IB w mb n f) : ∃ es clock, w.heap[mb]? = some (.map es clock) := by
  obtain ⟨D, ⟨es, clock, hb, _⟩, _⟩ := h
  exact ⟨es, clock, hb⟩
theorem IB.made (w : World) : IB (w.alloc (.map #[] 0)) w.heap.size 0 (fun _ => false) :=
  ⟨.map [], World.ownsMap_made w Tryz.prog _ _, fun _ _ => rfl⟩
theorem ikB_inj {a b : Nat} (h : ikB a = ikB b) : a = b := by
  injection h with _ h
  omega
/-- m[c] = b. -/
theorem IB.store {w : World} {mb n c : Nat} {b : Bool} {f : Nat → Bool} (h : IB w mb n f) (hn : n ≤ 1000000) (hc : c < 1000) :
    ∃ w', (Instr.mapUpdate 59 (.map (some mb)) (.int .i64 (c : Int)) (.bool b)).run Tryz.prog w = .ok () w' ∧ IB w' mb (n + 1) (fun x => if x = c then b else f x) ∧ w.grownBy w' (some mb) := by
  obtain ⟨D, hD, h2⟩ := h
  have hm : Maps.IsMap D := by obtain ⟨es, clock, _, _, _, rfl⟩ := hD; exact ⟨_, rfl⟩
  obtain ⟨w', hrun, h3, h4⟩ := World.ownsMap.store hD lawIntB Tryz.underlying59 (by unfold maxLen; omega) (Maps.keyOf_int_mk Tryz.underlying3 (ikB_wf hc)) (plainElem_bool (H := Unit) Tryz.underlying4 b)
  refine ⟨w', hrun, ⟨_, h3, fun x hx => ?_⟩, h4.grown⟩
  by_cases e : x = c
  · subst e
    have := Maps.atKey_put_same hm (show WideAt.IsKeyLit (ikB x) from trivial) (bvl b) (bvl false)
    rw [this]
    dsimp only
    rw [if_pos rfl]
  · rw [Maps.atKey_put_other (fun he => e (ikB_inj he))]
    dsimp only
    rw [if_neg e]
    exact h2 x hx
theorem zeroBl (w : World) : (zeroValue 4).run Tryz.prog w = .ok (.bool false) w := by kernel_rfl
/-- m[c]. -/
theorem IB.look {w : World} {mb n c : Nat} {f : Nat → Bool} (h : IB w mb n f) (hc : c < 1000) : (Instr.lookup 59 (.map (some mb)) (.int .i64 (c : Int)) false).run Tryz.prog w = .ok (.bool (f c)) w := by
  obtain ⟨D, ⟨es, clock, hb, F, _, rfl⟩, h2⟩ := h
  have h3 := h2 c hc
  rcases Maps.fit_look false lawIntB Tryz.underlying59 (zeroBl w) hb F (Maps.keyOf_int_mk Tryz.underlying3 (ikB_wf hc)) with ⟨hrun, _, hat⟩ | ⟨e0, y, _, _, hrun, hRv, hat, _⟩
  · rw [hat] at h3
    injection h3 with h3
    injection h3 with h3
    rw [← h3]
    exact hrun
  · rw [hat] at h3
    have : e0.val = .bool (f c) := by
      unfold plainElem at hRv
      rw [Tryz.underlying4] at hRv
      split at hRv
      · rename_i x hx
        simp at hRv
        rw [← hRv] at h3
        injection h3 with h3
        injection h3 with h3
        rw [hx, h3]
      · rename_i hh _
        cases hh
      · rename_i hh _
        cases hh
      · cases hRv
    rw [this] at hrun
    exact hrun
/-- a store into a set, at an operation; a literal's, too. -/
theorem mapB_put (w : World) {ops : Array Oper} {rest : List Oper} {o : Oper} {a : Act} {Q : Exit → Act → World → Prop} (hgd : o.guard = none) (m x v : Operand)
    (ho : o.op = .mapUpdate 59 m x v ∨ o.op = .insert 59 m x v) (mb n c : Nat) (b : Bool) (f : Nat → Bool) (hm : a.eval m = .map (some mb)) (hx : a.eval x = .int .i64 (c : Int)) (hv : a.eval v = .bool b)
    (hb : IB w mb n f) (hn : n ≤ 1000000) (hc : c < 1000)
    (h : ∀ w', IB w' mb (n + 1) (fun x => if x = c then b else f x) → w.grownBy w' (some mb) → wpList Tryz.prog ops Q rest (a.put o.dst undef) w') : wpList Tryz.prog ops Q (o :: rest) a w := by
  obtain ⟨w', hrun, h1, h2⟩ := hb.store (b := b) hn hc
  refine wpList_plain hgd fun K hK => ?_
  unfold Oper.wp
  rcases ho with ho | ho
  · simp [execOp, ho, hm, hx, hv, hrun, Result.andThen]
    exact hK _ _ (h w' h1 h2)
  · simp [execOp, ho, hm, hx, hv, hrun, Result.andThen]
    exact hK _ _ (h w' h1 h2)
theorem IB.keepW {w w' : World} {mb n : Nat} {f : Nat → Bool} (h : IB w mb n f) (k : KeepW w w') : IB w' mb n f := by
  obtain ⟨es, clock, hb⟩ := h.block
  exact h.keep ((k.2 mb _ hb (fun cs t fr e => by cases e)).trans hb.symm)
theorem IB.below {w w' : World} {mb n : Nat} {f : Nat → Bool} (h : IB w mb n f) (b : Below w.heap.size w w') : IB w' mb n f := h.keepW (KeepW.of b)
theorem KeepW.map {w w' : World} {mb : Nat} {es : Array MapEntry} {clock : Nat} (hb : w.heap[mb]? = some (.map es clock)) (g : w.grownBy w' (some mb)) {k : Nat} {cs : Array Value} {t : TypeId} {fr : Nat × Nat} (hk : w.heap[k]? = some (.cells cs t fr)) : w'.heap[k]? = w.heap[k]? :=
  g.block k (heap_lt hk) (fun e => by
    injection e with e
    rw [← e, hk] at hb
    cases hb)
theorem WL.map {w0 v v' : World} {g mb : Nat} {nd : Nat → Nat} {s : Wp} {es : Array MapEntry} {clock : Nat} (h : WL w0 v g nd s) (hb : v.heap[mb]? = some (.map es clock)) (hmb : w0.heap.size ≤ mb) (gr : v.grownBy v' (some mb)) : WL w0 v' g nd s := by
  obtain ⟨T, fv, h1, h2, h3, h4, h5⟩ := h
  refine ⟨T, fv, h1.same (fun j hj => ?_) (fun i hi j hj => ?_) (fun j cs hj => KeepW.map hb gr hj), h2.grown gr h2.size (fun k hk => by cases hk; exact hmb), h3, h4, h5⟩
  · rw [List.mem_cons] at hj
    rcases hj with rfl | hj
    · exact KeepW.map hb gr h1.hd
    · obtain ⟨row, hr⟩ := h1.fat.type j hj
      exact KeepW.map hb gr hr
  · obtain ⟨r, p, sb, S, q1, q2, q3⟩ := h1.node i hi
    have hj' : j ∈ nd i :: r :: sb :: S := by
      rw [q3] at hj
      simp only [List.mem_cons] at hj ⊢
      rcases hj with rfl | rfl | rfl | rfl | hj
      · simp
      · simp
      · obtain ⟨db, nb, pv, _, _, hS⟩ := q1.plt
        rw [hS]
        simp
      · simp
      · simp [hj]
    obtain ⟨cs', t', hc, hT⟩ := q1.type j hj'
    exact KeepW.map hb gr hc
theorem LS.map {w0 v v' : World} {g mb : Nat} {nd : Nat → Nat} {s : Wp} {l : List (Nat × Int × Int)} {es : Array MapEntry} {clock : Nat} (h : LS w0 g nd v s l) (hE : ErrType w0) (hb : v.heap[mb]? = some (.map es clock)) (hmb : w0.heap.size ≤ mb) (gr : v.grownBy v' (some mb)) : LS w0 g nd v' s l := by
  have W := h.wl.map hb hmb gr
  exact ⟨W, fun x hx => (h.er x hx).keep (KeepW.map hb gr (h.er x hx)), hE.below W.blw hE.lt⟩
end Go.Proofs.YtjgbfghkiahfaaaGreatDoor
