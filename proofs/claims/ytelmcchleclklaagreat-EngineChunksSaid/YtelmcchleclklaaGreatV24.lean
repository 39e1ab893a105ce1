import Derived.Test.YtelmcchleclklaaGreatV23
import Derived.Test.YtelmcchleclklaaGreatV19
import Derived.Test.YtelmcchleclklaaGreatV18
namespace Go.Proofs.YtelmcchleclklaaGreat
open Go.RowKit Go.Sort
set_option maxRecDepth 100000
set_option maxHeartbeats 2000000

theorem WL.grow {w0 v : World} {g : Nat} {nd : ND} {s : Wp} (h : WL w0 v g nd s) : ∃ fv, v.cell? ⟨g, 16, none⟩ = some fv ∧ FatV v fv s.F ∧ ∀ v' w' F', FatV w' v' F' → Turn (fatB fv) v w' → (∀ k ∈ fatB v', k ∈ fatB fv ∨ v.heap.size ≤ k) →
  WL w0 (w'.setCell ⟨g, 16, none⟩ v') g nd { s with F := F' } ∧ KeepF v (w'.setCell ⟨g, 16, none⟩ v') ∧ w'.frozen? ⟨g, 16, none⟩ = false ∧ w'.cell? ⟨g, 16, none⟩ = some fv := by
 obtain ⟨T, fv, h1, h2, h3, h4, h5, h6⟩ := h
 refine ⟨fv, h1.cf, h1.fat, fun v' w' F' hf t hb => ?_⟩
 have hne : ∀ (j : Nat) (cs : Array Value) (ty : TypeId) (fr : Nat × Nat), v.heap[j]? = some (.cells cs ty fr) → ty ≠ 3 → w'.heap[j]? = v.heap[j]? := by
  intro j cs ty fr hj ht
  refine t.block j (heap_lt hj) (fun hm => ?_)
  obtain ⟨row, hr⟩ := h1.fat.type j hm
  rw [hj] at hr
  cases hr
  exact ht rfl
 have hd : w'.heap[g]? = _ := (hne _ _ _ _ h1.hd (by decide)).trans h1.hd
 have hk : KeepF v w' := ⟨t.size, fun k o hk' ho => by
  by_cases hm : k ∈ fatB fv
  ·obtain ⟨row, hr⟩ := h1.fat.type k hm
   rw [hk'] at hr
   cases hr
   exact absurd rfl (ho _ _ _ rfl).2
  ·exact (t.block k (heap_lt hk') hm).trans hk'⟩
 have hw : WM w' g 8 nd.f T v' { s with F := F' } ∨ True := Or.inr trivial
 clear hw
 refine ⟨⟨T, v', ⟨?_, hf.keep (fun j hj => set_other (fun e => ?_) _ _), fun i hi => ?_, h1.sep⟩, (Below.of_turn h2 t (fun k hk => h4 k hk) h2.size).setCell h3 _, h3, fun k hk => ?_, h5, ?_⟩, hk.trans (KeepF.of (KeepW.set hd)), free_of_block hd, ?_⟩
 ·rw [set_block hd]
  rfl
 ·subst e
  obtain ⟨row, hr⟩ := hf.type j hj
  rw [hd] at hr
  injection hr with hr
  injection hr with _ hr
  exact absurd hr (by decide)
 ·obtain ⟨r, p, sb, S, q1, q2, q3⟩ := h1.node i hi
  refine ⟨r, p, sb, S, (q1.keep (fun k hk => ?_) (fun j cs hj => hne _ _ _ _ hj (by decide))).set hd (by decide) (by decide) (by decide) (by decide) (by decide) (by decide) (by decide), q2, q3⟩
  obtain ⟨cs, ty, hc, ht⟩ := q1.type k hk
  exact hne _ _ _ _ hc (fun e => int_notN (e ▸ ht))
 ·rcases hb k hk with h | h
  ·exact h4 k h
  ·exact Nat.le_trans h2.size h
 ·refine ⟨Nat.le_trans h6.1 (Nat.le_trans t.size (by simp [World.setCell])), fun k hk => ?_⟩
  obtain ⟨c1, c2, c3, c4, c5⟩ := h6.2 k hk
  refine ⟨c1, ((set_other c3 _ _).trans (t.block k (Nat.lt_of_lt_of_le c1 h6.1) c4)).trans c2, c3, fun hm => ?_, c5⟩
  rcases hb k hm with h | h
  ·exact c4 h
  ·have := h6.1
   omega
 ·rw [cell_of_block hd]
  rfl
theorem Nums.take {w : World} {A : Option Addr} {xs : List Int} (h : Nums w A xs) (k : Nat) : Nums w A (xs.take k) := fun i x hi => by
 rw [List.getElem?_take] at hi
 split at hi
 ·exact h i x hi
 ·cases hi
def WRetF (w0 v : World) (g : Nat) (nd : ND) (s : Wp) (x : Value) (e : Ending) (w' : World) : Prop := e = .returned x ∧ WL w0 w' g nd s ∧ KeepF v w'
theorem wl_fates {w0 v : World} {g : Nat} {nd : ND} {s : Wp} (h : WL w0 v g nd s) (hs : s.F.length ≤ 1000) (A : Option Addr) (xs : List Int) (c : Nat) (hN : Nums v A xs) (hx : xs.length ≤ 1000000) (hc : xs.length ≤ c) :
  Calls Tryz.prog 10 #[.pointer (some ⟨g, 0, none⟩), .slice A xs.length c] v (WRetF w0 v g nd { s with F := s.F ++ xs.take (1000 - s.F.length) } (.tuple #[])) := by
 obtain ⟨fv, c1, hf, hG⟩ := (h.below (below_drewN 1 v)).grow
 have c2 : v.cell? ⟨g, 16, none⟩ = some fv := c1
 have KD := Lib.hid (KeepF.of (KeepW.of (below_drewN 1 v)))
 have HF := Lib.hid hf
 have HG := Lib.hid hG
 obtain ⟨A0, c0, rfl, hc0, hm0, _⟩ := hf
 obtain ⟨m, hm⟩ : ∃ m, s.F.length = m := ⟨_, rfl⟩
 obtain ⟨n, hn⟩ : ∃ n, xs.length = n := ⟨_, rfl⟩
 obtain ⟨k, hk⟩ : ∃ k, min n (1000 - m) = k := ⟨_, rfl⟩
 rw [hm] at c1 c2 hs HF HG hc0
 rw [hn] at hx hc ⊢
 have hwr : IntKind.i64.wrap (1000 - (m : Int)) = ((1000 - m : Nat) : Int) := by rw [IntWalk.i64_in _ (by omega)]; omega
 obtain ⟨rm, hrm⟩ : ∃ rm, 1000 - m = rm := ⟨_, rfl⟩
 rw [hrm] at hwr hk
 have hmin : min (n : Int) (rm : Int) = (k : Int) := by omega
 have hkn : k ≤ n := by omega
 have hkc : (k : Int) ≤ (c : Int) := by omega
 have hl : (xs.take k).length = k := by rw [List.length_take, hn]; omega
 have HL := Lib.hid hl
 have HN : Hid (Nums v.drew A (xs.take k)) := Lib.hid ((hN.take k).keep (below_drewN 1 v))
 have HT : Hid (xs.take (1000 - s.F.length) = xs.take k) := Lib.hid (by rw [hm, hrm, ← hk, ← hn]; exact (List.take_eq_take_iff.2 (by omega)))
 have HM := Lib.hid hm
 have hmk : m + k ≤ 1000000 := by omega
 clear hG hN hl hm hn hk hrm h
 by_cases hlt : rm < n
 ·obtain rfl : k = rm := by omega
  have hr0 : (0 : Int) ≤ (k : Int) := by omega
  clear hmin hkn
  go_enter Tryz.func10, Tryz.ntmps10
  go_upto_region 2 with fail
  go_region_law (first | (show (if Region.wanted (Oper.mk (some 24) _ _ _ _ _) _ = true then _ else _); refine step_append_fat _ rfl (.tmp 17) (.tmp 23) rfl (.slice A0 m c0) s.F rfl HF.out A k c (xs.take k) rfl HL.out HN.out (by rw [HM.out]; exact hmk) ?_; intro A9 l9 d9 w9 hf9 ht9 hb9; have H9 := Lib.hid (HG.out (.slice A9 l9 d9) w9 _ hf9 ht9 hb9); clear hf9; have f9 := H9.out.2.2.1; have c9 := H9.out.2.2.2; clear ht9 hb9))
  all_goals
   go_end0
   rw [HT.out]
   exact ⟨rfl, H9.out.1, KD.out.trans H9.out.2.1⟩
 ·obtain rfl : k = n := by omega
  have hr0 : (0 : Int) ≤ (k : Int) := by omega
  clear hmin hkn
  go_enter Tryz.func10, Tryz.ntmps10
  go_upto_region 2 with fail
  go_region_law (first | (show (if Region.wanted (Oper.mk (some 24) _ _ _ _ _) _ = true then _ else _); refine step_append_fat _ rfl (.tmp 17) (.tmp 23) rfl (.slice A0 m c0) s.F rfl HF.out A k c (xs.take k) rfl HL.out HN.out (by rw [HM.out]; exact hmk) ?_; intro A9 l9 d9 w9 hf9 ht9 hb9; have H9 := Lib.hid (HG.out (.slice A9 l9 d9) w9 _ hf9 ht9 hb9); clear hf9; have f9 := H9.out.2.2.1; have c9 := H9.out.2.2.2; clear ht9 hb9))
  all_goals
   go_end0
   rw [HT.out]
   exact ⟨rfl, H9.out.1, KD.out.trans H9.out.2.1⟩
end Go.Proofs.YtelmcchleclklaaGreat
namespace Go.Proofs.YtelmcchleclklaaGreat
open Go.RowKit Go.Extern.Stop Go.Stop Go.Extern Go.Extern.Rtype
set_option maxRecDepth 100000
set_option maxHeartbeats 1000000

end Go.Proofs.YtelmcchleclklaaGreat
namespace Go.Proofs.YtelmcchleclklaaGreat
open Go.RowKit Go.Sort
set_option maxRecDepth 100000
set_option maxHeartbeats 2000000

theorem rep_f2 (c b : Int) (B C : Option Addr) (m k m2 k2 : Nat) (w : World) : Sem.run Tryz.prog (Instr.field 47 (.agg #[.int .i64 c, .int .i64 b, .slice B m k, .slice C m2 k2]) 2) w = .ok (.slice B m k) w := by kernel_rfl
def qFlush : Rq := ⟨4, 0, 0, 0, 0, fun _ => 0⟩
end Go.Proofs.YtelmcchleclklaaGreat
namespace Go.Proofs.YtelmcchleclklaaGreat
open Go.RowKit Go.Sort
set_option maxRecDepth 100000
set_option maxHeartbeats 2000000

theorem CallRet.err {w0 v w' : World} {g c : Nat} {nd : ND} {n : Int} {x : Wp × Ans} {s2 : Wp} {e : Ending} (h : CallRet w0 v g nd n x e w') (hx : x = (s2, .err c)) :
  ∃ b, e = .returned (.tuple #[rpv 0 0 (.slice none 0 0) (.slice none 0 0), onv b]) ∧ WL w0 w' g nd s2 ∧ KeepW v w' ∧ v.heap.size ≤ b ∧ OnE w' b n (c : Int) := by
 subst hx
 obtain ⟨r, u, rfl, h1, h2, ⟨c', hc, rfl, b, rfl, hb, ho⟩ | ⟨y, hy, _⟩⟩ := h
 ·cases hc
  exact ⟨b, rfl, h1, h2, hb, ho⟩
 ·cases hy
theorem CallRet.ok {w0 v w' : World} {g : Nat} {nd : ND} {n : Int} {x : Wp × Ans} {s2 : Wp} {y : Ns × Rp} {e : Ending} (h : CallRet w0 v g nd n x e w') (hx : x = (s2, .ok y)) :
  ∃ A c A' c', e = .returned (.tuple #[rpv (y.2.code : Int) (y.1.boot : Int) (.slice A y.2.ps.length c) (.slice A' y.2.its.length c'), .nilIface]) ∧ WL w0 w' g nd s2 ∧ KeepW v w' := by
 subst hx
 obtain ⟨r, u, rfl, h1, h2, ⟨c', hc, _⟩ | ⟨y', hy, rfl, A, c, A', c', rfl, _⟩⟩ := h
 ·cases hc
 ·cases hy
  exact ⟨A, c, A', c', rfl, h1, h2⟩
theorem okQ_flush : OkQ 4 0 0 0 0 := by unfold OkQ; omega
theorem Wp.leads_free {s : Wp} {n : Nat} (h1 : s.dead = false) (h2 : s.dn n = false) (h3 : s.fuse < 0) : s.leads n = (s, true) := by
 unfold Wp.leads
 rw [h1, h2]
 rw [if_neg (by decide), if_neg (by omega), if_neg (by omega)]
theorem wl_call_flush {w0 v : World} {g : Nat} {nd : ND} {s : Wp} (h : WL w0 v g nd s) {m : Nat} (ho : s.Ok m) (hbd : s.Bd m) (hm : m ≤ 999999980) {n : Nat} (hn : n < 8) :
  Calls Tryz.prog 126 #[.pointer (some ⟨g, 0, none⟩), .int .i64 (n : Int), rqv 4 0 0 0 none 0 0] v (CallRet w0 v g nd (n : Int) (s.call n qFlush)) :=
 wl_call h ho hbd hm hn qFlush none 0 DatN.none_ (fun _ hj => absurd hj (by show ¬ _ < 0; omega)) okQ_flush
theorem Wp.new_bd : Wp.new.Bd 0 := ⟨by decide, by decide, Nat.le_refl _⟩
end Go.Proofs.YtelmcchleclklaaGreat
namespace Go.Proofs.YtelmcchleclklaaGreat
open Go.RowKit Go.Sort
set_option maxRecDepth 100000
set_option maxHeartbeats 2000000

end Go.Proofs.YtelmcchleclklaaGreat
namespace Go.Proofs.YtelmcchleclklaaGreat
open Go.RowKit Go.Sort
set_option maxRecDepth 100000
set_option maxHeartbeats 2000000

theorem Wp.Bd.mono {s : Wp} {m m' : Nat} (h : s.Bd m) (hm : m ≤ m') : s.Bd m' := ⟨h.1, h.2.1, Nat.le_trans h.2.2 hm⟩
theorem Wp.Bd.tries {q : Rq} {n : Nat} : ∀ {k m : Nat} {s : Wp}, s.Bd m → (s.tries k n q).1.Bd (m + k)
 | 0, _, _, h => h
 | k + 1, m, s, h => by
  unfold Wp.tries
  have h1 := h.leads n
  split
  ·next s1 e => rw [e] at h1; exact h1.mono (by omega)
  ·next s1 e =>
   rw [e] at h1
   have h2 := h1.send n q
   split
   ·next s2 e2 =>
    rw [e2] at h2
    exact (Wp.Bd.tries h2).mono (by omega)
   ·next s2 x e2 =>
    rw [e2] at h2
    split
    ·exact h2.mono (by omega)
    ·exact h2.mono (by omega)
def Wp.Fit (s : Wp) (m : Nat) : Prop := s.Ok m ∧ s.Bd m
theorem Wp.Fit.new : Wp.new.Fit 0 := ⟨Wp.new_ok, Wp.new_bd⟩
theorem Wp.Fit.mono {s : Wp} {m m' : Nat} (h : s.Fit m) (hm : m ≤ m') : s.Fit m' := ⟨h.1.mono hm, h.2.mono hm⟩
theorem Wp.Fit.congr {s s' : Wp} {m : Nat} (h : s.Fit m) (e1 : s'.N = s.N) (e2 : s'.fuse = s.fuse) (e3 : s'.sent = s.sent) : s'.Fit m := ⟨h.1.congr e1, by unfold Wp.Bd; rw [e2, e3]; exact h.2⟩
theorem Wp.Fit.call {s s' : Wp} {m n : Nat} {q : Rq} {a : Ans} (h : s.Fit m) (hn : n < 8) (hD : ∀ j, j < q.n → q.D j < 256) (e : s.call n q = (s', a)) : s'.Fit (m + 3) := by
 have h1 := h.1.tries (q := q) (k := 3) hn hD
 have h2 := h.2.tries (q := q) (k := 3) (n := n)
 unfold Wp.call at e
 rw [e] at h1 h2
 exact ⟨h1, h2⟩
theorem call_down {s : Wp} {n : Nat} {q : Rq} (h : (s.dead || s.dn n) = true) : s.call n q = (s, .err 4) := Wp.tries_down (by unfold Wp.leads; rw [if_pos h])
end Go.Proofs.YtelmcchleclklaaGreat
namespace Go.Proofs.YtelmcchleclklaaGreat
open Go.RowKit Go.Sort
set_option maxRecDepth 100000
set_option maxHeartbeats 1000000

theorem Wp.at_ (s : Wp) (n : Nat) (a : Ns) : (s.setN n a).N n = a := by
 unfold Wp.setN
 dsimp only
 rw [if_pos rfl]
theorem Wp.far (s : Wp) {n j : Nat} (a : Ns) (h : j ≠ n) : (s.setN n a).N j = s.N j := by
 unfold Wp.setN
 dsimp only
 rw [if_neg h]
theorem Wp.send_keep {P : Ns → Prop} {s : Wp} {n j : Nat} {q : Rq} (ha : j = n → ∀ a, P a → P (a.act q).1) (hc : ∀ a, P a → P (a.crash [])) (h : P (s.N j)) : P ((s.send n q).1.N j) := by
 unfold Wp.send Wp.sendF
 by_cases e : j = n
 ·subst e
  split
  ·exact h
  ·split
   ·rw [Wp.at_]; exact ha rfl _ h
   ·split
    ·rw [Wp.at_]; exact ha rfl _ (hc _ h)
    ·rw [Wp.at_]; exact ha rfl _ h
 ·split
  ·exact h
  ·split
   ·rw [Wp.far _ _ e]; exact h
   ·split
    ·rw [Wp.far _ _ e]; exact h
    ·rw [Wp.far _ _ e]; exact h
theorem Wp.tries_keep {P : Ns → Prop} {n j : Nat} {q : Rq} (ha : j = n → ∀ a, P a → P (a.act q).1) (hc : ∀ a, P a → P (a.crash [])) : ∀ (k : Nat) (s : Wp), P (s.N j) → P ((s.tries k n q).1.N j)
 | 0, _, h => h
 | k + 1, s, h => by
  have h1 : P ((s.leads n).1.N j) := by rw [s.leads_N]; exact h
  unfold Wp.tries
  split
  ·next s1 e => rw [e] at h1; exact h1
  ·next s1 e =>
   rw [e] at h1
   have h2 := Wp.send_keep (s := s1) (n := n) ha hc h1
   split
   ·next s2 e2 => rw [e2] at h2; exact Wp.tries_keep ha hc k s2 h2
   ·next s2 x e2 =>
    rw [e2] at h2
    split <;> exact h2
theorem Wp.call_keep {P : Ns → Prop} {s : Wp} {n j : Nat} {q : Rq} (ha : j = n → ∀ a, P a → P (a.act q).1) (hc : ∀ a, P a → P (a.crash [])) (h : P (s.N j)) : P ((s.call n q).1.N j) := Wp.tries_keep ha hc 3 s h
theorem Wp.send_some {P : Ns → Prop} {s s' : Wp} {n : Nat} {q : Rq} {y : Ns × Rp} (hc : ∀ a, P a → P (a.crash [])) (h : P (s.N n)) (e : s.send n q = (s', some y)) : ∃ a, P a ∧ y = a.act q ∧ s'.N n = y.1 := by
 unfold Wp.send Wp.sendF at e
 split at e
 ·cases e
 ·split at e
  ·cases e
  ·split at e
   ·cases e
    exact ⟨_, hc _ h, rfl, Wp.at_ _ _ _⟩
   ·cases e
    exact ⟨_, h, rfl, Wp.at_ _ _ _⟩
theorem Wp.tries_some {P : Ns → Prop} {n : Nat} {q : Rq} (ha : ∀ a, P a → P (a.act q).1) (hc : ∀ a, P a → P (a.crash [])) : ∀ (k : Nat) (s : Wp) {s' : Wp} {y : Ns × Rp}, P (s.N n) → s.tries k n q = (s', .ok y) → ∃ a, P a ∧ y = a.act q ∧ s'.N n = y.1 ∧ y.2.code = 0
 | 0, _, _, _, _, e => by cases e
 | k + 1, s, s', y, h, e => by
  have h1 : P ((s.leads n).1.N n) := by rw [s.leads_N]; exact h
  unfold Wp.tries at e
  split at e
  ·cases e
  ·next s1 e1 =>
   rw [e1] at h1
   have h2 := Wp.send_keep (s := s1) (n := n) (j := n) (q := q) (fun _ => ha) hc h1
   split at e
   ·next s2 e2 => rw [e2] at h2; exact Wp.tries_some ha hc k s2 h2 e
   ·next s2 x e2 =>
    split at e
    ·next e3 =>
     cases e
     obtain ⟨a, a1, a2, a3⟩ := Wp.send_some hc h1 e2
     exact ⟨a, a1, a2, a3, e3⟩
    ·cases e
theorem Wp.tries_flush {n : Nat} {a : Ns} : ∀ (k : Nat) (s : Wp) {s' : Wp} {z : Ns × Rp}, (s.N n = a ∨ s.N n = a.fl) → s.tries k n qFl = (s', .ok z) → z.1.boot = a.boot → s'.N n = a.fl
 | 0, _, _, _, _, e, _ => by cases e
 | k + 1, s, s', z, h, e, hb => by
  have h1 : (s.leads n).1.N n = a ∨ (s.leads n).1.N n = a.fl := by rw [s.leads_N]; exact h
  unfold Wp.tries at e
  split at e
  ·cases e
  ·next s1 e1 =>
   rw [e1] at h1
   have h2 : (s1.N n).fl = a.fl := by
    rcases h1 with h1 | h1
    ·rw [h1]
    ·rw [h1]; rfl
   have hb2 : (s1.N n).boot = a.boot := by
    rcases h1 with h1 | h1
    ·rw [h1]
    ·rw [h1]; rfl
   split at e
   ·next s2 e2 =>
    refine Wp.tries_flush k s2 ?_ e hb
    unfold Wp.send Wp.sendF at e2
    split at e2
    ·cases e2; exact h1
    ·split at e2
     ·cases e2
      rw [Wp.at_, Ns.act_flush]
      exact Or.inr h2
     ·split at e2 <;> cases e2
   ·next s2 x e2 =>
    split at e
    ·cases e
     unfold Wp.send Wp.sendF at e2
     split at e2
     ·cases e2
     ·split at e2
      ·cases e2
      ·split at e2
       ·cases e2
        exfalso
        rw [Ns.act_boot, Ns.crash_boot] at hb
        have e5 : (s1.cnt.took.N n).boot = (s1.N n).boot := rfl
        omega
       ·cases e2
        rw [Wp.at_, Ns.act_flush]
        exact h2
    ·cases e
def Wp.done (s : Wp) (n : Nat) (q : Rq) : Wp × Nat :=
 match s.call n q with
 | (s1, .err c) => (s1, c)
 | (s1, .ok y) => match s1.call n qFl with
  | (s2, .err _) => (s2, 5)
  | (s2, .ok z) => (s2, if z.1.boot = y.1.boot then 0 else 5)
theorem Wp.done_keep {P : Ns → Prop} {s : Wp} {n j : Nat} {q : Rq} (ha : j = n → ∀ a, P a → P (a.act q).1) (hf : ∀ a, P a → P a.fl) (hc : ∀ a, P a → P (a.crash [])) (h : P (s.N j)) : P ((s.done n q).1.N j) := by
 have h1 := Wp.call_keep (s := s) (n := n) ha hc h
 unfold Wp.done
 split
 ·next s1 c e => rw [e] at h1; exact h1
 ·next s1 y e =>
  rw [e] at h1
  have h2 := Wp.call_keep (s := s1) (n := n) (q := qFl) (fun _ a ha => by rw [Ns.act_flush]; exact hf a ha) hc h1
  split
  ·next s2 c e2 => rw [e2] at h2; exact h2
  ·next s2 z e2 => rw [e2] at h2; exact h2
theorem Wp.tries_err (n : Nat) (q : Rq) : ∀ (k : Nat) (s : Wp) {s' : Wp} {c : Nat}, s.tries k n q = (s', .err c) → c ≠ 0
 | 0, _, _, _, e => by cases e; decide
 | k + 1, s, s', c, e => by
  unfold Wp.tries at e
  split at e
  ·cases e; decide
  ·split at e
   ·exact Wp.tries_err n q k _ e
   ·split at e
    ·cases e
    ·next h => cases e; exact h
theorem Wp.done_ok {P : Ns → Prop} {s s' : Wp} {n : Nat} {q : Rq} (ha : ∀ a, P a → P (a.act q).1) (hc : ∀ a, P a → P (a.crash [])) (h : P (s.N n)) (e : s.done n q = (s', 0)) : ∃ a, P a ∧ (a.act q).2.code = 0 ∧ s'.N n = (a.act q).1.fl := by
 unfold Wp.done at e
 split at e
 ·next s1 c e1 =>
  injection e with _ e
  exact absurd e (Wp.tries_err n q 3 s e1)
 ·next s1 y e1 =>
  obtain ⟨a, a1, rfl, a2, a3⟩ := Wp.tries_some ha hc 3 s h e1
  split at e
  ·injection e with _ e
   cases e
  ·next s2 z e2 =>
   injection e with e4 e
   subst e4
   split at e
   ·next hb => exact ⟨a, a1, a3, Wp.tries_flush 3 s1 (Or.inl a2) e2 hb⟩
   ·cases e
theorem Wp.done_put {s s' : Wp} {n st g i : Nat} {D : Nat → Nat} (e : s.done n (qPt st g i D) = (s', 0)) : (s'.N n).HasF st g i := by
 obtain ⟨a, _, h1, h2⟩ := Wp.done_ok (P := fun _ => True) (fun _ _ => trivial) (fun _ _ => trivial) trivial e
 rw [h2]
 exact ⟨D, Td.held_flush (Ns.act_putted h1)⟩
theorem Wp.done_log {s s' : Wp} {n st g : Nat} {D : Nat → Nat} (hw : (s.N n).Wf) (e : s.done n (qLg st g D) = (s', 0)) : (s'.N n).HasI st g D := by
 obtain ⟨a, h0, h1, h2⟩ := Wp.done_ok (P := Ns.Wf) (fun _ h => h.act _) (fun _ _ => Ns.Wf.crash _ _) hw e
 rw [h2]
 exact (Ns.act_logged h1).fl (h0.act _)
end Go.Proofs.YtelmcchleclklaaGreat
namespace Go.Proofs.YtelmcchleclklaaGreat
open Go.RowKit Go.Sort
set_option maxRecDepth 100000
set_option maxHeartbeats 1000000

structure Ep where
 w : Wp
 gen : Nat → Nat
 next : Nat → Nat
 doubt : Nat → Bool
 pend : Nat → Option (Nat → Nat)
def Ep.new (w : Wp) : Ep := ⟨w, fun _ => 0, fun _ => 1, fun _ => false, fun _ => none⟩
def nodeN (st i : Nat) : Nat := (st + i) % 8
def logN (st j : Nat) : Nat := (st + 5 + j) % 8
def Ep.rel (e : Ep) (x : It) : Bool := decide (x.g ≤ e.gen x.s) && !((e.pend x.s).isSome && decide (x.g = e.gen x.s))
def Wp.rels (s : Wp) (n : Nat) (l : List It) : Wp := l.foldl (fun s x => (s.call n (qRl x.s x.g)).1) s
def Ep.sweep (e : Ep) (s : Wp) (n : Nat) : Wp := match s.call n qIn with
 | (s1, .err _) => s1
 | (s1, .ok y) => s1.rels n (y.2.its.filter e.rel)
def Ep.logs (e : Ep) (s : Wp) (n : Nat) (q : Rq) : Wp × Nat := if (s.done n q).2 = 6 then (e.sweep (s.done n q).1 n).done n q else s.done n q
def Ep.askN (e : Ep) (q : Rq) (st : Nat) : Nat → Wp × Nat × List (Nat × Nat)
 | 0 => (e.w, 0, [])
 | m + 1 => let r := e.askN q st m
  if 3 ≤ r.2.1 then r else
   let c := e.logs r.1 (logN st m) q
   if c.2 = 0 then (c.1, r.2.1 + 1, r.2.2) else (c.1, r.2.1, r.2.2 ++ [(logN st m, c.2)])
def Wp.puts (s : Wp) (st g : Nat) (C : Nat → Nat → Nat) : Nat → Wp × Bool
 | 0 => (s, true)
 | m + 1 => let r := s.puts st g C m
  let d := r.1.done (nodeN st m) (qPt st g m (C m))
  (d.1, r.2 && decide (d.2 = 0))
def Wp.relAll (s : Wp) (st g : Nat) : Nat → Wp
 | 0 => s
 | m + 1 => ((s.relAll st g m).call m (qRl st g)).1
def Ep.fin (e : Ep) (st : Nat) (C : Nat → Nat → Nat) : Ep :=
 let r := e.w.puts st (e.gen st) C 6
 if r.2 = true then { e with w := r.1.relAll st (e.gen st) 8, pend := fun i => if i = st then none else e.pend i } else { e with w := r.1 }
def Ep.held (e : Ep) (s : Wp) (st g : Nat) (D : Nat → Nat) : Ep :=
 { e with w := s, gen := fun i => if i = st then g else e.gen i, doubt := fun i => if i = st then false else e.doubt i, pend := fun i => if i = st then some D else e.pend i }
def Ep.carry (E : (Nat → Nat) → Nat → Nat → Nat) (e : Ep) (st g : Nat) (D : Nat → Nat) : Ep × Option (List (Nat × Nat)) :=
 let r := e.askN (qLg st g D) st 8
 if r.2.1 < 3 then ({ e with w := r.1 }, some r.2.2) else ((e.held r.1 st g D).fin st (E D), none)
def Ep.up (e : Ep) (st : Nat) : Ep := { e with next := fun i => if i = st then e.next st + 1 else e.next i }
def Ep.write (E : (Nat → Nat) → Nat → Nat → Nat) (e : Ep) (st : Nat) (D : Nat → Nat) : Ep × Option (List (Nat × Nat)) :=
 let r := (e.up st).carry E st (e.next st) D
 if r.2.isSome then ({ r.1 with doubt := fun i => if i = st then true else r.1.doubt i }, r.2) else r

structure Kp (s s' : Wp) (R : Nat → Nat → Prop) (U : Nat → Prop) : Prop where
 wf : ∀ j, (s.N j).Wf → (s'.N j).Wf
 hi : ∀ j st g D, ¬ R st g → (s.N j).HasI st g D → (s'.N j).HasI st g D
 hf : ∀ j st g i, st < 40 → ¬ U st → (s.N j).HasF st g i → (s'.N j).HasF st g i
theorem Kp.refl (s : Wp) (R : Nat → Nat → Prop) (U : Nat → Prop) : Kp s s R U := ⟨fun _ h => h, fun _ _ _ _ _ h => h, fun _ _ _ _ _ _ h => h⟩
theorem Kp.trans {a b c : Wp} {R : Nat → Nat → Prop} {U : Nat → Prop} (h : Kp a b R U) (k : Kp b c R U) : Kp a c R U :=
 ⟨fun j x => k.wf j (h.wf j x), fun j st g D r x => k.hi j st g D r (h.hi j st g D r x), fun j st g i l u x => k.hf j st g i l u (h.hf j st g i l u x)⟩
theorem Kp.mono {s s' : Wp} {R R' : Nat → Nat → Prop} {U U' : Nat → Prop} (h : Kp s s' R U) (hR : ∀ st g, R st g → R' st g) (hU : ∀ st, U st → U' st) : Kp s s' R' U' :=
 ⟨h.wf, fun j st g D r x => h.hi j st g D (fun y => r (hR _ _ y)) x, fun j st g i l u x => h.hf j st g i l (fun y => u (hU _ y)) x⟩
theorem Kp.call (s : Wp) (n : Nat) (q : Rq) : Kp s (s.call n q).1 (fun st g => q.k = 6 ∧ q.s = (st : Int) ∧ q.g = (g : Int)) (fun st => q.k = 2 ∧ q.s = (st : Int)) := by
 refine ⟨fun j h => ?_, fun j st g D r h => ?_, fun j st g i l u h => ?_⟩
 ·exact Wp.call_keep (P := Ns.Wf) (fun _ a h => h.act q) (fun a _ => Ns.Wf.crash a _) h
 ·exact Wp.call_keep (P := fun a => a.HasI st g D) (fun _ a h => h.act q (fun e x => r ⟨e, x⟩)) (fun a h => h.crash _) h
 ·refine Wp.call_keep (P := fun a => a.HasF st g i) (fun _ a h => h.act l q (fun e o x => ?_)) (fun a h => h.crash _) h
  have ho := (Rq.okP_iff q).1 o
  obtain ⟨o1, o2, _⟩ := ho
  unfold atP Rq.pc at x
  dsimp only at x
  exact u ⟨e, by omega⟩
theorem Kp.done (s : Wp) (n : Nat) (q : Rq) : Kp s (s.done n q).1 (fun st g => q.k = 6 ∧ q.s = (st : Int) ∧ q.g = (g : Int)) (fun st => q.k = 2 ∧ q.s = (st : Int)) := by
 have h1 := Kp.call s n q
 unfold Wp.done
 split
 ·next s1 c e => rw [e] at h1; exact h1
 ·next s1 y e =>
  rw [e] at h1
  have h2 := (Kp.call s1 n qFl).mono (R' := fun st g => q.k = 6 ∧ q.s = (st : Int) ∧ q.g = (g : Int)) (U' := fun st => q.k = 2 ∧ q.s = (st : Int)) (fun _ _ h => absurd h.1 (by show (4 : Int) ≠ 6; decide)) (fun _ h => absurd h.1 (by show (4 : Int) ≠ 2; decide))
  split
  ·next s2 c e2 => rw [e2] at h2; exact h1.trans h2
  ·next s2 z e2 => rw [e2] at h2; exact h1.trans h2
theorem Kp.rels (n : Nat) {R : Nat → Nat → Prop} {U : Nat → Prop} : ∀ (l : List It) (s : Wp), (∀ x ∈ l, R x.s x.g) → Kp s (s.rels n l) R U
 | [], s, _ => Kp.refl s _ _
 | x :: l, s, h => by
  refine Kp.trans ((Kp.call s n (qRl x.s x.g)).mono (fun st g r => ?_) (fun st u => ?_)) (Kp.rels n l _ (fun y hy => h y (List.mem_cons_of_mem _ hy)))
  ·obtain ⟨_, r2, r3⟩ := r
   have e1 : x.s = st := by have : ((x.s : Nat) : Int) = st := r2; omega
   have e2 : x.g = g := by have : ((x.g : Nat) : Int) = g := r3; omega
   rw [← e1, ← e2]
   exact h x (List.mem_cons_self ..)
  ·exact absurd u.1 (by show (6 : Int) ≠ 2; decide)
def Ep.Rel (e : Ep) (st g : Nat) : Prop := g ≤ e.gen st ∧ ¬ ((e.pend st).isSome = true ∧ g = e.gen st)
theorem Kp.sweep (e : Ep) (s : Wp) (n : Nat) : Kp s (e.sweep s n) e.Rel (fun _ => False) := by
 have h1 := (Kp.call s n qIn).mono (R' := e.Rel) (U' := fun _ => False) (fun _ _ h => absurd h.1 (by show (5 : Int) ≠ 6; decide)) (fun _ h => absurd h.1 (by show (5 : Int) ≠ 2; decide))
 unfold Ep.sweep
 split
 ·next s1 c e1 => rw [e1] at h1; exact h1
 ·next s1 y e1 =>
  rw [e1] at h1
  refine h1.trans (Kp.rels n _ _ (fun x hx => ?_))
  have h2 := (List.mem_filter.1 hx).2
  unfold Ep.rel at h2
  simp at h2
  refine ⟨h2.1, fun hh => ?_⟩
  rcases h2.2 with h3 | h3
  ·rw [h3] at hh; cases hh.1
  ·exact h3 hh.2
theorem Kp.logs (e : Ep) (s : Wp) (n st g : Nat) (D : Nat → Nat) : Kp s (e.logs s n (qLg st g D)).1 e.Rel (fun _ => False) := by
 have hd : ∀ s, Kp s (s.done n (qLg st g D)).1 e.Rel (fun _ => False) := fun s => (Kp.done s n (qLg st g D)).mono (fun _ _ h => absurd h.1 (by show (3 : Int) ≠ 6; decide)) (fun _ h => absurd h.1 (by show (3 : Int) ≠ 2; decide))
 unfold Ep.logs
 split
 ·exact ((hd s).trans (Kp.sweep e _ n)).trans (hd _)
 ·exact hd s
theorem Ep.logs_ok {e : Ep} {s : Wp} {n st g : Nat} {D : Nat → Nat} (hw : (s.N n).Wf) (h : (e.logs s n (qLg st g D)).2 = 0) : ((e.logs s n (qLg st g D)).1.N n).HasI st g D := by
 unfold Ep.logs at h ⊢
 split at h
 ·next h6 =>
  rw [if_pos h6]
  have h1 := ((Kp.done s n (qLg st g D)).wf n hw)
  have h2 := (Kp.sweep e (s.done n (qLg st g D)).1 n).wf n h1
  exact Wp.done_log h2 (Prod.ext rfl h)
 ·next h6 =>
  rw [if_neg h6]
  exact Wp.done_log hw (Prod.ext rfl h)
theorem Kp.askN (e : Ep) (st g : Nat) (D : Nat → Nat) : ∀ m, Kp e.w (e.askN (qLg st g D) st m).1 e.Rel (fun _ => False)
 | 0 => Kp.refl _ _ _
 | m + 1 => by
  have ih := Kp.askN e st g D m
  have h2 := ih.trans (Kp.logs e _ (logN st m) st g D)
  unfold Ep.askN
  dsimp only
  split
  ·exact ih
  ·split
   ·exact h2
   ·exact h2
theorem logN_inj {st i j : Nat} (hi : i < 8) (hj : j < 8) (h : logN st i = logN st j) : i = j := by unfold logN at h; omega
theorem nodeN_inj {st i j : Nat} (hi : i < 6) (hj : j < 6) (h : nodeN st i = nodeN st j) : i = j := by unfold nodeN at h; omega
theorem Ep.askN_has {e : Ep} {st g : Nat} {D : Nat → Nat} (hw : ∀ i, i < 8 → (e.w.N i).Wf) (hg : ¬ e.Rel st g) : ∀ m, m ≤ 8 → ∃ l : List Nat, l.Nodup ∧ l.length = (e.askN (qLg st g D) st m).2.1 ∧ ∀ n ∈ l, (∃ j, j < m ∧ n = logN st j) ∧ ((e.askN (qLg st g D) st m).1.N n).HasI st g D
 | 0, _ => ⟨[], List.nodup_nil, rfl, fun n hn => by cases hn⟩
 | m + 1, hm => by
  obtain ⟨l, l1, l2, l3⟩ := Ep.askN_has hw hg m (by omega)
  have hk := Kp.askN e st g D m
  have hlog := Kp.logs e (e.askN (qLg st g D) st m).1 (logN st m) st g D
  have hwf : ((e.askN (qLg st g D) st m).1.N (logN st m)).Wf := hk.wf _ (hw _ (by unfold logN; omega))
  unfold Ep.askN
  dsimp only
  split
  ·exact ⟨l, l1, l2, fun n hn => ⟨by obtain ⟨j, hj, ej⟩ := (l3 n hn).1; exact ⟨j, by omega, ej⟩, (l3 n hn).2⟩⟩
  ·split
   ·next h0 =>
    refine ⟨logN st m :: l, List.nodup_cons.2 ⟨fun hin => ?_, l1⟩, by simp [l2], fun n hn => ?_⟩
    ·obtain ⟨j, hj, ej⟩ := (l3 _ hin).1
     have := logN_inj (by omega) (by omega) ej
     omega
    ·rcases List.mem_cons.1 hn with rfl | hn
     ·exact ⟨⟨m, by omega, rfl⟩, Ep.logs_ok hwf h0⟩
     ·exact ⟨by obtain ⟨j, hj, ej⟩ := (l3 n hn).1; exact ⟨j, by omega, ej⟩, hlog.hi n st g D hg (l3 n hn).2⟩
   ·exact ⟨l, l1, l2, fun n hn => ⟨by obtain ⟨j, hj, ej⟩ := (l3 n hn).1; exact ⟨j, by omega, ej⟩, hlog.hi n st g D hg (l3 n hn).2⟩⟩
theorem Kp.puts (s : Wp) (st g : Nat) (C : Nat → Nat → Nat) : ∀ m, Kp s (s.puts st g C m).1 (fun _ _ => False) (fun i => i = st)
 | 0 => Kp.refl _ _ _
 | m + 1 => by
  refine (Kp.puts s st g C m).trans ((Kp.done _ (nodeN st m) (qPt st g m (C m))).mono (fun _ _ h => absurd h.1 (by show (2 : Int) ≠ 6; decide)) (fun i h => ?_))
  have : ((st : Nat) : Int) = i := h.2
  omega
theorem Wp.puts_has (s : Wp) {st g : Nat} (hst : st < 40) (C : Nat → Nat → Nat) : ∀ m, m ≤ 6 → (s.puts st g C m).2 = true → ∀ i, i < m → ((s.puts st g C m).1.N (nodeN st i)).HasF st g i
 | 0, _, _, i, hi => absurd hi (by omega)
 | m + 1, hm, h, i, hi => by
  unfold Wp.puts at h ⊢
  dsimp only at h ⊢
  rw [Bool.and_eq_true, decide_eq_true_eq] at h
  obtain ⟨h1, h2⟩ := h
  by_cases e : i = m
  ·subst e
   exact Wp.done_put (Prod.ext rfl h2)
  ·have ih := Wp.puts_has s hst C m (by omega) h1 i (by omega)
   refine Wp.done_keep (P := fun a => a.HasF st g i) (fun ej => absurd (nodeN_inj (by omega) (by omega) ej) e) (fun a ha => ?_) (fun a ha => ha.crash _) ih
   obtain ⟨D, hD⟩ := ha
   exact ⟨D, hD.flush⟩
theorem Kp.relAll (s : Wp) (st g : Nat) : ∀ m, Kp s (s.relAll st g m) (fun a b => a = st ∧ b = g) (fun _ => False)
 | 0 => Kp.refl _ _ _
 | m + 1 => by
  refine (Kp.relAll s st g m).trans ((Kp.call _ m (qRl st g)).mono (fun a b h => ?_) (fun _ h => absurd h.1 (by show (6 : Int) ≠ 2; decide)))
  obtain ⟨_, h2, h3⟩ := h
  have : ((st : Nat) : Int) = a := h2
  have : ((g : Nat) : Int) = b := h3
  omega
theorem Ep.askN_zero (e : Ep) (q : Rq) (st : Nat) : e.askN q st 0 = (e.w, 0, []) := rfl
theorem Ep.askN_succ (e : Ep) (q : Rq) (st m : Nat) : e.askN q st (m + 1) = if 3 ≤ (e.askN q st m).2.1 then e.askN q st m else if (e.logs (e.askN q st m).1 (logN st m) q).2 = 0 then ((e.logs (e.askN q st m).1 (logN st m) q).1, (e.askN q st m).2.1 + 1, (e.askN q st m).2.2) else ((e.logs (e.askN q st m).1 (logN st m) q).1, (e.askN q st m).2.1, (e.askN q st m).2.2 ++ [(logN st m, (e.logs (e.askN q st m).1 (logN st m) q).2)]) := rfl
theorem Wp.puts_zero (s : Wp) (st g : Nat) (C : Nat → Nat → Nat) : s.puts st g C 0 = (s, true) := rfl
theorem Wp.puts_succ (s : Wp) (st g : Nat) (C : Nat → Nat → Nat) (m : Nat) : s.puts st g C (m + 1) = (((s.puts st g C m).1.done (nodeN st m) (qPt st g m (C m))).1, (s.puts st g C m).2 && decide (((s.puts st g C m).1.done (nodeN st m) (qPt st g m (C m))).2 = 0)) := rfl
theorem Wp.relAll_zero (s : Wp) (st g : Nat) : s.relAll st g 0 = s := rfl
theorem Wp.relAll_succ (s : Wp) (st g m : Nat) : s.relAll st g (m + 1) = ((s.relAll st g m).call m (qRl st g)).1 := rfl
attribute [irreducible] Ep.askN Wp.puts Wp.relAll
structure Ep.Inv (e : Ep) : Prop where
 wf : ∀ i, i < 8 → (e.w.N i).Wf
 nx : ∀ st, st < 40 → e.gen st < e.next st
 pd : ∀ st D, st < 40 → e.pend st = some D → ∃ l : List Nat, l.Nodup ∧ 3 ≤ l.length ∧ ∀ n ∈ l, n < 8 ∧ (e.w.N n).HasI st (e.gen st) D
 fl : ∀ st, st < 40 → e.pend st = none → e.gen st ≠ 0 → ∀ i, i < 6 → (e.w.N (nodeN st i)).HasF st (e.gen st) i
theorem Ep.Inv.new {w : Wp} (h : ∀ i, i < 8 → (w.N i).Wf) : (Ep.new w).Inv := ⟨h, fun _ _ => (by show (0 : Nat) < 1; decide), (fun _ _ _ h => by cases h), fun _ _ _ h => absurd rfl h⟩
theorem Ep.Inv.step {e : Ep} (h : e.Inv) {s : Wp} {R : Nat → Nat → Prop} {U : Nat → Prop} (k : Kp e.w s R U) (hR : ∀ st, st < 40 → (e.pend st).isSome = true → ¬ R st (e.gen st)) (hU : ∀ st, st < 40 → e.pend st = none → ¬ U st) : ({ e with w := s } : Ep).Inv :=
 ⟨fun i hi => k.wf i (h.wf i hi), h.nx, fun st D hs hp => by
  obtain ⟨l, l1, l2, l3⟩ := h.pd st D hs hp
  have hp2 : e.pend st = some D := hp
  exact ⟨l, l1, l2, fun n hn => ⟨(l3 n hn).1, k.hi n st _ D (hR st hs (by rw [hp2]; rfl)) (l3 n hn).2⟩⟩,
  fun st hs hp hg i hi => k.hf _ st _ i hs (hU st hs hp) (h.fl st hs hp hg i hi)⟩
theorem Ep.Inv.fin {e : Ep} (h : e.Inv) {st : Nat} (hs : st < 40) (hp : (e.pend st).isSome = true) (C : Nat → Nat → Nat) : (e.fin st C).Inv := by
 have h1 := h.step (Kp.puts e.w st (e.gen st) C 6) (fun _ _ _ f => f) (fun i _ hn e2 => by rw [e2] at hn; rw [hn] at hp; cases hp)
 unfold Ep.fin
 dsimp only
 split
 ·next hb =>
  have hf := e.w.puts_has hs C 6 (Nat.le_refl _) hb
  have hk := Kp.relAll (e.w.puts st (e.gen st) C 6).1 st (e.gen st) 8
  refine ⟨fun i hi => hk.wf i (h1.wf i hi), h.nx, fun i D hi hd => ?_, fun i hi hn hg j hj => ?_⟩
  ·have hd2 : (if i = st then none else e.pend i) = some D := hd
   split at hd2
   ·cases hd2
   ·next ne =>
    obtain ⟨l, l1, l2, l3⟩ := h1.pd i D hi hd2
    exact ⟨l, l1, l2, fun n hn => ⟨(l3 n hn).1, hk.hi n i _ D (fun x => ne x.1) (l3 n hn).2⟩⟩
  ·have hn2 : (if i = st then none else e.pend i) = none := hn
   split at hn2
   ·next e2 =>
    subst e2
    exact hk.hf _ i _ j hi (fun f => f) (hf j hj)
   ·exact hk.hf _ i _ j hi (fun f => f) (h1.fl i hi hn2 hg j hj)
 ·exact h1
theorem Ep.Inv.carry {e : Ep} (h : e.Inv) {st g : Nat} (hs : st < 40) (h1 : e.gen st < g) (h2 : g < e.next st) (E : (Nat → Nat) → Nat → Nat → Nat) (D : Nat → Nat) : (e.carry E st g D).1.Inv := by
 have hk := Kp.askN e st g D 8
 have hg : ¬ e.Rel st g := fun x => by have := x.1; omega
 have hl := Ep.askN_has (D := D) h.wf hg 8 (Nat.le_refl _)
 have hi := h.step hk (fun i _ hp x => x.2 ⟨hp, rfl⟩) (fun _ _ _ f => f)
 unfold Ep.carry
 dsimp only
 split
 ·exact hi
 ·next h3 =>
  obtain ⟨l, l1, l2, l3⟩ := hl
  refine Ep.Inv.fin (e := e.held (e.askN (qLg st g D) st 8).1 st g D) ⟨hi.wf, fun i hii => ?_, fun i D' hii hd => ?_, fun i hii hn hgg j hj => ?_⟩ hs (by show (if st = st then some D else e.pend st).isSome = true; rw [if_pos rfl]; rfl) _
  ·show (if i = st then g else e.gen i) < e.next i
   split
   ·next e2 => rw [e2]; exact h2
   ·exact h.nx i hii
  ·have hd2 : (if i = st then some D else e.pend i) = some D' := hd
   show ∃ l : List Nat, l.Nodup ∧ 3 ≤ l.length ∧ ∀ n ∈ l, n < 8 ∧ ((e.askN (qLg st g D) st 8).1.N n).HasI i (if i = st then g else e.gen i) D'
   split at hd2
   ·next e2 =>
    cases hd2
    rw [if_pos e2, e2]
    exact ⟨l, l1, by omega, fun n hn => ⟨by obtain ⟨j, _, ej⟩ := (l3 n hn).1; rw [ej]; unfold logN; omega, (l3 n hn).2⟩⟩
   ·next ne =>
    rw [if_neg ne]
    exact hi.pd i D' hii hd2
  ·have hn2 : (if i = st then some D else e.pend i) = none := hn
   have hg2 : (if i = st then g else e.gen i) ≠ 0 := hgg
   show ((e.askN (qLg st g D) st 8).1.N (nodeN i j)).HasF i (if i = st then g else e.gen i) j
   split at hn2
   ·cases hn2
   ·next ne =>
    rw [if_neg ne] at hg2 ⊢
    exact hi.fl i hii hn2 hg2 j hj
theorem Ep.Inv.write {e : Ep} (h : e.Inv) {st : Nat} (hs : st < 40) (E : (Nat → Nat) → Nat → Nat → Nat) (D : Nat → Nat) : (e.write E st D).1.Inv := by
 have h1 : (e.up st).Inv := ⟨h.wf, fun i hi => by
  show e.gen i < if i = st then e.next st + 1 else e.next i
  split
  ·next e2 => rw [e2]; have := h.nx st hs; omega
  ·exact h.nx i hi, h.pd, h.fl⟩
 have h2 := h1.carry hs (g := e.next st) (h.nx st hs) (by show e.next st < if st = st then e.next st + 1 else e.next st; rw [if_pos rfl]; omega) E D
 unfold Ep.write
 dsimp only
 split
 ·exact ⟨h2.wf, h2.nx, h2.pd, h2.fl⟩
 ·exact h2
theorem Ep.Inv.same {e : Ep} (h : e.Inv) {s : Wp} (hs : s.N = e.w.N) : ({ e with w := s } : Ep).Inv :=
 h.step (R := fun _ _ => False) (U := fun _ => False) ⟨fun j x => by rw [hs]; exact x, fun j _ _ _ _ x => by rw [hs]; exact x, fun j _ _ _ _ _ x => by rw [hs]; exact x⟩ (fun _ _ _ f => f) (fun _ _ _ f => f)
theorem Ep.write_pend (E : (Nat → Nat) → Nat → Nat → Nat) (e : Ep) (st : Nat) (D : Nat → Nat) (i : Nat) : (i ≠ st → (e.write E st D).1.pend i = e.pend i ∧ (e.write E st D).1.gen i = e.gen i) ∧ ((e.write E st D).2.isSome = true → (e.write E st D).1.pend i = e.pend i ∧ (e.write E st D).1.gen i = e.gen i) ∧
  ((e.write E st D).2 = none → (e.write E st D).1.gen st = e.next st ∧ ((e.write E st D).1.pend st = none ∨ (e.write E st D).1.pend st = some D)) := by
 unfold Ep.write Ep.carry Ep.fin Ep.held Ep.up
 dsimp only
 repeat' split
 all_goals simp_all
end Go.Proofs.YtelmcchleclklaaGreat
