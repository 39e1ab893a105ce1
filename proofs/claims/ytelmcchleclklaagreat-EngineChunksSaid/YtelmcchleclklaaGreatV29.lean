import Derived.Test.YtelmcchleclklaaGreatV28
import Derived.Test.YtelmcchleclklaaGreatV24
import Derived.Maps.OwnOps
import Derived.Test.YtelmcchleclklaaGreatV26
import Derived.Test.YtelmcchleclklaaGreatV08
import Derived.Test.YtelmcchleclklaaGreatV23
import Derived.Test.YtelmcchleclklaaGreatRows
namespace Go.Proofs.YtelmcchleclklaaGreat
open Go.RowKit Go.Sort
set_option maxRecDepth 100000
set_option maxHeartbeats 2000000

theorem OnE.tree {w : World} {b : Nat} {n c : Int} (h : OnE w b n c) : Tr.Err w w.heap.size 2 (onv b) [c] [(onv b, some n), (ev c, none)] [] :=
 .inr (.inl ⟨b, n, ev c, [(ev c, none)], rfl, h.lt, h, .inl ⟨c, rfl, rfl, rfl, rfl⟩, rfl⟩)
theorem tree_keep {w w' : World} {B : Nat} (h : ∀ (b : Nat) (cs : Array Value) (t : TypeId), b < B → (t = 243 ∨ t = 135 ∨ t = 176 ∨ t = 36) → w.heap[b]? = some (.cells cs t (0, 0)) → w'.heap[b]? = some (.cells cs t (0, 0))) :
  ∀ (d : Nat) {v : Value} {cs : List Int} {ns : List Tr.Nd} {ss : List Int}, Tr.Err w B d v cs ns ss → Tr.Err w' B d v cs ns ss
 | 0, _, _, _, _, e => e.elim
 | d + 1, _, _, _, _, e => by
  rcases e with e | ⟨b, n, x, ns', e1, e2, e3, e4, e5⟩ | ⟨b, n, x, ns', ss', e1, e2, e3, e4, e5⟩ | ⟨b, g, m, cap, row, vs, e1, e2, e3, e4, e5, e6, e7, e7', e8, e9, e10⟩
  ·exact .inl e
  ·exact .inr (.inl ⟨b, n, x, ns', e1, e2, h b _ _ e2 (Or.inl rfl) e3, tree_keep h d e4, e5⟩)
  ·exact .inr (.inr (.inl ⟨b, n, x, ns', ss', e1, e2, h b _ _ e2 (Or.inr (Or.inl rfl)) e3, tree_keep h d e4, e5⟩))
  ·exact .inr (.inr (.inr ⟨b, g, m, cap, row, vs, e1, e2, e3, h b _ _ e2 (Or.inr (Or.inr (Or.inl rfl))) e4, h g _ _ e3 (Or.inr (Or.inr (Or.inr rfl))) e5, e6, e7, e7', e8, fun i x hx => ⟨(e9 i x hx).1, tree_keep h d (e9 i x hx).2⟩, e10⟩))
theorem tree_notW {t : TypeId} (h : t = 243 ∨ t = 135 ∨ t = 176 ∨ t = 36) : ¬ WiT t ∧ t ≠ 3 := by
 rcases h with rfl | rfl | rfl | rfl <;> exact ⟨notWi (by decide) (by decide) (by decide) (by decide) (by decide) (by decide) (by decide), by decide⟩
def EV (w : World) (v : Value) (cs ks ss : List Int) : Prop := ∃ d ns, Tr.Err w w.heap.size d v cs ns ss ∧ Tr.nodesOf ns = ks
theorem EV.mono {w w' : World} {v : Value} {cs ks ss : List Int} (h : EV w v cs ks ss) (hs : w.heap.size ≤ w'.heap.size) (e : ∀ (b : Nat) (cs : Array Value) (t : TypeId), (t = 243 ∨ t = 135 ∨ t = 176 ∨ t = 36) → w.heap[b]? = some (.cells cs t (0, 0)) → w'.heap[b]? = some (.cells cs t (0, 0))) : EV w' v cs ks ss := by
 obtain ⟨d, ns, h1, h2⟩ := h
 exact ⟨d, ns, (tree_keep (fun b cs t _ => e b cs t) d h1).mono hs, h2⟩
theorem EV.keepF {w w' : World} {v : Value} {cs ks ss : List Int} (h : EV w v cs ks ss) (k : KeepF w w') : EV w' v cs ks ss :=
 h.mono k.1 (fun _ _ _ ht e => (k.cells e (tree_notW ht).1 (tree_notW ht).2).trans e)
theorem EV.keep {w w' : World} {v : Value} {cs ks ss : List Int} (h : EV w v cs ks ss) (k : KeepW w w') : EV w' v cs ks ss := h.keepF (KeepF.of k)
theorem EV.below {w w' : World} {v : Value} {cs ks ss : List Int} (h : EV w v cs ks ss) (b : Below w.heap.size w w') : EV w' v cs ks ss := h.keep (KeepW.of b)
theorem EV.iface {w : World} {v : Value} {cs ks ss : List Int} (h : EV w v cs ks ss) : ∃ t u, v = .iface t u := by
 obtain ⟨d, ns, h1, _⟩ := h
 exact h1.iface
theorem OnE.ev {w : World} {b : Nat} {n c : Int} (h : OnE w b n c) : EV w (onv b) [c] [n] [] := ⟨2, _, h.tree, rfl⟩
def EL (w : World) (vs : List Value) (es : List (List Int × List Int × List Int)) : Prop := vs.length = es.length ∧ ∀ (i : Nat) (v : Value) (e : List Int × List Int × List Int), vs[i]? = some v → es[i]? = some e → EV w v e.1 e.2.1 e.2.2
theorem EL.trees {w : World} : ∀ {vs : List Value} {es : List (List Int × List Int × List Int)}, EL w vs es → ∃ (D : Nat) (zs : List (Value × List Int × List Tr.Nd × List Int)), zs.map (·.1) = vs ∧ zs.map (·.2.1) = es.map (·.1) ∧ (zs.map fun z => Tr.nodesOf z.2.2.1) = es.map (·.2.1) ∧ zs.map (·.2.2.2) = es.map (·.2.2) ∧ ∀ z ∈ zs, Tr.Err w w.heap.size D z.1 z.2.1 z.2.2.1 z.2.2.2
 | [], es, h => by
  have : es = [] := List.length_eq_zero_iff.1 h.1.symm
  subst this
  exact ⟨0, [], rfl, rfl, rfl, rfl, fun z hz => by cases hz⟩
 | v :: vs, [], h => by cases h.1
 | v :: vs, e :: es, h => by
  obtain ⟨D, zs, z1, z2, z3, z4, z5⟩ := EL.trees (vs := vs) (es := es) (w := w) ⟨by have := h.1; simpa using this, fun i x y h1 h2 => h.2 (i + 1) x y (by simpa using h1) (by simpa using h2)⟩
  obtain ⟨d, ns, t1, t2⟩ := h.2 0 v e rfl rfl
  refine ⟨max D d, (v, e.1, ns, e.2.2) :: zs, by simp [z1], by simp [z2], by simp [z3, t2], by simp [z4], fun z hz => ?_⟩
  rcases List.mem_cons.1 hz with rfl | hz
  ·exact t1.deep (by omega)
  ·exact (z5 z hz).deep (by omega)
theorem alive_all : ∀ (vs : List Value), (∀ x ∈ vs, ∃ t u, x = .iface t u) → Tr.alive vs = vs
 | [], _ => rfl
 | x :: vs, h => by
  obtain ⟨t, u, rfl⟩ := h x (List.mem_cons_self ..)
  have := alive_all vs (fun y hy => h y (List.mem_cons_of_mem _ hy))
  unfold Tr.alive at this ⊢
  rw [List.filter_cons_of_pos rfl, this]
def JoinRet (es : List (List Int × List Int × List Int)) (w : World) (e : Ending) (w' : World) : Prop :=
 ∃ v, e = .returned v ∧ Below w.heap.size w w' ∧ ((es = [] ∧ v = .nilIface) ∨ (es ≠ [] ∧ EV w' v (es.map (·.1)).flatten (es.map (·.2.1)).flatten (es.map (·.2.2)).flatten))
theorem en_join {w : World} {A : Option Addr} {vs : List Value} {es : List (List Int × List Int × List Int)} (cap : Nat) (h : EL w vs es) (hA : Tr.Holds w A vs) (hm : vs.length ≤ 1000) :
  Calls Tryz.prog 71 #[.slice A vs.length cap] w (JoinRet es w) := by
 have hi : ∀ x ∈ vs, ∃ t u, x = .iface t u := fun x hx => by
  obtain ⟨i, hi⟩ := List.getElem?_of_mem hx
  have hl : i < es.length := by rw [← h.1]; exact (List.getElem?_eq_some_iff.1 hi).1
  exact (h.2 i x es[i] hi (List.getElem?_eq_getElem hl)).iface
 refine (Tr.join10 A vs cap w hm (fun x hx => Or.inr (hi x hx)) hA).mono ?_
 intro e w' hj
 rw [alive_all vs hi] at hj
 by_cases h0 : es = []
 ·subst h0
  have hv : vs = [] := List.length_eq_zero_iff.1 h.1
  subst hv
  obtain ⟨hb, ⟨_, he⟩ | ⟨y, hy, _⟩ | ⟨h2, _⟩⟩ := hj
  ·exact ⟨.nilIface, he, hb, Or.inl ⟨rfl, rfl⟩⟩
  ·cases hy
  ·exact absurd h2 (by decide)
 ·obtain ⟨D, zs, z1, z2, z3, z4, z5⟩ := h.trees
  have hz0 : zs ≠ [] := fun e0 => by
   rw [e0] at z2
   exact h0 (List.map_eq_nil_iff.1 z2.symm)
  have hzl : zs.length = vs.length := by rw [← z1]; simp
  have hb := hj.1
  obtain ⟨v, ns, he, t1, t2, _⟩ := hj.tree zs z1.symm (by omega) D (fun i z hz => z5 z (List.mem_of_getElem? hz)) hz0
  exact ⟨v, he, hb, Or.inr ⟨h0, D + 1, ns, by rw [← z2, ← z4]; exact t1, by rw [t2, z3]⟩⟩
def OfRet (st : Int) (cs ks ss : List Int) (w : World) (e : Ending) (w' : World) : Prop := ∃ v, e = .returned v ∧ Below w.heap.size w w' ∧ EV w' v cs ks (st :: ss)
theorem en_of {w : World} {v : Value} {cs ks ss : List Int} (st : Int) (h : EV w v cs ks ss) : Calls Tryz.prog 37 #[.int .i64 st, v] w (OfRet st cs ks ss w) := by
 obtain ⟨d, ns, h1, h2⟩ := h
 refine (Tr.ofStripe_err d st v cs ns ss w h1).mono ?_
 rintro e w' ⟨b, rfl, _, hb, _, ht⟩
 exact ⟨_, rfl, hb, d + 1, _, ht, by rw [← h2]; rfl⟩
theorem en_is {w : World} {v : Value} {cs ks ss : List Int} (m : Int) (h : EV w v cs ks ss) : Calls Tryz.prog 146 #[v, .int .i64 m] w fun e w' => e = .returned (.bool (Tr.hasCode m cs)) ∧ Below w.heap.size w w' := by
 obtain ⟨d, ns, h1, _⟩ := h
 exact Tr.cis_any d v cs ns ss w m h1
end Go.Proofs.YtelmcchleclklaaGreat
namespace Go.Proofs.YtelmcchleclklaaGreat
open Go.RowKit Go.Sort
set_option maxRecDepth 100000
set_option maxHeartbeats 2000000

section
variable {w0 v v' : World} {g : Nat} {nd : ND} {s s' : Wp} {l : List (Nat × Int × Int)}
end
end Go.Proofs.YtelmcchleclklaaGreat
namespace Go.Proofs.YtelmcchleclklaaGreat
open Go.RowKit Go.Sort
set_option maxRecDepth 100000
set_option maxHeartbeats 1000000

theorem lawIntB : Maps.Keyed Tryz.prog 3 := Maps.int_keyed Tryz.underlying3
abbrev ikB (c : Nat) : Lit := .int .i64 (c : Int)
theorem ikB_wf {c : Nat} (h : c < 1000) : (ikB c).wf = true := by
 simp [Lit.wf, IntKind.min, IntKind.max, IntKind.signed, IntKind.bits]
 omega
theorem ikB_inj {a b : Nat} (h : ikB a = ikB b) : a = b := by
 injection h with _ h
 omega
theorem KeepW.map {w w' : World} {mb : Nat} {es : Array MapEntry} {clock : Nat} (hb : w.heap[mb]? = some (.map es clock)) (g : w.grownBy w' (some mb)) {k : Nat} {cs : Array Value} {t : TypeId} {fr : Nat × Nat} (hk : w.heap[k]? = some (.cells cs t fr)) : w'.heap[k]? = w.heap[k]? :=
 g.block k (heap_lt hk) (fun e => by
  injection e with e
  rw [← e, hk] at hb
  cases hb)
theorem WL.map {w0 v v' : World} {g mb : Nat} {nd : ND} {s : Wp} {es : Array MapEntry} {clock : Nat} (h : WL w0 v g nd s) (hb : v.heap[mb]? = some (.map es clock)) (hmb : w0.heap.size ≤ mb) (gr : v.grownBy v' (some mb)) (hz : ¬ nd.Z mb) : WL w0 v' g nd s := by
 obtain ⟨T, fv, h1, h2, h3, h4, h5, h6⟩ := h
 refine ⟨T, fv, h1.same (fun j hj => ?_) (fun i hi j hj => ?_) (fun j cs hj => KeepW.map hb gr hj), h2.grown gr h2.size (fun k hk => by cases hk; exact hmb), h3, h4, h5, h6.keep gr.size (fun k hk => gr.block k (Nat.lt_of_lt_of_le (h6.2 k hk).1 h6.1) (fun e => by cases e; exact hz hk))⟩
 ·rw [List.mem_cons] at hj
  rcases hj with rfl | hj
  ·exact KeepW.map hb gr h1.hd
  ·obtain ⟨row, hr⟩ := h1.fat.type j hj
   exact KeepW.map hb gr hr
 ·obtain ⟨r, p, sb, S, q1, q2, q3⟩ := h1.node i hi
  have hj' : j ∈ nd i :: r :: sb :: S := by
   rw [q3] at hj
   simp only [List.mem_cons] at hj ⊢
   rcases hj with rfl | rfl | rfl | rfl | hj
   ·simp
   ·simp
   ·obtain ⟨db, nb, pv, _, _, hS⟩ := q1.plt
    rw [hS]
    simp
   ·simp
   ·simp [hj]
  obtain ⟨cs', t', hc, hT⟩ := q1.type j hj'
  exact KeepW.map hb gr hc
end Go.Proofs.YtelmcchleclklaaGreat
namespace Go.Proofs.YtelmcchleclklaaGreat
open Go.RowKit Go.Sort
set_option maxRecDepth 100000
set_option maxHeartbeats 2000000

def KeepE (lim : Nat) (w w' : World) : Prop := w.heap.size ≤ w'.heap.size ∧ ∀ (k : Nat) (o : Obj), w.heap[k]? = some o → (∀ cs t fr, o = .cells cs t fr → ¬ WiB cs t ∧ t ≠ 88) → (∀ es c, o = .map es c → lim ≤ k) → w'.heap[k]? = some o
theorem KeepE.refl (lim : Nat) (w : World) : KeepE lim w w := ⟨Nat.le_refl _, fun _ _ h _ _ => h⟩
theorem KeepE.trans {lim : Nat} {a b c : World} (h : KeepE lim a b) (k : KeepE lim b c) : KeepE lim a c := ⟨Nat.le_trans h.1 k.1, fun i o hi ho hm => k.2 i o (h.2 i o hi ho hm) ho hm⟩
theorem KeepE.of (lim : Nat) {w w' : World} (h : KeepW w w') : KeepE lim w w' := ⟨h.1, fun k o hk ho _ => h.2 k o hk (fun cs t fr e => (ho cs t fr e).1)⟩
theorem KeepE.cells {lim : Nat} {w w' : World} (h : KeepE lim w w') {k : Nat} {cs : Array Value} {t : TypeId} {fr : Nat × Nat} (hk : w.heap[k]? = some (.cells cs t fr)) (ht : ¬ WiT t) (h7 : t ≠ 88) : w'.heap[k]? = w.heap[k]? := (h.2 k _ hk (fun cs' t' fr' e => by cases e; exact ⟨fun h => ht (h.elim (fun x => Or.inl x.1) Or.inr), h7⟩) (fun es c e => by cases e)).trans hk.symm
theorem KeepE.map {lim : Nat} {w w' : World} (h : KeepE lim w w') {k : Nat} {es : Array MapEntry} {c : Nat} (hk : w.heap[k]? = some (.map es c)) (hl : lim ≤ k) : w'.heap[k]? = w.heap[k]? := (h.2 k _ hk (fun cs t fr e => by cases e) (fun _ _ _ => hl)).trans hk.symm
theorem EV.keepE {lim : Nat} {w w' : World} {v : Value} {cs ks ss : List Int} (h : EV w v cs ks ss) (k : KeepE lim w w') : EV w' v cs ks ss :=
 h.mono k.1 (fun _ _ t ht e => (k.cells e (tree_notW ht).1 (by rcases ht with rfl | rfl | rfl | rfl <;> decide)).trans e)
def ErrOf (w : World) (u : Value) (st : Nat) : Option (List (Nat × Nat)) → Prop
 | none => u = .nilIface
 | some l => EV w u (l.map (fun z => (z.2 : Int))) (l.map (fun z => (z.1 : Int))) [(st : Int)]
end Go.Proofs.YtelmcchleclklaaGreat
namespace Go.Proofs.YtelmcchleclklaaGreat
open Go.RowKit Go.Sort
set_option maxRecDepth 100000
set_option maxHeartbeats 1000000

def BlkT (w : World) (t : TypeId) (g n : Nat) (f : Nat → Value) : Prop := ∃ cs : Array Value, w.heap[g]? = some (.cells cs t (0, 0)) ∧ n ≤ cs.size ∧ ∀ j, j < n → cs[j]? = some (f j)
theorem BlkT.keep {w w' : World} {t : TypeId} {g n : Nat} {f : Nat → Value} (h : BlkT w t g n f) (e : w'.heap[g]? = w.heap[g]?) : BlkT w' t g n f := by
 obtain ⟨cs, hb, hc⟩ := h
 exact ⟨cs, e.trans hb, hc⟩
theorem BlkT.lt {w : World} {t : TypeId} {g n : Nat} {f : Nat → Value} (h : BlkT w t g n f) : g < w.heap.size := by
 obtain ⟨cs, hb, _⟩ := h
 exact heap_lt hb
theorem BlkT.cell {w : World} {t : TypeId} {g n j : Nat} {f : Nat → Value} (h : BlkT w t g n f) (hj : j < n) : w.cell? ⟨g, j, none⟩ = some (f j) := by
 obtain ⟨cs, hb, hs, hc⟩ := h
 exact (cell_of_block hb).trans (hc j hj)
theorem BlkT.free {w : World} {t : TypeId} {g n : Nat} {f : Nat → Value} (h : BlkT w t g n f) (k : Nat) : w.frozen? ⟨g, k, none⟩ = false := by
 obtain ⟨cs, hb, _⟩ := h
 exact free_of_block hb
theorem BlkT.congr {w : World} {t : TypeId} {g n : Nat} {f f' : Nat → Value} (h : BlkT w t g n f) (e : ∀ j, j < n → f j = f' j) : BlkT w t g n f' := by
 obtain ⟨cs, hb, hs, hc⟩ := h
 exact ⟨cs, hb, hs, fun j hj => by rw [← e j hj]; exact hc j hj⟩
theorem BlkT.put {w : World} {t : TypeId} {g n q : Nat} {x : Value} {f : Nat → Value} (h : BlkT w t g n f) (hq : q < n) : BlkT (w.setCell ⟨g, q, none⟩ x) t g n (fun j => if j = q then x else f j) := by
 obtain ⟨cs, hb, hs, hc⟩ := h
 refine ⟨cs.setIfInBounds q x, set_block hb q _, by simpa using hs, fun j hj => ?_⟩
 dsimp only
 rw [Array.getElem?_setIfInBounds]
 by_cases e : q = j
 ·subst e
  rw [if_pos rfl, if_pos (by omega), if_pos rfl]
 ·rw [if_neg e, if_neg (fun h => e h.symm), hc j hj]
end Go.Proofs.YtelmcchleclklaaGreat
namespace Go.Proofs.YtelmcchleclklaaGreat
open Go.RowKit Go.Sort
set_option maxRecDepth 100000
set_option maxHeartbeats 1000000

def nodeF (s i : Int) : Int := if 0 ≤ s ∧ s < 40 ∧ 0 ≤ i ∧ i < 6 then (s + i) % 8 else -1
def indexF (s n : Int) : Int := if 0 ≤ s ∧ s < 40 ∧ 0 ≤ n ∧ n < 8 ∧ (n - s) % 8 < 6 then (n - s) % 8 else -1
def logsF (s : Int) : List Int := if 0 ≤ s ∧ s < 40 then (List.range 8).map (fun j : Nat => (s + 5 + (j : Int)) % 8) else []
theorem nodeF_nat {s i : Nat} (h : s < 40) (hi : i < 6) : nodeF s i = (((s + i) % 8 : Nat) : Int) := by
 unfold nodeF
 rw [if_pos (by omega)]
 omega
theorem nodeF_no {s i : Int} (h : ¬ (0 ≤ s ∧ s < 40 ∧ 0 ≤ i ∧ i < 6)) : nodeF s i = -1 := if_neg h
theorem indexF_hit {s n : Int} {i : Nat} (h0 : 0 ≤ s) (h1 : s < 40) (hi : i < 6) (h : nodeF s i = n) : indexF s n = (i : Int) := by
 unfold nodeF at h
 rw [if_pos (by omega)] at h
 unfold indexF
 rw [if_pos (by omega)]
 omega
theorem indexF_none {s n : Int} (h : ∀ j : Nat, j < 6 → 0 ≤ s → s < 40 → nodeF s j ≠ n) : indexF s n = -1 := by
 unfold indexF
 split
 ·rename_i hh
  exfalso
  refine h ((n - s) % 8).toNat (by omega) hh.1 hh.2.1 ?_
  unfold nodeF
  rw [if_pos (by omega)]
  omega
 ·rfl
theorem logsF_len {s : Nat} (h : s < 40) : (logsF s).length = 8 := by
 unfold logsF
 rw [if_pos (by omega)]
 simp
theorem logsF_at {s j : Nat} (h : s < 40) (hj : j < 8) : (logsF s)[j]? = some (((s + 5 + j) % 8 : Nat) : Int) := by
 unfold logsF
 rw [if_pos (by omega)]
 simp [hj]
theorem lright (s : Int) (w : World) : Calls Tryz.prog 75 #[.int .i64 s] w fun e w' => e = .returned (.bool (decide (0 ≤ s ∧ s < 40))) ∧ w' = w := by
 by_cases h0 : 0 ≤ s
 ·by_cases h1 : s < 40
  ·rw [decide_eq_true (show 0 ≤ s ∧ s < 40 from ⟨h0, h1⟩)]
   go_enter Tryz.func75, Tryz.ntmps75
   go_wp2_with fail
   go_ret
   exact ⟨rfl, rfl⟩
  ·rw [decide_eq_false (show ¬ (0 ≤ s ∧ s < 40) by omega)]
   go_enter Tryz.func75, Tryz.ntmps75
   go_wp2_with fail
   go_ret
   exact ⟨rfl, rfl⟩
 ·rw [decide_eq_false (show ¬ (0 ≤ s ∧ s < 40) by omega)]
  go_enter Tryz.func75, Tryz.ntmps75
  go_wp2_with fail
  go_ret
  exact ⟨rfl, rfl⟩
theorem lright_yes {s : Int} (h0 : 0 ≤ s) (h1 : s < 40) (w : World) : Calls Tryz.prog 75 #[.int .i64 s] w fun e w' => e = .returned (.bool true) ∧ w' = w := by
 have := lright s w
 rwa [decide_eq_true (show 0 ≤ s ∧ s < 40 from ⟨h0, h1⟩)] at this
theorem lright_no {s : Int} (h : ¬ (0 ≤ s ∧ s < 40)) (w : World) : Calls Tryz.prog 75 #[.int .i64 s] w fun e w' => e = .returned (.bool false) ∧ w' = w := by
 have := lright s w
 rwa [decide_eq_false h] at this

theorem lnode (s i : Int) (w : World) : Calls Tryz.prog 109 #[.int .i64 s, .int .i64 i] w fun e w' => e = .returned (.int .i64 (nodeF s i)) ∧ w' = w := by
 by_cases hs : 0 ≤ s ∧ s < 40
 ·obtain ⟨h0, h1⟩ := hs
  have HR := Lib.hid (lright_yes h0 h1 w)
  by_cases i0 : 0 ≤ i
  ·by_cases i1 : i < 6
   ·obtain ⟨y, hy⟩ : ∃ y, nodeF s i = y := ⟨_, rfl⟩
    have hy2 : (s + i) % 8 = y := by
     rw [← hy]
     unfold nodeF
     rw [if_pos ⟨h0, h1, i0, i1⟩]
    rw [hy]
    have HY := Lib.hid hy2
    clear hy hy2
    go_enter Tryz.func109, Tryz.ntmps109
    go_wp2_with fail
    refine HR.out.mono ?_
    rintro e w' ⟨rfl, hw⟩
    obtain rfl := hw.symm
    go_wp2_with fail
    go_ret
    exact ⟨congrArg (fun z => Ending.returned (Value.int .i64 z)) HY.out, rfl⟩
   ·rw [nodeF_no (by omega)]
    go_enter Tryz.func109, Tryz.ntmps109
    go_wp2_with fail
    refine HR.out.mono ?_
    rintro e w' ⟨rfl, hw⟩
    obtain rfl := hw.symm
    go_wp2_with fail
    go_ret
    exact ⟨rfl, rfl⟩
  ·rw [nodeF_no (by omega)]
   go_enter Tryz.func109, Tryz.ntmps109
   go_wp2_with fail
   refine HR.out.mono ?_
   rintro e w' ⟨rfl, hw⟩
   obtain rfl := hw.symm
   go_wp2_with fail
   go_ret
   exact ⟨rfl, rfl⟩
 ·have HR := Lib.hid (lright_no hs w)
  rw [nodeF_no (by omega)]
  clear hs
  go_enter Tryz.func109, Tryz.ntmps109
  go_wp2_with fail
  refine HR.out.mono ?_
  rintro e w' ⟨rfl, hw⟩
  obtain rfl := hw.symm
  go_wp2_with fail
  go_ret
  exact ⟨rfl, rfl⟩

theorem makeI (n : Nat) (hn : n ≤ 1000000) : ∃ zs : Array Value, n ≤ zs.size ∧ (∀ j, j < n → zs[j]? = some (.int .i64 0)) ∧
  ∀ W : World, Sem.run Tryz.prog (Instr.makeSlice 29 (.int .i64 (n : Int)) (.int .i64 (n : Int))) W = .ok (.slice (some ⟨W.heap.size, 0, none⟩) n n) (W.alloc (.cells zs 3)) := by
 obtain ⟨i0, hi0, hz0, hz1, hz2⟩ := info_parts infoInt
 have hz : ∀ j, j < n → (madeCells (Value.int .i64 0).cells (n * i0.size))[j]? = some (.int .i64 0) := fun j hj => by
  rw [hz1]
  simp [madeCells, Value.cells, hj]
  rw [Nat.mod_one]; rfl
 refine ⟨madeCells (Value.int .i64 0).cells (n * i0.size), ?_, hz, fun W => ?_⟩
 ·rcases Nat.eq_zero_or_pos n with h0 | h0
  ·omega
  ·have := (Array.getElem?_eq_some_iff.1 (hz (n - 1) (by omega))).1
   omega
 ·have h := run_make W 29 3 i0 (.int .i64 0) Tryz.underlying29 hi0 hz0 .i64 .i64 (n : Int) (n : Int) (by omega) (by omega) (by rw [hz2]; omega) (by omega)
  simpa using h
def LogsRet (s : Int) (w : World) (e : Ending) (w' : World) : Prop := ∃ A c, e = .returned (.slice A (logsF s).length c) ∧ Nums w' A (logsF s) ∧ Below w.heap.size w w' ∧ (logsF s).length ≤ c ∧ ∀ g o, A = some ⟨g, o, none⟩ → w.heap.size ≤ g
theorem nums_blk {w : World} {g s : Nat} {f : Nat → Int} (hs : s < 40) (h : BlkT w 3 g 8 (fun j => .int .i64 (f j))) (hf : ∀ j, j < 8 → f j = (((s + 5 + j) % 8 : Nat) : Int)) : Nums w (some ⟨g, 0, none⟩) (logsF s) := fun i x hx => by
 have hi : i < 8 := by have := (List.getElem?_eq_some_iff.1 hx).1; rw [logsF_len hs] at this; exact this
 rw [logsF_at hs hi] at hx
 cases hx
 refine ⟨g, 0, rfl, h.lt, ?_⟩
 rw [Nat.zero_add, h.cell hi, hf i hi]
theorem llogs (s : Int) (w : World) : Calls Tryz.prog 105 #[.int .i64 s] w (LogsRet s w) := by
 by_cases hs : 0 ≤ s ∧ s < 40
 ·obtain ⟨p, rfl⟩ : ∃ p : Nat, s = (p : Int) := ⟨s.toNat, by omega⟩
  have hp : p < 40 := by omega
  have HR := Lib.hid (lright_yes hs.1 hs.2 w)
  obtain ⟨zs, z0, z1, z2⟩ := makeI 8 (by omega)
  have z3 : ∀ W : World, Sem.run Tryz.prog (Instr.makeSlice 29 (.int .i64 8) (.int .i64 8)) W = .ok (.slice (some ⟨W.heap.size, 0, none⟩) 8 8) (W.alloc (.cells zs 3)) := z2
  have HK : Hid (BlkT (w.alloc (.cells zs 3)) 3 w.heap.size 8 (fun _ => .int .i64 0)) := Lib.hid ⟨zs, alloc_block _ _, z0, z1⟩
  have HB0 : Hid (Below w.heap.size w (w.alloc (.cells zs 3))) := Lib.hid ((Below.refl _ _).alloc (Nat.le_refl _) _)
  clear z0 z1 z2 hs
  go_enter Tryz.func105, Tryz.ntmps105
  go_wp2_with fail
  refine HR.out.mono ?_
  rintro e w' ⟨rfl, hw⟩
  obtain rfl := hw.symm
  go_upto_region 5 with fail
  generalize w.alloc (.cells zs 3) = w1 at *
  obtain ⟨g, hg⟩ : ∃ g, w.heap.size = g := ⟨_, rfl⟩
  have HG := Lib.hid hg
  rw [hg] at HK ⊢
  clear hg z3
  go_loopg [11, 4] 8 (fun q s11 s4 v => ∃ i : Nat, s11 = .int .i64 (i : Int) ∧ i ≤ 8 ∧ q = 8 - i ∧ Hid (Below w.heap.size w v ∧ ∃ f : Nat → Int, BlkT v 3 g 8 (fun j => .int .i64 (f j)) ∧ ∀ j, j < i → f j = (((p + 5 + j) % 8 : Nat) : Int)))
  case atStart => exact ⟨0, rfl, by omega, rfl, Lib.hid ⟨HB0.out, fun _ => 0, HK.out, fun j hj => by omega⟩⟩
  case round =>
   obtain ⟨i, rfl, hi, rfl, HS⟩ := hrel
   clear HK HB0
   generalize wr = v at *
   by_cases hlt : i < 8
   ·have t1 : (i : Int) < 8 := by omega
    obtain ⟨hb, f, hf, he⟩ := HS.out
    have HF := Lib.hid hf
    have HE := Lib.hid he
    have HB := Lib.hid hb
    have c1 := hf.cell hlt
    have c2 := hf.free i
    clear HS hf he hb
    go_wp2_with fail
    go_roundg (8 - (i + 1))
    case measure => omega
    case rel => exact ⟨i + 1, by go_num, by omega, rfl, Lib.hid ⟨HB.out.setCell (p := ⟨g, i, none⟩) (by rw [HG.out]; exact Nat.le_refl _) _, fun j => if j = i then (((p + 5 + i) % 8 : Nat) : Int) else f j, ((HF.out.put (x := .int .i64 (((p + 5 + i) % 8 : Nat) : Int)) hlt).congr (fun j hj => by dsimp only; split <;> rfl)), fun j hj => by
     dsimp only
     split
     ·rename_i h; rw [h]
     ·exact HE.out j (by omega)⟩⟩
   ·obtain rfl : i = 8 := by omega
    have t1 : ¬ ((8 : Nat) : Int) < 8 := by omega
    have HL := Lib.hid (logsF_len hp)
    clear hlt
    go_wp2_with fail
    go_ret
    obtain ⟨hb, f, hf, he⟩ := HS.out
    exact ⟨some ⟨g, 0, none⟩, 8, by rw [HL.out]; rfl, nums_blk hp hf he, hb, by rw [HL.out]; exact Nat.le_refl _, fun g' o' e => by cases e; rw [HG.out]; exact Nat.le_refl _⟩
 ·have HR := Lib.hid (lright_no hs w)
  have HL : Hid (logsF s = []) := Lib.hid (by unfold logsF; rw [if_neg hs])
  clear hs
  go_enter Tryz.func105, Tryz.ntmps105
  go_wp2_with fail
  refine HR.out.mono ?_
  rintro e w' ⟨rfl, hw⟩
  obtain rfl := hw.symm
  go_wp2_with fail
  go_ret
  refine ⟨none, 0, by rw [HL.out]; rfl, by rw [HL.out]; exact fun i x hx => by simp at hx, Below.refl _ _, by rw [HL.out]; exact Nat.le_refl _, fun g' o' e => by cases e⟩
theorem litNums {w : World} {cs : Array Value} {xs : List Int} (h : cs.toList = intsV xs) : Nums (w.alloc (.cells cs 3)) (some ⟨w.heap.size, 0, none⟩) xs := fun i x hx => by
 refine ⟨w.heap.size, 0, rfl, by rw [alloc_size]; omega, ?_⟩
 rw [cell_of_block (alloc_block w _), Nat.zero_add, ← Array.getElem?_toList, h]
 simp [intsV, hx]
end Go.Proofs.YtelmcchleclklaaGreat
namespace Go.Proofs.YtelmcchleclklaaGreat.Kc

def dbl (x : Nat) : Nat := bif Nat.ble 256 (2 * x) then (2 * x) ^^^ 285 else 2 * x
def pw : Nat → Nat
 | 0 => 1
 | n + 1 => dbl (pw n)
def dbls : Nat → Nat → Nat
 | 0, x => x
 | n + 1, x => dbl (dbls n x)
def lgFrom (a : Nat) : Nat → Nat → Nat → Nat
 | 0, _, n => n
 | fuel + 1, x, n => bif Nat.beq x a then n else lgFrom a fuel (dbl x) (n + 1)
def lg (a : Nat) : Nat := lgFrom a 255 1 0

def all (n : Nat) (p : Nat → Bool) : Bool := Nat.rec true (fun k ih => p k && ih) n

theorem all_of {n : Nat} {p : Nat → Bool} (h : all n p = true) : ∀ k, k < n → p k = true := by
 induction n with
 | zero => intro k hk; omega
 | succ n ih =>
  have h' : (p n && all n p) = true := h
  rw [Bool.and_eq_true] at h'
  intro k hk
  rcases Nat.lt_or_eq_of_le (Nat.le_of_lt_succ hk) with hl | rfl
  ·exact ih h'.2 k hl
  ·exact h'.1

theorem check_dbl : all 256 (fun x => Nat.ble (dbl x) 255) = true := by kernel_rfl
theorem check_lg : all 256 (fun a => Nat.beq a 0 || (Nat.beq (pw (lg a)) a && Nat.ble (lg a) 254)) = true := by kernel_rfl
theorem check_pw : all 255 (fun n => Nat.beq (lg (pw n)) n) = true := by kernel_rfl
theorem pw_255 : pw 255 = 1 := by kernel_rfl

theorem dbl_lt {x : Nat} (h : x < 256) : dbl x < 256 := by
 have := all_of check_dbl x h
 have := Nat.le_of_ble_eq_true this
 omega
theorem pw_lt (n : Nat) : pw n < 256 := by
 induction n with
 | zero => decide
 | succ n ih => exact dbl_lt ih
theorem dbls_lt (n : Nat) {x : Nat} (h : x < 256) : dbls n x < 256 := by
 induction n with
 | zero => exact h
 | succ n ih => exact dbl_lt ih
theorem lg_ok {a : Nat} (h : a < 256) (h0 : a ≠ 0) : pw (lg a) = a ∧ lg a < 255 := by
 have := all_of check_lg a h
 rw [Bool.or_eq_true, Bool.and_eq_true] at this
 rcases this with h1 | ⟨h1, h2⟩
 ·exact absurd (Nat.eq_of_beq_eq_true h1) h0
 ·exact ⟨Nat.eq_of_beq_eq_true h1, by have := Nat.le_of_ble_eq_true h2; omega⟩
theorem lg_pw {n : Nat} (h : n < 255) : lg (pw n) = n := Nat.eq_of_beq_eq_true (all_of check_pw n h)
theorem pw_inj {n m : Nat} (hn : n < 255) (hm : m < 255) (e : pw n = pw m) : n = m := by rw [← lg_pw hn, ← lg_pw hm, e]
theorem pw_add (n m : Nat) : pw (n + m) = dbls n (pw m) := by
 induction n with
 | zero => rw [Nat.zero_add]; rfl
 | succ n ih => rw [Nat.succ_add]; show dbl (pw (n + m)) = dbl (dbls n (pw m)); rw [ih]
theorem pw_period (n : Nat) : pw (n + 255) = pw n := by rw [pw_add, pw_255]; exact (pw_add n 0).symm
theorem pw_mod (n : Nat) : pw (n % 255) = pw n := by
 have h : ∀ k, pw (n % 255 + 255 * k) = pw (n % 255) := by
  intro k
  induction k with
  | zero => rfl
  | succ k ih => rw [Nat.mul_succ, ← Nat.add_assoc, pw_period, ih]
 have := h (n / 255)
 rw [Nat.mod_add_div] at this
 exact this.symm
theorem dbls_zero (n : Nat) : dbls n 0 = 0 := by
 induction n with
 | zero => rfl
 | succ n ih => show dbl (dbls n 0) = 0; rw [ih]; rfl
theorem dbl_eq (x : Nat) : dbl x = if 256 ≤ 2 * x then (2 * x) ^^^ 285 else 2 * x := by
 unfold dbl
 by_cases h : 256 ≤ 2 * x
 ·rw [if_pos h, Nat.ble_eq_true_of_le h]; rfl
 ·rw [if_neg h]
  cases e : Nat.ble 256 (2 * x)
  ·rfl
  ·exact absurd (Nat.le_of_ble_eq_true e) h
theorem pw_pos (n : Nat) : pw n ≠ 0 := by
 rw [← pw_mod]
 have h : all 255 (fun n => !(Nat.beq (pw n) 0)) = true := by kernel_rfl
 have := all_of h (n % 255) (Nat.mod_lt _ (by decide))
 intro e
 rw [e] at this
 exact absurd this (by decide)

theorem two_xor (x y : Nat) : 2 * (x ^^^ y) = (2 * x) ^^^ (2 * y) := by
 have := Nat.shiftLeft_xor_distrib (a := x) (b := y) (i := 1)
 rw [Nat.shiftLeft_eq, Nat.shiftLeft_eq, Nat.shiftLeft_eq, Nat.mul_comm, Nat.mul_comm x, Nat.mul_comm y] at this
 exact this
theorem big_testBit {x : Nat} (h : x < 512) : (256 ≤ x) ↔ x.testBit 8 = true := by
 rw [Nat.testBit_eq_decide_div_mod_eq]
 simp
 omega
theorem dbl_xor {x y : Nat} (hx : x < 256) (hy : y < 256) : dbl (x ^^^ y) = dbl x ^^^ dbl y := by
 have hxy : x ^^^ y < 256 := Nat.xor_lt_two_pow (n := 8) hx hy
 rw [dbl_eq, dbl_eq, dbl_eq, two_xor]
 have e : (256 ≤ (2 * x) ^^^ (2 * y)) ↔ ((2 * x).testBit 8 ^^ (2 * y).testBit 8) = true := by
  rw [big_testBit (by rw [← two_xor]; omega), Nat.testBit_xor]
 have e1 := big_testBit (x := 2 * x) (by omega)
 have e2 := big_testBit (x := 2 * y) (by omega)
 by_cases h1 : 256 ≤ 2 * x <;> by_cases h2 : 256 ≤ 2 * y
 ·rw [if_neg (by rw [e, e1.1 h1, e2.1 h2]; decide), if_pos h1, if_pos h2]
  apply Nat.eq_of_testBit_eq
  intro i
  simp only [Nat.testBit_xor]
  cases (2 * x).testBit i <;> cases (2 * y).testBit i <;> cases Nat.testBit 285 i <;> rfl
 ·have n2 : (2 * y).testBit 8 = false := by cases h : (2 * y).testBit 8; rfl; exact absurd (e2.2 h) h2
  rw [if_pos (by rw [e, e1.1 h1, n2]; decide), if_pos h1, if_neg h2]
  apply Nat.eq_of_testBit_eq
  intro i
  simp only [Nat.testBit_xor]
  cases (2 * x).testBit i <;> cases (2 * y).testBit i <;> cases Nat.testBit 285 i <;> rfl
 ·have n1 : (2 * x).testBit 8 = false := by cases h : (2 * x).testBit 8; rfl; exact absurd (e1.2 h) h1
  rw [if_pos (by rw [e, n1, e2.1 h2]; decide), if_neg h1, if_pos h2]
  apply Nat.eq_of_testBit_eq
  intro i
  simp only [Nat.testBit_xor]
  cases (2 * x).testBit i <;> cases (2 * y).testBit i <;> cases Nat.testBit 285 i <;> rfl
 ·have n1 : (2 * x).testBit 8 = false := by cases h : (2 * x).testBit 8; rfl; exact absurd (e1.2 h) h1
  have n2 : (2 * y).testBit 8 = false := by cases h : (2 * y).testBit 8; rfl; exact absurd (e2.2 h) h2
  rw [if_neg (by rw [e, n1, n2]; decide), if_neg h1, if_neg h2]
theorem xor_lt {x y : Nat} (hx : x < 256) (hy : y < 256) : x ^^^ y < 256 := Nat.xor_lt_two_pow (n := 8) hx hy
theorem dbls_xor (n : Nat) {x y : Nat} (hx : x < 256) (hy : y < 256) : dbls n (x ^^^ y) = dbls n x ^^^ dbls n y := by
 induction n with
 | zero => rfl
 | succ n ih => show dbl _ = dbl _ ^^^ dbl _; rw [ih, dbl_xor (dbls_lt n hx) (dbls_lt n hy)]

def mul (a b : Nat) : Nat := if a = 0 ∨ b = 0 then 0 else pw ((lg a + lg b) % 255)
def inv (a : Nat) : Nat := pw ((255 - lg a) % 255)

theorem mul_lt (a b : Nat) : mul a b < 256 := by
 unfold mul
 split
 ·decide
 ·exact pw_lt _
theorem mul_comm (a b : Nat) : mul a b = mul b a := by unfold mul; simp only [Or.comm (a := a = 0), Nat.add_comm (lg a)]
theorem zero_mul (a : Nat) : mul 0 a = 0 := by unfold mul; rw [if_pos (Or.inl rfl)]
theorem mul_zero (a : Nat) : mul a 0 = 0 := by unfold mul; rw [if_pos (Or.inr rfl)]
theorem mul_dbls {a b : Nat} (_ha : a < 256) (hb : b < 256) (h0 : a ≠ 0) : mul a b = dbls (lg a) b := by
 by_cases hb0 : b = 0
 ·subst hb0; rw [mul_zero, dbls_zero]
 ·unfold mul
  rw [if_neg (by simp [h0, hb0]), pw_mod, pw_add, (lg_ok hb hb0).1]
theorem mul_pw (n m : Nat) : mul (pw n) (pw m) = pw (n + m) := by
 rw [← pw_mod n, ← pw_mod m]
 unfold mul
 rw [if_neg (by simp [pw_pos]), lg_pw (Nat.mod_lt _ (by decide)), lg_pw (Nat.mod_lt _ (by decide)), ← Nat.add_mod, pw_mod]
theorem as_pw {a : Nat} (h : a < 256) (h0 : a ≠ 0) : ∃ n, n < 255 ∧ a = pw n := ⟨lg a, (lg_ok h h0).2, (lg_ok h h0).1.symm⟩
theorem mul_assoc {a b c : Nat} (ha : a < 256) (hb : b < 256) (hc : c < 256) : mul a (mul b c) = mul (mul a b) c := by
 by_cases a0 : a = 0
 ·subst a0; rw [zero_mul, zero_mul, zero_mul]
 by_cases b0 : b = 0
 ·subst b0; rw [zero_mul, mul_zero, zero_mul]
 by_cases c0 : c = 0
 ·subst c0; rw [mul_zero, mul_zero, mul_zero]
 obtain ⟨i, -, rfl⟩ := as_pw ha a0
 obtain ⟨j, -, rfl⟩ := as_pw hb b0
 obtain ⟨k, -, rfl⟩ := as_pw hc c0
 rw [mul_pw, mul_pw, mul_pw, mul_pw, Nat.add_assoc]
theorem mul_xor {a b c : Nat} (ha : a < 256) (hb : b < 256) (hc : c < 256) : mul a (b ^^^ c) = mul a b ^^^ mul a c := by
 by_cases a0 : a = 0
 ·subst a0; rw [zero_mul, zero_mul, zero_mul]; rfl
 rw [mul_dbls ha (xor_lt hb hc) a0, mul_dbls ha hb a0, mul_dbls ha hc a0, dbls_xor _ hb hc]
theorem mul_one {a : Nat} (ha : a < 256) : mul a 1 = a := by
 by_cases a0 : a = 0
 ·subst a0; rw [zero_mul]
 obtain ⟨i, -, rfl⟩ := as_pw ha a0
 exact mul_pw i 0
theorem mul_eq_zero {a b : Nat} : mul a b = 0 ↔ a = 0 ∨ b = 0 := by
 unfold mul
 split
 ·simp [*]
 ·simp only [pw_pos, false_iff]; assumption
theorem inv_lt (a : Nat) : inv a < 256 := pw_lt _
theorem inv_pos (a : Nat) : inv a ≠ 0 := pw_pos _
theorem inv_pw {n : Nat} (h : n < 255) : inv (pw n) = pw (255 - n) := by unfold inv; rw [lg_pw h, pw_mod]
theorem mul_inv {a : Nat} (ha : a < 256) (h0 : a ≠ 0) : mul a (inv a) = 1 := by
 obtain ⟨i, hi, rfl⟩ := as_pw ha h0
 rw [inv_pw hi, mul_pw, show i + (255 - i) = 0 + 255 by omega, pw_period]; rfl
theorem pw_zero : pw 0 = 1 := rfl
theorem pw_succ (n : Nat) : pw (n + 1) = dbl (pw n) := rfl
theorem mul_def (a b : Nat) : mul a b = if a = 0 ∨ b = 0 then 0 else pw ((lg a + lg b) % 255) := rfl
theorem inv_def (a : Nat) : inv a = pw ((255 - lg a) % 255) := rfl
attribute [irreducible] pw lg lgFrom inv mul dbls dbl
end Go.Proofs.YtelmcchleclklaaGreat.Kc
