import Derived.Test.YtohmoakahfpjpaaDO
import Derived.Test.YtohmoakahfpjpaaE6
namespace Go.Proofs.Ytohmoakahfpjpaa
open Go.RowKit Go.Sort
set_option maxRecDepth 100000
set_option maxHeartbeats 2000000

/-! The project's disk and the reference's, side by side. -/
structure BMem (w0 v : World) (p : Nat) (S : List Nat) (r : Nat) (R : List Nat) (N : Nat) (d1 : Disk) (n1 : Nat) (d2 : Disk) (n2 : Nat) : Prop where
  plt : Plt v p S N d1 n1
  rplt : RPlt v r R N d2 n2
  hS : ∀ k ∈ S, w0.heap.size ≤ k
  hR : ∀ k ∈ R, w0.heap.size ≤ k
  below : Below w0.heap.size w0 v
theorem BMem.more {w0 v v' : World} {p r : Nat} {S R : List Nat} {N : Nat} {d1 d2 : Disk} {n1 n2 : Nat} (h : BMem w0 v p S r R N d1 n1 d2 n2) (b : Below v.heap.size v v') : BMem w0 v' p S r R N d1 n1 d2 n2 :=
  ⟨h.plt.below b, h.rplt.below b, h.hS, h.hR, h.below.trans (b.mono h.below.size)⟩
theorem BMem.step1 {w0 v v' : World} {p r : Nat} {S S' R : List Nat} {N : Nat} {d1 d1' d2 : Disk} {n1 n1' n2 : Nat} (h : BMem w0 v p S r R N d1 n1 d2 n2) (hp : Plt v' p S' N d1' n1') (t : Step S S' v v') : BMem w0 v' p S' r R N d1' n1' d2 n2 := by
  have hB := Below.step h.below t h.hS h.below.size
  refine ⟨hp, h.rplt.keep (fun k hk => ?_), hB.2, h.hR, hB.1⟩
  obtain ⟨cs, ty, hc, ht⟩ := h.rplt.type hk
  exact t.turn.block k (heap_lt hc) (h.plt.notMem hc (by rcases ht with rfl | rfl | rfl <;> decide) (by rcases ht with rfl | rfl | rfl <;> decide) (by rcases ht with rfl | rfl | rfl <;> decide))
theorem BMem.step2 {w0 v v' : World} {p r : Nat} {S R R' : List Nat} {N : Nat} {d1 d2 d2' : Disk} {n1 n2 n2' : Nat} (h : BMem w0 v p S r R N d1 n1 d2 n2) (hp : RPlt v' r R' N d2' n2') (t : Step R R' v v') : BMem w0 v' p S r R' N d1 n1 d2' n2' := by
  have hB := Below.step h.below t h.hR h.below.size
  refine ⟨h.plt.same ⟨fun g cs hg => ?_, fun k hk => ?_⟩, hp, h.hS, hB.2, hB.1⟩
  · exact t.turn.block g (heap_lt hg) (h.rplt.notMem hg (by decide) (by decide) (by decide))
  · obtain ⟨cs, ty, hc, ht⟩ := h.plt.type hk
    exact t.turn.block k (heap_lt hc) (h.rplt.notMem hc (by rcases ht with rfl | rfl | rfl <;> decide) (by rcases ht with rfl | rfl | rfl <;> decide) (by rcases ht with rfl | rfl | rfl <;> decide))
/-- A block that is neither's stays. -/
theorem BMem.blk1 {w0 v v' : World} {p r : Nat} {S S' R : List Nat} {N : Nat} {d1 d2 : Disk} {n1 n2 : Nat} (h : BMem w0 v p S r R N d1 n1 d2 n2) (t : Step S S' v v') {k : Nat} {cs : Array Value} {ty : TypeId} (hk : v.heap[k]? = some (.cells cs ty (0, 0))) (h1 : ty ≠ 59) (h2 : ty ≠ 26) (h3 : ty ≠ 63) : v'.heap[k]? = some (.cells cs ty (0, 0)) :=
  (t.turn.block k (heap_lt hk) (h.plt.notMem hk h1 h2 h3)).trans hk
theorem BMem.blk2 {w0 v v' : World} {p r : Nat} {S R R' : List Nat} {N : Nat} {d1 d2 : Disk} {n1 n2 : Nat} (h : BMem w0 v p S r R N d1 n1 d2 n2) (t : Step R R' v v') {k : Nat} {cs : Array Value} {ty : TypeId} (hk : v.heap[k]? = some (.cells cs ty (0, 0))) (h1 : ty ≠ 44) (h2 : ty ≠ 9) (h3 : ty ≠ 46) : v'.heap[k]? = some (.cells cs ty (0, 0)) :=
  (t.turn.block k (heap_lt hk) (h.rplt.notMem hk h1 h2 h3)).trans hk

/-- A list of numbers of the call's own grows. -/
theorem BMem.grownInt {w0 v Wa w' : World} {p r : Nat} {S R : List Nat} {N : Nat} {d1 d2 : Disk} {n1 n2 B n : Nat} {vv : Value} {xs : List Value} (h : BMem w0 v p S r R N d1 n1 d2 n2) (b : Below v.heap.size v Wa) (own : v.ownsRow B 3 1 vv n xs) (hB : w0.heap.size ≤ B) (gr : Wa.grownBy w' vv.ownBlock) :
    BMem w0 w' p S r R N d1 n1 d2 n2 ∧ ∀ (k : Nat) (cs : Array Value) (t : TypeId), v.heap[k]? = some (.cells cs t (0, 0)) → t ≠ 3 → w'.heap[k]? = some (.cells cs t (0, 0)) := by
  have hcur : ∀ k, vv.ownBlock = some k → ∃ cs, v.heap[k]? = some (Obj.cells cs 3 (0, 0)) := by
    intro k hk
    rcases own.2 with ⟨rfl, _⟩ | ⟨g, cap', cur, rfl, hb, hh, _⟩
    · cases hk
    · cases hk; exact ⟨cur, hh⟩
  have hne : ∀ (k : Nat) (cs : Array Value) (t : TypeId), v.heap[k]? = some (.cells cs t (0, 0)) → t ≠ 3 → w'.heap[k]? = v.heap[k]? := by
    intro k cs t hk ht
    refine (gr.block k (Nat.lt_of_lt_of_le (heap_lt hk) b.size) ?_).trans (b.block k (heap_lt hk))
    intro e
    obtain ⟨cs', hc⟩ := hcur k e.symm
    rw [hk] at hc
    cases hc
    exact ht rfl
  refine ⟨⟨h.plt.same ⟨fun g cs hg => hne g cs _ hg (by decide), fun k hk => ?_⟩, h.rplt.keep (fun k hk => ?_), h.hS, h.hR, Below.grown (h.below.trans (b.mono h.below.size)) gr (Nat.le_trans h.below.size b.size) (fun k hk => Nat.le_trans hB (own_ge own k hk))⟩, fun k cs t hk ht => (hne k cs t hk ht).trans hk⟩
  · obtain ⟨cs, t, hc, ht⟩ := h.plt.type hk
    exact hne k cs t hc (by rcases ht with rfl | rfl | rfl <;> decide)
  · obtain ⟨cs, t, hc, ht⟩ := h.rplt.type hk
    exact hne k cs t hc (by rcases ht with rfl | rfl | rfl <;> decide)
/-- An act, as it came in. -/
structure AI where
  what : Int
  k : Int
  n : Int
  ka : Option Addr
  ks : List Int
  kc : Nat
def ActsIn (w : World) (a : Option Addr) (L : List AI) : Prop := ∀ (i : Nat) (x : AI), L[i]? = some x → ∃ g o, a = some ⟨g, o, none⟩ ∧ g < w.heap.size ∧
  w.cell? ⟨g, o + i * 4, none⟩ = some (.int .i64 x.what) ∧ w.cell? ⟨g, o + i * 4 + 1, none⟩ = some (.int .i64 x.k) ∧ w.cell? ⟨g, o + i * 4 + 2, none⟩ = some (.int .i64 x.n) ∧ w.cell? ⟨g, o + i * 4 + 3, none⟩ = some (.slice x.ka x.ks.length x.kc) ∧
  Nums w x.ka x.ks ∧ x.ks.length ≤ 9223372036854775807 ∧ (-9223372036854775808 ≤ x.n ∧ x.n ≤ 9223372036854775807)
/-- While the list of what is kept is laid. -/
structure KMem (w0 v : World) (p : Nat) (S : List Nat) (r : Nat) (R : List Nat) (N : Nat) (d : Disk) (n la j : Nat) (loc : Array Value) (s9 : Value) (ys : List Int) : Prop where
  bm : BMem w0 v p S r R N d n d n
  own : v.ownsRow w0.heap.size 3 1 s9 j (intsV ys)
  loc : v.heap[la]? = some (.cells loc 40 (0, 0))
  len : ys.length = j
theorem KMem.ap {w0 v w' : World} {p r : Nat} {S R : List Nat} {N : Nat} {d : Disk} {n la j g cap : Nat} {loc : Array Value} {s9 : Value} {ys : List Int} {x : Int} (h : KMem w0 v p S r R N d n la j loc s9 ys) (own : w'.ownsRow w0.heap.size 3 1 (.slice (some ⟨g, 0, none⟩) (j + 1) cap) (j + 1) (intsV (ys ++ [x]))) (gr : (v.alloc (.cells #[.int .i64 x] 3)).grownBy w' s9.ownBlock) :
    KMem w0 w' p S r R N d n la (j + 1) loc (.slice (some ⟨g, 0, none⟩) (j + 1) cap) (ys ++ [x]) := by
  have a := h.bm.grownInt ((Below.refl _ _).alloc (Nat.le_refl _) _) h.own (Nat.le_refl _) gr
  exact ⟨a.1, own, a.2 la _ _ h.loc (by decide), by simp [h.len]⟩
/-- While what pends is gathered. -/
structure PMem (w0 v : World) (p : Nat) (S : List Nat) (r : Nat) (R : List Nat) (N : Nat) (d : Disk) (n j : Nat) (s12 : Value) : Prop where
  bm : BMem w0 v p S r R N d n d n
  own : v.ownsRow w0.heap.size 3 1 s12 j (intsV (ksOf (d.pend.take j)))
theorem PMem.ap {w0 v w' : World} {p r : Nat} {S R : List Nat} {N : Nat} {d : Disk} {n j g cap k : Nat} {s12 : Value} {F : Blk} (h : PMem w0 v p S r R N d n j s12) (hx : d.pend[j]? = some (k, F)) (own : w'.ownsRow w0.heap.size 3 1 (.slice (some ⟨g, 0, none⟩) (j + 1) cap) (j + 1) (intsV (ksOf (d.pend.take j) ++ [(k : Int)]))) (gr : (v.alloc (.cells #[.int .i64 (k : Int)] 3)).grownBy w' s12.ownBlock) :
    PMem w0 w' p S r R N d n (j + 1) (.slice (some ⟨g, 0, none⟩) (j + 1) cap) := by
  have a := h.bm.grownInt ((Below.refl _ _).alloc (Nat.le_refl _) _) h.own (Nat.le_refl _) gr
  exact ⟨a.1, by rw [List.take_add_one, hx]; simpa [ksOf] using own⟩
end Go.Proofs.Ytohmoakahfpjpaa
