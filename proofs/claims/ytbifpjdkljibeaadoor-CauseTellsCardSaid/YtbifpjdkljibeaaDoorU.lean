import Derived.Test.YtbifpjdkljibeaaDoorT
import Derived.OwnWalk
import Derived.ArgAppend
namespace Go.Proofs.YtbifpjdkljibeaaDoor
open Go.RowKit Go.Extern.Stop Go.Stop Go.Extern Go.Extern.Rtype

theorem grownBy_weaker {w w' : World} (h : w.grownBy w' none) (r : Option Nat) : w.grownBy w' r := ⟨h.os, h.tape, h.output, h.size, fun k hk _ => h.block k hk (by simp)⟩

/-- 'append' to a row of the call's own: in place, or into a new block. -/
theorem append_mine {P : Program} (w : World) {ops : Array Oper} {rest : List Oper} {o : Oper} {a : Act} {Q : Exit → Act → World → Prop}
    (hg : o.guard = none) (s x : Operand) (t : TypeId) (hop : o.op = Op.call { callee := Callee.builtin Builtin.append, args := #[s, x], argTypes := #[t, t] })
    (base : Nat) (e : TypeId) (i : TypeInfo) (z : Value) (size bytes : Nat) (h1 : P.underlying t = some (.slice e)) (h2 : P.info? e = some i) (h3 : i.zero = some z) (h4 : i.size = size) (h5 : i.bytes = bytes) (h6 : z.cells.size = size) (h7 : 0 < size)
    (v : Value) (n : Nat) (xs : List Value) (hs : a.eval s = v) (hown : w.ownsRow base e size v n xs)
    (ad : Addr) (m c : Nat) (news : List Value) (hx : a.eval x = .slice (some ad) m c) (hn : news.length = m * size) (hc : ∀ j u, news[j]? = some u → w.cell? (ad.add j) = some u) (h1c : ∀ u ∈ news, u.oneCell' = true)
    (b1 : n + m ≤ maxLen) (b2 : (n + m) * bytes ≤ 140737488355328) (hbase : base ≤ w.heap.size) (hm : 0 < m)
    (hK : ∀ v' w', w'.ownsRow base e size v' (n + m) (xs ++ news) → w.grownBy w' v.ownBlock → (v'.ownBlock = v.ownBlock ∨ w'.ownsRow w.heap.size e size v' (n + m) (xs ++ news)) → wpList P ops Q rest (a.put o.dst v') w') :
    wpList P ops Q (o :: rest) a w := by
  have hown' := hown
  obtain ⟨hlen, ⟨rfl, rfl⟩ | ⟨g, cap, cur, rfl, hb, hh, hle, hmax, hsz, htake⟩⟩ := hown
  · refine wpList_append_grows w hg s x t hop e i z size bytes h1 h2 h3 h4 h5 h6 h7 none 0 0 xs hs (fun _ => ⟨rfl, rfl⟩) hlen (fun b hb => by cases hb) ad m c news hx hn hc h1c (by omega) b1 b2 ?_
    intro v' w' r1 r2
    refine hK v' w' ?_ r2 (.inr r1)
    obtain ⟨q1, q2⟩ := r1
    refine ⟨q1, ?_⟩
    rcases q2 with q2 | ⟨g, cap, cur, e1, e2, e3⟩
    · exact .inl q2
    · exact .inr ⟨g, cap, cur, e1, by omega, e3⟩
  · by_cases hfit : n + m ≤ cap
    · refine wpList_append_fits w hg s x t hop base e i size h1 h2 h4 g n cap xs hs hown' ad m c news hx hn hc h1c hfit ?_
      intro w' r1 r2
      exact hK _ w' r1 r2 (.inl rfl)
    · refine wpList_append_grows w hg s x t hop e i z size bytes h1 h2 h3 h4 h5 h6 h7 (some ⟨g, 0, none⟩) n cap xs hs (fun h => by cases h) hlen (fun b hb j u hj => by cases hb; exact hown'.cells rfl j u hj) ad m c news hx hn hc h1c (by omega) b1 b2 ?_
      intro v' w' r1 r2
      refine hK v' w' ?_ (grownBy_weaker r2 _) (.inr r1)
      obtain ⟨q1, q2⟩ := r1
      refine ⟨q1, ?_⟩
      rcases q2 with q2 | ⟨g', cap', cur', e1, e2, e3⟩
      · exact .inl q2
      · exact .inr ⟨g', cap', cur', e1, by have := heap_lt hh; omega, e3⟩

/-- As Err, the blocks being such as A lets. -/
def ErrA (w : World) (A : Nat → Prop) : Nat → Value → List Int → List Nd → List Int → Prop
  | 0, _, _, _, _ => False
  | d + 1, v, cs, ns, ss =>
    (∃ n, v = .iface 26 (.int .i64 n) ∧ cs = [n] ∧ ns = [(v, none)] ∧ ss = []) ∨
    (∃ b s, v = .iface 64 (.pointer (some ⟨b, 0, none⟩)) ∧ A b ∧ w.heap[b]? = some (.cells #[.string s] 66 (0, 0)) ∧ cs = [] ∧ ns = [(v, none)] ∧ ss = []) ∨
    (∃ b n x ns', v = .iface 32 (.pointer (some ⟨b, 0, none⟩)) ∧ A b ∧ w.heap[b]? = some (.cells #[.int .i64 n, x] 42 (0, 0)) ∧ ErrA w A d x cs ns' ss ∧ ns = (v, some n) :: ns') ∨
    (∃ b n x ns' ss', v = .iface 55 (.pointer (some ⟨b, 0, none⟩)) ∧ A b ∧ w.heap[b]? = some (.cells #[.int .i64 n, x] 58 (0, 0)) ∧ ErrA w A d x cs ns' ss' ∧ ss = n :: ss' ∧ ns = (v, none) :: ns') ∨
    (∃ b g m cap row, ∃ vs : List (Value × List Int × List Nd × List Int), v = .iface 33 (.pointer (some ⟨b, 0, none⟩)) ∧ A b ∧ A g ∧ w.heap[b]? = some (.cells #[.slice (some ⟨g, 0, none⟩) m cap] 35 (0, 0)) ∧
      w.heap[g]? = some (.cells row 24 (0, 0)) ∧ m ≤ cap ∧ m ≤ 1000 ∧ 0 < m ∧ vs.length = m ∧ (∀ (i : Nat) (x : Value × List Int × List Nd × List Int), vs[i]? = some x → row[i]? = some x.1 ∧ ErrA w A d x.1 x.2.1 x.2.2.1 x.2.2.2) ∧
      cs = (vs.map (·.2.1)).flatten ∧ ns = (v, none) :: (vs.map (·.2.2.1)).flatten ∧ ss = (vs.map (·.2.2.2)).flatten)

/-- Where the blocks that A lets, and that hold no numbers, stay. -/
theorem ErrA.keep {w w' : World} {A A' : Nat → Prop} (hA : ∀ k, A k → k < w.heap.size → A' k) (h : ∀ (k : Nat) (c : Array Value) (t : TypeId), A k → w.heap[k]? = some (.cells c t (0, 0)) → t ≠ 3 → w'.heap[k]? = some (.cells c t (0, 0))) :
    ∀ (d : Nat) {v : Value} {cs : List Int} {ns : List Nd} {ss : List Int}, ErrA w A d v cs ns ss → ErrA w' A' d v cs ns ss
  | 0, _, _, _, _, e => e.elim
  | d + 1, _, _, _, _, e => by
    rcases e with e | ⟨b, s, e1, e2, e3, e4⟩ | ⟨b, n, x, ns', e1, e2, e3, e4, e5⟩ | ⟨b, n, x, ns', ss', e1, e2, e3, e4, e5⟩ | ⟨b, g, m, cap, row, vs, e1, e2, e3, e4, e5, e6, e7, e7', e8, e9, e10⟩
    · exact .inl e
    · exact .inr (.inl ⟨b, s, e1, hA b e2 (heap_lt e3), h _ _ _ e2 e3 (by decide), e4⟩)
    · exact .inr (.inr (.inl ⟨b, n, x, ns', e1, hA b e2 (heap_lt e3), h _ _ _ e2 e3 (by decide), ErrA.keep hA h d e4, e5⟩))
    · exact .inr (.inr (.inr (.inl ⟨b, n, x, ns', ss', e1, hA b e2 (heap_lt e3), h _ _ _ e2 e3 (by decide), ErrA.keep hA h d e4, e5⟩)))
    · exact .inr (.inr (.inr (.inr ⟨b, g, m, cap, row, vs, e1, hA b e2 (heap_lt e4), hA g e3 (heap_lt e5), h _ _ _ e2 e4 (by decide), h _ _ _ e3 e5 (by decide), e6, e7, e7', e8, fun i x hx => ⟨(e9 i x hx).1, ErrA.keep hA h d (e9 i x hx).2⟩, e10⟩)))

theorem ErrA.err {w : World} {A : Nat → Prop} : ∀ (d : Nat) {v : Value} {cs : List Int} {ns : List Nd} {ss : List Int}, ErrA w A d v cs ns ss → Err w w.heap.size d v cs ns ss
  | 0, _, _, _, _, e => e.elim
  | d + 1, _, _, _, _, e => by
    rcases e with e | ⟨b, s, e1, e2, e3, e4⟩ | ⟨b, n, x, ns', e1, e2, e3, e4, e5⟩ | ⟨b, n, x, ns', ss', e1, e2, e3, e4, e5⟩ | ⟨b, g, m, cap, row, vs, e1, e2, e3, e4, e5, e6, e7, e7', e8, e9, e10⟩
    · exact .inl e
    · exact .inr (.inl ⟨b, s, e1, heap_lt e3, e3, e4⟩)
    · exact .inr (.inr (.inl ⟨b, n, x, ns', e1, heap_lt e3, e3, ErrA.err d e4, e5⟩))
    · exact .inr (.inr (.inr (.inl ⟨b, n, x, ns', ss', e1, heap_lt e3, e3, ErrA.err d e4, e5⟩)))
    · exact .inr (.inr (.inr (.inr ⟨b, g, m, cap, row, vs, e1, heap_lt e4, heap_lt e5, e4, e5, e6, e7, e7', e8, fun i x hx => ⟨(e9 i x hx).1, ErrA.err d (e9 i x hx).2⟩, e10⟩)))

theorem ErrA.deeper {w : World} {A : Nat → Prop} : ∀ (d : Nat) {v : Value} {cs : List Int} {ns : List Nd} {ss : List Int}, ErrA w A d v cs ns ss → ErrA w A (d + 1) v cs ns ss
  | 0, _, _, _, _, e => e.elim
  | d + 1, _, _, _, _, e => by
    rcases e with e | ⟨b, s, e1, e2, e3, e4⟩ | ⟨b, n, x, ns', e1, e2, e3, e4, e5⟩ | ⟨b, n, x, ns', ss', e1, e2, e3, e4, e5⟩ | ⟨b, g, m, cap, row, vs, e1, e2, e3, e4, e5, e6, e7, e7', e8, e9, e10⟩
    · exact .inl e
    · exact .inr (.inl ⟨b, s, e1, e2, e3, e4⟩)
    · exact .inr (.inr (.inl ⟨b, n, x, ns', e1, e2, e3, ErrA.deeper d e4, e5⟩))
    · exact .inr (.inr (.inr (.inl ⟨b, n, x, ns', ss', e1, e2, e3, ErrA.deeper d e4, e5⟩)))
    · exact .inr (.inr (.inr (.inr ⟨b, g, m, cap, row, vs, e1, e2, e3, e4, e5, e6, e7, e7', e8, fun i x hx => ⟨(e9 i x hx).1, ErrA.deeper d (e9 i x hx).2⟩, e10⟩)))

theorem ErrA.deep {w : World} {A : Nat → Prop} {d d' : Nat} (h : d ≤ d') {v : Value} {cs : List Int} {ns : List Nd} {ss : List Int} (e : ErrA w A d v cs ns ss) : ErrA w A d' v cs ns ss := by
  obtain ⟨k, rfl⟩ := Nat.exists_eq_add_of_le h
  induction k with
  | zero => exact e
  | succ k ih => exact ErrA.deeper _ (ih (by omega))

theorem ErrA.iface {w : World} {A : Nat → Prop} {d : Nat} {v : Value} {cs : List Int} {ns : List Nd} {ss : List Int} (e : ErrA w A d v cs ns ss) : ∃ t x, v = .iface t x := e.err.iface

/-- What is joined, as a tree. -/
theorem JPost.treeA {A A' : Nat → Prop} {ys : List Value} {w w' : World} {e : Ending} (h : JPost ys w e w') (zs : List (Value × List Int × List Nd × List Int)) (hys : ys = zs.map (·.1)) (hm : zs.length ≤ 1000) (d : Nat)
    (hz : ∀ (i : Nat) (z : Value × List Int × List Nd × List Int), zs[i]? = some z → ErrA w A d z.1 z.2.1 z.2.2.1 z.2.2.2) (hne : zs ≠ []) (hA : ∀ k, A k → k < w.heap.size → A' k) (hnew : ∀ k, w.heap.size ≤ k → k < w'.heap.size → A' k) :
    ∃ v ns, e = .returned v ∧ ErrA w' A' (d + 1) v (zs.map (·.2.1)).flatten ns (zs.map (·.2.2.2)).flatten ∧ nodesOf ns = (zs.map fun z => nodesOf z.2.2.1).flatten ∧ ∀ x ∈ (zs.map (·.2.2.1)).flatten, x ∈ ns := by
  obtain ⟨hb, ⟨h0, _⟩ | ⟨y, h1, he⟩ | ⟨h2, b, g, cap, row, he, hb1, hg1, hh, hr, hc, ht⟩⟩ := h
  · rw [hys] at h0; exact absurd (List.map_eq_nil_iff.1 h0) hne
  · rw [hys] at h1
    match zs, h1, hz with
    | [z], h1, hz =>
      simp at h1
      refine ⟨y, z.2.2.1, he, ?_, by simp, by simp⟩
      have := (hz 0 z rfl).keep hA (fun k c t _ hk _ => Rest_any hb hk)
      rw [h1] at this
      simpa using this.deeper
  · refine ⟨_, _, he, .inr (.inr (.inr (.inr ⟨b, g, ys.length, cap, row, zs, rfl, hnew b hb1 (heap_lt hh), hnew g hg1 (heap_lt hr), hh, hr, hc, ?_, by omega, ?_, fun i x hx => ⟨?_, (hz i x hx).keep hA (fun k c t _ hk _ => Rest_any hb hk)⟩, rfl, rfl, rfl⟩))), ?_, fun x hx => List.mem_cons_of_mem _ hx⟩
    · rw [hys, List.length_map]; exact hm
    · rw [hys, List.length_map]
    · have h3 : ys[i]? = some x.1 := by rw [hys, List.getElem?_map, hx]; rfl
      rw [← ht, List.getElem?_take] at h3
      split at h3
      · simpa using h3
      · cases h3
    · have : nodesOf ((Value.iface 33 (.pointer (some ⟨b, 0, none⟩)), none) :: (zs.map (·.2.2.1)).flatten) = nodesOf (zs.map (·.2.2.1)).flatten := rfl
      rw [this, nodesOf_flat]

end Go.Proofs.YtbifpjdkljibeaaDoor
