import Derived.Test.YtbifpjdkljibeaaDoorV
namespace Go.Proofs.YtbifpjdkljibeaaDoor
open Go.RowKit Go.Extern.Stop Go.Stop Go.Extern Go.Extern.Rtype

def wantOf (xs : List Int) (i : Nat) : List Int := (xs.take i).map (· % 50)

/-- What CauseNodes' loop keeps: es (s7): trees with k codes of 5, the nodes ms; want (s8): ws. base: the heap ahead of it. -/
structure LoopP (base : Nat) (w0 : World) (stripe : Int) (ws ms : List Int) (k : Nat) (s7 s8 : Value) (wr : World) : Prop where
  want : wr.ownsRow base 3 1 s8 ws.length (ws.map (Value.int .i64))
  err : ErrType wr
  below : Below base w0 wr
  es : ∃ (zs : List Kid) (d : Nat), wr.ownsRow base 24 1 s7 zs.length (zs.map (·.1)) ∧ zs.length ≤ k ∧ (∀ (j : Nat) (z : Kid), zs[j]? = some z → ErrA wr (fun k => s7.ownBlock ≠ some k) d z.1 z.2.1 z.2.2.1 z.2.2.2) ∧
    (zs.map (·.2.1)).flatten = List.replicate k 5 ∧ (zs.map fun z => nodesOf z.2.2.1).flatten = ms ∧ (∀ s ∈ (zs.map (·.2.2.2)).flatten, s = stripe)

theorem want_snoc (xs : List Int) (i : Nat) (x : Int) (h : xs[i]? = some x) : wantOf xs (i + 1) = wantOf xs i ++ [x % 50] := by
  unfold wantOf
  rw [List.take_add_one, h]; simp

theorem want_len (xs : List Int) (i : Nat) (h : i ≤ xs.length) : (wantOf xs i).length = i := by
  unfold wantOf; simp; omega

/-- New blocks turn nothing. -/
theorem LoopP.more {base : Nat} {w0 wr w' : World} {stripe : Int} {ws ms : List Int} {k : Nat} {s7 s8 : Value} (h : LoopP base w0 stripe ws ms k s7 s8 wr) (hs : base ≤ wr.heap.size) (hb : Below wr.heap.size wr w') : LoopP base w0 stripe ws ms k s7 s8 w' := by
  obtain ⟨h1, h2, h3, zs, d, h4, h5, h6, h7⟩ := h
  exact ⟨owns_below h1 hb, h2.below hb, h3.trans (hb.mono hs), zs, d, owns_below h4 hb, h5, fun j z hz => errA_rest (Rest.of hb) (h6 j z hz), h7⟩

theorem LoopP.size {base : Nat} {w0 wr : World} {stripe : Int} {ws ms : List Int} {k : Nat} {s7 s8 : Value} (h : LoopP base w0 stripe ws ms k s7 s8 wr) (hs : base ≤ w0.heap.size) : base ≤ wr.heap.size := Nat.le_trans hs h.below.size

/-- 'want' is appended to. -/
theorem LoopP.wanted {base : Nat} {w0 wr w' : World} {stripe n : Int} {ws ms : List Int} {k : Nat} {s7 s8 v' : Value} (h : LoopP base w0 stripe ws ms k s7 s8 wr) (hs : base ≤ wr.heap.size) (h0 : 0 < base)
    (ho : w'.ownsRow base 3 1 v' (ws.length + 1) (ws.map (Value.int .i64) ++ [.int .i64 n])) (hg : wr.grownBy w' s8.ownBlock) : LoopP base w0 stripe (ws ++ [n]) ms k s7 v' w' := by
  obtain ⟨h1, h2, h3, zs, d, h4, h5, h6, h7⟩ := h
  have hr := grown_rest h1 hg
  have hb := grown_below h1 hg hs
  exact ⟨by rw [List.length_append, List.map_append]; exact ho, h2.old hb h0, h3.trans hb, zs, d, owns24_rest h4 hr, h5, fun j z hz => errA_rest hr (h6 j z hz), h7⟩

/-- 'es' is appended to. -/
theorem LoopP.put {base : Nat} {w0 wr w' : World} {stripe n : Int} {ws ms : List Int} {k b d : Nat} {s7 s8 v' : Value} {zs : List Kid} (hs : base ≤ wr.heap.size) (h0 : 0 < base)
    (h1 : wr.ownsRow base 3 1 s8 ws.length (ws.map (Value.int .i64))) (h2 : ErrType wr) (h3 : Below base w0 wr) (h4 : wr.ownsRow base 24 1 s7 zs.length (zs.map (·.1))) (h5 : zs.length ≤ k)
    (h6 : ∀ (j : Nat) (z : Kid), zs[j]? = some z → ErrA wr (fun k => s7.ownBlock ≠ some k) d z.1 z.2.1 z.2.2.1 z.2.2.2) (h7 : (zs.map (·.2.1)).flatten = List.replicate k 5) (h8 : (zs.map fun z => nodesOf z.2.2.1).flatten = ms) (h9 : ∀ s ∈ (zs.map (·.2.2.2)).flatten, s = stripe)
    (hne : s7.ownBlock ≠ some b) (hh : wr.heap[b]? = some (.cells #[.int .i64 n, .iface 26 (.int .i64 5)] 42 (0, 0)))
    (ho : w'.ownsRow base 24 1 v' (zs.length + 1) (zs.map (·.1) ++ [.iface 32 (.pointer (some ⟨b, 0, none⟩))])) (hg : wr.grownBy w' s7.ownBlock)
    (hm : v'.ownBlock = s7.ownBlock ∨ w'.ownsRow wr.heap.size 24 1 v' (zs.length + 1) (zs.map (·.1) ++ [.iface 32 (.pointer (some ⟨b, 0, none⟩))])) :
    LoopP base w0 stripe ws (ms ++ [n]) (k + 1) v' s8 w' := by
  have hb := grown_below h4 hg hs
  refine ⟨?_, h2.old hb h0, h3.trans hb, zs ++ [(.iface 32 (.pointer (some ⟨b, 0, none⟩)), [5], [(.iface 32 (.pointer (some ⟨b, 0, none⟩)), some n), (.iface 26 (.int .i64 5), none)], [])], d + 2, by simpa using ho, by simp; omega, ?_, ?_, ?_, ?_⟩
  · refine h1.kept hg ?_
    exact own_ne h4 h1
  · intro j z hz
    by_cases hj : j < zs.length
    · rw [List.getElem?_append_left hj] at hz
      exact (errA_append hg hm (h6 j z hz)).deep (by omega)
    · rw [List.getElem?_append_right (by omega)] at hz
      have hj0 : j - zs.length = 0 := by
        by_cases h00 : j - zs.length = 0
        · exact h00
        · rw [List.getElem?_eq_none (by simp; omega)] at hz; cases hz
      rw [hj0] at hz
      cases hz
      refine ErrA.deep (d := 2) (by omega) (errA_append hg hm (d := 2) (.inr (.inr (.inl ⟨b, n, _, [(.iface 26 (.int .i64 5), none)], rfl, hne, hh, .inl ⟨5, rfl, rfl, rfl, rfl⟩, rfl⟩))))
  · rw [List.map_append, List.flatten_append, h7, List.replicate_succ']; rfl
  · rw [List.map_append, List.flatten_append, h8]; rfl
  · rw [List.map_append, List.flatten_append]
    simpa using h9

/-- All of 'es' joined, in a stripe: a list of one. -/
theorem LoopP.one {base : Nat} {w0 wr : World} {stripe : Int} {ws ms : List Int} {k b d : Nat} {s7 s8 v : Value} {cs ss : List Int} {ns : List Nd} (h : LoopP base w0 stripe ws ms k s7 s8 wr) (hk : 1 ≤ k) (hs : base ≤ wr.heap.size) (h0 : 0 < base)
    (hh : wr.heap[b]? = some (.cells #[.int .i64 stripe, v] 58 (0, 0))) (he : ErrA wr (fun _ => True) d v cs ns ss) (hc : cs = List.replicate k 5) (hn : nodesOf ns = ms) (hss : ∀ s ∈ ss, s = stripe) :
    LoopP base w0 stripe ws ms k (.slice (some ⟨wr.heap.size, 0, none⟩) 1 1) s8 (wr.alloc (.cells #[.iface 55 (.pointer (some ⟨b, 0, none⟩))] 24)) := by
  obtain ⟨h1, h2, h3, _⟩ := h
  have hb : Below wr.heap.size wr (wr.alloc (.cells #[.iface 55 (.pointer (some ⟨b, 0, none⟩))] 24)) := (Below.refl _ _).alloc (Nat.le_refl _) _
  refine ⟨owns_below h1 hb, h2.old (hb.mono hs) h0, h3.trans (hb.mono hs), [(.iface 55 (.pointer (some ⟨b, 0, none⟩)), cs, (.iface 55 (.pointer (some ⟨b, 0, none⟩)), none) :: ns, stripe :: ss)], d + 1, ?_, hk, ?_, by simpa using hc, ?_, ?_⟩
  · exact ⟨rfl, .inr ⟨wr.heap.size, 1, _, rfl, hs, heap_new _ _, Nat.le_refl _, by unfold maxLen; omega, rfl, rfl⟩⟩
  · intro j z hz
    cases j with
    | succ j => simp at hz
    | zero =>
      cases hz
      have hA : ∀ k, k < wr.heap.size → (Value.slice (some ⟨wr.heap.size, 0, none⟩) 1 1).ownBlock ≠ some k := by
        intro k hk e
        have : wr.heap.size = k := Option.some.inj e
        omega
      refine .inr (.inr (.inr (.inl ⟨b, stripe, v, ns, ss, rfl, hA b (heap_lt hh), by rw [hb.block b (heap_lt hh)]; exact hh, he.keep (fun k _ hk => hA k hk) (fun k c t _ hk _ => Rest_any hb hk), rfl, rfl⟩)))
  · simpa [nodesOf] using hn
  · simpa using hss

end Go.Proofs.YtbifpjdkljibeaaDoor
