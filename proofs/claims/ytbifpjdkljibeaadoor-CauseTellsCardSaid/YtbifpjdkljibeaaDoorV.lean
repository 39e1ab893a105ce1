import Derived.Test.YtbifpjdkljibeaaDoorU
namespace Go.Proofs.YtbifpjdkljibeaaDoor
open Go.RowKit Go.Extern.Stop Go.Stop Go.Extern Go.Extern.Rtype

abbrev Kid := Value × List Int × List Nd × List Int

theorem owns24_rest {w w' : World} {base n : Nat} {v : Value} {xs : List Value} (h : w.ownsRow base 24 1 v n xs) (hb : Rest w w') : w'.ownsRow base 24 1 v n xs := by
  obtain ⟨h1, h2⟩ := h
  refine ⟨h1, ?_⟩
  rcases h2 with h2 | ⟨g, cap, cur, hv, hg, hh, r⟩
  · exact Or.inl h2
  · exact Or.inr ⟨g, cap, cur, hv, hg, hb.block _ _ _ _ hh (by decide), r⟩

theorem owns_below {w w' : World} {base n : Nat} {t : TypeId} {v : Value} {xs : List Value} (h : w.ownsRow base t 1 v n xs) (hb : Below w.heap.size w w') : w'.ownsRow base t 1 v n xs := by
  obtain ⟨h1, h2⟩ := h
  refine ⟨h1, ?_⟩
  rcases h2 with h2 | ⟨g, cap, cur, hv, hg, hh, r⟩
  · exact Or.inl h2
  · exact Or.inr ⟨g, cap, cur, hv, hg, Rest_any hb hh, r⟩

theorem own_ne {w : World} {base n base' n' : Nat} {v v' : Value} {xs xs' : List Value} (h : w.ownsRow base 24 1 v n xs) (h' : w.ownsRow base' 3 1 v' n' xs') : v'.ownBlock = none ∨ v'.ownBlock ≠ v.ownBlock := by
  obtain ⟨_, ⟨rfl, _⟩ | ⟨g', _, _, rfl, _, hh', _⟩⟩ := h'
  · exact .inl rfl
  · refine .inr fun e => ?_
    obtain ⟨_, ⟨rfl, _⟩ | ⟨g, _, _, rfl, _, hh, _⟩⟩ := h
    · cases e
    · cases e
      rw [hh] at hh'; cases hh'

/-- Below the base nothing turns where an own row was appended to. -/
theorem grown_below {w w' : World} {base n : Nat} {t : TypeId} {v : Value} {xs : List Value} (h : w.ownsRow base t 1 v n xs) (hg : w.grownBy w' v.ownBlock) (hb : base ≤ w.heap.size) : Below base w w' :=
  (Below.refl base w).grown hg hb fun k hk => (h.lt k hk).1

/-- The trees stay trees where their list is appended to. -/
theorem errA_append {w w' : World} {n' : Nat} {v v' : Value} {xs' : List Value} (hg : w.grownBy w' v.ownBlock) (h' : v'.ownBlock = v.ownBlock ∨ w'.ownsRow w.heap.size 24 1 v' n' xs')
    {d : Nat} {u : Value} {cs : List Int} {ns : List Nd} {ss : List Int} (e : ErrA w (fun k => v.ownBlock ≠ some k) d u cs ns ss) : ErrA w' (fun k => v'.ownBlock ≠ some k) d u cs ns ss := by
  refine e.keep (fun k hk hlt => ?_) (fun k c t hk hh _ => ?_)
  · rcases h' with h' | h'
    · rw [h']; exact hk
    · intro hk'
      have := (h'.lt k hk').1
      omega
  · rw [hg.block k (heap_lt hh) (fun e => hk e.symm)]; exact hh

theorem errA_rest {w w' : World} {A : Nat → Prop} (hb : Rest w w') {d : Nat} {u : Value} {cs : List Int} {ns : List Nd} {ss : List Int} (e : ErrA w A d u cs ns ss) : ErrA w' A d u cs ns ss :=
  e.keep (fun _ hk _ => hk) (fun _ _ _ _ hh ht => hb.block _ _ _ _ hh ht)

theorem ErrType.old {w w' : World} {base : Nat} (h : ErrType w) (hb : Below base w w') (h0 : 0 < base) : ErrType w' := by
  unfold ErrType at *
  rw [hb.cell (p := ⟨0, 0, none⟩) h0]; exact h

theorem holds_of {w : World} {base n : Nat} {t : TypeId} {v : Value} {xs : List Value} (h : w.ownsRow base t 1 v n xs) : n = xs.length ∧ ∃ a c, v = .slice a xs.length c ∧ Holds w a xs := by
  obtain ⟨h1, h2⟩ := h
  rw [Nat.mul_one] at h1
  subst h1
  refine ⟨rfl, ?_⟩
  rcases h2 with ⟨rfl, hn⟩ | ⟨g, cap, cur, rfl, _, hh, h3, h4, h5, h6⟩
  · have : xs = [] := List.eq_nil_of_length_eq_zero hn
    subst this
    exact ⟨none, 0, rfl, fun i x hx => by simp at hx⟩
  · refine ⟨some ⟨g, 0, none⟩, cap, rfl, fun i x hx => ⟨g, 0, rfl, heap_lt hh, ?_⟩⟩
    rw [← h6, List.getElem?_take] at hx
    split at hx
    · have h8 : cur[i]? = some x := by simpa using hx
      rw [Nat.zero_add]
      simp [World.cell?, hh, h8]
    · cases hx

theorem alive_all (xs : List Value) (h : ∀ x ∈ xs, ∃ t u, x = .iface t u) : alive xs = xs := by
  unfold alive
  rw [List.filter_eq_self]
  intro x hx
  obtain ⟨t, u, rfl⟩ := h x hx
  rfl

set_option maxRecDepth 100000 in
/-- Join over trees. -/
theorem join_trees (v : Value) (zs : List Kid) (w : World) (base d : Nat) (hown : w.ownsRow base 24 1 v zs.length (zs.map (·.1))) (hm : zs.length ≤ 1000) (A A' : Nat → Prop)
    (hz : ∀ (i : Nat) (z : Kid), zs[i]? = some z → ErrA w A d z.1 z.2.1 z.2.2.1 z.2.2.2) (hne : zs ≠ []) (hA : ∀ k, A k → k < w.heap.size → A' k) (hnew : ∀ k, w.heap.size ≤ k → A' k) :
    Calls Tryd.prog 10 #[v] w fun e w' => ∃ u ns, e = .returned u ∧ Below w.heap.size w w' ∧ ErrA w' A' (d + 1) u (zs.map (·.2.1)).flatten ns (zs.map (·.2.2.2)).flatten ∧ nodesOf ns = (zs.map fun z => nodesOf z.2.2.1).flatten ∧ ∀ x ∈ (zs.map (·.2.2.1)).flatten, x ∈ ns := by
  obtain ⟨hl, a, c, rfl, hh⟩ := holds_of hown
  have hi : ∀ x ∈ zs.map (·.1), ∃ t u, x = .iface t u := by
    intro x hx
    obtain ⟨z, hzm, rfl⟩ := List.mem_map.1 hx
    obtain ⟨i, hi⟩ := List.mem_iff_getElem?.1 hzm
    exact (hz i z hi).iface
  have hj := join10 a (zs.map (·.1)) c w (by rw [List.length_map]; exact hm) (fun x hx => .inr (hi x hx)) hh
  refine Calls.mono hj ?_
  intro e w' hj
  rw [alive_all _ hi] at hj
  obtain ⟨u, ns, he, h1, h2, h3⟩ := hj.treeA zs rfl hm d hz hne hA (fun k hk _ => hnew k hk)
  exact ⟨u, ns, he, hj.1, h1, h2, h3⟩

theorem join_none (w : World) : Calls Tryd.prog 10 #[.slice none 0 0] w fun e w' => e = .returned .nilIface ∧ Below w.heap.size w w' := by
  have hj := join10 none [] 0 w (by decide) (fun x hx => by cases hx) (fun i x hx => by simp at hx)
  rw [List.length_nil] at hj
  refine Calls.mono hj ?_
  rintro e w' ⟨hb, ⟨_, he⟩ | ⟨y, hy, _⟩ | ⟨h2, _⟩⟩
  · exact ⟨he, hb⟩
  · cases hy
  · simp [alive] at h2

end Go.Proofs.YtbifpjdkljibeaaDoor
