import Derived.Test.YtbifpjdkljibeaaDoorS
namespace Go.Proofs.YtbifpjdkljibeaaDoor
open Go.RowKit Go.Extern.Stop Go.Stop Go.Extern Go.Extern.Rtype

theorem errno_err (w : World) (B : Nat) (n : Int) : Err w B 1 (.iface 26 (.int .i64 n)) [n] [(.iface 26 (.int .i64 n), none)] [] := .inl ⟨n, rfl, rfl, rfl, rfl⟩

theorem err_ne {w : World} {B d : Nat} {v : Value} {cs : List Int} {ns : List Nd} {ss : List Int} (e : Err w B d v cs ns ss) : v ≠ .nilIface := by
  obtain ⟨t, u, rfl⟩ := e.iface
  intro h; cases h

theorem ErrType.below {w w' : World} (h : ErrType w) (hb : Below w.heap.size w w') : ErrType w' := by
  unfold ErrType at *
  rw [hb.cell (p := ⟨0, 0, none⟩) (cell?_lt h)]; exact h

/-- A slice that owns its row of numbers, as Nums says. -/
theorem nums_of {w : World} {base n : Nat} {v : Value} {xs : List Int} (h : w.ownsRow base 3 1 v n (xs.map (Value.int .i64))) : ∃ a c, v = .slice a xs.length c ∧ Nums w a xs := by
  obtain ⟨h1, h2⟩ := h
  rw [List.length_map, Nat.mul_one] at h1
  subst h1
  rcases h2 with ⟨rfl, hn⟩ | ⟨g, cap, cur, rfl, _, hh, h3, h4, h5, h6⟩
  · have : xs = [] := List.eq_nil_of_length_eq_zero hn
    subst this
    exact ⟨none, 0, rfl, fun i x hx => by simp at hx⟩
  · refine ⟨some ⟨g, 0, none⟩, cap, rfl, fun i x hx => ⟨g, 0, rfl, heap_lt hh, ?_⟩⟩
    have h7 : (xs.map (Value.int .i64))[i]? = some (.int .i64 x) := by rw [List.getElem?_map, hx]; rfl
    rw [← h6, List.getElem?_take] at h7
    split at h7
    · have h8 : cur[i]? = some (.int .i64 x) := by simpa using h7
      rw [Nat.zero_add]
      simp [World.cell?, hh, h8]
    · cases h7

set_option maxRecDepth 100000 in
set_option maxHeartbeats 1000000 in
theorem known8 (w : World) (hE : ErrType w) : Calls Tryd.prog 8 #[] w fun e w' => e = .returned (.bool true) ∧ Below w.heap.size w w' := by
  have HE := Lib.hid hE
  have q1 := neqNil
  clear hE
  go_enter Tryd.func8, Tryd.ntmps8
  go_wp2_with fail
  refine (atNode_err 1 1 _ _ _ _ _ (errno_err _ _ 4)).mono ?_
  rintro e w1 ⟨b1, rfl, hb1, hw1, hh1, he1⟩
  have H1 := Lib.hid (And.intro hb1 (And.intro hw1 (And.intro hh1 he1)))
  clear hb1 hw1 hh1 he1
  go_wp2_with fail
  refine (atNode_err 1 4 _ _ _ _ _ (errno_err _ _ 5)).mono ?_
  rintro e w2 ⟨b2, rfl, hb2, hw2, hh2, he2⟩
  have H2 := Lib.hid (And.intro hb2 (And.intro hw2 (And.intro hh2 he2)))
  clear hb2 hw2 hh2 he2
  go_wp2_with fail
  refine (join10 _ [.iface 32 (.pointer (some ⟨b1, 0, none⟩)), .nilIface, .iface 32 (.pointer (some ⟨b2, 0, none⟩))] 3 _ (by simp) ?_ ?_).mono ?_
  · intro x hx
    simp only [List.mem_cons, List.not_mem_nil, or_false] at hx
    rcases hx with rfl | rfl | rfl
    · exact .inr ⟨_, _, rfl⟩
    · exact .inl rfl
    · exact .inr ⟨_, _, rfl⟩
  · intro i x hx
    refine ⟨w2.heap.size, 0, rfl, by simp, ?_⟩
    rcases i with _ | _ | _ | i
    · cases hx; simp [go_sem]
    · cases hx; simp [go_sem]
    · cases hx; simp [go_sem]
    · simp at hx
  rintro e w3 hj
  have hw23 := hj.1
  obtain ⟨v3, ns3, rfl, he3, hn3, _⟩ := JPost.tree (w := _) (w' := w3) (e := e) hj
    [(.iface 32 (.pointer (some ⟨b1, 0, none⟩)), [4], [(.iface 32 (.pointer (some ⟨b1, 0, none⟩)), some 1), (.iface 26 (.int .i64 4), none)], []),
     (.iface 32 (.pointer (some ⟨b2, 0, none⟩)), [5], [(.iface 32 (.pointer (some ⟨b2, 0, none⟩)), some 4), (.iface 26 (.int .i64 5), none)], [])] rfl (by simp) 2 (by
      intro i z hz
      have hb : Below w2.heap.size w2 (w2.alloc (.cells #[.iface 32 (.pointer (some ⟨b1, 0, none⟩)), .nilIface, .iface 32 (.pointer (some ⟨b2, 0, none⟩))] 24)) := (Below.refl _ _).alloc (Nat.le_refl _) _
      rcases i with _ | _ | i
      · cases hz
        exact ((((H1.out.2.2.2.below H2.out.2.1).mono H2.out.2.1.size)).below hb).mono hb.size
      · cases hz
        exact ((H2.out.2.2.2).below hb).mono hb.size
      · simp at hz) (by simp)
  have H3 := Lib.hid (And.intro hw23 (And.intro he3 hn3))
  clear hj hw23 he3 hn3
  go_wp2_with fail
  refine (ofStripe_err 3 7 _ _ _ _ _ H3.out.2.1).mono ?_
  rintro e w4 ⟨b4, rfl, hb4, hw4, hh4, he4⟩
  have hw : Below w.heap.size w w4 := by
    have h3 := H3.out.1
    have h2 := H2.out.2.1
    have h1 := H1.out.2.1
    have := h1.size; have := h2.size
    have h5 : Below w2.heap.size w2 w3 := ((Below.refl w2.heap.size w2).alloc (Nat.le_refl _) _).trans (h3.mono (by simp))
    have := h5.size
    exact ((h1.trans (h2.mono (by omega))).trans (h5.mono (by omega))).trans (hw4.mono (by omega))
  have H4 := Lib.hid (And.intro hw (And.intro he4 (HE.out.below hw)))
  clear hb4 hw4 hh4 he4 hw
  go_wp2_with fail
  refine (stripe_any 4 _ _ _ _ _ H4.out.2.1 H4.out.2.2).mono ?_
  rintro e w5 ⟨he5, hb5⟩
  obtain rfl : e = .returned (.tuple #[.int .i64 7, .bool true]) := he5
  have H5 := Lib.hid (And.intro hb5 (And.intro ((H4.out.2.1.below hb5).mono hb5.size) (H4.out.2.2.below hb5)))
  clear hb5
  go_wp2_with fail
  refine (code_any 4 _ _ _ _ _ H5.out.2.1 H5.out.2.2).mono ?_
  rintro e w6 ⟨he6, hb6⟩
  obtain rfl : e = .returned (.int .i64 4) := he6
  have H6 := Lib.hid (And.intro hb6 (And.intro ((H5.out.2.1.below hb6).mono hb6.size) (H5.out.2.2.below hb6)))
  clear hb6
  go_wp2_with fail
  have hns : nodesOf ((Value.iface 55 (.pointer (some ⟨b4, 0, none⟩)), none) :: ns3) = [1, 4] := H3.out.2.2
  refine (nodes18 4 _ _ _ _ _ H6.out.2.1 (by rw [hns]; decide)).mono ?_
  rw [hns]
  clear hns
  rintro e w7 ⟨u, rfl, ho, hb7⟩
  obtain ⟨a, c, rfl, hnum⟩ := nums_of ho
  have H7 := Lib.hid (And.intro hb7 hnum)
  clear hb7 hnum ho
  go_wp2_with fail
  refine (same21 a (some ⟨w7.heap.size, 0, none⟩) [1, 4] [1, 4] c 2 _ (by decide) ?_ ?_).mono ?_
  · intro i x hx
    obtain ⟨g, o, ha, hg, hc⟩ := H7.out.2 i x hx
    exact ⟨g, o, ha, by simp; omega, by rw [World.cell?_alloc_past _ _ _ hg]; exact hc⟩
  · intro i x hx
    refine ⟨w7.heap.size, 0, rfl, by simp, ?_⟩
    rcases i with _ | _ | i
    · cases hx; simp [go_sem]
    · cases hx; simp [go_sem]
    · simp at hx
  rintro e w8 ⟨he8, hb8⟩
  obtain rfl : e = .returned (.bool true) := he8
  have H8 := Lib.hid hb8
  clear hb8
  go_wp2_with fail
  go_ret
  refine ⟨rfl, ?_⟩
  have h4 := H4.out.1
  have h5 := H5.out.1
  have h6 := H6.out.1
  have h7 := H7.out.1
  have h8 := H8.out
  have := h4.size; have := h5.size; have := h6.size; have := h7.size
  have h9 : Below w7.heap.size w7 w8 := ((Below.refl w7.heap.size w7).alloc (Nat.le_refl _) _).trans (h8.mono (by simp))
  exact (((h4.trans (h5.mono (by omega))).trans (h6.mono (by omega))).trans (h7.mono (by omega))).trans (h9.mono (by omega))

end Go.Proofs.YtbifpjdkljibeaaDoor
