import Derived.Test.YtofmilkjhnkgjaaGreatW02
import Derived.Test.YtofmilkjhnkgjaaGreatW52
import Derived.Deep.Slices
import Derived.Deep.Fields
import Derived.ChangeSame
namespace Go.Proofs.YtofmilkjhnkgjaaGreat
open Go.ChangeShapes Go.WideShapes Go.ChangeAt Go.WideMaps Go.WideElems Go.RowKit Go.Deep

/-- A field of numbers. -/
theorem ints_atA {H : Type} {enc : TypeId × Value → H} {W : World} {n : Nat} {v : Value} {y : DataW H × List MemPlace} (h : DataW.trod enc Tryz.prog W 0 (fun _ => true) true n 30 [v] = some y) :
    ∃ (a : Option Addr) (xs : List Int) (c : Nat), v = .slice a xs.length c ∧ Nums W a xs ∧ xs.length ≤ 9223372036854775807 := by
  rcases open_ints Tryz.underlying30 Tryz.underlying3 cells3 h with ⟨hcs, hx⟩ | ⟨a, len', cap', zs, hcs, _, hl, hm, hz, hx, hcell, hwz⟩
  · simp at hcs
    subst hcs
    exact ⟨none, [], 0, rfl, fun i x hx => by simp at hx, by simp⟩
  · simp at hcs
    subst hcs
    unfold maxLen at hm
    have hzl : len' ≤ zs.length := by rw [hz]; simp; omega
    refine ⟨some a, zs.take len', cap', by rw [List.length_take, Nat.min_eq_left hzl], fun i x hx => ?_, by simp; omega⟩
    rw [List.getElem?_take] at hx
    split at hx
    · have hlt : i < zs.length := by omega
      have hc := hcell i hlt
      rw [List.getD_eq_getElem?_getD, hx] at hc
      obtain ⟨g, o, rfl, h1, h2⟩ := cell_plain (hcell 0 (by omega)) hc
      exact ⟨g, o, rfl, h1, h2⟩
    · cases hx
section
variable {H : Type} {enc : TypeId × Value → H} {W : World}
theorem int_at {n : Nat} {v : Value} {y : DataW H × List MemPlace} (h : DataW.trod enc Tryz.prog W 0 (fun _ => true) true n 3 [v] = some y) : ∃ z : Int, v = .int .i64 z := by
  obtain ⟨z, hz, _, hw⟩ := DataW.trod_int Tryz.underlying3 h
  simp at hz
  exact ⟨z, hz⟩
theorem raw_at {n : Nat} {v0 v1 v2 v3 v4 v5 : Value} {y : DataW H × List MemPlace} (h : DataW.trod enc Tryz.prog W 0 (fun _ => true) true n 29 [v0, v1, v2, v3, v4, v5] = some y) :
    ∃ z0 z1 z2 z3 z4 z5 : Int, v0 = .int .i64 z0 ∧ v1 = .int .i64 z1 ∧ v2 = .int .i64 z2 ∧ v3 = .int .i64 z3 ∧ v4 = .int .i64 z4 ∧ v5 = .int .i64 z5 := by
  have hC : Tryz.prog.cellsOf 3 = 1 := by kernel_rfl
  obtain ⟨ys, n1, _, _, _, hyl, hf⟩ := DataW.trod_struct Tryz.underlying29 h
  have hyl' : ys.length = 6 := hyl
  have h0 : DataW.trod enc Tryz.prog W 0 (fun _ => true) true n1 3 (List.take (Tryz.prog.cellsOf 3) (List.drop 0 [v0, v1, v2, v3, v4, v5])) = ys[0]? := hf 0 _ rfl
  rw [hC, List.getElem?_eq_getElem (by omega)] at h0
  obtain ⟨z0, e0⟩ := int_at (v := v0) h0
  have h1 : DataW.trod enc Tryz.prog W 0 (fun _ => true) true n1 3 (List.take (Tryz.prog.cellsOf 3) (List.drop 1 [v0, v1, v2, v3, v4, v5])) = ys[1]? := hf 1 _ rfl
  rw [hC, List.getElem?_eq_getElem (by omega)] at h1
  obtain ⟨z1, e1⟩ := int_at (v := v1) h1
  have h2 : DataW.trod enc Tryz.prog W 0 (fun _ => true) true n1 3 (List.take (Tryz.prog.cellsOf 3) (List.drop 2 [v0, v1, v2, v3, v4, v5])) = ys[2]? := hf 2 _ rfl
  rw [hC, List.getElem?_eq_getElem (by omega)] at h2
  obtain ⟨z2, e2⟩ := int_at (v := v2) h2
  have h3 : DataW.trod enc Tryz.prog W 0 (fun _ => true) true n1 3 (List.take (Tryz.prog.cellsOf 3) (List.drop 3 [v0, v1, v2, v3, v4, v5])) = ys[3]? := hf 3 _ rfl
  rw [hC, List.getElem?_eq_getElem (by omega)] at h3
  obtain ⟨z3, e3⟩ := int_at (v := v3) h3
  have h4 : DataW.trod enc Tryz.prog W 0 (fun _ => true) true n1 3 (List.take (Tryz.prog.cellsOf 3) (List.drop 4 [v0, v1, v2, v3, v4, v5])) = ys[4]? := hf 4 _ rfl
  rw [hC, List.getElem?_eq_getElem (by omega)] at h4
  obtain ⟨z4, e4⟩ := int_at (v := v4) h4
  have h5 : DataW.trod enc Tryz.prog W 0 (fun _ => true) true n1 3 (List.take (Tryz.prog.cellsOf 3) (List.drop 5 [v0, v1, v2, v3, v4, v5])) = ys[5]? := hf 5 _ rfl
  rw [hC, List.getElem?_eq_getElem (by omega)] at h5
  obtain ⟨z5, e5⟩ := int_at (v := v5) h5
  exact ⟨z0, z1, z2, z3, z4, z5, e0, e1, e2, e3, e4, e5⟩
theorem act_at {n : Nat} {v0 v1 v2 v3 v4 v5 v6 v7 : Value} {y : DataW H × List MemPlace} (h : DataW.trod enc Tryz.prog W 0 (fun _ => true) true n 32 [v0, v1, v2, v3, v4, v5, v6, v7] = some y) :
    ∃ z0 z1 z2 z3 z4 z5 z6 : Int, ∃ (b : Option Addr) (xs : List Int) (c : Nat), (v0 = .int .i64 z0 ∧ v1 = .int .i64 z1 ∧ v2 = .int .i64 z2 ∧ v3 = .int .i64 z3 ∧ v4 = .int .i64 z4 ∧ v5 = .int .i64 z5 ∧ v6 = .int .i64 z6) ∧ v7 = .slice b xs.length c ∧ Nums W b xs ∧ xs.length ≤ 9223372036854775807 := by
  have hC : Tryz.prog.cellsOf 3 = 1 := by kernel_rfl
  have hR : Tryz.prog.cellsOf 29 = 6 := by kernel_rfl
  have hS : Tryz.prog.cellsOf 30 = 1 := by kernel_rfl
  obtain ⟨ys, n1, _, _, _, hyl, hf⟩ := DataW.trod_struct Tryz.underlying32 h
  have hyl' : ys.length = 3 := hyl
  have h0 : DataW.trod enc Tryz.prog W 0 (fun _ => true) true n1 3 (List.take (Tryz.prog.cellsOf 3) (List.drop 0 [v0, v1, v2, v3, v4, v5, v6, v7])) = ys[0]? := hf 0 _ rfl
  rw [hC, List.getElem?_eq_getElem (by omega)] at h0
  obtain ⟨z0, e0⟩ := int_at (v := v0) h0
  have h1 : DataW.trod enc Tryz.prog W 0 (fun _ => true) true n1 29 (List.take (Tryz.prog.cellsOf 29) (List.drop 1 [v0, v1, v2, v3, v4, v5, v6, v7])) = ys[1]? := hf 1 _ rfl
  rw [hR, List.getElem?_eq_getElem (by omega)] at h1
  obtain ⟨z1, z2, z3, z4, z5, z6, e1, e2, e3, e4, e5, e6⟩ := raw_at (v0 := v1) (v1 := v2) (v2 := v3) (v3 := v4) (v4 := v5) (v5 := v6) h1
  have h2 : DataW.trod enc Tryz.prog W 0 (fun _ => true) true n1 30 (List.take (Tryz.prog.cellsOf 30) (List.drop 7 [v0, v1, v2, v3, v4, v5, v6, v7])) = ys[2]? := hf 2 _ rfl
  rw [hS, List.getElem?_eq_getElem (by omega)] at h2
  obtain ⟨b, xs, c, e7, hn, hl⟩ := ints_atA (v := v7) h2
  exact ⟨z0, z1, z2, z3, z4, z5, z6, b, xs, c, ⟨e0, e1, e2, e3, e4, e5, e6⟩, e7, hn, hl⟩
end
/-- A slice of acts that came in. -/
theorem acs_in {H : Type} {enc : TypeId × Value → H} {W : World} {a0 : Option Addr} {len cap : Nat} {d : DataW H} {p : List MemPlace} (h : DataW.Trod enc Tryz.prog W 0 (fun _ => true) true 22 (.slice a0 len cap) d p) :
    ∃ L : List AC, L.length = len ∧ ACsIn W a0 L ∧ L.length ≤ 9223372036854775807 := by
  obtain ⟨fuel, hf⟩ := h
  have h8 : Tryz.prog.cellsOf 32 = 8 := by kernel_rfl
  rcases open_slice Tryz.underlying22 hf with ⟨hcs, _⟩ | ⟨a, len', cap', m, n, D, Pl, hcs, hb, hlc, hcm, hmm, hx, hi⟩
  · simp [Value.cells] at hcs
    obtain ⟨rfl, rfl, rfl⟩ := hcs
    exact ⟨[], rfl, fun i x hx => by simp at hx, by simp⟩
  · simp [Value.cells] at hcs
    obtain ⟨rfl, rfl, rfl⟩ := hcs
    unfold maxLen at hcm
    have hlm : len ≤ m := by rw [hmm]; split <;> omega
    rw [h8] at hi
    have key : ∀ i, i < len → ∃ x : AC, ∃ g o, a = ⟨g, o, none⟩ ∧ g < W.heap.size ∧ W.cell? ⟨g, o + i * 8, none⟩ = some (.int .i64 x.what) ∧ W.cell? ⟨g, o + i * 8 + 1, none⟩ = some (.int .i64 x.x0) ∧ W.cell? ⟨g, o + i * 8 + 2, none⟩ = some (.int .i64 x.x1) ∧ W.cell? ⟨g, o + i * 8 + 3, none⟩ = some (.int .i64 x.x2) ∧ W.cell? ⟨g, o + i * 8 + 4, none⟩ = some (.int .i64 x.x3) ∧ W.cell? ⟨g, o + i * 8 + 5, none⟩ = some (.int .i64 x.x4) ∧ W.cell? ⟨g, o + i * 8 + 6, none⟩ = some (.int .i64 x.x5) ∧ W.cell? ⟨g, o + i * 8 + 7, none⟩ = some (.slice x.ka x.ks.length x.kc) ∧ Nums W x.ka x.ks ∧ x.ks.length ≤ 9223372036854775807 := by
      intro i hil
      have cut : ∀ k, k < m → ∃ v0 v1 v2 v3 v4 v5 v6 v7 : Value, (∀ j, j < 8 → W.cell? (a.add (k * 8 + j)) = [v0, v1, v2, v3, v4, v5, v6, v7][j]?) ∧ DataW.trod enc Tryz.prog W 0 (fun _ => true) true n 32 [v0, v1, v2, v3, v4, v5, v6, v7] = some (D k, Pl k) := by
        intro k hk
        obtain ⟨cs', hc, ht⟩ := hi k hk
        obtain ⟨_, hcl, hat⟩ := World.cells?_some hc
        match cs', hcl with
        | [v0, v1, v2, v3, v4, v5, v6, v7], _ =>
          exact ⟨v0, v1, v2, v3, v4, v5, v6, v7, fun j hj => by rw [← Go.Deep.add_add]; exact hat j hj, ht⟩
      obtain ⟨u0, u1, u2, u3, u4, u5, u6, u7, hu, _⟩ := cut 0 (by omega)
      have hv0 := hu 0 (by omega)
      obtain ⟨v0, v1, v2, v3, v4, v5, v6, v7, hv, ht⟩ := cut i (by omega)
      obtain ⟨z0, z1, z2, z3, z4, z5, z6, b, xs, c, ⟨rfl, rfl, rfl, rfl, rfl, rfl, rfl⟩, rfl, hn, hl⟩ := act_at ht
      have q0 := hv 0 (by omega)
      have q1 := hv 1 (by omega)
      have q2 := hv 2 (by omega)
      have q3 := hv 3 (by omega)
      have q4 := hv 4 (by omega)
      have q5 := hv 5 (by omega)
      have q6 := hv 6 (by omega)
      have q7 := hv 7 (by omega)
      obtain ⟨g, o, rfl, hg, c0⟩ := cell_plain hv0 q0
      obtain ⟨g1, o1, e1, _, c1⟩ := cell_plain hv0 q1
      cases e1
      obtain ⟨g2, o2, e2, _, c2⟩ := cell_plain hv0 q2
      cases e2
      obtain ⟨g3, o3, e3, _, c3⟩ := cell_plain hv0 q3
      cases e3
      obtain ⟨g4, o4, e4, _, c4⟩ := cell_plain hv0 q4
      cases e4
      obtain ⟨g5, o5, e5, _, c5⟩ := cell_plain hv0 q5
      cases e5
      obtain ⟨g6, o6, e6, _, c6⟩ := cell_plain hv0 q6
      cases e6
      obtain ⟨g7, o7, e7, _, c7⟩ := cell_plain hv0 q7
      cases e7
      exact ⟨⟨z0, z1, z2, z3, z4, z5, z6, b, xs, c⟩, g, o, rfl, hg, c0, c1, c2, c3, c4, c5, c6, c7, hn, hl⟩
    have ex : ∀ n, n ≤ len → ∃ L : List AC, L.length = n ∧ ACsIn W (some a) L := by
      intro n
      induction n with
      | zero => intro _; exact ⟨[], rfl, fun i x hx => by simp at hx⟩
      | succ n ih =>
        intro hn
        obtain ⟨L, hl, h1⟩ := ih (by omega)
        obtain ⟨x, g, o, ea, hx⟩ := key n (by omega)
        refine ⟨L ++ [x], by simp [hl], fun i y hy => ?_⟩
        by_cases hi : i < L.length
        · rw [List.getElem?_append_left hi] at hy
          exact h1 i y hy
        · rw [List.getElem?_append_right (by omega)] at hy
          have e : i = n := by
            have := (List.getElem?_eq_some_iff.1 hy).1
            simp at this
            omega
          subst e
          rw [hl, Nat.sub_self] at hy
          cases hy
          exact ⟨g, o, by rw [ea], hx⟩
    obtain ⟨L, hL, hA⟩ := ex len (Nat.le_refl _)
    exact ⟨L, hL, hA, by omega⟩
end Go.Proofs.YtofmilkjhnkgjaaGreat
