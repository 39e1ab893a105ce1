import Derived.Test.YtoofgcdilgfclaaU51
import Derived.Test.YtoofgcdilgfclaaU21
import Derived.Deep.Slices
import Derived.Deep.Fields
import Derived.ChangeSame
namespace Go.Proofs.Ytoofgcdilgfclaa
open Go.ChangeShapes Go.WideShapes Go.ChangeAt Go.WideMaps Go.WideElems Go.RowKit Go.Deep

section
variable {H : Type} {enc : TypeId × Value → H} {P : Program} {w : World} {base : Nat} {spare : Nat → Bool} {held : Bool}
/-- A slice of structs of fields of one cell: each field's cell, and its reading. -/
theorem fields_in {t e : TypeId} {fs : Array Field} {fuel : Nat} {cs : List Value} {x : DataW H × List MemPlace} (ht : P.underlying t = some (.slice e)) (he : P.underlying e = some (.struct fs))
    (hone : oneCellFields P fs = true) (hC : P.cellsOf e = fs.size) (h : DataW.trod enc P w base spare held fuel t cs = some x) :
    cs = [.slice none 0 0] ∨
    ∃ (a : Addr) (len cap m : Nat), cs = [.slice (some a) len cap] ∧ len ≤ m ∧ len ≤ cap ∧ cap ≤ maxLen ∧
      ∀ i, i < m → ∃ n : Nat, ∀ (j : Nat) (f : Field), fs[j]? = some f → ∃ (v : Value) (y : DataW H × List MemPlace), w.cell? (a.add (i * fs.size + j)) = some v ∧ DataW.trod enc P w base spare held n f.type [v] = some y := by
  rcases open_slice ht h with ⟨h0, _⟩ | ⟨a, len, cap, m, n, D, Pl, hcs, hb, hl, hm, hmm, hx, hi⟩
  · exact .inl h0
  · refine .inr ⟨a, len, cap, m, hcs, by rw [hmm]; split <;> omega, hl, hm, fun i him => ?_⟩
    obtain ⟨cs', hc, ht'⟩ := hi i him
    rw [hC] at hc
    obtain ⟨ys, n', hn', hy, hlen, hyl, hf⟩ := DataW.trod_struct he ht'
    obtain ⟨_, hcl, hat⟩ := World.cells?_some hc
    refine ⟨n', fun j f hj => ?_⟩
    obtain ⟨ho, hk⟩ := hone_of hone j f hj
    have hjl : j < fs.size := (Array.getElem?_eq_some_iff.1 hj).1
    have hcell := hat j hjl
    have hv : cs'[j]? = some (cs'[j]'(by omega)) := List.getElem?_eq_getElem (by omega)
    have h1 := hf j f hj
    rw [ho, hk] at h1
    have hone' : (cs'.drop j).take 1 = [cs'[j]'(by omega)] := by
      rw [List.drop_eq_getElem_cons (by omega)]
      rfl
    rw [hone'] at h1
    have hys : ys[j]? = some (ys[j]'(by omega)) := List.getElem?_eq_getElem (by omega)
    refine ⟨_, _, ?_, h1.trans hys⟩
    rw [← Go.Deep.add_add, hcell, hv]
end
/-- A slice of raw requests that came in. -/
theorem rqs_in {H : Type} {enc : TypeId × Value → H} {W : World} {a0 : Option Addr} {len cap : Nat} {d : DataW H} {p : List MemPlace} (h : DataW.Trod enc Try.prog W 0 (fun _ => true) true 57 (.slice a0 len cap) d p) :
    ∃ L : List RQ, L.length = len ∧ RQsIn W a0 L ∧ L.length ≤ 9223372036854775807 := by
  obtain ⟨fuel, hf⟩ := h
  obtain ⟨fs, hfs⟩ : ∃ fs, Try.prog.underlying 46 = some (.struct fs) := ⟨_, Try.underlying46⟩
  have e38 := hfs.symm.trans Try.underlying46
  injection e38 with e38
  injection e38 with e38
  have hsz : fs.size = 6 := by rw [e38]; rfl
  rcases fields_in Try.underlying57 hfs (by rw [e38]; kernel_rfl) (by rw [hsz]; kernel_rfl) hf with hcs | ⟨a, len', cap', m, hcs, hlm, hlc, hcm, hi⟩
  · simp [Value.cells] at hcs
    obtain ⟨rfl, rfl, rfl⟩ := hcs
    exact ⟨[], rfl, fun i x hx => by simp at hx, by simp⟩
  · simp [Value.cells] at hcs
    obtain ⟨rfl, rfl, rfl⟩ := hcs
    unfold maxLen at hcm
    have key : ∀ i, i < len → ∃ x : RQ, ∃ g o, a = ⟨g, o, none⟩ ∧ g < W.heap.size ∧ W.cell? ⟨g, o + i * 6, none⟩ = some (.int .i64 x.kind) ∧ W.cell? ⟨g, o + i * 6 + 1, none⟩ = some (.int .i64 x.stripe) ∧ W.cell? ⟨g, o + i * 6 + 2, none⟩ = some (.int .i64 x.gen) ∧ W.cell? ⟨g, o + i * 6 + 3, none⟩ = some (.int .i64 x.index) ∧ W.cell? ⟨g, o + i * 6 + 4, none⟩ = some (.int .i64 x.seed) ∧ W.cell? ⟨g, o + i * 6 + 5, none⟩ = some (.int .i64 x.bend) := by
      intro i hil
      obtain ⟨n, hn⟩ := hi i (by omega)
      obtain ⟨n0, h00⟩ := hi 0 (by omega)
      have get : ∀ j, j < 6 → ∃ z : Int, W.cell? (a.add (i * 6 + j)) = some (.int .i64 z) := by
        intro j hj
        obtain ⟨f, hfj, hft⟩ : ∃ f, fs[j]? = some f ∧ f.type = 3 := by
          rw [e38]
          match j, hj with
          | 0, _ => exact ⟨_, rfl, rfl⟩
          | 1, _ => exact ⟨_, rfl, rfl⟩
          | 2, _ => exact ⟨_, rfl, rfl⟩
          | 3, _ => exact ⟨_, rfl, rfl⟩
          | 4, _ => exact ⟨_, rfl, rfl⟩
          | 5, _ => exact ⟨_, rfl, rfl⟩
        obtain ⟨v, y, hv, hy⟩ := hn j f hfj
        rw [hft] at hy
        obtain ⟨z, hz, _, hw⟩ := DataW.trod_int Try.underlying3 hy
        simp at hz
        subst hz
        rw [hsz] at hv
        exact ⟨z, hv⟩
      have g0 : ∃ v, W.cell? (a.add 0) = some v := by
        obtain ⟨f, hfj⟩ : ∃ f, fs[0]? = some f := by rw [e38]; exact ⟨_, rfl⟩
        obtain ⟨v, y, hv, hy⟩ := h00 0 f hfj
        rw [hsz] at hv
        exact ⟨v, hv⟩
      obtain ⟨v0, hv0⟩ := g0
      obtain ⟨z0, q0⟩ := get 0 (by omega)
      obtain ⟨z1, q1⟩ := get 1 (by omega)
      obtain ⟨z2, q2⟩ := get 2 (by omega)
      obtain ⟨z3, q3⟩ := get 3 (by omega)
      obtain ⟨z4, q4⟩ := get 4 (by omega)
      obtain ⟨z5, q5⟩ := get 5 (by omega)
      obtain ⟨g, o, rfl, hg, c0⟩ := cell_plain hv0 q0
      obtain ⟨g1, o1, e1, _, c1⟩ := cell_plain hv0 q1
      obtain ⟨g2, o2, e2, _, c2⟩ := cell_plain hv0 q2
      obtain ⟨g3, o3, e3, _, c3⟩ := cell_plain hv0 q3
      obtain ⟨g4, o4, e4, _, c4⟩ := cell_plain hv0 q4
      obtain ⟨g5, o5, e5, _, c5⟩ := cell_plain hv0 q5
      cases e1
      cases e2
      cases e3
      cases e4
      cases e5
      exact ⟨⟨z0, z1, z2, z3, z4, z5⟩, g, o, rfl, hg, c0, c1, c2, c3, c4, c5⟩
    have ex : ∀ n, n ≤ len → ∃ L : List RQ, L.length = n ∧ RQsIn W (some a) L := by
      intro n
      induction n with
      | zero => intro _; exact ⟨[], rfl, fun i x hx => by simp at hx⟩
      | succ n ih =>
        intro hn
        obtain ⟨L, hl, h1⟩ := ih (by omega)
        obtain ⟨x, g, o, ea, hx⟩ := key n (by omega)
        refine ⟨L ++ [x], by simp [hl], fun i y hy => ?_⟩
        by_cases hi : i < L.length
        · rw [List.getElem?_append_left hi] at hy
          exact h1 i y hy
        · rw [List.getElem?_append_right (by omega)] at hy
          have e : i = n := by
            have := (List.getElem?_eq_some_iff.1 hy).1
            simp at this
            omega
          subst e
          rw [hl, Nat.sub_self] at hy
          cases hy
          exact ⟨g, o, by rw [ea], hx⟩
    obtain ⟨L, hl, h1⟩ := ex len (Nat.le_refl _)
    exact ⟨L, hl, h1, by omega⟩
/-- A raw request that came in by itself. -/
theorem raw_in {H : Type} {enc : TypeId × Value → H} {W : World} {r : Reach} {b0 : Nat} {v : Value} {d : DataW H} {p : List MemPlace} (hv : Value.okWide Try.prog W r b0 46 v) (h : DataW.Trod enc Try.prog W 0 (fun _ => true) true 46 v d p) :
    ∃ x0 x1 x2 x3 x4 x5 : Int, v = .agg #[.int .i64 x0, .int .i64 x1, .int .i64 x2, .int .i64 x3, .int .i64 x4, .int .i64 x5] := by
  obtain ⟨fs, hfs⟩ : ∃ fs, Try.prog.underlying 46 = some (.struct fs) := ⟨_, Try.underlying46⟩
  have e38 := hfs.symm.trans Try.underlying46
  injection e38 with e38
  injection e38 with e38
  obtain ⟨cs, rfl, hsz⟩ := okWide_struct hfs hv
  rw [show Try.prog.cellsOf 46 = 6 by kernel_rfl] at hsz
  obtain ⟨fuel, hf⟩ := h
  obtain ⟨ys, n, _, _, _, hyl, hx⟩ := DataW.trod_struct hfs hf
  have hone : oneCellFields Try.prog fs = true := by rw [e38]; kernel_rfl
  have hfsz : fs.size = 6 := by rw [e38]; rfl
  have get : ∀ j, j < 6 → ∃ z : Int, cs[j]? = some (.int .i64 z) := by
    intro j hj
    obtain ⟨f, hfj, hft⟩ : ∃ f, fs[j]? = some f ∧ f.type = 3 := by
      rw [e38]
      match j, hj with
      | 0, _ => exact ⟨_, rfl, rfl⟩
      | 1, _ => exact ⟨_, rfl, rfl⟩
      | 2, _ => exact ⟨_, rfl, rfl⟩
      | 3, _ => exact ⟨_, rfl, rfl⟩
      | 4, _ => exact ⟨_, rfl, rfl⟩
      | 5, _ => exact ⟨_, rfl, rfl⟩
    obtain ⟨ho, hk⟩ := hone_of hone j f hfj
    have h1 := hx j f hfj
    rw [ho, hk, hft] at h1
    have hl : j < cs.toList.length := by simp; omega
    have hone' : (((Value.agg cs).cells.toList).drop j).take 1 = [cs.toList[j]'hl] := by
      show (cs.toList.drop j).take 1 = _
      rw [List.drop_eq_getElem_cons hl]
      rfl
    rw [hone'] at h1
    have hys : ys[j]? = some (ys[j]'(by omega)) := List.getElem?_eq_getElem (by omega)
    obtain ⟨z, hz, _, _⟩ := DataW.trod_int Try.underlying3 (h1.trans hys)
    simp at hz
    exact ⟨z, by rw [← hz]; simp⟩
  obtain ⟨z0, q0⟩ := get 0 (by omega)
  obtain ⟨z1, q1⟩ := get 1 (by omega)
  obtain ⟨z2, q2⟩ := get 2 (by omega)
  obtain ⟨z3, q3⟩ := get 3 (by omega)
  obtain ⟨z4, q4⟩ := get 4 (by omega)
  obtain ⟨z5, q5⟩ := get 5 (by omega)
  clear get hx hyl hf hv
  obtain ⟨l⟩ := cs
  match l, hsz, q0, q1, q2, q3, q4, q5 with
  | [c0, c1, c2, c3, c4, c5], _, q0, q1, q2, q3, q4, q5 =>
    simp at q0 q1 q2 q3 q4 q5
    subst q0 q1 q2 q3 q4 q5
    exact ⟨z0, z1, z2, z3, z4, z5, rfl⟩
end Go.Proofs.Ytoofgcdilgfclaa
namespace Go.Proofs.Ytoofgcdilgfclaa
open Go.ChangeShapes Go.WideShapes Go.ChangeAt Go.WideMaps Go.WideElems Go.RowKit Go.Deep

/-- A slice of raw requests that came in. -/
theorem rqs_inB {H : Type} {enc : TypeId × Value → H} {W : World} {a0 : Option Addr} {len cap : Nat} {d : DataW H} {p : List MemPlace} (h : DataW.Trod enc Try.prog W 0 (fun _ => true) true 57 (.slice a0 len cap) d p) :
    ∃ L : List RQ, L.length = len ∧ RQsIn W a0 L ∧ L.length ≤ 9223372036854775807 ∧ ∀ x ∈ L, (-9223372036854775808 ≤ x.bend ∧ x.bend ≤ 9223372036854775807) := by
  obtain ⟨fuel, hf⟩ := h
  obtain ⟨fs, hfs⟩ : ∃ fs, Try.prog.underlying 46 = some (.struct fs) := ⟨_, Try.underlying46⟩
  have e38 := hfs.symm.trans Try.underlying46
  injection e38 with e38
  injection e38 with e38
  have hsz : fs.size = 6 := by rw [e38]; rfl
  rcases fields_in Try.underlying57 hfs (by rw [e38]; kernel_rfl) (by rw [hsz]; kernel_rfl) hf with hcs | ⟨a, len', cap', m, hcs, hlm, hlc, hcm, hi⟩
  · simp [Value.cells] at hcs
    obtain ⟨rfl, rfl, rfl⟩ := hcs
    exact ⟨[], rfl, fun i x hx => by simp at hx, by simp, fun x hx => by simp at hx⟩
  · simp [Value.cells] at hcs
    obtain ⟨rfl, rfl, rfl⟩ := hcs
    unfold maxLen at hcm
    have key : ∀ i, i < len → ∃ x : RQ, ∃ g o, a = ⟨g, o, none⟩ ∧ g < W.heap.size ∧ W.cell? ⟨g, o + i * 6, none⟩ = some (.int .i64 x.kind) ∧ W.cell? ⟨g, o + i * 6 + 1, none⟩ = some (.int .i64 x.stripe) ∧ W.cell? ⟨g, o + i * 6 + 2, none⟩ = some (.int .i64 x.gen) ∧ W.cell? ⟨g, o + i * 6 + 3, none⟩ = some (.int .i64 x.index) ∧ W.cell? ⟨g, o + i * 6 + 4, none⟩ = some (.int .i64 x.seed) ∧ W.cell? ⟨g, o + i * 6 + 5, none⟩ = some (.int .i64 x.bend) ∧ (-9223372036854775808 ≤ x.bend ∧ x.bend ≤ 9223372036854775807) := by
      intro i hil
      obtain ⟨n, hn⟩ := hi i (by omega)
      obtain ⟨n0, h00⟩ := hi 0 (by omega)
      have get : ∀ j, j < 6 → ∃ z : Int, W.cell? (a.add (i * 6 + j)) = some (.int .i64 z) ∧ (-9223372036854775808 ≤ z ∧ z ≤ 9223372036854775807) := by
        intro j hj
        obtain ⟨f, hfj, hft⟩ : ∃ f, fs[j]? = some f ∧ f.type = 3 := by
          rw [e38]
          match j, hj with
          | 0, _ => exact ⟨_, rfl, rfl⟩
          | 1, _ => exact ⟨_, rfl, rfl⟩
          | 2, _ => exact ⟨_, rfl, rfl⟩
          | 3, _ => exact ⟨_, rfl, rfl⟩
          | 4, _ => exact ⟨_, rfl, rfl⟩
          | 5, _ => exact ⟨_, rfl, rfl⟩
        obtain ⟨v, y, hv, hy⟩ := hn j f hfj
        rw [hft] at hy
        obtain ⟨z, hz, _, hw⟩ := DataW.trod_int Try.underlying3 hy
        simp at hz
        subst hz
        rw [hsz] at hv
        exact ⟨z, hv, i64_of hw⟩
      have g0 : ∃ v, W.cell? (a.add 0) = some v := by
        obtain ⟨f, hfj⟩ : ∃ f, fs[0]? = some f := by rw [e38]; exact ⟨_, rfl⟩
        obtain ⟨v, y, hv, hy⟩ := h00 0 f hfj
        rw [hsz] at hv
        exact ⟨v, hv⟩
      obtain ⟨v0, hv0⟩ := g0
      obtain ⟨z0, q0, b0⟩ := get 0 (by omega)
      obtain ⟨z1, q1, b1⟩ := get 1 (by omega)
      obtain ⟨z2, q2, b2⟩ := get 2 (by omega)
      obtain ⟨z3, q3, b3⟩ := get 3 (by omega)
      obtain ⟨z4, q4, b4⟩ := get 4 (by omega)
      obtain ⟨z5, q5, b5⟩ := get 5 (by omega)
      obtain ⟨g, o, rfl, hg, c0⟩ := cell_plain hv0 q0
      obtain ⟨g1, o1, e1, _, c1⟩ := cell_plain hv0 q1
      obtain ⟨g2, o2, e2, _, c2⟩ := cell_plain hv0 q2
      obtain ⟨g3, o3, e3, _, c3⟩ := cell_plain hv0 q3
      obtain ⟨g4, o4, e4, _, c4⟩ := cell_plain hv0 q4
      obtain ⟨g5, o5, e5, _, c5⟩ := cell_plain hv0 q5
      cases e1
      cases e2
      cases e3
      cases e4
      cases e5
      exact ⟨⟨z0, z1, z2, z3, z4, z5⟩, g, o, rfl, hg, c0, c1, c2, c3, c4, c5, b5⟩
    have ex : ∀ n, n ≤ len → ∃ L : List RQ, L.length = n ∧ RQsIn W (some a) L ∧ ∀ x ∈ L, (-9223372036854775808 ≤ x.bend ∧ x.bend ≤ 9223372036854775807) := by
      intro n
      induction n with
      | zero => intro _; exact ⟨[], rfl, fun i x hx => by simp at hx, fun x hx => by simp at hx⟩
      | succ n ih =>
        intro hn
        obtain ⟨L, hl, h1, h1b⟩ := ih (by omega)
        obtain ⟨x, g, o, ea, x1, x2, x3, x4, x5, x6, x7, xb⟩ := key n (by omega)
        refine ⟨L ++ [x], by simp [hl], fun i y hy => ?_, fun y hy => by
          rcases List.mem_append.1 hy with h | h
          · exact h1b y h
          · rw [List.mem_singleton] at h
            rw [h]
            exact xb⟩
        by_cases hi : i < L.length
        · rw [List.getElem?_append_left hi] at hy
          exact h1 i y hy
        · rw [List.getElem?_append_right (by omega)] at hy
          have e : i = n := by
            have := (List.getElem?_eq_some_iff.1 hy).1
            simp at this
            omega
          subst e
          rw [hl, Nat.sub_self] at hy
          cases hy
          exact ⟨g, o, by rw [ea], x1, x2, x3, x4, x5, x6, x7⟩
    obtain ⟨L, hl, h1, h1b⟩ := ex len (Nat.le_refl _)
    exact ⟨L, hl, h1, by omega, h1b⟩
end Go.Proofs.Ytoofgcdilgfclaa
