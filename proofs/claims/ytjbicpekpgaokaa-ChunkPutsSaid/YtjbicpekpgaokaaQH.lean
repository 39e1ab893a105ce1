import Derived.Test.YtjbicpekpgaokaaAH
import Derived.Test.YtjbicpekpgaokaaQA
import Derived.Deep.Slices
import Derived.Deep.Fields
import Derived.ChangeSame
namespace Go.Proofs.Ytjbicpekpgaokaa
open Go.ChangeShapes Go.WideShapes Go.ChangeAt Go.WideMaps Go.WideElems Go.RowKit Go.Deep

section
variable {H : Type} {enc : TypeId × Value → H} {P : Program} {w : World} {base : Nat} {spare : Nat → Bool} {held : Bool}
/-- A slice of structs of fields of one cell: each field's cell, and its reading. -/
theorem fields_in {t e : TypeId} {fs : Array Field} {fuel : Nat} {cs : List Value} {x : DataW H × List MemPlace} (ht : P.underlying t = some (.slice e)) (he : P.underlying e = some (.struct fs))
    (hone : oneCellFields P fs = true) (hC : P.cellsOf e = fs.size) (h : DataW.trod enc P w base spare held fuel t cs = some x) :
    cs = [.slice none 0 0] ∨
    ∃ (a : Addr) (len cap m : Nat), cs = [.slice (some a) len cap] ∧ len ≤ m ∧ len ≤ cap ∧ cap ≤ maxLen ∧
      ∀ i, i < m → ∃ n : Nat, ∀ (j : Nat) (f : Field), fs[j]? = some f → ∃ (v : Value) (y : DataW H × List MemPlace), w.cell? (a.add (i * fs.size + j)) = some v ∧ DataW.trod enc P w base spare held n f.type [v] = some y := by
  rcases open_slice ht h with ⟨h0, _⟩ | ⟨a, len, cap, m, n, D, Pl, hcs, hb, hl, hm, hmm, hx, hi⟩
  · exact .inl h0
  · refine .inr ⟨a, len, cap, m, hcs, by rw [hmm]; split <;> omega, hl, hm, fun i him => ?_⟩
    obtain ⟨cs', hc, ht'⟩ := hi i him
    rw [hC] at hc
    obtain ⟨ys, n', hn', hy, hlen, hyl, hf⟩ := DataW.trod_struct he ht'
    obtain ⟨_, hcl, hat⟩ := World.cells?_some hc
    refine ⟨n', fun j f hj => ?_⟩
    obtain ⟨ho, hk⟩ := hone_of hone j f hj
    have hjl : j < fs.size := (Array.getElem?_eq_some_iff.1 hj).1
    have hcell := hat j hjl
    have hv : cs'[j]? = some (cs'[j]'(by omega)) := List.getElem?_eq_getElem (by omega)
    have h1 := hf j f hj
    rw [ho, hk] at h1
    have hone' : (cs'.drop j).take 1 = [cs'[j]'(by omega)] := by
      rw [List.drop_eq_getElem_cons (by omega)]
      rfl
    rw [hone'] at h1
    have hys : ys[j]? = some (ys[j]'(by omega)) := List.getElem?_eq_getElem (by omega)
    refine ⟨_, _, ?_, h1.trans hys⟩
    rw [← Go.Deep.add_add, hcell, hv]
end
/-- A field of numbers. -/
theorem ints_at {H : Type} {enc : TypeId × Value → H} {W : World} {n : Nat} {v : Value} {y : DataW H × List MemPlace} (h : DataW.trod enc Try.prog W 0 (fun _ => true) true n 29 [v] = some y) :
    ∃ (a : Option Addr) (xs : List Int) (c : Nat), v = .slice a xs.length c ∧ Nums W a xs ∧ xs.length ≤ 9223372036854775807 := by
  rcases open_ints Try.underlying29 Try.underlying3 cells3 h with ⟨hcs, hx⟩ | ⟨a, len', cap', zs, hcs, _, hl, hm, hz, hx, hcell, hwz⟩
  · simp at hcs
    subst hcs
    exact ⟨none, [], 0, rfl, fun i x hx => by simp at hx, by simp⟩
  · simp at hcs
    subst hcs
    unfold maxLen at hm
    have hzl : len' ≤ zs.length := by rw [hz]; simp; omega
    refine ⟨some a, zs.take len', cap', by rw [List.length_take, Nat.min_eq_left hzl], fun i x hx => ?_, by simp; omega⟩
    rw [List.getElem?_take] at hx
    split at hx
    · have hlt : i < zs.length := by omega
      have hc := hcell i hlt
      rw [List.getD_eq_getElem?_getD, hx] at hc
      obtain ⟨g, o, rfl, h1, h2⟩ := cell_plain (hcell 0 (by omega)) hc
      exact ⟨g, o, rfl, h1, h2⟩
    · cases hx
/-- A slice of acts that came in. -/
theorem acts_inR {H : Type} {enc : TypeId × Value → H} {W : World} {a0 : Option Addr} {len cap : Nat} {d : DataW H} {p : List MemPlace} (h : DataW.Trod enc Try.prog W 0 (fun _ => true) true 51 (.slice a0 len cap) d p) :
    ∃ L : List A8, L.length = len ∧ A8In W a0 L ∧ L.length ≤ 9223372036854775807 ∧ RawOk L := by
  obtain ⟨fuel, hf⟩ := h
  obtain ⟨fs, hfs⟩ : ∃ fs, Try.prog.underlying 57 = some (.struct fs) := ⟨_, Try.underlying57⟩
  have e38 := hfs.symm.trans Try.underlying57
  injection e38 with e38
  injection e38 with e38
  have hsz : fs.size = 8 := by rw [e38]; rfl
  rcases fields_in Try.underlying51 hfs (by rw [e38]; kernel_rfl) (by rw [hsz]; kernel_rfl) hf with hcs | ⟨a, len', cap', m, hcs, hlm, hlc, hcm, hi⟩
  · simp [Value.cells] at hcs
    obtain ⟨rfl, rfl, rfl⟩ := hcs
    exact ⟨[], rfl, fun i x hx => by simp at hx, by simp, fun i x hx => by simp at hx⟩
  · simp [Value.cells] at hcs
    obtain ⟨rfl, rfl, rfl⟩ := hcs
    unfold maxLen at hcm
    have key : ∀ i, i < len → ∃ x : A8, ∃ g o, a = ⟨g, o, none⟩ ∧ g < W.heap.size ∧ A8At W g (o + i * 8) x ∧ Nums W x.ka x.ks ∧ x.ks.length ≤ 9223372036854775807 ∧ (-9223372036854775808 ≤ x.bend ∧ x.bend ≤ 9223372036854775807) ∧ ∃ ra rn rc, x.raw = .slice ra rn rc := by
      intro i hil
      obtain ⟨n, hn⟩ := hi i (by omega)
      obtain ⟨n0, h00⟩ := hi 0 (by omega)
      have get : ∀ j, j < 6 → ∃ z : Int, W.cell? (a.add (i * 8 + j)) = some (.int .i64 z) ∧ (-9223372036854775808 ≤ z ∧ z ≤ 9223372036854775807) := by
        intro j hj
        obtain ⟨f, hfj, hft⟩ : ∃ f, fs[j]? = some f ∧ f.type = 3 := by
          rw [e38]
          match j, hj with
          | 0, _ => exact ⟨_, rfl, rfl⟩
          | 1, _ => exact ⟨_, rfl, rfl⟩
          | 2, _ => exact ⟨_, rfl, rfl⟩
          | 3, _ => exact ⟨_, rfl, rfl⟩
          | 4, _ => exact ⟨_, rfl, rfl⟩
          | 5, _ => exact ⟨_, rfl, rfl⟩
        obtain ⟨v, y, hv, hy⟩ := hn j f hfj
        rw [hft] at hy
        obtain ⟨z, hz, _, hw⟩ := DataW.trod_int Try.underlying3 hy
        simp at hz
        subst hz
        rw [hsz] at hv
        exact ⟨z, hv, i64_of hw⟩
      have g3 : ∃ (b : Option Addr) (xs : List Int) (c : Nat), W.cell? (a.add (i * 8 + 6)) = some (.slice b xs.length c) ∧ Nums W b xs ∧ xs.length ≤ 9223372036854775807 := by
        obtain ⟨f, hfj, hft⟩ : ∃ f, fs[6]? = some f ∧ f.type = 29 := by
          rw [e38]
          exact ⟨_, rfl, rfl⟩
        obtain ⟨v, y, hv, hy⟩ := hn 6 f hfj
        rw [hft] at hy
        rw [hsz] at hv
        obtain ⟨b, xs, c, rfl, h1, h2⟩ := ints_at hy
        exact ⟨b, xs, c, hv, h1, h2⟩
      have g0 : ∃ v, W.cell? (a.add 0) = some v := by
        obtain ⟨f, hfj⟩ : ∃ f, fs[0]? = some f := by rw [e38]; exact ⟨_, rfl⟩
        obtain ⟨v, y, hv, hy⟩ := h00 0 f hfj
        rw [hsz] at hv
        exact ⟨v, hv⟩
      obtain ⟨v0, hv0⟩ := g0
      obtain ⟨z0, q0, _⟩ := get 0 (by omega)
      obtain ⟨z1, q1, _⟩ := get 1 (by omega)
      obtain ⟨z2, q2, _⟩ := get 2 (by omega)
      obtain ⟨z3, q3, _⟩ := get 3 (by omega)
      obtain ⟨z4, q4, _⟩ := get 4 (by omega)
      obtain ⟨z5, q5, w5⟩ := get 5 (by omega)
      obtain ⟨b, xs, c, q6, hn6, hl6⟩ := g3
      have g7 : ∃ v, W.cell? (a.add (i * 8 + 7)) = some v ∧ ∃ ra rn rc, v = .slice ra rn rc := by
        obtain ⟨f, hfj, hft⟩ : ∃ f, fs[7]? = some f ∧ f.type = 22 := by rw [e38]; exact ⟨_, rfl, rfl⟩
        obtain ⟨v, y, hv, hy⟩ := hn 7 f hfj
        rw [hft] at hy
        rw [hsz] at hv
        refine ⟨v, hv, ?_⟩
        rcases open_slice Try.underlying22 hy with ⟨h0, _⟩ | ⟨b, ln, cp, _, _, _, _, hcs, _⟩
        · simp at h0
          exact ⟨none, 0, 0, h0⟩
        · simp at hcs
          exact ⟨some b, ln, cp, hcs⟩
      obtain ⟨v7, q7, hv7⟩ := g7
      obtain ⟨g, o, rfl, hg, c0⟩ := cell_plain hv0 q0
      obtain ⟨g1, o1, e1, _, c1⟩ := cell_plain hv0 q1
      obtain ⟨g2, o2, e2, _, c2⟩ := cell_plain hv0 q2
      obtain ⟨g3, o3, e3, _, c3⟩ := cell_plain hv0 q3
      obtain ⟨g4, o4, e4, _, c4⟩ := cell_plain hv0 q4
      obtain ⟨g5, o5, e5, _, c5⟩ := cell_plain hv0 q5
      obtain ⟨g6, o6, e6, _, c6⟩ := cell_plain hv0 q6
      obtain ⟨g7, o7, e7, _, c7⟩ := cell_plain hv0 q7
      cases e1
      cases e2
      cases e3
      cases e4
      cases e5
      cases e6
      cases e7
      exact ⟨⟨z0, z1, z2, z3, z4, z5, b, xs, c, v7⟩, g, o, rfl, hg, ⟨c0, c1, c2, c3, c4, c5, c6, c7⟩, hn6, hl6, w5, hv7⟩
    have ex : ∀ n, n ≤ len → ∃ L : List A8, L.length = n ∧ A8In W (some a) L ∧ RawOk L := by
      intro n
      induction n with
      | zero => intro _; exact ⟨[], rfl, fun i x hx => by simp at hx, fun i x hx => by simp at hx⟩
      | succ n ih =>
        intro hn
        obtain ⟨L, hl, h1, h1r⟩ := ih (by omega)
        obtain ⟨x, g, o, ea, hx⟩ := key n (by omega)
        suffices hh : ∀ (i : Nat) (y : A8), (L ++ [x])[i]? = some y → (∃ g o, (some a : Option Addr) = some ⟨g, o, none⟩ ∧ g < W.heap.size ∧ A8At W g (o + i * 8) y ∧ Nums W y.ka y.ks ∧ y.ks.length ≤ 9223372036854775807 ∧ (-9223372036854775808 ≤ y.bend ∧ y.bend ≤ 9223372036854775807)) ∧ ∃ ra rn rc, y.raw = .slice ra rn rc by
          exact ⟨L ++ [x], by simp [hl], fun i y hy => (hh i y hy).1, fun i y hy => (hh i y hy).2⟩
        intro i y hy
        by_cases hi : i < L.length
        · rw [List.getElem?_append_left hi] at hy
          exact ⟨h1 i y hy, h1r i y hy⟩
        · rw [List.getElem?_append_right (by omega)] at hy
          have e : i = n := by
            have := (List.getElem?_eq_some_iff.1 hy).1
            simp at this
            omega
          subst e
          rw [hl, Nat.sub_self] at hy
          cases hy
          exact ⟨⟨g, o, by rw [ea], hx.1, hx.2.1, hx.2.2.1, hx.2.2.2.1, hx.2.2.2.2.1⟩, hx.2.2.2.2.2⟩
    obtain ⟨L, hl, h1, h1r⟩ := ex len (Nat.le_refl _)
    exact ⟨L, hl, h1, by omega, h1r⟩
theorem acts_in {H : Type} {enc : TypeId × Value → H} {W : World} {a0 : Option Addr} {len cap : Nat} {d : DataW H} {p : List MemPlace} (h : DataW.Trod enc Try.prog W 0 (fun _ => true) true 51 (.slice a0 len cap) d p) :
    ∃ L : List A8, L.length = len ∧ A8In W a0 L ∧ L.length ≤ 9223372036854775807 := by
  obtain ⟨L, h1, h2, h3, _⟩ := acts_inR h
  exact ⟨L, h1, h2, h3⟩
end Go.Proofs.Ytjbicpekpgaokaa
