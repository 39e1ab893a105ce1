import Derived.Test.YtbifpjdkljibeaaDoorE
import Derived.Lib.Hide
namespace Go.Proofs.YtbifpjdkljibeaaDoor
open Go.RowKit

theorem info24 : (Tryd.prog.info? 24).map (fun i => (i.zero, i.size, i.bytes)) = some (some .nilIface, 1, 16) := by kernel_rfl

theorem cell_add {w : World} {g j : Nat} {row : Array Value} {t : TypeId} {fr : Nat × Nat} {u : Value} (hg : w.heap[g]? = some (.cells row t fr)) (hj : row[j]? = some u) : w.cell? ((⟨g, 0, none⟩ : Addr).add j) = some u := by
  by_cases h0 : j = 0
  · subst h0; simp [World.cell?, Addr.add, hg, hj]
  · simp [World.cell?, Addr.add, hg, hj, h0]

set_option maxHeartbeats 400000 in
theorem allUnwrap (b g m cap : Nat) (row : Array Value) (w : World) (h : w.heap[b]? = some (.cells #[.slice (some ⟨g, 0, none⟩) m cap] 35 (0, 0))) (hg : w.heap[g]? = some (.cells row 24 (0, 0)))
    (hm : m ≤ 1000) (h0 : 0 < m) (hr : m ≤ row.size) (h1 : ∀ x ∈ row.toList.take m, Value.oneCell' x = true) :
    Calls Tryd.prog 84 #[.pointer (some ⟨b, 0, none⟩)] w fun e w' => ∃ v, e = .returned v ∧ w'.ownsRow w.heap.size 24 1 v m (row.toList.take m) ∧ Below w.heap.size w w' ∧ v ≠ .slice none 0 0 := by
  have hc : w.cell? ⟨b, 0, none⟩ = some (.slice (some ⟨g, 0, none⟩) m cap) := by simp [World.cell?, h]
  obtain ⟨i0, hi, hz0, hz1, hz2⟩ := info_parts info24
  have HG := Lib.hid hg
  have H1 := Lib.hid h1
  clear h hg h1
  go_enter Tryd.func84, Tryd.ntmps84
  go_wp2_with (at_builtin; refine wpList_append_own _ rfl _ _ 29 rfl w.heap.size 24 i0 .nilIface 1 16 Tryd.underlying29 hi hz0 hz1 hz2 rfl (by decide) _ _ _ rfl (World.ownsRow_nil _ _ _ _) ⟨g, 0, none⟩ m cap (row.toList.take m) rfl ?c1 ?c2 ?c3 ?c4 ?c5 ?c6 ?_)
  case c1 => simp; omega
  case c2 =>
    intro j u hj
    have hg := HG.out
    rw [List.getElem?_take] at hj
    split at hj
    · exact cell_add hg (by simpa using hj)
    · cases hj
  case c3 => exact H1.out
  case c4 => unfold maxLen; omega
  case c5 => omega
  case c6 => exact Nat.le_refl _
  intro v' w' hown hgrow hnil
  have HO := Lib.hid hown
  have HW := Lib.hid hgrow
  have HN := Lib.hid hnil
  clear hown hgrow hnil
  go_wp2
  go_ret
  refine ⟨v', rfl, ?_, (Below.refl _ _).grown HW.out (Nat.le_refl _) (fun k hk => by cases hk), fun e => ?_⟩
  · exact HO.out
  · have := HN.out.1 e; omega

theorem take_row {α : Type} (row : Array Value) (m : Nat) (vs : List (Value × α)) (hl : vs.length = m) (h : ∀ (i : Nat) (x : Value × α), vs[i]? = some x → row[i]? = some x.1) : row.toList.take m = vs.map (·.1) := by
  apply List.ext_getElem?
  intro i
  rw [List.getElem?_take, List.getElem?_map]
  by_cases hi : i < m
  · rw [if_pos hi]
    have hv : i < vs.length := by omega
    have := h i vs[i] (List.getElem?_eq_getElem hv)
    rw [List.getElem?_eq_getElem hv]
    simpa using this
  · rw [if_neg hi, List.getElem?_eq_none (by omega)]; rfl

/-- A slice that owns a row and is not nil: its row, cell by cell. -/
theorem owns_open {w : World} {base m : Nat} {t : TypeId} {v : Value} {xs : List Value} (h : w.ownsRow base t 1 v m xs) (hn : v ≠ .slice none 0 0) :
    ∃ g cap, v = .slice (some ⟨g, 0, none⟩) m cap ∧ base ≤ g ∧ g < w.heap.size ∧ m ≤ cap ∧ cap ≤ maxLen ∧ ∀ i y, xs[i]? = some y → w.cell? ⟨g, i, none⟩ = some y := by
  obtain ⟨_, h | ⟨g, cap, cur, rfl, hb, hg, h1, h2, h3, h4⟩⟩ := h
  · exact absurd h.1 hn
  · refine ⟨g, cap, rfl, hb, ?_, h1, h2, fun i y hy => ?_⟩
    · by_cases hlt : g < w.heap.size
      · exact hlt
      · rw [Array.getElem?_eq_none (by omega)] at hg; cases hg
    · rw [← h4, List.getElem?_take] at hy
      split at hy
      · simp only [Array.getElem?_toList] at hy
        simp [World.cell?, hg, hy]
      · cases hy

theorem flat_none {α : Type} (f : α → List Int) : ∀ (l : List α), (∀ (j : Nat) (z : α), l[j]? = some z → f z = []) → (l.map f).flatten = []
  | [], _ => rfl
  | a :: l, h => by
    have h0 := h 0 a rfl
    have := flat_none f l (fun j z hz => h (j + 1) z (by simpa using hz))
    simp [h0, this]

theorem flat_first {α : Type} (f : α → List Int) (n : Int) (r : List Int) : ∀ (l : List α) (i : Nat) (z : α), l[i]? = some z → (∀ (j : Nat) (z : α), j < i → l[j]? = some z → f z = []) → f z = n :: r → ∃ r', (l.map f).flatten = n :: r'
  | [], i, z, h, _, _ => by cases h
  | a :: l, 0, z, h, _, hz => by
    cases h
    exact ⟨r ++ (l.map f).flatten, by simp [hz]⟩
  | a :: l, i + 1, z, h, hn, hz => by
    have h0 := hn 0 a (by omega) rfl
    obtain ⟨r', hr⟩ := flat_first f n r l i z (by simpa using h) (fun j z hj hz => hn (j + 1) z (by omega) (by simpa using hz)) hz
    exact ⟨r', by simp [h0, hr]⟩

/-- w' is w with new blocks, and block c written. -/
structure But (c : Nat) (w w' : World) : Prop where
  os : w'.os = w.os
  tape : w'.tape = w.tape
  output : w'.output = w.output
  size : w.heap.size ≤ w'.heap.size
  block : ∀ k, k < w.heap.size → k ≠ c → w'.heap[k]? = w.heap[k]?

theorem But.of {c : Nat} {w w' : World} (h : Below w.heap.size w w') : But c w w' := ⟨h.os, h.tape, h.output, h.size, fun k hk _ => h.block k hk⟩
theorem But.trans {c : Nat} {a b d : World} (h : But c a b) (k : But c b d) : But c a d :=
  ⟨k.os.trans h.os, k.tape.trans h.tape, k.output.trans h.output, Nat.le_trans h.size k.size, fun i hi hc => (k.block i (Nat.lt_of_lt_of_le hi h.size) hc).trans (h.block i hi hc)⟩
theorem But.set (c : Nat) (w : World) (v : Value) : But c w (w.setCell ⟨c, 0, none⟩ v) :=
  ⟨rfl, rfl, rfl, by simp [World.setCell], fun k _ hk => Below.heap_setCell _ _ _ _ hk⟩
theorem But.below {c B : Nat} {w w' : World} (h : But c w w') (h1 : B ≤ c) (h2 : B ≤ w.heap.size) : Below B w w' :=
  ⟨h.os, h.tape, h.output, h.size, fun k hk => h.block k (by omega) (by omega)⟩
theorem But.cell {c : Nat} {w w' : World} (h : But c w w') {p : Addr} (hp : p.block < w.heap.size) (hc : p.block ≠ c) : w'.cell? p = w.cell? p := World.cell?_of_block (w := w) (h.block p.block hp hc)
theorem But.frozen {c : Nat} {w w' : World} (h : But c w w') {p : Addr} (hp : p.block < w.heap.size) (hc : p.block ≠ c) : w'.frozen? p = w.frozen? p := World.frozen?_of_block (w := w) (h.block p.block hp hc)

end Go.Proofs.YtbifpjdkljibeaaDoor
