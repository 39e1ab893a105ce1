import Derived.Test.YtohmoakahfpjpaaAH
import Derived.Test.YtohmoakahfpjpaaDO
import Derived.Deep.Grids
namespace Go.Proofs.Ytohmoakahfpjpaa
open Go.ChangeShapes Go.WideShapes Go.ChangeAt Go.WideMaps Go.WideElems Go.RowKit

theorem cells4 : Try.prog.cellsOf 4 = 1 := by kernel_rfl

/-- A slice of Booleans that came in. -/
theorem bools_in {H : Type} {enc : TypeId × Value → H} {W : World} {a0 : Option Addr} {len cap : Nat} {d : DataW H} {p : List MemPlace} (h : DataW.Trod enc Try.prog W 0 (fun _ => true) true 53 (.slice a0 len cap) d p) :
    ∃ (xs : List Bool), xs.length = len ∧ Bools W a0 xs ∧ xs.length ≤ 9223372036854775807 := by
  obtain ⟨fuel, hf⟩ := h
  rcases Go.Deep.open_bools Try.underlying53 Try.underlying4 cells4 hf with ⟨hcs, hx⟩ | ⟨a, len', cap', B, hcs, _, hl, hm, hx, hcell⟩
  · simp [Value.cells] at hcs
    obtain ⟨rfl, rfl, rfl⟩ := hcs
    exact ⟨[], rfl, fun i x hx => by simp at hx, by simp⟩
  · simp [Value.cells] at hcs
    obtain ⟨rfl, rfl, rfl⟩ := hcs
    unfold maxLen at hm
    refine ⟨(List.range len).map B, by simp, fun i x hx => ?_, by simp; omega⟩
    rw [List.getElem?_map] at hx
    by_cases hi : i < len
    · rw [List.getElem?_range hi] at hx
      cases hx
      obtain ⟨g, o, rfl, h1, h2⟩ := cell_plain (hcell 0 (by omega)) (hcell i (by omega))
      exact ⟨g, o, rfl, h1, h2⟩
    · rw [List.getElem?_eq_none (by simp; omega)] at hx; cases hx
end Go.Proofs.Ytohmoakahfpjpaa
