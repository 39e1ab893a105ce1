import Derived.Test.YtjbicpekpgaokaaChG
import Derived.Test.YtjbicpekpgaokaaD9
namespace Go.Proofs.Ytjbicpekpgaokaa
open Go.RowKit Go.Sort
/-- An act of corbellaw8, as it came in. -/
structure A8 where
  what : Int
  stripe : Int
  gen : Int
  index : Int
  seed : Int
  bend : Int
  ka : Option Addr
  ks : List Int
  kc : Nat
  raw : Value
/-- What its cells hold. -/
def A8At (w : World) (g o : Nat) (x : A8) : Prop :=
  w.cell? ⟨g, o, none⟩ = some (.int .i64 x.what) ∧ w.cell? ⟨g, o + 1, none⟩ = some (.int .i64 x.stripe) ∧ w.cell? ⟨g, o + 2, none⟩ = some (.int .i64 x.gen) ∧ w.cell? ⟨g, o + 3, none⟩ = some (.int .i64 x.index) ∧
  w.cell? ⟨g, o + 4, none⟩ = some (.int .i64 x.seed) ∧ w.cell? ⟨g, o + 5, none⟩ = some (.int .i64 x.bend) ∧ w.cell? ⟨g, o + 6, none⟩ = some (.slice x.ka x.ks.length x.kc) ∧ w.cell? ⟨g, o + 7, none⟩ = some x.raw
def A8In (w : World) (a : Option Addr) (L : List A8) : Prop := ∀ (i : Nat) (x : A8), L[i]? = some x → ∃ g o, a = some ⟨g, o, none⟩ ∧ g < w.heap.size ∧ A8At w g (o + i * 8) x ∧ Nums w x.ka x.ks ∧ x.ks.length ≤ 9223372036854775807 ∧ (-9223372036854775808 ≤ x.bend ∧ x.bend ≤ 9223372036854775807)
theorem A8At.keep {w w' : World} {g o : Nat} {x : A8} (h : A8At w g o x) (e : w'.heap[g]? = w.heap[g]?) : A8At w' g o x := by
  obtain ⟨a, b, c, d, f, i, j, k⟩ := h
  exact ⟨(World.cell?_of_block (w := w) e).trans a, (World.cell?_of_block (w := w) e).trans b, (World.cell?_of_block (w := w) e).trans c, (World.cell?_of_block (w := w) e).trans d, (World.cell?_of_block (w := w) e).trans f, (World.cell?_of_block (w := w) e).trans i, (World.cell?_of_block (w := w) e).trans j, (World.cell?_of_block (w := w) e).trans k⟩
/-- Each act's bytes are a slice. -/
def RawOk (L : List A8) : Prop := ∀ (i : Nat) (x : A8), L[i]? = some x → ∃ ra rn rc, x.raw = .slice ra rn rc
end Go.Proofs.Ytjbicpekpgaokaa
