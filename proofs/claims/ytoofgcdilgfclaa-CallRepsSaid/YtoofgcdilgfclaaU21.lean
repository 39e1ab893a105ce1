import Derived.Test.YtoofgcdilgfclaaU20
import Derived.Test.YtoofgcdilgfclaaU01
namespace Go.Proofs.Ytoofgcdilgfclaa
open Go.RowKit Go.Sort
set_option maxRecDepth 100000
set_option maxHeartbeats 2000000

/-! A node in memory. -/
section
variable {w w' : World} {n p r boot : Nat}
end
section
variable {w w' : World} {n r p sb : Nat} {S : List Nat} {a : Ns}
end
/-! Requests and replies in memory. -/
abbrev rqv (k s g i : Int) (A : Option Addr) (m c : Nat) : Value := .agg #[.int .i64 k, .int .i64 s, .int .i64 g, .int .i64 i, .slice A m c]
abbrev rpv (code boot : Int) (u v : Value) : Value := .agg #[.int .i64 code, .int .i64 boot, u, v]
def QV (w : World) (b : Nat) (k s g i : Int) (A : Option Addr) (m c : Nat) : Prop := w.heap[b]? = some (.cells #[.int .i64 k, .int .i64 s, .int .i64 g, .int .i64 i, .slice A m c] 27 (0, 0))
section
variable {w w' : World} {b m c : Nat} {k s g i : Int} {A : Option Addr}
theorem QV.c0 (h : QV w b k s g i A m c) : w.cell? ⟨b, 0, none⟩ = some (.int .i64 k) := cell_of_block h
theorem QV.c1 (h : QV w b k s g i A m c) : w.cell? ⟨b, 1, none⟩ = some (.int .i64 s) := cell_of_block h
theorem QV.c2 (h : QV w b k s g i A m c) : w.cell? ⟨b, 2, none⟩ = some (.int .i64 g) := cell_of_block h
theorem QV.c3 (h : QV w b k s g i A m c) : w.cell? ⟨b, 3, none⟩ = some (.int .i64 i) := cell_of_block h
theorem QV.c4 (h : QV w b k s g i A m c) : w.cell? ⟨b, 4, none⟩ = some (.slice A m c) := cell_of_block h
theorem QV.lt (h : QV w b k s g i A m c) : b < w.heap.size := heap_lt h
theorem QV.keep (h : QV w b k s g i A m c) (e : w'.heap[b]? = w.heap[b]?) : QV w' b k s g i A m c := e.trans h
theorem QV.below (h : QV w b k s g i A m c) (e : Below w.heap.size w w') : QV w' b k s g i A m c := h.keep (e.block b h.lt)
theorem QV.of_new {H : Nat} (hH : w.heap.size = H) : QV (w.alloc (.cells #[.int .i64 k, .int .i64 s, .int .i64 g, .int .i64 i, .slice A m c] 27)) H k s g i A m c := by
  subst hH
  exact alloc_block w _
theorem QV.load (h : QV w b k s g i A m c) : (loadVar 27 ⟨b, 0, none⟩).run Try.prog w = .ok (rqv k s g i A m c) w := by
  have z0 := h.c0
  have z1 := h.c1
  have z2 := h.c2
  have z3 := h.c3
  have z4 := h.c4
  have s0 := h.lt
  simp [go_sem, z0, z1, z2, z3, z4, rqv]
end
def RV (w : World) (b : Nat) (code boot : Int) (u v : Value) : Prop := w.heap[b]? = some (.cells #[.int .i64 code, .int .i64 boot, u, v] 39 (0, 0))
section
variable {w w' : World} {b : Nat} {code boot : Int} {u v : Value}
theorem RV.c0 (h : RV w b code boot u v) : w.cell? ⟨b, 0, none⟩ = some (.int .i64 code) := cell_of_block h
theorem RV.c1 (h : RV w b code boot u v) : w.cell? ⟨b, 1, none⟩ = some (.int .i64 boot) := cell_of_block h
theorem RV.c2 (h : RV w b code boot u v) : w.cell? ⟨b, 2, none⟩ = some u := cell_of_block h
theorem RV.c3 (h : RV w b code boot u v) : w.cell? ⟨b, 3, none⟩ = some v := cell_of_block h
theorem RV.f (h : RV w b code boot u v) (k : Nat) : w.frozen? ⟨b, k, none⟩ = false := free_of_block h
theorem RV.lt (h : RV w b code boot u v) : b < w.heap.size := heap_lt h
theorem RV.keep (h : RV w b code boot u v) (e : w'.heap[b]? = w.heap[b]?) : RV w' b code boot u v := e.trans h
theorem RV.below (h : RV w b code boot u v) (e : Below w.heap.size w w') : RV w' b code boot u v := h.keep (e.block b h.lt)
theorem RV.of_new {H : Nat} (hH : w.heap.size = H) : RV (w.alloc (.cells #[.int .i64 code, .int .i64 boot, u, v] 39)) H code boot u v := by
  subst hH
  exact alloc_block w _
theorem RV.put0 (h : RV w b code boot u v) {code' : Int} : RV (w.setCell ⟨b, 0, none⟩ (.int .i64 code')) b code' boot u v := set_block h 0 _
theorem RV.put2 (h : RV w b code boot u v) {u' : Value} : RV (w.setCell ⟨b, 2, none⟩ u') b code boot u' v := set_block h 2 _
theorem RV.put3 (h : RV w b code boot u v) {v' : Value} : RV (w.setCell ⟨b, 3, none⟩ v') b code boot u v' := set_block h 3 _
theorem RV.put4 (h : RV w b code boot u v) {code' boot' : Int} {u' v' : Value} : RV ((((w.setCell ⟨b, 0, none⟩ (.int .i64 code')).setCell ⟨b, 1, none⟩ (.int .i64 boot')).setCell ⟨b, 2, none⟩ u').setCell ⟨b, 3, none⟩ v') b code' boot' u' v' :=
  set_block (set_block (set_block (set_block h 0 _) 1 _) 2 _) 3 _
theorem RV.load {A B : Option Addr} {m c m' c' : Nat} (h : RV w b code boot (.slice A m c) (.slice B m' c')) : (loadVar 39 ⟨b, 0, none⟩).run Try.prog w = .ok (rpv code boot (.slice A m c) (.slice B m' c')) w := by
  have z0 := h.c0
  have z1 := h.c1
  have z2 := h.c2
  have z3 := h.c3
  have s0 := h.lt
  simp [go_sem, z0, z1, z2, z3, rpv]
end
/-- Some bytes, in a block of bytes. -/
def DatN (w : World) (A : Option Addr) (m : Nat) (D : Nat → Nat) : Prop := m = 0 ∨ ∃ g o cs, A = some ⟨g, o, none⟩ ∧ w.heap[g]? = some (.cells cs 5 (0, 0)) ∧ ∀ j, j < m → w.cell? ⟨g, o + j, none⟩ = some (.int .u8 (D j : Nat))
theorem DatN.rd {w : World} {A : Option Addr} {m : Nat} {D : Nat → Nat} (h : DatN w A m D) : Rd w A m D := fun hm => by
  rcases h with h | ⟨g, o, cs, h1, _, h3⟩
  · omega
  · exact ⟨g, o, h1, h3⟩
theorem DatN.datI {w : World} {A : Option Addr} {m : Nat} {D : Nat → Nat} (h : DatN w A m D) (hm : m = 128) : DatI w A D := by
  subst hm
  rcases h with h | h
  · omega
  · exact h
theorem DatN.keep {w w' : World} {A : Option Addr} {m : Nat} {D : Nat → Nat} (h : DatN w A m D) (k : ∀ (g : Nat) (cs : Array Value), w.heap[g]? = some (Obj.cells cs 5 (0, 0)) → w'.heap[g]? = w.heap[g]?) : DatN w' A m D := by
  rcases h with h | ⟨g, o, cs, h1, h2, h3⟩
  · exact Or.inl h
  · have e := k g cs h2
    refine Or.inr ⟨g, o, cs, h1, e.trans h2, fun j hj => ?_⟩
    rw [← h3 j hj]
    exact (cell_of_block (e.trans h2)).trans (cell_of_block h2).symm
theorem DatN.below {w w' : World} {A : Option Addr} {m : Nat} {D : Nat → Nat} (h : DatN w A m D) (b : Below w.heap.size w w') : DatN w' A m D := h.keep (fun g _ hg => b.block g (heap_lt hg))
theorem DatN.blk {w : World} {g m : Nat} {D : Nat → Nat} (h : Blk8 w g m D) : DatN w (some ⟨g, 0, none⟩) m D := by
  obtain ⟨cs, h1, h2, h3⟩ := h
  exact Or.inr ⟨g, 0, cs, rfl, h1, fun j hj => by rw [Nat.zero_add]; exact (cell_of_block h1).trans (h3 j hj)⟩
theorem DatN.none_ {w : World} {A : Option Addr} {D : Nat → Nat} : DatN w A 0 D := Or.inl rfl
/-! The small ones. -/
def PcsRet (l : List Pc) (w : World) (e : Ending) (w' : World) : Prop := ∃ B c, e = .returned (.tuple #[.slice B l.length c, .int .i64 0]) ∧ PL w' w.heap.size (.slice B l.length c) l ∧ Below w.heap.size w w'
end Go.Proofs.Ytoofgcdilgfclaa
namespace Go.Proofs.Ytoofgcdilgfclaa
open Go.RowKit Go.Sort

/-! A raw request. -/
structure RQ where
  kind : Int
  stripe : Int
  gen : Int
  index : Int
  seed : Int
  bend : Int
def RQsIn (w : World) (a : Option Addr) (L : List RQ) : Prop := ∀ (i : Nat) (x : RQ), L[i]? = some x → ∃ g o, a = some ⟨g, o, none⟩ ∧ g < w.heap.size ∧ w.cell? ⟨g, o + i * 6, none⟩ = some (.int .i64 x.kind) ∧ w.cell? ⟨g, o + i * 6 + 1, none⟩ = some (.int .i64 x.stripe) ∧ w.cell? ⟨g, o + i * 6 + 2, none⟩ = some (.int .i64 x.gen) ∧ w.cell? ⟨g, o + i * 6 + 3, none⟩ = some (.int .i64 x.index) ∧ w.cell? ⟨g, o + i * 6 + 4, none⟩ = some (.int .i64 x.seed) ∧ w.cell? ⟨g, o + i * 6 + 5, none⟩ = some (.int .i64 x.bend)
end Go.Proofs.Ytoofgcdilgfclaa
