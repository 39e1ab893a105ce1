import Derived.Test.YtoofgcdilgfclaaU08
import Derived.Test.YtoofgcdilgfclaaU06
namespace Go.Proofs.Ytoofgcdilgfclaa
open Go.RowKit Go.Sort
set_option maxRecDepth 100000
set_option maxHeartbeats 1000000

/-- A piece in a variable. -/
def PV (w : World) (b : Nat) (s g i : Int) (A : Option Addr) (n c : Nat) : Prop := w.heap[b]? = some (.cells #[.int .i64 s, .int .i64 g, .int .i64 i, .slice A n c] 31 (0, 0))
theorem PV.c0 {w : World} {b n c : Nat} {s g i : Int} {A : Option Addr} (h : PV w b s g i A n c) : w.cell? ⟨b, 0, none⟩ = some (.int .i64 s) := cell_of_block h
theorem PV.c1 {w : World} {b n c : Nat} {s g i : Int} {A : Option Addr} (h : PV w b s g i A n c) : w.cell? ⟨b, 1, none⟩ = some (.int .i64 g) := cell_of_block h
theorem PV.c2 {w : World} {b n c : Nat} {s g i : Int} {A : Option Addr} (h : PV w b s g i A n c) : w.cell? ⟨b, 2, none⟩ = some (.int .i64 i) := cell_of_block h
theorem PV.c3 {w : World} {b n c : Nat} {s g i : Int} {A : Option Addr} (h : PV w b s g i A n c) : w.cell? ⟨b, 3, none⟩ = some (.slice A n c) := cell_of_block h
theorem PV.f {w : World} {b n c : Nat} {s g i : Int} {A : Option Addr} (h : PV w b s g i A n c) (k : Nat) : w.frozen? ⟨b, k, none⟩ = false := free_of_block h
theorem PV.lt {w : World} {b n c : Nat} {s g i : Int} {A : Option Addr} (h : PV w b s g i A n c) : b < w.heap.size := heap_lt h
theorem PV.keep {w w' : World} {b n c : Nat} {s g i : Int} {A : Option Addr} (h : PV w b s g i A n c) (e : w'.heap[b]? = w.heap[b]?) : PV w' b s g i A n c := e.trans h
theorem PV.below {w w' : World} {b n c : Nat} {s g i : Int} {A : Option Addr} (h : PV w b s g i A n c) (e : Below w.heap.size w w') : PV w' b s g i A n c := (e.block b h.lt).trans h
theorem PV.new (w : World) (s g i : Int) (A : Option Addr) (n c : Nat) : PV (w.alloc (.cells #[.int .i64 s, .int .i64 g, .int .i64 i, .slice A n c] 31)) w.heap.size s g i A n c := alloc_block w _
theorem PV.put {w : World} {b n c n' c' : Nat} {s g i s' g' i' : Int} {A A' : Option Addr} (h : PV w b s g i A n c) :
    PV ((((w.setCell ⟨b, 0, none⟩ (.int .i64 s')).setCell ⟨b, 1, none⟩ (.int .i64 g')).setCell ⟨b, 2, none⟩ (.int .i64 i')).setCell ⟨b, 3, none⟩ (.slice A' n' c')) b s' g' i' A' n' c' := by
  unfold PV at h ⊢
  rw [set_block (set_block (set_block (set_block h 0 _) 1 _) 2 _) 3 _]
  rfl
theorem PV.load {w : World} {b n c : Nat} {s g i : Int} {A : Option Addr} (h : PV w b s g i A n c) : (loadVar 31 ⟨b, 0, none⟩).run Try.prog w = .ok (pv s g i A n c) w := by
  have c0 := h.c0
  have c1 := h.c1
  have c2 := h.c2
  have c3 := h.c3
  have s0 := h.lt
  simp [go_sem, c0, c1, c2, c3, pv]
theorem below_put4 {B : Nat} {w0 w : World} {b : Nat} (h : Below B w0 w) (hb : B ≤ b) (v0 v1 v2 v3 : Value) : Below B w0 ((((w.setCell ⟨b, 0, none⟩ v0).setCell ⟨b, 1, none⟩ v1).setCell ⟨b, 2, none⟩ v2).setCell ⟨b, 3, none⟩ v3) :=
  (((h.setCell hb _).setCell hb _).setCell hb _).setCell hb _
/-- A piece's bytes, in a block of bytes. -/
def Dat (w : World) (A : Option Addr) (D : Nat → Nat) : Prop := ∃ g o cs, A = some ⟨g, o, none⟩ ∧ w.heap[g]? = some (.cells cs 5 (0, 0)) ∧ ∀ j, j < 32 → w.cell? ⟨g, o + j, none⟩ = some (.int .u8 (D j : Nat))
theorem Dat.of {w : World} {g o n : Nat} {D F : Nat → Nat} (h : Blk8 w g n F) (r : Rd w (some ⟨g, o, none⟩) 32 D) : Dat w (some ⟨g, o, none⟩) D := by
  obtain ⟨cs, hb, _⟩ := h
  exact ⟨g, o, cs, rfl, hb, fun j hj => r.some_ hj⟩
theorem Dat.blk {w : World} {g : Nat} {D : Nat → Nat} (h : Blk8 w g 32 D) : Dat w (some ⟨g, 0, none⟩) D := Dat.of h h.rd
theorem Dat.rd {w : World} {A : Option Addr} {D : Nat → Nat} (h : Dat w A D) : Rd w A 32 D := fun _ => by
  obtain ⟨g, o, cs, e, _, hc⟩ := h
  exact ⟨g, o, e, hc⟩
theorem Dat.keep {w w' : World} {A : Option Addr} {D : Nat → Nat} (h : Dat w A D) (k : ∀ (g : Nat) (cs : Array Value), w.heap[g]? = some (Obj.cells cs 5 (0, 0)) → w'.heap[g]? = w.heap[g]?) : Dat w' A D := by
  obtain ⟨g, o, cs, e, hb, hc⟩ := h
  have h1 := k g cs hb
  exact ⟨g, o, cs, e, h1.trans hb, fun j hj => (World.cell?_of_block (w := w) h1).trans (hc j hj)⟩
theorem Dat.below {w w' : World} {A : Option Addr} {D : Nat → Nat} (h : Dat w A D) (b : Below w.heap.size w w') : Dat w' A D := h.keep (fun g _ hb => b.block g (heap_lt hb))
theorem Dat.congr {w : World} {A : Option Addr} {D E : Nat → Nat} (h : Dat w A D) (e : ∀ j, j < 32 → D j = E j) : Dat w A E := by
  obtain ⟨g, o, cs, a, hb, hc⟩ := h
  exact ⟨g, o, cs, a, hb, fun j hj => by rw [← e j hj]; exact hc j hj⟩
/-- A cell of a block of another kind is put. -/
theorem Dat.far {w : World} {A : Option Addr} {D : Nat → Nat} {b k : Nat} {cs : Array Value} {t : TypeId} {fr : Nat × Nat} {v : Value} (h : Dat w A D) (hb : w.heap[b]? = some (.cells cs t fr)) (ht : t ≠ 5) : Dat (w.setCell ⟨b, k, none⟩ v) A D :=
  h.keep (fun g cs' hg => set_other (by rintro rfl; rw [hb] at hg; cases hg; exact ht rfl) k v)
theorem Dat.far4 {w : World} {A : Option Addr} {D : Nat → Nat} {b n c : Nat} {s g i : Int} {B : Option Addr} (h : Dat w A D) (k : PV w b s g i B n c) {v0 v1 v2 v3 : Value} :
    Dat ((((w.setCell ⟨b, 0, none⟩ v0).setCell ⟨b, 1, none⟩ v1).setCell ⟨b, 2, none⟩ v2).setCell ⟨b, 3, none⟩ v3) A D := by
  have h1 := set_block k 0 v0
  have h2 := set_block h1 1 v1
  have h3 := set_block h2 2 v2
  exact (((h.far k (by decide)).far h1 (by decide)).far h2 (by decide)).far h3 (by decide)
theorem PV.of_new {w : World} {H : Nat} (hH : w.heap.size = H) : PV (w.alloc (.cells #[.int .i64 0, .int .i64 0, .int .i64 0, .slice none 0 0] 31)) H 0 0 0 none 0 0 := hH ▸ PV.new w 0 0 0 none 0 0
theorem rdP_s (F : Nat → Nat) : (rdP F).s = F 3 := by unfold rdP pcOf; rfl
theorem rdP_g (F : Nat → Nat) : (rdP F).g = numF (fun j => F (3 + (1 + j))) 6 := by unfold rdP pcOf; rfl
theorem rdP_i (F : Nat → Nat) : (rdP F).i = F 10 := by unfold rdP pcOf; rfl
theorem rdP_D (F : Nat → Nat) (j : Nat) : (rdP F).D j = F (3 + (8 + j)) := by unfold rdP pcOf; rfl
theorem isPc_iff {F : Nat → Nat} (hF : ∀ j, j < 160 → F j < 256) (h1 : OpenOk F) (h2 : num4 F 156 = sumF F 156) (h3 : F 0 = 1) (h8 : 8 ≤ F 1 * 256 + F 2) : OkI ((F 3 : Nat) : Int) ((numF (fun j => F (3 + (1 + j))) 6 : Nat) : Int) ((F 10 : Nat) : Int) (F 1 * 256 + F 2 - 8) ↔ IsPc F := by
  unfold IsPc OkI Pc.Ok
  rw [rdP_s, rdP_g, rdP_i]
  constructor
  · rintro ⟨_, a, b, c, _, d, e⟩
    exact ⟨h1, h2, h3, by omega, by omega, by omega, by omega, by omega, fun j hj => by rw [rdP_D]; exact hF _ (by omega)⟩
  · rintro ⟨_, _, _, a, b, c, d, e, _⟩
    exact ⟨by omega, by omega, by omega, by omega, by omega, by omega, by omega⟩

end Go.Proofs.Ytoofgcdilgfclaa
