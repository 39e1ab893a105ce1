import Derived.Test.YtbifpjdkljibeaaDoorD
import Derived.Deep.LoopGhost
namespace Go.Proofs.YtbifpjdkljibeaaDoor
open Go.RowKit

/-- A node of a tree of errors: the value, and its number where it is an *On. -/
abbrev Nd := Value × Option Int

/-- v is, in w, an error of depth d at most whose blocks lie below B; cs, ns, ss: its codes, all its parts, its stripes, in the order in which errors.As goes. -/
def Err (w : World) (B : Nat) : Nat → Value → List Int → List Nd → List Int → Prop
  | 0, _, _, _, _ => False
  | d + 1, v, cs, ns, ss =>
    (∃ n, v = .iface 26 (.int .i64 n) ∧ cs = [n] ∧ ns = [(v, none)] ∧ ss = []) ∨
    (∃ b s, v = .iface 64 (.pointer (some ⟨b, 0, none⟩)) ∧ b < B ∧ w.heap[b]? = some (.cells #[.string s] 66 (0, 0)) ∧ cs = [] ∧ ns = [(v, none)] ∧ ss = []) ∨
    (∃ b n x ns', v = .iface 32 (.pointer (some ⟨b, 0, none⟩)) ∧ b < B ∧ w.heap[b]? = some (.cells #[.int .i64 n, x] 42 (0, 0)) ∧ Err w B d x cs ns' ss ∧ ns = (v, some n) :: ns') ∨
    (∃ b n x ns' ss', v = .iface 55 (.pointer (some ⟨b, 0, none⟩)) ∧ b < B ∧ w.heap[b]? = some (.cells #[.int .i64 n, x] 58 (0, 0)) ∧ Err w B d x cs ns' ss' ∧ ss = n :: ss' ∧ ns = (v, none) :: ns') ∨
    (∃ b g m cap row, ∃ vs : List (Value × List Int × List Nd × List Int), v = .iface 33 (.pointer (some ⟨b, 0, none⟩)) ∧ b < B ∧ g < B ∧ w.heap[b]? = some (.cells #[.slice (some ⟨g, 0, none⟩) m cap] 35 (0, 0)) ∧
      w.heap[g]? = some (.cells row 24 (0, 0)) ∧ m ≤ cap ∧ m ≤ 1000 ∧ 0 < m ∧ vs.length = m ∧ (∀ (i : Nat) (x : Value × List Int × List Nd × List Int), vs[i]? = some x → row[i]? = some x.1 ∧ Err w B d x.1 x.2.1 x.2.2.1 x.2.2.2) ∧
      cs = (vs.map (·.2.1)).flatten ∧ ns = (v, none) :: (vs.map (·.2.2.1)).flatten ∧ ss = (vs.map (·.2.2.2)).flatten)

theorem Err.below {w w' : World} {B : Nat} (h : Below B w w') : ∀ (d : Nat) {v : Value} {cs : List Int} {ns : List Nd} {ss : List Int}, Err w B d v cs ns ss → Err w' B d v cs ns ss
  | 0, _, _, _, _, e => e.elim
  | d + 1, _, _, _, _, e => by
    rcases e with e | ⟨b, s, e1, e2, e3, e4⟩ | ⟨b, n, x, ns', e1, e2, e3, e4, e5⟩ | ⟨b, n, x, ns', ss', e1, e2, e3, e4, e5⟩ | ⟨b, g, m, cap, row, vs, e1, e2, e3, e4, e5, e6, e7, e7', e8, e9, e10⟩
    · exact .inl e
    · exact .inr (.inl ⟨b, s, e1, e2, by rw [h.block b e2]; exact e3, e4⟩)
    · exact .inr (.inr (.inl ⟨b, n, x, ns', e1, e2, by rw [h.block b e2]; exact e3, Err.below h d e4, e5⟩))
    · exact .inr (.inr (.inr (.inl ⟨b, n, x, ns', ss', e1, e2, by rw [h.block b e2]; exact e3, Err.below h d e4, e5⟩)))
    · exact .inr (.inr (.inr (.inr ⟨b, g, m, cap, row, vs, e1, e2, e3, by rw [h.block b e2]; exact e4, by rw [h.block g e3]; exact e5, e6, e7, e7', e8, fun i x hx => ⟨(e9 i x hx).1, Err.below h d (e9 i x hx).2⟩, e10⟩)))

theorem Err.mono {w : World} {B B' : Nat} (h : B ≤ B') : ∀ (d : Nat) {v : Value} {cs : List Int} {ns : List Nd} {ss : List Int}, Err w B d v cs ns ss → Err w B' d v cs ns ss
  | 0, _, _, _, _, e => e.elim
  | d + 1, _, _, _, _, e => by
    rcases e with e | ⟨b, s, e1, e2, e3, e4⟩ | ⟨b, n, x, ns', e1, e2, e3, e4, e5⟩ | ⟨b, n, x, ns', ss', e1, e2, e3, e4, e5⟩ | ⟨b, g, m, cap, row, vs, e1, e2, e3, e4, e5, e6, e7, e7', e8, e9, e10⟩
    · exact .inl e
    · exact .inr (.inl ⟨b, s, e1, by omega, e3, e4⟩)
    · exact .inr (.inr (.inl ⟨b, n, x, ns', e1, by omega, e3, Err.mono h d e4, e5⟩))
    · exact .inr (.inr (.inr (.inl ⟨b, n, x, ns', ss', e1, by omega, e3, Err.mono h d e4, e5⟩)))
    · exact .inr (.inr (.inr (.inr ⟨b, g, m, cap, row, vs, e1, by omega, by omega, e4, e5, e6, e7, e7', e8, fun i x hx => ⟨(e9 i x hx).1, Err.mono h d (e9 i x hx).2⟩, e10⟩)))

theorem Err.deeper {w : World} {B : Nat} : ∀ (d : Nat) {v : Value} {cs : List Int} {ns : List Nd} {ss : List Int}, Err w B d v cs ns ss → Err w B (d + 1) v cs ns ss
  | 0, _, _, _, _, e => e.elim
  | d + 1, _, _, _, _, e => by
    rcases e with e | ⟨b, s, e1, e2, e3, e4⟩ | ⟨b, n, x, ns', e1, e2, e3, e4, e5⟩ | ⟨b, n, x, ns', ss', e1, e2, e3, e4, e5⟩ | ⟨b, g, m, cap, row, vs, e1, e2, e3, e4, e5, e6, e7, e7', e8, e9, e10⟩
    · exact .inl e
    · exact .inr (.inl ⟨b, s, e1, e2, e3, e4⟩)
    · exact .inr (.inr (.inl ⟨b, n, x, ns', e1, e2, e3, Err.deeper d e4, e5⟩))
    · exact .inr (.inr (.inr (.inl ⟨b, n, x, ns', ss', e1, e2, e3, Err.deeper d e4, e5⟩)))
    · exact .inr (.inr (.inr (.inr ⟨b, g, m, cap, row, vs, e1, e2, e3, e4, e5, e6, e7, e7', e8, fun i x hx => ⟨(e9 i x hx).1, Err.deeper d (e9 i x hx).2⟩, e10⟩)))

theorem Err.deep {w : World} {B d d' : Nat} (h : d ≤ d') {v : Value} {cs : List Int} {ns : List Nd} {ss : List Int} (e : Err w B d v cs ns ss) : Err w B d' v cs ns ss := by
  obtain ⟨k, rfl⟩ := Nat.exists_eq_add_of_le h
  induction k with
  | zero => exact e
  | succ k ih => exact Err.deeper _ (ih (by omega))

theorem Err.iface {w : World} {B d : Nat} {v : Value} {cs : List Int} {ns : List Nd} {ss : List Int} (e : Err w B d v cs ns ss) : ∃ t x, v = .iface t x := by
  cases d with
  | zero => exact e.elim
  | succ d => rcases e with ⟨n, rfl, _⟩ | ⟨b, s, rfl, _⟩ | ⟨b, n, x, ns', rfl, _⟩ | ⟨b, n, x, ns', ss', rfl, _⟩ | ⟨b, g, m, cap, row, vs, rfl, _⟩ <;> exact ⟨_, _, rfl⟩

set_option maxHeartbeats 400000 in
theorem onUnwrap (b : Nat) (n x : Value) (w : World) (h : w.heap[b]? = some (.cells #[n, x] 42 (0, 0))) :
    Calls Tryd.prog 83 #[.pointer (some ⟨b, 0, none⟩)] w fun e w' => e = .returned x ∧ w = w' := by
  have hc : w.cell? ⟨b, 1, none⟩ = some x := by simp [World.cell?, h]
  clear h
  go_enter Tryd.func83, Tryd.ntmps83
  go_wp2
  go_ret
  exact ⟨rfl, rfl⟩

set_option maxHeartbeats 400000 in
theorem ofUnwrap (b : Nat) (n x : Value) (w : World) (h : w.heap[b]? = some (.cells #[n, x] 58 (0, 0))) :
    Calls Tryd.prog 86 #[.pointer (some ⟨b, 0, none⟩)] w fun e w' => e = .returned x ∧ w = w' := by
  have hc : w.cell? ⟨b, 1, none⟩ = some x := by simp [World.cell?, h]
  clear h
  go_enter Tryd.func86, Tryd.ntmps86
  go_wp2
  go_ret
  exact ⟨rfl, rfl⟩

end Go.Proofs.YtbifpjdkljibeaaDoor
