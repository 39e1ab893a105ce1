import Derived.Test.YtbifpjdkljibeaaDoorK2
namespace Go.Proofs.YtbifpjdkljibeaaDoor
open Go.RowKit Go.Extern.Stop Go.Stop Go.Extern Go.Extern.Rtype

def tNone : List UInt8 := [110, 111, 110, 101]
def tNode (n : Int) : List UInt8 := [110, 111, 100, 101, 32] ++ [dig n] ++ [58, 32]
def tStripe (n : Int) : List UInt8 := [115, 116, 114, 105, 112, 101, 32] ++ [dig n] ++ [58, 32]
/-- Texts, with '; ' between. -/
def tAll : List (List UInt8) → List UInt8
  | [] => []
  | [t] => t
  | t :: r => t ++ [59, 32] ++ tAll r

/-- v's text is t, where its codes, nodes and stripes have one digit. -/
def Txt (w : World) (B : Nat) : Nat → Value → List UInt8 → Prop
  | 0, _, _ => False
  | d + 1, v, t =>
    (v = .nilIface ∧ t = tNone) ∨
    (∃ n, v = .iface 26 (.int .i64 n) ∧ 0 ≤ n ∧ n ≤ 9 ∧ t = tErr n) ∨
    (∃ b s, v = .iface 64 (.pointer (some ⟨b, 0, none⟩)) ∧ b < B ∧ w.heap[b]? = some (.cells #[.string s] 66 (0, 0)) ∧ t = s.data.toList) ∨
    (∃ b n x t', v = .iface 32 (.pointer (some ⟨b, 0, none⟩)) ∧ b < B ∧ w.heap[b]? = some (.cells #[.int .i64 n, x] 42 (0, 0)) ∧ 0 ≤ n ∧ n ≤ 9 ∧ Txt w B d x t' ∧ t = tNode n ++ t') ∨
    (∃ b n x t', v = .iface 55 (.pointer (some ⟨b, 0, none⟩)) ∧ b < B ∧ w.heap[b]? = some (.cells #[.int .i64 n, x] 58 (0, 0)) ∧ 0 ≤ n ∧ n ≤ 9 ∧ Txt w B d x t' ∧ t = tStripe n ++ t') ∨
    (∃ b g m cap row, ∃ vs : List (Value × List UInt8), v = .iface 33 (.pointer (some ⟨b, 0, none⟩)) ∧ b < B ∧ g < B ∧ w.heap[b]? = some (.cells #[.slice (some ⟨g, 0, none⟩) m cap] 35 (0, 0)) ∧
      w.heap[g]? = some (.cells row 24 (0, 0)) ∧ (m ≤ 1000 ∧ 0 < m) ∧ vs.length = m ∧ (∀ (i : Nat) (x : Value × List UInt8), vs[i]? = some x → row[i]? = some x.1 ∧ Txt w B d x.1 x.2) ∧ t = tAll (vs.map (·.2)))

theorem Txt.below {w w' : World} {B B' : Nat} (h : Below B w w') (hB : B ≤ B') : ∀ (d : Nat) {v : Value} {t : List UInt8}, Txt w B d v t → Txt w' B' d v t
  | 0, _, _, e => e.elim
  | d + 1, _, _, e => by
    rcases e with e | e | ⟨b, s, e1, e2, e3, e4⟩ | ⟨b, n, x, t', e1, e2, e3, e4, e5, e6, e7⟩ | ⟨b, n, x, t', e1, e2, e3, e4, e5, e6, e7⟩ | ⟨b, g, m, cap, row, vs, e1, e2, e3, e4, e5, e6, e7, e8, e9⟩
    · exact .inl e
    · exact .inr (.inl e)
    · exact .inr (.inr (.inl ⟨b, s, e1, by omega, by rw [h.block b e2]; exact e3, e4⟩))
    · exact .inr (.inr (.inr (.inl ⟨b, n, x, t', e1, by omega, by rw [h.block b e2]; exact e3, e4, e5, Txt.below h hB d e6, e7⟩)))
    · exact .inr (.inr (.inr (.inr (.inl ⟨b, n, x, t', e1, by omega, by rw [h.block b e2]; exact e3, e4, e5, Txt.below h hB d e6, e7⟩))))
    · exact .inr (.inr (.inr (.inr (.inr ⟨b, g, m, cap, row, vs, e1, by omega, by omega, by rw [h.block b e2]; exact e4, by rw [h.block g e3]; exact e5, e6, e7, fun i x hx => ⟨(e8 i x hx).1, Txt.below h hB d (e8 i x hx).2⟩, e9⟩))))

theorem Txt.deeper {w : World} {B : Nat} : ∀ (d : Nat) {v : Value} {t : List UInt8}, Txt w B d v t → Txt w B (d + 1) v t
  | 0, _, _, e => e.elim
  | d + 1, _, _, e => by
    rcases e with e | e | e | ⟨b, n, x, t', e1, e2, e3, e4, e5, e6, e7⟩ | ⟨b, n, x, t', e1, e2, e3, e4, e5, e6, e7⟩ | ⟨b, g, m, cap, row, vs, e1, e2, e3, e4, e5, e6, e7, e8, e9⟩
    · exact .inl e
    · exact .inr (.inl e)
    · exact .inr (.inr (.inl e))
    · exact .inr (.inr (.inr (.inl ⟨b, n, x, t', e1, e2, e3, e4, e5, Txt.deeper d e6, e7⟩)))
    · exact .inr (.inr (.inr (.inr (.inl ⟨b, n, x, t', e1, e2, e3, e4, e5, Txt.deeper d e6, e7⟩))))
    · exact .inr (.inr (.inr (.inr (.inr ⟨b, g, m, cap, row, vs, e1, e2, e3, e4, e5, e6, e7, fun i x hx => ⟨(e8 i x hx).1, Txt.deeper d (e8 i x hx).2⟩, e9⟩))))

/-- The deferred literal of said, where nothing panicked. -/
theorem saidIdle (p : Addr) (w : World) :
    CallsD Tryd.prog 49 #[.pointer (some p)] .returning w fun e u' w' => e = .returned (.tuple #[]) ∧ u' = .returning ∧ w' = w := by
  refine callsD_of_wpS Tryd.func49 rfl fun c₀ cs hu => ?_
  apply wpS_seq
  apply wpS_region
  simp [wpOpsS, go_sem, recoverD, hu, Tryd.ntmps49, Exit.thenS]
  refine wpS_cond (t := false) (by simp [Act.eval, Array.replicate]) ?_
  simp only [Bool.false_eq_true, if_false]
  refine wpS_of_wp (wp_skip ?_)
  cases c₀
  simp_all [bodyPostS, results, Tryd.results49]

/-- What said answers. -/
def SaidPost (t : List UInt8) (w : World) (e : Ending) (w' : World) : Prop := e = .returned (.string ⟨t.toArray⟩) ∧ Below w.heap.size w w'

set_option maxHeartbeats 1000000 in
set_option maxRecDepth 100000 in
theorem saidNil (w : World) : Calls Tryd.prog 45 #[.nilIface] w (SaidPost tNone w) := by
  have hmf : ∀ (fn : Fn) (first cap : Array Value) (w : World), (Instr.makeFunc fn first cap).run Tryd.prog w = .ok (.func fn first cap) w := fun _ _ _ _ => rfl
  have q1 := eqlNilNil
  go_enter_defers Tryd.func45, Tryd.ntmps45
  go_wp2_with fail
  refine leaves_cons (f := 49) (args := #[.pointer (some ⟨w.heap.size, 0, none⟩)]) (by simp) (by simp [go_sem]) ?_
  refine (saidIdle ⟨w.heap.size, 0, none⟩ _).mono ?_
  rintro e u' w'' ⟨rfl, rfl, rfl⟩
  simp [Leaves, settle, results, Tryd.results45, go_sem]
  exact ⟨rfl, (Below.refl _ _).alloc (Nat.le_refl _) _⟩

set_option maxHeartbeats 1000000 in
set_option maxRecDepth 100000 in
theorem saidE (n : Int) (h0 : 0 ≤ n) (h9 : n ≤ 9) (w : World) : Calls Tryd.prog 45 #[.iface 26 (.int .i64 n)] w (SaidPost (tErr n) w) := by
  have hmf : ∀ (fn : Fn) (first cap : Array Value) (w : World), (Instr.makeFunc fn first cap).run Tryd.prog w = .ok (.func fn first cap) w := fun _ _ _ _ => rfl
  have q1 := eqlNil
  have m1 := mErE
  go_enter_defers Tryd.func45, Tryd.ntmps45
  go_wp2_with fail
  refine (errno81 n h0 h9 _).mono ?_
  rintro e w1 ⟨rfl, hb1⟩
  have hcell : w1.cell? ⟨w.heap.size, 0, none⟩ = some (.string ⟨#[]⟩) := by rw [hb1.cell (p := ⟨w.heap.size, 0, none⟩) (by simp)]; simp [go_sem]
  have hfr : w1.frozen? ⟨w.heap.size, 0, none⟩ = false := by rw [hb1.frozen (p := ⟨w.heap.size, 0, none⟩) (by simp)]; simp [go_sem]
  have HB := Lib.hid hb1
  clear hb1
  go_wp2_with fail
  refine leaves_cons (f := 49) (args := #[.pointer (some ⟨w.heap.size, 0, none⟩)]) (by simp) (by simp [go_sem]) ?_
  refine (saidIdle ⟨w.heap.size, 0, none⟩ _).mono ?_
  rintro e u' w'' ⟨rfl, rfl, rfl⟩
  simp [Leaves, settle, results, Tryd.results45, go_sem, hcell]
  exact ⟨rfl, ((Below.refl _ w).alloc (Nat.le_refl _) _).trans ((HB.out.mono (by simp)).setCell (p := ⟨w.heap.size, 0, none⟩) (Nat.le_refl _) _)⟩

set_option maxHeartbeats 1000000 in
set_option maxRecDepth 100000 in
theorem saidS (b : Nat) (s : ByteArray) (w : World) (hb : b < w.heap.size) (hh : w.heap[b]? = some (.cells #[.string s] 66 (0, 0))) : Calls Tryd.prog 45 #[.iface 64 (.pointer (some ⟨b, 0, none⟩))] w (SaidPost s.data.toList w) := by
  have hmf : ∀ (fn : Fn) (first cap : Array Value) (w : World), (Instr.makeFunc fn first cap).run Tryd.prog w = .ok (.func fn first cap) w := fun _ _ _ _ => rfl
  have q1 := eqlNil
  have m1 := mErS
  have m2 := naErS
  have H := Lib.hid (And.intro hb hh)
  clear hb hh
  go_enter_defers Tryd.func45, Tryd.ntmps45
  go_wp2_with fail
  refine (str87 b s _ (by rw [World.cell?_alloc_past _ _ _ H.out.1]; simp [World.cell?, H.out.2])).mono ?_
  rintro e w1 ⟨rfl, rfl⟩
  go_wp2_with fail
  refine leaves_cons (f := 49) (args := #[.pointer (some ⟨w.heap.size, 0, none⟩)]) (by simp) (by simp [go_sem]) ?_
  refine (saidIdle ⟨w.heap.size, 0, none⟩ _).mono ?_
  rintro e u' w'' ⟨rfl, rfl, rfl⟩
  simp [Leaves, settle, results, Tryd.results45, go_sem]
  exact ⟨rfl, (Below.refl _ _).alloc (Nat.le_refl _) _⟩

end Go.Proofs.YtbifpjdkljibeaaDoor
