import Derived.Test.YtbifpjdkljibeaaDoorG6
import Derived.Test.YtbifpjdkljibeaaDoorN5
namespace Go.Proofs.YtbifpjdkljibeaaDoor
open Go.RowKit Go.Extern.Stop Go.Stop Go.Extern Go.Extern.Rtype

theorem mErF (a : Addr) (w : World) : (method 262 55 (.pointer (some a)) "Error").run Tryd.prog w = .ok (85, .pointer (some a)) w := by kernel_rfl
theorem naErF (a : Addr) (w : World) : (nilAhead 262 55 (.pointer (some a)) "Error").run Tryd.prog w = .ok (some false) w := by kernel_rfl
theorem naErE (n : Int) (w : World) : (nilAhead 262 26 (.int .i64 n) "Error").run Tryd.prog w = .ok (some false) w := by kernel_rfl

/-- An error's text, by the method that its value has. -/
theorem err_meth {w : World} {d : Nat} {t : TypeId} {x : Value} {tx : List UInt8} (T : Txt w w.heap.size d (.iface t x) tx) (hlen : tx.length ≤ 1000000) :
    ∃ (F : FuncId) (R : Value), (F = 81 ∨ F = 87 ∨ F = 82 ∨ F = 85 ∨ F = 16) ∧ (∀ w', (method 262 t x "Error").run Tryd.prog w' = .ok (F, R) w') ∧ (∀ w', (nilAhead 262 t x "Error").run Tryd.prog w' = .ok (some false) w') ∧
      ∀ w', Below w.heap.size w w' → Calls Tryd.prog F #[R] w' fun e w'' => e = .returned (.string ⟨tx.toArray⟩) ∧ Below w'.heap.size w' w'' := by
  cases d with
  | zero => exact T.elim
  | succ d =>
    have T0 := T
    rcases T with ⟨h, _⟩ | ⟨n, h, h0, h9, rfl⟩ | ⟨b, s, h, e2, e3, rfl⟩ | ⟨b, n, y, t', h, _⟩ | ⟨b, n, y, t', h, _⟩ | ⟨b, g, m, cap, row, vs, h, _⟩
    · cases h
    · cases h
      exact ⟨81, _, by decide, mErE n, naErE n, fun w' _ => errno81 n h0 h9 w'⟩
    · cases h
      exact ⟨87, _, by decide, mErS _, naErS _, fun w' hb => Calls.mono (str87 b s w' (by simp [World.cell?, hb.block b e2, e3])) (fun e w'' h => ⟨h.1, by rw [← h.2]; exact Below.refl _ _⟩)⟩
    · cases h
      exact ⟨82, _, by decide, mErN _, naErN _, fun w' hb => onError (d + 1) _ tx w' (T0.below hb hb.size) hlen⟩
    · cases h
      exact ⟨85, _, by decide, mErF _, naErF _, fun w' hb => ofError (d + 1) _ tx w' (T0.below hb hb.size) hlen⟩
    · cases h
      exact ⟨16, _, by decide, mErA _, naErA _, fun w' hb => allError (d + 1) _ tx w' (T0.below hb hb.size) hlen⟩

/-- What stands in the record's block, in the world w'. -/
def SX (w4 w' : World) (b : Nat) (c0 c1 c2 c3 c4 : Value) : Prop := Below w4.heap.size w4 w' ∧ w'.cell? ⟨b, 0, none⟩ = some c0 ∧ w'.cell? ⟨b, 1, none⟩ = some c1 ∧ w'.cell? ⟨b, 2, none⟩ = some c2 ∧ w'.cell? ⟨b, 3, none⟩ = some c3 ∧ w'.cell? ⟨b, 4, none⟩ = some c4

theorem SX.more {w4 w' w'' : World} {b : Nat} {c0 c1 c2 c3 c4 : Value} (h : SX w4 w' b c0 c1 c2 c3 c4) (hb : Below w'.heap.size w' w'') : SX w4 w'' b c0 c1 c2 c3 c4 :=
  ⟨h.1.trans (hb.mono h.1.size), (hb.cell (p := ⟨b, 0, none⟩) (cell?_lt h.2.1)).trans h.2.1, (hb.cell (p := ⟨b, 1, none⟩) (cell?_lt h.2.2.1)).trans h.2.2.1, (hb.cell (p := ⟨b, 2, none⟩) (cell?_lt h.2.2.2.1)).trans h.2.2.2.1, (hb.cell (p := ⟨b, 3, none⟩) (cell?_lt h.2.2.2.2.1)).trans h.2.2.2.2.1, (hb.cell (p := ⟨b, 4, none⟩) (cell?_lt h.2.2.2.2.2)).trans h.2.2.2.2.2⟩

theorem sx_below {w4 w' : World} {b : Nat} {c0 c1 c2 c3 c4 : Value} (h : SX w4 w' b c0 c1 c2 c3 c4) : Below w4.heap.size w4 w' := h.1

theorem nums_nod {w : World} {A : Nat → Prop} {a : Option Addr} {c : Nat} {xs : List Int} (h : NodA w A (.slice a xs.length c) xs) : Nums w a xs := by
  obtain ⟨a', c', e, hn⟩ := nums_of h.1
  cases e
  exact hn

theorem is_code (d : Nat) (v : Value) (cs : List Int) (ns : List Nd) (ss : List Int) (w : World) (m : Int) (herr : Err w w.heap.size d v cs ns ss) :
    Calls Tryd.prog 22 #[v, .iface 26 (.int .i64 m)] w fun e w' => e = .returned (.bool (hasCode m cs)) ∧ Below w.heap.size w w' := by
  refine Calls.mono (is22 d v cs ns ss w w.heap.size (isCode m) 26 _ target26 herr (Nat.le_refl _) (eqAs_code m herr)) ?_
  rintro e w' ⟨he, hb⟩
  rw [anyN_code m d herr] at he
  exact ⟨he, hb⟩

theorem same_bool (b : Bool) : (b == b) = true := by cases b <;> rfl

theorem codeZ_code (cs : List Int) (h : ∀ c ∈ cs, 1 ≤ c) : (codeZ cs = 0 ∧ codeOf cs = 8) ∨ (codeZ cs ≠ 0 ∧ codeOf cs = codeZ cs ∧ hasCode (codeZ cs) cs = true) := by
  cases cs with
  | nil => exact .inl ⟨rfl, rfl⟩
  | cons c cs =>
    have := h c List.mem_cons_self
    exact .inr ⟨by simp [codeZ]; omega, rfl, by simp [hasCode, codeZ]⟩

/-- The region of that number. -/
def findRegion (n : Nat) : Code → Option Code
  | .loop c => findRegion n c
  | .seq a b => match findRegion n a with
    | some c => some c
    | none => findRegion n b
  | .block _ c => findRegion n c
  | .scope c => findRegion n c
  | .cond _ a b => match findRegion n a with
    | some c => some c
    | none => findRegion n b
  | .region k o d => if k = n then some (.region k o d) else none
  | _ => none
noncomputable def reg11 : Code := ((Tryd.f4.body.bind (findRegion 11)).getD .skip)

end Go.Proofs.YtbifpjdkljibeaaDoor
