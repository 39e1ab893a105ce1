import Derived.Test.YtoofgcdilgfclaaV09
namespace Go.Proofs.Ytoofgcdilgfclaa
open Go.RowKit Go.Sort
set_option maxRecDepth 100000
set_option maxHeartbeats 1000000

/-- corbelref3.Seal. -/
theorem own_ge8 {w : World} {B g n cap : Nat} {xs : List Value} (h : w.ownsRow B 5 1 (.slice (some ⟨g, 0, none⟩) n cap) n xs) : B ≤ g := by
  obtain ⟨g', cap', e, h1, _⟩ := own_some h (by simp)
  cases e
  exact h1
def RSealRetB (kind n : Nat) (B : Nat → Nat) (w : World) (e : Ending) (w' : World) : Prop :=
  ∃ g cap, e = .returned (.tuple #[.slice (some ⟨g, 0, none⟩) 160 cap, .bool true]) ∧ Blk8 w' g 160 (sealF kind n B) ∧ Below w.heap.size w w' ∧ 160 ≤ cap ∧ w.heap.size ≤ g
def RSealRet (kind n : Nat) (B : Nat → Nat) (w : World) (e : Ending) (w' : World) : Prop :=
  ∃ g cap, e = .returned (.tuple #[.slice (some ⟨g, 0, none⟩) 160 cap, .bool true]) ∧ Rd w' (some ⟨g, 0, none⟩) 160 (sealF kind n B) ∧ Below w.heap.size w w' ∧ 160 ≤ cap
theorem head_cat (kind n : Nat) (B : Nat → Nat) (X : Nat → Nat) (h0 : X 0 = kind) (h1 : X 1 = byteAt n 2 0) (h2 : X 2 = byteAt n 2 1) : ∀ j, j < 3 + n → (if j < 3 then X j else B (j - 3)) = headF kind n B j := by
  intro j hj
  unfold headF
  by_cases e0 : j = 0
  · subst e0; rw [if_pos (by omega), if_pos rfl, h0]
  · rw [if_neg e0]
    by_cases e1 : j = 1
    · subst e1; rw [if_pos (by omega), if_pos rfl, h1]
    · rw [if_neg e1]
      by_cases e2 : j = 2
      · subst e2; rw [if_pos (by omega), if_pos rfl, h2]
      · rw [if_neg e2, if_neg (by omega), if_pos hj]
theorem head_zero {kind n : Nat} (B : Nat → Nat) {m : Nat} (hm : 3 + n ≤ m) : headF kind n B m = 0 := by
  unfold headF
  rw [if_neg (by omega), if_neg (by omega), if_neg (by omega), if_neg (by omega)]
theorem byte4_lit (S : Nat) (h : S < 4294967291) : (#[.int .u8 ((S : Int) / 16777216), .int .u8 ((S : Int) / 65536 % 256), .int .u8 ((S : Int) / 256 % 256), .int .u8 ((S : Int) % 256)] : Array Value).toList = rowL 4 (byteAt S 4) := by
  show _ = [Value.int .u8 ((byteAt S 4 0 : Nat) : Int), Value.int .u8 ((byteAt S 4 1 : Nat) : Int), Value.int .u8 ((byteAt S 4 2 : Nat) : Int), Value.int .u8 ((byteAt S 4 3 : Nat) : Int)]
  have e0 : byteAt S 4 0 = S / 16777216 := by unfold byteAt; show S / 16777216 % 256 = _; omega
  have e1 : byteAt S 4 1 = S / 65536 % 256 := by unfold byteAt; rfl
  have e2 : byteAt S 4 2 = S / 256 % 256 := by unfold byteAt; rfl
  have e3 : byteAt S 4 3 = S % 256 := by unfold byteAt; show S / 1 % 256 = _; omega
  rw [e0, e1, e2, e3]
  rfl
end Go.Proofs.Ytoofgcdilgfclaa
