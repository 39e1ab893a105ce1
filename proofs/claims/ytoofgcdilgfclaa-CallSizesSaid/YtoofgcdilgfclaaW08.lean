import Derived.Test.YtoofgcdilgfclaaW03
import Derived.Test.YtoofgcdilgfclaaW06
import Derived.Test.YtoofgcdilgfclaaW07
import Derived.Deep.RegionHeld
namespace Go.Proofs.Ytoofgcdilgfclaa
open Go.RowKit Go.Sort
set_option maxRecDepth 100000
set_option maxHeartbeats 1000000

/-- What Seal lays, step by step, is the block. -/
theorem seal_steps (kind n : Nat) (B : Nat → Nat) (hk : kind < 256) (hn : n ≤ 153) : ∀ j, j < 156 →
    (fun j => if 3 ≤ j ∧ j < 3 + n then B (j - 3) else putF (putF (fun _ => 0) 0 1 kind) 1 2 n j) j = headF kind n B j := by
  intro j hj
  unfold headF putF
  dsimp only
  by_cases h0 : j = 0
  · subst h0; rw [if_neg (by omega), if_neg (by omega), if_pos (by omega), if_pos rfl]; exact byte1 kind hk
  · rw [if_neg h0]
    by_cases h1 : j = 1
    · subst h1; rw [if_neg (by omega), if_pos (by omega), if_pos rfl]
    · rw [if_neg h1]
      by_cases h2 : j = 2
      · subst h2; rw [if_neg (by omega), if_pos (by omega), if_pos rfl]
      · rw [if_neg h2]
        by_cases h3 : j < 3 + n
        · rw [if_pos (by omega), if_pos h3]
        · rw [if_neg (by omega), if_neg (by omega), if_neg (by omega), if_neg h3]
theorem seal_end (kind n : Nat) (B F : Nat → Nat) (hF : ∀ j, j < 156 → F j = headF kind n B j) : ∀ j, j < 160 → putF F 156 4 (sumF F 156) j = sealF kind n B j := by
  intro j hj
  unfold putF sealF
  by_cases h : j < 156
  · rw [if_neg (by omega), if_pos h, hF j h]
  · rw [if_pos (by omega), if_neg h, sumF_congr hF]

/-- mark.Seal of what may be. -/
def SealRet (kind n : Nat) (B : Nat → Nat) (w : World) (e : Ending) (w' : World) : Prop :=
  ∃ g, e = .returned (.tuple #[.slice (some ⟨g, 0, none⟩) 160 160, .int .i64 0]) ∧ Blk8 w' g 160 (sealF kind n B) ∧ Below w.heap.size w w' ∧ w.heap.size ≤ g
/-- bytes.Equal. -/
theorem bequal (A1 A2 : Option Addr) (n m c1 c2 : Nat) (F G : Nat → Nat) (w : World) (h1 : Rd w A1 n F) (h2 : Rd w A2 m G) (b1 : ∀ j, j < n → F j < 256) (b2 : ∀ j, j < m → G j < 256) (t : Bool) (ht : t = true ↔ n = m ∧ ∀ j, j < n → F j = G j) :
    Calls Try.prog 58 #[.slice A1 n c1, .slice A2 m c2] w fun e w' => e = .returned (.bool t) ∧ w' = w := by
  have e1 := conv_rd (cap := c1) h1
  have e2 := conv_rd (cap := c2) h2
  have e3 : ((strOf ((List.range n).map F)).toList == (strOf ((List.range m).map G)).toList) = t := by
    cases t with
    | true => exact beq_iff_eq.2 ((str_eq b1 b2).2 (ht.1 rfl))
    | false => exact beq_eq_false_iff_ne.2 (fun e => by have := ht.2 ((str_eq b1 b2).1 e); cases this)
  clear h1 h2 b1 b2 ht
  generalize strOf ((List.range n).map F) = s1 at *
  generalize strOf ((List.range m).map G) = s2 at *
  go_enter Try.func58, Try.ntmps58
  go_wp2_with fail
  go_ret
  exact ⟨rfl, rfl⟩
end Go.Proofs.Ytoofgcdilgfclaa
namespace Go.Proofs.Ytoofgcdilgfclaa
open Go.RowKit Go.Sort
set_option maxRecDepth 100000
set_option maxHeartbeats 1000000

theorem nbytesB {B : Nat} {w0 : World} (x m : Nat) (s : Int) (hs : s = (m : Int)) (w : World) (hm : m ≤ 7) (hB : Below B w0 w) (hl : B ≤ w.heap.size) :
    Calls Try.prog 29 #[.int .i64 (x : Int), .int .i64 s] w fun e w' => ∃ g, e = .returned (.slice (some ⟨g, 0, none⟩) m m) ∧ Blk8 w' g m (byteAt x m) ∧ Below B w0 w' ∧ Below w.heap.size w w' ∧ B ≤ g ∧ B ≤ w'.heap.size :=
  (nbytes x m s hs w hm).mono (by
    rintro e w' ⟨g, rfl, k, b, l⟩
    exact ⟨g, rfl, k, hB.trans (b.mono hl), b, Nat.le_trans hl l, Nat.le_trans hl b.size⟩)
theorem Below.bytes {w w' : World} {A : Option Addr} {n : Nat} {F : Nat → Nat} (b : Below w.heap.size w w') (h : Rd w A n F) : Rd w' A n F := h.keep b
/-- chunk.Lay of a piece that may be. -/
def CLayRet (p : Pc) (w : World) (e : Ending) (w' : World) : Prop :=
  ∃ g, e = .returned (.tuple #[.slice (some ⟨g, 0, none⟩) 160 160, .int .i64 0]) ∧ Blk8 w' g 160 (pcS p) ∧ Below w.heap.size w w' ∧ w.heap.size ≤ g
end Go.Proofs.Ytoofgcdilgfclaa
namespace Go.Proofs.Ytoofgcdilgfclaa
open Go.RowKit Go.Sort
set_option maxRecDepth 100000
set_option maxHeartbeats 1000000

theorem num4_eq (F : Nat → Nat) : num4 F 156 = numF (fun j => F (156 + j)) 4 := by rw [numF_4]; unfold num4; rfl
def OpenRet (F : Nat → Nat) (w : World) (e : Ending) (w' : World) : Prop := ∃ g cap, e = .returned (.tuple #[.int .i64 (F 0 : Nat), .slice (some ⟨g, 0, none⟩) (F 1 * 256 + F 2) cap, .int .i64 0]) ∧ Blk8 w' g (F 1 * 256 + F 2) (fun k => F (3 + k)) ∧ Below w.heap.size w w' ∧ F 1 * 256 + F 2 ≤ cap
end Go.Proofs.Ytoofgcdilgfclaa
