import Derived.Test.YtoofgcdilgfclaaU30
import Derived.Test.YtoofgcdilgfclaaU37
import Derived.Test.YtoofgcdilgfclaaU09
import Derived.Test.YtoofgcdilgfclaaU11
namespace Go.Proofs.Ytoofgcdilgfclaa
open Go.RowKit Go.Sort
set_option maxRecDepth 100000
set_option maxHeartbeats 1000000

end Go.Proofs.Ytoofgcdilgfclaa
namespace Go.Proofs.Ytoofgcdilgfclaa
open Go.RowKit Go.Sort
set_option maxRecDepth 100000
set_option maxHeartbeats 4000000

end Go.Proofs.Ytoofgcdilgfclaa
namespace Go.Proofs.Ytoofgcdilgfclaa
open Go.RowKit Go.Sort
set_option maxRecDepth 100000
set_option maxHeartbeats 2000000

end Go.Proofs.Ytoofgcdilgfclaa
namespace Go.Proofs.Ytoofgcdilgfclaa
open Go.RowKit Go.Sort
set_option maxRecDepth 100000
set_option maxHeartbeats 2000000

/-! The reference's intents. -/
/-- RightIntent. -/
theorem rrightI (s g : Int) (A : Option Addr) (n cap : Nat) (w : World) (t : Bool) (ht : t = true ↔ OkJ s g n) :
    Calls Try.prog 46 #[iv s g A n cap] w fun e w' => e = .returned (.bool t) ∧ Below w.heap.size w w' := by
  have HB : Hid (Below w.heap.size w (w.alloc (.cells #[.int .i64 s, .int .i64 g, .slice A n cap] 35))) := Lib.hid ((Below.refl _ _).alloc (Nat.le_refl _) _)
  unfold OkJ at ht
  unfold iv
  have walk : True := trivial
  by_cases h0 : 0 ≤ s
  · have p0 := h0
    by_cases h1 : s < 40
    · have p1 := h1
      by_cases h2 : 1 ≤ g
      · have p2 := h2
        by_cases h3 : g ≤ 1099511627776
        · have p3 := h3
          by_cases h4 : (n : Int) = 128
          · have p5 : ((n : Int) == 128) = true := beq_iff_eq.2 h4
            obtain rfl : t = true := ht.2 (by refine ⟨h0, h1, h2, h3, by omega⟩)
            clear ht h0 h1 h2 h3 h4
            go_enter Try.func46, Try.ntmps46
            go_wp2_with fail
            go_ret
            exact ⟨rfl, HB.out⟩
          · obtain rfl : t = false := not_true ht (fun h => by omega)
            have p5 : ((n : Int) == 128) = false := beq_eq_false_iff_ne.2 h4
            clear ht h0 h1 h2 h3 h4
            go_enter Try.func46, Try.ntmps46
            go_wp2_with fail
            go_ret
            exact ⟨rfl, HB.out⟩
        · obtain rfl : t = false := not_true ht (fun h => by omega)
          clear ht h0 h1 h2
          go_enter Try.func46, Try.ntmps46
          go_wp2_with fail
          go_ret
          exact ⟨rfl, HB.out⟩
      · obtain rfl : t = false := not_true ht (fun h => by omega)
        clear ht h0 h1
        go_enter Try.func46, Try.ntmps46
        go_wp2_with fail
        go_ret
        exact ⟨rfl, HB.out⟩
    · obtain rfl : t = false := not_true ht (fun h => by omega)
      clear ht h0
      go_enter Try.func46, Try.ntmps46
      go_wp2_with fail
      go_ret
      exact ⟨rfl, HB.out⟩
  · obtain rfl : t = false := not_true ht (fun h => by omega)
    clear ht 
    go_enter Try.func46, Try.ntmps46
    go_wp2_with fail
    go_ret
    exact ⟨rfl, HB.out⟩
/-- SameIntent. -/
theorem rsameI (s g s' g' : Int) (A A' : Option Addr) (n c n' c' : Nat) (D D' : Nat → Nat) (w : World) (h1 : Rd w A n D) (h2 : Rd w A' n' D') (b1 : ∀ j, j < n → D j < 256) (b2 : ∀ j, j < n' → D' j < 256)
    (t : Bool) (ht : t = true ↔ s = s' ∧ g = g' ∧ n = n' ∧ ∀ j, j < n → D j = D' j) :
    Calls Try.prog 60 #[iv s g A n c, iv s' g' A' n' c'] w fun e w' => e = .returned (.bool t) ∧ Below w.heap.size w w' := by
  have HT := Lib.hid ht
  obtain ⟨w1, hw1⟩ : ∃ w1, (w.alloc (.cells #[.int .i64 s, .int .i64 g, .slice A n c] 35)).alloc (.cells #[.int .i64 s', .int .i64 g', .slice A' n' c'] 35) = w1 := ⟨_, rfl⟩
  have HB1 : Hid (Below w.heap.size w w1) := Lib.hid (by rw [← hw1]; exact ((Below.refl _ _).alloc (Nat.le_refl _) _).alloc (by simp) _)
  have HW1 := Lib.hid hw1
  have v1 := conv_rd (cap := c) (h1.keep HB1.out)
  have v2 := conv_rd (cap := c') (h2.keep HB1.out)
  have HST := Lib.hid (str_eq b1 b2)
  generalize strOf ((List.range n).map D) = s1 at *
  generalize strOf ((List.range n').map D') = s2 at *
  rw [← hw1] at v1 v2
  clear ht h1 h2 b1 b2 hw1
  unfold iv
  by_cases hs : s = s'
  · have e1 : (s == s') = true := beq_iff_eq.2 hs
    have HS := Lib.hid hs
    clear hs
    by_cases hg : g = g'
    · have e2 : (g == g') = true := beq_iff_eq.2 hg
      have HG := Lib.hid hg
      clear hg
      have e4 : (s1.toList == s2.toList) = t := by
        cases ht' : t with
        | true => exact beq_iff_eq.2 (HST.out.2 (HT.out.1 ht').2.2)
        | false => exact beq_eq_false_iff_ne.2 (fun e => by have := HT.out.2 ⟨HS.out, HG.out, HST.out.1 e⟩; rw [ht'] at this; cases this)
      go_enter Try.func60, Try.ntmps60
      go_wp2_with fail
      go_ret
      rw [HW1.out]
      exact ⟨rfl, HB1.out⟩
    · have e2 : (g == g') = false := beq_eq_false_iff_ne.2 hg
      obtain rfl : t = false := not_true HT.out (fun h => hg h.2.1)
      clear hg
      go_enter Try.func60, Try.ntmps60
      go_wp2_with fail
      go_ret
      rw [HW1.out]
      exact ⟨rfl, HB1.out⟩
  · have e1 : (s == s') = false := beq_eq_false_iff_ne.2 hs
    obtain rfl : t = false := not_true HT.out (fun h => hs h.1)
    clear hs
    go_enter Try.func60, Try.ntmps60
    go_wp2_with fail
    go_ret
    rw [HW1.out]
    exact ⟨rfl, HB1.out⟩

theorem rsameIV {w : World} {v v' : Value} {x y : It} (h : ItV w v x) (h' : ItV w v' y) (hx : ∀ j, j < 128 → x.D j < 256) (hy : ∀ j, j < 128 → y.D j < 256) (t : Bool) (ht : t = true ↔ x.Alike y) :
    Calls Try.prog 60 #[v, v'] w fun e w' => e = .returned (.bool t) ∧ Below w.heap.size w w' := by
  obtain ⟨A, c, rfl, d⟩ := h
  obtain ⟨A', c', rfl, d'⟩ := h'
  refine rsameI _ _ _ _ A A' 128 c 128 c' x.D y.D w d.rd d'.rd hx hy t ⟨fun h => ?_, fun h => ht.2 ⟨by omega, by omega, h.2.2.2⟩⟩
  obtain ⟨a, b, e⟩ := ht.1 h
  exact ⟨by omega, by omega, rfl, e⟩
/-- LayIntent. -/
def RILay (no : Nat) (x : It) (w : World) (e : Ending) (w' : World) : Prop := ∃ g cap, e = .returned (.slice (some ⟨g, 0, none⟩) 160 cap) ∧ Blk8 w' g 160 (itS no x) ∧ Below w.heap.size w w' ∧ 160 ≤ cap ∧ w.heap.size ≤ g
end Go.Proofs.Ytoofgcdilgfclaa
