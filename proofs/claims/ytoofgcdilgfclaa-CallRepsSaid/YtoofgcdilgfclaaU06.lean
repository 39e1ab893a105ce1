import Derived.Test.YtoofgcdilgfclaaU04
namespace Go.Proofs.Ytoofgcdilgfclaa
open Go.RowKit Go.Sort
set_option maxRecDepth 100000
set_option maxHeartbeats 1000000

/-- A piece as a value. -/
abbrev pv (s g i : Int) (A : Option Addr) (n cap : Nat) : Value := .agg #[.int .i64 s, .int .i64 g, .int .i64 i, .slice A n cap]
/-- May there be such a piece? -/
def OkI (s g i : Int) (n : Nat) : Prop := 0 ≤ s ∧ s < 40 ∧ 1 ≤ g ∧ g ≤ 1099511627776 ∧ 0 ≤ i ∧ i < 6 ∧ n = 32

/-- chunk.Right. -/
theorem cright (s g i : Int) (A : Option Addr) (n cap : Nat) (w : World) (t : Bool) (ht : t = true ↔ OkI s g i n) :
    Calls Try.prog 56 #[pv s g i A n cap] w fun e w' => e = .returned (.bool t) ∧ Below w.heap.size w w' := by
  have HB : Hid (Below w.heap.size w (w.alloc (.cells #[.int .i64 s, .int .i64 g, .int .i64 i, .slice A n cap] 31))) := Lib.hid ((Below.refl _ _).alloc (Nat.le_refl _) _)
  unfold OkI at ht
  unfold pv
  have walk : True := trivial
  by_cases h0 : 0 ≤ s
  · have p0 := h0
    by_cases h1 : s < 40
    · have p1 := h1
      by_cases h2 : 1 ≤ g
      · have p2 := h2
        by_cases h3 : g ≤ 1099511627776
        · have p3 := h3
          by_cases h4 : 0 ≤ i
          · have p4 := h4
            by_cases h5 : i < 6
            · have p5 := h5
              by_cases h6 : (n : Int) = 32
              · have p6 := h6
                have p7 : ((n : Int) == 32) = true := beq_iff_eq.2 h6
                obtain rfl : t = true := ht.2 (by refine ⟨h0, h1, h2, h3, h4, h5, by omega⟩)
                clear ht h0 h1 h2 h3 h4 h5 h6 p6
                go_enter Try.func56, Try.ntmps56
                go_wp2_with fail
                go_ret
                exact ⟨rfl, HB.out⟩
              · obtain rfl : t = false := not_true ht (fun h => by omega)
                have p7 : ((n : Int) == 32) = false := beq_eq_false_iff_ne.2 h6
                clear ht h0 h1 h2 h3 h4 h5 h6
                go_enter Try.func56, Try.ntmps56
                go_wp2_with fail
                go_ret
                exact ⟨rfl, HB.out⟩
            · obtain rfl : t = false := not_true ht (fun h => by omega)
              clear ht h0 h1 h2 h3 h4
              go_enter Try.func56, Try.ntmps56
              go_wp2_with fail
              go_ret
              exact ⟨rfl, HB.out⟩
          · obtain rfl : t = false := not_true ht (fun h => by omega)
            clear ht h0 h1 h2 h3
            go_enter Try.func56, Try.ntmps56
            go_wp2_with fail
            go_ret
            exact ⟨rfl, HB.out⟩
        · obtain rfl : t = false := not_true ht (fun h => by omega)
          clear ht h0 h1 h2
          go_enter Try.func56, Try.ntmps56
          go_wp2_with fail
          go_ret
          exact ⟨rfl, HB.out⟩
      · obtain rfl : t = false := not_true ht (fun h => by omega)
        clear ht h0 h1
        go_enter Try.func56, Try.ntmps56
        go_wp2_with fail
        go_ret
        exact ⟨rfl, HB.out⟩
    · obtain rfl : t = false := not_true ht (fun h => by omega)
      clear ht h0
      go_enter Try.func56, Try.ntmps56
      go_wp2_with fail
      go_ret
      exact ⟨rfl, HB.out⟩
  · obtain rfl : t = false := not_true ht (fun h => by omega)
    clear ht 
    go_enter Try.func56, Try.ntmps56
    go_wp2_with fail
    go_ret
    exact ⟨rfl, HB.out⟩

/-- RightPiece. -/
theorem rright (s g i : Int) (A : Option Addr) (n cap : Nat) (w : World) (t : Bool) (ht : t = true ↔ OkI s g i n) :
    Calls Try.prog 45 #[pv s g i A n cap] w fun e w' => e = .returned (.bool t) ∧ Below w.heap.size w w' := by
  have HB : Hid (Below w.heap.size w (w.alloc (.cells #[.int .i64 s, .int .i64 g, .int .i64 i, .slice A n cap] 31))) := Lib.hid ((Below.refl _ _).alloc (Nat.le_refl _) _)
  unfold OkI at ht
  unfold pv
  have walk : True := trivial
  by_cases h0 : 0 ≤ s
  · have p0 := h0
    by_cases h1 : s < 40
    · have p1 := h1
      by_cases h2 : 1 ≤ g
      · have p2 := h2
        by_cases h3 : g ≤ 1099511627776
        · have p3 := h3
          by_cases h4 : 0 ≤ i
          · have p4 := h4
            by_cases h5 : i < 6
            · have p5 := h5
              by_cases h6 : (n : Int) = 32
              · have p6 := h6
                have p7 : ((n : Int) == 32) = true := beq_iff_eq.2 h6
                obtain rfl : t = true := ht.2 (by refine ⟨h0, h1, h2, h3, h4, h5, by omega⟩)
                clear ht h0 h1 h2 h3 h4 h5 h6 p6
                go_enter Try.func45, Try.ntmps45
                go_wp2_with fail
                go_ret
                exact ⟨rfl, HB.out⟩
              · obtain rfl : t = false := not_true ht (fun h => by omega)
                have p7 : ((n : Int) == 32) = false := beq_eq_false_iff_ne.2 h6
                clear ht h0 h1 h2 h3 h4 h5 h6
                go_enter Try.func45, Try.ntmps45
                go_wp2_with fail
                go_ret
                exact ⟨rfl, HB.out⟩
            · obtain rfl : t = false := not_true ht (fun h => by omega)
              clear ht h0 h1 h2 h3 h4
              go_enter Try.func45, Try.ntmps45
              go_wp2_with fail
              go_ret
              exact ⟨rfl, HB.out⟩
          · obtain rfl : t = false := not_true ht (fun h => by omega)
            clear ht h0 h1 h2 h3
            go_enter Try.func45, Try.ntmps45
            go_wp2_with fail
            go_ret
            exact ⟨rfl, HB.out⟩
        · obtain rfl : t = false := not_true ht (fun h => by omega)
          clear ht h0 h1 h2
          go_enter Try.func45, Try.ntmps45
          go_wp2_with fail
          go_ret
          exact ⟨rfl, HB.out⟩
      · obtain rfl : t = false := not_true ht (fun h => by omega)
        clear ht h0 h1
        go_enter Try.func45, Try.ntmps45
        go_wp2_with fail
        go_ret
        exact ⟨rfl, HB.out⟩
    · obtain rfl : t = false := not_true ht (fun h => by omega)
      clear ht h0
      go_enter Try.func45, Try.ntmps45
      go_wp2_with fail
      go_ret
      exact ⟨rfl, HB.out⟩
  · obtain rfl : t = false := not_true ht (fun h => by omega)
    clear ht 
    go_enter Try.func45, Try.ntmps45
    go_wp2_with fail
    go_ret
    exact ⟨rfl, HB.out⟩

theorem bits_and1 (g : Int) (h0 : -9223372036854775808 ≤ g) (h1 : g < 9223372036854775808) : bits .and .i64 g 1 = g % 2 := by
  have e : (BitVec.ofInt IntKind.i64.bits g &&& BitVec.ofInt IntKind.i64.bits 1).toNat = (g % 2).toNat := by
    rw [BitVec.toNat_and]
    have e1 : (BitVec.ofInt IntKind.i64.bits 1).toNat = 1 := by decide
    rw [e1, Nat.and_one_is_mod, BitVec.toNat_ofInt]
    have : (2 : Int) ^ IntKind.i64.bits = 18446744073709551616 := by decide
    rw [show ((2 ^ IntKind.i64.bits : Nat) : Int) = 18446744073709551616 by decide]
    omega
  simp only [bits, e]
  rw [IntKind.wrap_i64]
  omega
end Go.Proofs.Ytoofgcdilgfclaa
