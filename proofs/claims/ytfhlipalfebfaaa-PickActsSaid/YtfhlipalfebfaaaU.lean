import Derived.Test.YtfhlipalfebfaaaT
import Derived.Test.YtfhlipalfebfaaaR
namespace Go.Proofs.Ytfhlipalfebfaaa
open Go.RowKit Go.Sort

/-- An item's two cells, in memory that is none of the heap's. -/
structure Cel (w : World) (F : List Nat) (b : Nat) (x : It) : Prop where
  c0 : w.cell? ⟨b, 0, none⟩ = some (.int .i64 x.1)
  c1 : w.cell? ⟨b, 1, none⟩ = some (.int .i64 x.2)
  far : b ∉ F

theorem Cel.step {w w' : World} {F F' : List Nat} {b : Nat} {x : It} (h : Cel w F b x) (s : Step F F' w w') : Cel w' F' b x := by
  have hlt := cell?_lt h.c0
  exact ⟨(s.turn.cell hlt h.far).trans h.c0, (s.turn.cell hlt h.far).trans h.c1, fun e => by
    rcases s.blocks b e with y | y
    · exact h.far y
    · omega⟩
theorem Cel.of {w w' : World} {F : List Nat} {b : Nat} {x : It} (h : Cel w F b x) (t : Below w.heap.size w w') : Cel w' F b x := by
  have hlt := cell?_lt h.c0
  exact ⟨(t.cell (p := ⟨b, 0, none⟩) hlt).trans h.c0, (t.cell (p := ⟨b, 1, none⟩) hlt).trans h.c1, h.far⟩
theorem Cel.new {w : World} {hb : Nat} {F : List Nat} {S : List It} (h : IsHeap w hb F S) (x1 x2 : Int) : Cel (w.alloc (.cells #[.int .i64 x1, .int .i64 x2] 26)) F w.heap.size (x1, x2) :=
  ⟨by simp [go_sem], by simp [go_sem], fun e => by have := h.lt _ e; omega⟩

theorem peek1 (hb : Nat) (F : List Nat) (S : List It) (x1 x2 : Int) (b : Bool) (w : World) (h : IsHeap w hb F S) (e2 : hd S = ((x1, x2), b)) :
    Calls Try.prog 10 #[.pointer (some ⟨hb, 0, none⟩)] w fun e w' => e = .returned (.tuple #[.agg #[.int .i64 x1, .int .i64 x2], .bool b]) ∧ Below w.heap.size w w' := by
  have := peek10 hb F S w h
  rw [e2] at this
  exact this

theorem key1 (hb : Nat) (F : List Nat) (S : List It) (id k : Int) (b : Bool) (wi : I64 id) (w : World) (h : IsHeap w hb F S) (e : keyAt id S = (k, b)) :
    Calls Try.prog 12 #[.pointer (some ⟨hb, 0, none⟩), .int .i64 id] w fun e w' => e = .returned (.tuple #[.int .i64 k, .bool b]) ∧ w' = w := by
  have := key12 hb F S id wi w h
  rw [e] at this
  exact this

theorem drop1 (hb : Nat) (F : List Nat) (S S' : List It) (id : Int) (b : Bool) (wi : I64 id) (w : World) (h : IsHeap w hb F S) (e : rem id S = S') (eb : hasId id S = b) :
    Calls Try.prog 13 #[.pointer (some ⟨hb, 0, none⟩), .int .i64 id] w (HeapPost hb F S' (.bool b) w) := by
  subst e eb
  exact drop13 hb F S id wi w h

def K0 : List It := []
def K1 : List It := [(0, 50)]
def K2 : List It := [(1, 49), (0, 50)]
def K3 : List It := [(2, 46), (1, 49), (0, 50)]
def K4 : List It := [(2, 46), (3, 48), (1, 49), (0, 50)]
def K5 : List It := [(2, 46), (3, 48), (4, 48), (1, 49), (0, 50)]
def K6 : List It := [(2, 46), (5, 46), (3, 48), (4, 48), (1, 49), (0, 50)]
def K7 : List It := [(2, 46), (5, 46), (3, 48), (4, 48), (1, 49), (6, 49), (0, 50)]
def K8 : List It := [(2, 46), (5, 46), (3, 48), (4, 48), (1, 49), (6, 49), (0, 50), (7, 50)]
def K9 : List It := [(2, 46), (5, 46), (3, 48), (4, 48), (1, 49), (6, 49), (8, 49), (0, 50), (7, 50)]
def K10 : List It := [(2, 46), (5, 46), (9, 46), (3, 48), (4, 48), (1, 49), (6, 49), (8, 49), (0, 50), (7, 50)]
def K11 : List It := [(2, 46), (5, 46), (9, 46), (3, 48), (1, 49), (6, 49), (8, 49), (0, 50), (7, 50)]
def K12 : List It := [(2, 46), (5, 46), (9, 46), (3, 48), (1, 49), (6, 49), (8, 49), (0, 50), (7, 50), (-9223372036854775808, 9223372036854775807)]
def K13 : List It := [(9223372036854775807, -9223372036854775808), (2, 46), (5, 46), (9, 46), (3, 48), (1, 49), (6, 49), (8, 49), (0, 50), (7, 50), (-9223372036854775808, 9223372036854775807)]
theorem q0 : ins (0, 50) (rem 0 K0) = K1 ∧ (!hasId 0 K0) = true := by decide
theorem q1 : ins (1, 49) (rem 1 K1) = K2 ∧ (!hasId 1 K1) = true := by decide
theorem q2 : ins (2, 46) (rem 2 K2) = K3 ∧ (!hasId 2 K2) = true := by decide
theorem q3 : ins (3, 48) (rem 3 K3) = K4 ∧ (!hasId 3 K3) = true := by decide
theorem q4 : ins (4, 48) (rem 4 K4) = K5 ∧ (!hasId 4 K4) = true := by decide
theorem q5 : ins (5, 46) (rem 5 K5) = K6 ∧ (!hasId 5 K5) = true := by decide
theorem q6 : ins (6, 49) (rem 6 K6) = K7 ∧ (!hasId 6 K6) = true := by decide
theorem q7 : ins (7, 50) (rem 7 K7) = K8 ∧ (!hasId 7 K7) = true := by decide
theorem q8 : ins (8, 49) (rem 8 K8) = K9 ∧ (!hasId 8 K8) = true := by decide
theorem q9 : ins (9, 46) (rem 9 K9) = K10 ∧ (!hasId 9 K9) = true := by decide
theorem q11 : keyAt 4 K10 = (48, true) ∧ rem 4 K10 = K11 ∧ hasId 4 K10 = true ∧ rem 4 K11 = K11 ∧ hasId 4 K11 = false ∧ keyAt 4 K11 = (0, false) ∧ hd K11 = ((2, 46), true) := by decide
theorem q12 : ins (-9223372036854775808, 9223372036854775807) (rem (-9223372036854775808) K11) = K12 ∧ (!hasId (-9223372036854775808) K11) = true := by decide
theorem q13 : ins (9223372036854775807, -9223372036854775808) (rem 9223372036854775807 K12) = K13 ∧ (!hasId 9223372036854775807 K12) = true ∧ hd K13 = ((9223372036854775807, -9223372036854775808), true) ∧ K13.length = 11 ∧ K11.length = 9 ∧ at' K11 0 = (2, 46) := by decide
theorem w4 : I64 4 := by constructor <;> omega

set_option maxHeartbeats 4000000 in
set_option maxRecDepth 100000 in
theorem pickKnown3 (w : World) : Calls Try.prog 3 #[] w fun e w' => e = .returned (.bool true) ∧ Below w.heap.size w w' := by
  have q := eqlItem
  go_enter Try.func3, Try.ntmps3
  go_wp2_with fail
  refine (new8 w).mono ?_
  rintro e w1 ⟨rfl, h1, b1⟩
  have H1 : Hid (St w.heap.size w w1 w.heap.size [w.heap.size] []) := Lib.hid ⟨h1, by simp, b1, Nat.le_refl _⟩
  clear h1 b1
  generalize hhb : w.heap.size = hb at H1 ⊢
  have HBB := Lib.hid hhb
  clear hhb
  go_wp2_with fail
  refine (known9 w1).mono ?_
  rintro e w2 ⟨rfl, b2⟩
  have H2 := Lib.hid (H1.out.of b2)
  clear b2 H1
  go_wp2_with fail
  refine (peek1 hb _ [] 0 0 false w2 H2.out.heap rfl).mono ?_
  rintro e w3 ⟨rfl, b3⟩
  have H3 := Lib.hid ((H2.out.of b3).of ((Below.refl _ _).alloc (Nat.le_refl _) (.cells #[.int .i64 0, .int .i64 0] 26)))
  clear b3 H2
  go_wp2_with fail
  revert H3
  generalize w3.alloc (.cells #[.int .i64 0, .int .i64 0] 26) = v0
  generalize w3.heap.size = nb
  intro H3
  have HS0 : Hid (∃ F, St hb w v0 hb F K0) := Lib.hid ⟨_, H3.out⟩
  clear H3
  obtain ⟨F0, hs0⟩ := HS0.out
  have G0 := Lib.hid hs0
  clear HS0 hs0
  refine wp_loop_rounds 11 ?_
  rw [rounds_succ]
  go_wp2_with fail
  refine (put1 hb _ K0 K1 0 50 true v0 G0.out.heap (small _ _ (by omega)) (by decide) q0.1 q0.2).mono ?_
  rintro e v1 ⟨rfl, F1, i1, s1⟩
  have G1 := Lib.hid (G0.out.step i1 s1)
  clear i1 s1 G0
  go_wp2_with fail
  rw [rounds_succ]
  go_wp2_with fail
  refine (put1 hb _ K1 K2 1 49 true v1 G1.out.heap (small _ _ (by omega)) (by decide) q1.1 q1.2).mono ?_
  rintro e v2 ⟨rfl, F2, i2, s2⟩
  have G2 := Lib.hid (G1.out.step i2 s2)
  clear i2 s2 G1
  go_wp2_with fail
  rw [rounds_succ]
  go_wp2_with fail
  refine (put1 hb _ K2 K3 2 46 true v2 G2.out.heap (small _ _ (by omega)) (by decide) q2.1 q2.2).mono ?_
  rintro e v3 ⟨rfl, F3, i3, s3⟩
  have G3 := Lib.hid (G2.out.step i3 s3)
  clear i3 s3 G2
  go_wp2_with fail
  rw [rounds_succ]
  go_wp2_with fail
  refine (put1 hb _ K3 K4 3 48 true v3 G3.out.heap (small _ _ (by omega)) (by decide) q3.1 q3.2).mono ?_
  rintro e v4 ⟨rfl, F4, i4, s4⟩
  have G4 := Lib.hid (G3.out.step i4 s4)
  clear i4 s4 G3
  go_wp2_with fail
  rw [rounds_succ]
  go_wp2_with fail
  refine (put1 hb _ K4 K5 4 48 true v4 G4.out.heap (small _ _ (by omega)) (by decide) q4.1 q4.2).mono ?_
  rintro e v5 ⟨rfl, F5, i5, s5⟩
  have G5 := Lib.hid (G4.out.step i5 s5)
  clear i5 s5 G4
  go_wp2_with fail
  rw [rounds_succ]
  go_wp2_with fail
  refine (put1 hb _ K5 K6 5 46 true v5 G5.out.heap (small _ _ (by omega)) (by decide) q5.1 q5.2).mono ?_
  rintro e v6 ⟨rfl, F6, i6, s6⟩
  have G6 := Lib.hid (G5.out.step i6 s6)
  clear i6 s6 G5
  go_wp2_with fail
  rw [rounds_succ]
  go_wp2_with fail
  refine (put1 hb _ K6 K7 6 49 true v6 G6.out.heap (small _ _ (by omega)) (by decide) q6.1 q6.2).mono ?_
  rintro e v7 ⟨rfl, F7, i7, s7⟩
  have G7 := Lib.hid (G6.out.step i7 s7)
  clear i7 s7 G6
  go_wp2_with fail
  rw [rounds_succ]
  go_wp2_with fail
  refine (put1 hb _ K7 K8 7 50 true v7 G7.out.heap (small _ _ (by omega)) (by decide) q7.1 q7.2).mono ?_
  rintro e v8 ⟨rfl, F8, i8, s8⟩
  have G8 := Lib.hid (G7.out.step i8 s8)
  clear i8 s8 G7
  go_wp2_with fail
  rw [rounds_succ]
  go_wp2_with fail
  refine (put1 hb _ K8 K9 8 49 true v8 G8.out.heap (small _ _ (by omega)) (by decide) q8.1 q8.2).mono ?_
  rintro e v9 ⟨rfl, F9, i9, s9⟩
  have G9 := Lib.hid (G8.out.step i9 s9)
  clear i9 s9 G8
  go_wp2_with fail
  rw [rounds_succ]
  go_wp2_with fail
  refine (put1 hb _ K9 K10 9 46 true v9 G9.out.heap (small _ _ (by omega)) (by decide) q9.1 q9.2).mono ?_
  rintro e v10 ⟨rfl, F10, i10, s10⟩
  have G10 := Lib.hid (G9.out.step i10 s10)
  clear i10 s10 G9
  go_wp2_with fail
  rw [rounds_succ]
  go_wp2_with fail
  refine (key1 hb _ K10 4 48 true w4 v10 G10.out.heap q11.1).mono ?_
  rintro e v ⟨rfl, rfl⟩
  go_wp2_with fail
  refine (drop1 hb _ K10 K11 4 true w4 v G10.out.heap q11.2.1 q11.2.2.1).mono ?_
  rintro e v11 ⟨rfl, F11, i11, s11⟩
  have G11 := Lib.hid (G10.out.step i11 s11)
  clear i11 s11 G10
  go_wp2_with fail
  refine (drop1 hb _ K11 K11 4 false w4 v11 G11.out.heap q11.2.2.2.1 q11.2.2.2.2.1).mono ?_
  rintro e v12 ⟨rfl, F12, i12, s12⟩
  have G12 := Lib.hid (G11.out.step i12 s12)
  clear i12 s12 G11
  go_wp2_with fail
  refine (key1 hb _ K11 4 0 false w4 v12 G12.out.heap q11.2.2.2.2.2.1).mono ?_
  rintro e v13 ⟨rfl, rfl⟩
  go_wp2_with fail
  refine (peek1 hb _ K11 2 46 true v13 G12.out.heap q11.2.2.2.2.2.2).mono ?_
  rintro e v14 ⟨rfl, b14⟩
  have G14 := Lib.hid (G12.out.of b14)
  have C14 := Lib.hid (Cel.new G14.out.heap 2 46)
  have G15 := Lib.hid (G14.out.of ((Below.refl _ _).alloc (Nat.le_refl _) (.cells #[.int .i64 2, .int .i64 46] 26)))
  clear b14 G12 G14
  go_wp2_with fail
  revert C14 G15
  generalize v14.alloc (.cells #[.int .i64 2, .int .i64 46] 26) = v15
  generalize v14.heap.size = fb
  intro C14 G15
  refine (all14 hb _ K11 v15 G15.out.heap).mono ?_
  rintro e v16 ⟨vs, rfl, b16, a, cap, rfl, hsl⟩
  obtain ⟨g, rfl, hg1, hg2, hg3, hg4⟩ := hsl 0 (by decide)
  have G16 := Lib.hid (G15.out.of b16)
  have C16 := Lib.hid (C14.out.of b16)
  rw [q13.2.2.2.2.2] at hg3 hg4
  have D16 : Hid (Cel v16 F12 g (2, 46)) := Lib.hid ⟨hg3, hg4, fun e => by have := G15.out.heap.lt _ e; omega⟩
  rw [q13.2.2.2.2.1]
  clear b16 hsl hg1 hg2 hg3 hg4 G15 C14
  go_wp2_with fail
  refine (put1 hb _ K11 K12 (-9223372036854775808) 9223372036854775807 true v16 G16.out.heap ⟨by constructor <;> omega, by constructor <;> omega⟩ (by decide) q12.1 q12.2).mono ?_
  rintro e v17 ⟨rfl, F17, i17, s17⟩
  have G17 := Lib.hid (G16.out.step i17 s17)
  have C17 := Lib.hid (C16.out.step s17)
  have D17 := Lib.hid (D16.out.step s17)
  clear i17 s17 G16 C16 D16
  go_wp2_with fail
  refine (put1 hb _ K12 K13 9223372036854775807 (-9223372036854775808) true v17 G17.out.heap ⟨by constructor <;> omega, by constructor <;> omega⟩ (by decide) q13.1 q13.2.1).mono ?_
  rintro e v18 ⟨rfl, F18, i18, s18⟩
  have G18 := Lib.hid (G17.out.step i18 s18)
  have C18 := Lib.hid (C17.out.step s18)
  have D18 := Lib.hid (D17.out.step s18)
  clear i18 s18 G17 C17 D17
  go_wp2_with fail
  refine (peek1 hb _ K13 9223372036854775807 (-9223372036854775808) true v18 G18.out.heap q13.2.2.1).mono ?_
  rintro e v19 ⟨rfl, b19⟩
  have G19 := Lib.hid (G18.out.of b19)
  have C19 := Lib.hid ((C18.out.of b19).of ((Below.refl _ _).alloc (Nat.le_refl _) (.cells #[.int .i64 9223372036854775807, .int .i64 (-9223372036854775808)] 26)))
  have D19 := Lib.hid ((D18.out.of b19).of ((Below.refl _ _).alloc (Nat.le_refl _) (.cells #[.int .i64 9223372036854775807, .int .i64 (-9223372036854775808)] 26)))
  have E19 := Lib.hid (Cel.new G19.out.heap 9223372036854775807 (-9223372036854775808))
  have G20 := Lib.hid (G19.out.of ((Below.refl _ _).alloc (Nat.le_refl _) (.cells #[.int .i64 9223372036854775807, .int .i64 (-9223372036854775808)] 26)))
  clear b19 G18 C18 D18 G19
  go_wp2_with fail
  revert C19 D19 E19 G20
  generalize v19.alloc (.cells #[.int .i64 9223372036854775807, .int .i64 (-9223372036854775808)] 26) = v20
  generalize v19.heap.size = lb
  intro C19 D19 E19 G20
  have c0 := C19.out.c0
  have c1 := C19.out.c1
  have d0 := D19.out.c0
  have d1 := D19.out.c1
  have e0 := E19.out.c0
  dsimp only at c0 c1 d0 d1 e0
  have hl11 : ∀ n, Calls Try.prog 15 #[.pointer (some ⟨hb, 0, none⟩)] (v20.drewN n) fun e w' => e = .returned (.int .i64 11) ∧ w' = v20.drewN n := fun n => by
    have := len15 hb _ K13 (v20.drewN n) (G20.out.of (below_drewN n v20)).heap
    rw [q13.2.2.2.1] at this
    exact this
  go_big_quiet ((go_at_call 15; exact Calls.quiet_of_same (hl11 _)))
  go_wp2_with fail
  go_ret
  refine ⟨rfl, ?_⟩
  rw [HBB.out]
  exact (G20.out.of (below_drewN _ v20)).below
end Go.Proofs.Ytfhlipalfebfaaa
