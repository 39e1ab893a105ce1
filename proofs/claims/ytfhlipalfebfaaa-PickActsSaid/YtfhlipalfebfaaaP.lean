import Derived.Test.YtfhlipalfebfaaaO
import Derived.Laws.StructEq
namespace Go.Proofs.Ytfhlipalfebfaaa
open Go.RowKit Go.Sort

/-- A heap that lives from block B on, in a world that grew out of w0. -/
structure St (B : Nat) (w0 w : World) (hb : Nat) (F : List Nat) (S : List It) : Prop where
  heap : IsHeap w hb F S
  base : ∀ k ∈ F, B ≤ k
  below : Below B w0 w
  le : B ≤ w0.heap.size

theorem St.step {B : Nat} {w0 w w' : World} {hb : Nat} {F F' : List Nat} {S S' : List It} (h : St B w0 w hb F S) (i : IsHeap w' hb F' S') (s : Step F F' w w') : St B w0 w' hb F' S' := by
  have hs := h.below.size
  have hl := h.le
  refine ⟨i, fun k hk => ?_, ⟨s.turn.os.trans h.below.os, s.turn.tape.trans h.below.tape, s.turn.output.trans h.below.output, Nat.le_trans hs s.turn.size, fun k hk => ?_⟩, hl⟩
  · rcases s.blocks k hk with y | y
    · exact h.base k y
    · omega
  · exact (s.turn.block k (by omega) (fun e => by have := h.base k e; omega)).trans (h.below.block k hk)

theorem St.turn {B : Nat} {w0 w w' : World} {hb : Nat} {F G : List Nat} {S : List It} (h : St B w0 w hb F S) (t : Turn G w w') (hG : ∀ k ∈ G, B ≤ k) (hd : ∀ k ∈ F, k ∉ G) : St B w0 w' hb F S := by
  have hs := h.below.size
  have hl := h.le
  exact ⟨h.heap.keep t hd, h.base, ⟨t.os.trans h.below.os, t.tape.trans h.below.tape, t.output.trans h.below.output, Nat.le_trans hs t.size, fun k hk => (t.block k (by omega) (fun e => by have := hG k e; omega)).trans (h.below.block k hk)⟩, hl⟩

theorem St.of {B : Nat} {w0 w w' : World} {hb : Nat} {F : List Nat} {S : List It} (h : St B w0 w hb F S) (t : Below w.heap.size w w') : St B w0 w' hb F S := h.turn (Turn.of (S := []) t) (by simp) (by simp)

/-- A variable of the caller's that holds an item. -/
structure Loc (w : World) (F : List Nat) (b : Nat) (x : It) : Prop where
  c0 : w.cell? ⟨b, 0, none⟩ = some (.int .i64 x.1)
  c1 : w.cell? ⟨b, 1, none⟩ = some (.int .i64 x.2)
  f0 : w.frozen? ⟨b, 0, none⟩ = false
  f1 : w.frozen? ⟨b, 1, none⟩ = false
  far : b ∉ F

theorem Loc.turn {w w' : World} {F G : List Nat} {b : Nat} {x : It} (h : Loc w F b x) (t : Turn G w w') (hg : b ∉ G) : Loc w' F b x := by
  have := cell?_lt h.c0
  exact ⟨(t.cell this hg).trans h.c0, (t.cell this hg).trans h.c1, (t.froz this hg).trans h.f0, (t.froz this hg).trans h.f1, h.far⟩
theorem Loc.step {w w' : World} {F F' : List Nat} {b : Nat} {x : It} (h : Loc w F b x) (s : Step F F' w w') : Loc w' F' b x := by
  have hlt := cell?_lt h.c0
  have := h.turn s.turn h.far
  exact ⟨this.c0, this.c1, this.f0, this.f1, fun e => by
    rcases s.blocks b e with y | y
    · exact h.far y
    · omega⟩
theorem Loc.new {w : World} {hb : Nat} {F : List Nat} {S : List It} (h : IsHeap w hb F S) (x1 x2 : Int) : Loc (w.alloc (.cells #[.int .i64 x1, .int .i64 x2] 26)) F w.heap.size (x1, x2) :=
  ⟨by simp [go_sem], by simp [go_sem], by simp [go_sem], by simp [go_sem], fun e => by have := h.lt _ e; omega⟩

theorem k1 : ins (5, 2) (rem 5 []) = [(5, 2)] := by decide
theorem k2 : ins (3, 2) (rem 3 [(5, 2)]) = [(3, 2), (5, 2)] := by decide
theorem k3 : ins (9, 1) (rem 9 [(3, 2), (5, 2)]) = [(9, 1), (3, 2), (5, 2)] := by decide
theorem k4 : ins (9, 7) (rem 9 [(9, 1), (3, 2), (5, 2)]) = [(3, 2), (5, 2), (9, 7)] := by decide
theorem small (a b : Int) (h : -1000 ≤ a ∧ a ≤ 1000 ∧ -1000 ≤ b ∧ b ≤ 1000) : Wf (a, b) := by
  unfold Wf
  constructor <;> constructor <;> dsimp only <;> omega

theorem put1 (hb : Nat) (F : List Nat) (S S' : List It) (id k : Int) (b : Bool) (w : World) (h : IsHeap w hb F S) (wx : Wf (id, k)) (hl : S.length < 1000) (e : ins (id, k) (rem id S) = S') (eb : (!hasId id S) = b) :
    Calls Try.prog 11 #[.pointer (some ⟨hb, 0, none⟩), .int .i64 id, .int .i64 k] w (HeapPost hb F S' (.bool b) w) := by
  subst e eb
  exact put11 hb F S id k wx w h hl

theorem pop1 (hb : Nat) (F : List Nat) (S S' : List It) (x1 x2 : Int) (b : Bool) (w : World) (h : IsHeap w hb F S) (e : S.tail = S') (e2 : hd S = ((x1, x2), b)) :
    Calls Try.prog 18 #[.pointer (some ⟨hb, 0, none⟩)] w (HeapPost hb F S' (.tuple #[.agg #[.int .i64 x1, .int .i64 x2], .bool b]) w) := by
  have := popH18 hb F S w h
  rw [e, e2] at this
  exact this

theorem f26 : (Try.prog.fieldsOf 26).toList.map (fun f => (f.name, f.type, f.offset)) = [("ID", 3, 0), ("Key", 3, 1)] := by kernel_rfl
theorem st26 : Try.prog.underlying 26 = some (.struct (Try.prog.fieldsOf 26)) := by kernel_rfl
theorem sh26 : Try.prog.stoodInHeld 26 = false := by kernel_rfl
theorem eqItem (d : Nat) (a b x y : Int) (w : World) : (Op.equalIn (d + 2) 26 (.agg #[.int .i64 a, .int .i64 b]) (.agg #[.int .i64 x, .int .i64 y])).run Try.prog w = .ok (a == x && b == y) w := by
  rw [run_equalIn_agg w (d + 1) 26 _ _ st26 sh26]
  have h := f26
  generalize (Try.prog.fieldsOf 26).toList = fs at h
  cases fs with
  | nil => simp at h
  | cons p fs =>
    cases fs with
    | nil => simp at h
    | cons q fs =>
      cases fs with
      | cons r fs => simp at h
      | nil =>
        simp only [List.map_cons, List.map_nil, List.cons.injEq, Prod.mk.injEq, and_true] at h
        obtain ⟨⟨n1, t1, o1⟩, ⟨n2, t2, o2⟩⟩ := h
        have e1 := fun (a b : Int) w => run_equalIn_int w d 3 .i64 .i64 a b Try.underlying3
        simp [Op.eqFields, n1, t1, o1, n2, t2, o2, part, go_sem, e1]
        by_cases h1 : a = x <;> by_cases h2 : b = y <;> simp [h1, h2]
theorem eqlItem (a b x y : Int) (w : World) : (Op.equalIn 10000 26 (.agg #[.int .i64 a, .int .i64 b]) (.agg #[.int .i64 x, .int .i64 y])).run Try.prog w = .ok (a == x && b == y) w := eqItem 9998 a b x y w

set_option maxHeartbeats 4000000 in
set_option maxRecDepth 100000 in
theorem known9 (w : World) : Calls Try.prog 9 #[] w fun e w' => e = .returned (.bool true) ∧ Below w.heap.size w w' := by
  have q := eqlItem
  go_enter Try.func9, Try.ntmps9
  go_wp2_with fail
  refine (new8 w).mono ?_
  rintro e w1 ⟨rfl, h1, b1⟩
  have H1 : Hid (St w.heap.size w w1 w.heap.size [w.heap.size] []) := Lib.hid ⟨h1, by simp, b1, Nat.le_refl _⟩
  clear h1 b1
  generalize hhb : w.heap.size = hb at H1 ⊢
  have HBB := Lib.hid hhb
  clear hhb
  go_wp2_with fail
  refine (put1 hb _ _ _ 5 2 true w1 H1.out.heap (small _ _ (by omega)) (by decide) k1 (by decide)).mono ?_
  rintro e w2 ⟨rfl, F2, i2, s2⟩
  have H2 := Lib.hid (H1.out.step i2 s2)
  clear i2 s2 H1
  go_wp2_with fail
  refine (put1 hb _ _ _ 3 2 true w2 H2.out.heap (small _ _ (by omega)) (by decide) k2 (by decide)).mono ?_
  rintro e w3 ⟨rfl, F3, i3, s3⟩
  have H3 := Lib.hid (H2.out.step i3 s3)
  clear i3 s3 H2
  go_wp2_with fail
  refine (put1 hb _ _ _ 9 1 true w3 H3.out.heap (small _ _ (by omega)) (by decide) k3 (by decide)).mono ?_
  rintro e w4 ⟨rfl, F4, i4, s4⟩
  have H4 := Lib.hid (H3.out.step i4 s4)
  clear i4 s4 H3
  go_wp2_with fail
  refine (put1 hb _ _ _ 9 7 false w4 H4.out.heap (small _ _ (by omega)) (by decide) k4 (by decide)).mono ?_
  rintro e w5 ⟨rfl, F5, i5, s5⟩
  have H5 := Lib.hid (H4.out.step i5 s5)
  clear i5 s5 H4
  go_wp2_with fail
  refine (len15 hb _ _ w5 H5.out.heap).mono ?_
  rintro e w6 ⟨rfl, rfl⟩
  go_wp2_with fail
  refine (pop1 hb _ _ [(5, 2), (9, 7)] 3 2 true w6 H5.out.heap rfl rfl).mono ?_
  rintro e w7 ⟨rfl, F7, i7, s7⟩
  have H7 := Lib.hid ((H5.out.step i7 s7).of ((Below.refl _ _).alloc (Nat.le_refl _) (.cells #[.int .i64 3, .int .i64 2] 26)))
  have L7 := Lib.hid (Loc.new i7 3 2)
  clear i7 s7 H5
  go_wp2_with fail
  generalize hv7 : w7.alloc (.cells #[.int .i64 3, .int .i64 2] 26) = v7 at L7 H7 ⊢
  refine (pop1 hb _ _ [(9, 7)] 5 2 true v7 H7.out.heap rfl rfl).mono ?_
  rintro e w8 ⟨rfl, F8, i8, s8⟩
  have H8 := Lib.hid ((H7.out.step i8 s8).of ((Below.refl _ _).alloc (Nat.le_refl _) (.cells #[.int .i64 5, .int .i64 2] 26)))
  have L8 := Lib.hid (Loc.new i8 5 2)
  have M7 := Lib.hid ((L7.out.step s8).turn (Turn.alloc [] w8 (.cells #[.int .i64 5, .int .i64 2] 26)) (by simp))
  clear L7
  have L7 := M7
  clear M7
  clear i8 s8 H7
  go_wp2_with fail
  generalize hv8 : w8.alloc (.cells #[.int .i64 5, .int .i64 2] 26) = v8 at L7 L8 H8 ⊢
  refine (pop1 hb _ _ [] 9 7 true v8 H8.out.heap rfl rfl).mono ?_
  rintro e w9 ⟨rfl, F9, i9, s9⟩
  have H9 := Lib.hid ((H8.out.step i9 s9).of ((Below.refl _ _).alloc (Nat.le_refl _) (.cells #[.int .i64 9, .int .i64 7] 26)))
  have L9 := Lib.hid (Loc.new i9 9 7)
  have M7 := Lib.hid ((L7.out.step s9).turn (Turn.alloc [] w9 (.cells #[.int .i64 9, .int .i64 7] 26)) (by simp))
  clear L7
  have L7 := M7
  clear M7
  have M8 := Lib.hid ((L8.out.step s9).turn (Turn.alloc [] w9 (.cells #[.int .i64 9, .int .i64 7] 26)) (by simp))
  clear L8
  have L8 := M8
  clear M8
  clear i9 s9 H8
  go_wp2_with fail
  generalize hv9 : w9.alloc (.cells #[.int .i64 9, .int .i64 7] 26) = v9 at L7 L8 L9 H9 ⊢
  refine (pop1 hb _ _ [] 0 0 false v9 H9.out.heap rfl rfl).mono ?_
  rintro e w10 ⟨rfl, F10, i10, s10⟩
  have H10 := Lib.hid ((H9.out.step i10 s10).of ((Below.refl _ _).alloc (Nat.le_refl _) (.cells #[.int .i64 0, .int .i64 0] 26)))
  have L10 := Lib.hid (Loc.new i10 0 0)
  have M7 := Lib.hid ((L7.out.step s10).turn (Turn.alloc [] w10 (.cells #[.int .i64 0, .int .i64 0] 26)) (by simp))
  clear L7
  have L7 := M7
  clear M7
  have M8 := Lib.hid ((L8.out.step s10).turn (Turn.alloc [] w10 (.cells #[.int .i64 0, .int .i64 0] 26)) (by simp))
  clear L8
  have L8 := M8
  clear M8
  have M9 := Lib.hid ((L9.out.step s10).turn (Turn.alloc [] w10 (.cells #[.int .i64 0, .int .i64 0] 26)) (by simp))
  clear L9
  have L9 := M9
  clear M9
  clear i10 s10 H9
  have a0 := L7.out.c0
  have a1 := L7.out.c1
  have b0 := L8.out.c0
  have d0 := L9.out.c0
  have d1 := L9.out.c1
  go_wp2_with fail
  go_ret
  exact ⟨rfl, by rw [HBB.out]; exact H10.out.below⟩
end Go.Proofs.Ytfhlipalfebfaaa
