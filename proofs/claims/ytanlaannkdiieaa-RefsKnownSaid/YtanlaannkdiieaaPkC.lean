import Derived.Test.YtanlaannkdiieaaPkB
namespace Go.Proofs.Ytanlaannkdiieaa.Pk
open Go.RowKit Go.Sort

theorem mLen (a : Addr) (w : World) : (method 178 51 (.pointer (some a)) "Len").run Try.prog w = .ok (24, .pointer (some a)) w := by kernel_rfl
theorem naLen (a : Addr) (w : World) : (nilAhead 178 51 (.pointer (some a)) "Len").run Try.prog w = .ok (some false) w := by kernel_rfl
theorem mLess (a : Addr) (w : World) : (method 178 51 (.pointer (some a)) "Less").run Try.prog w = .ok (45, .pointer (some a)) w := by kernel_rfl
theorem naLess (a : Addr) (w : World) : (nilAhead 178 51 (.pointer (some a)) "Less").run Try.prog w = .ok (some false) w := by kernel_rfl
theorem mPop (a : Addr) (w : World) : (method 178 51 (.pointer (some a)) "Pop").run Try.prog w = .ok (46, .pointer (some a)) w := by kernel_rfl
theorem naPop (a : Addr) (w : World) : (nilAhead 178 51 (.pointer (some a)) "Pop").run Try.prog w = .ok (some false) w := by kernel_rfl
theorem mPush (a : Addr) (w : World) : (method 178 51 (.pointer (some a)) "Push").run Try.prog w = .ok (47, .pointer (some a)) w := by kernel_rfl
theorem naPush (a : Addr) (w : World) : (nilAhead 178 51 (.pointer (some a)) "Push").run Try.prog w = .ok (some false) w := by kernel_rfl
theorem mSwap (a : Addr) (w : World) : (method 178 51 (.pointer (some a)) "Swap").run Try.prog w = .ok (48, .pointer (some a)) w := by kernel_rfl
theorem naSwap (a : Addr) (w : World) : (nilAhead 178 51 (.pointer (some a)) "Swap").run Try.prog w = .ok (some false) w := by kernel_rfl

def enc (x : It) : List Value := [.int .i64 x.1, .int .i64 x.2]
def at' (l : List It) (i : Nat) : It := l.getD i (0, 0)
abbrev I64 (x : Int) : Prop := -9223372036854775808 ≤ x ∧ x ≤ 9223372036854775807
def Wf (x : It) : Prop := I64 x.1 ∧ I64 x.2
def ltIt (x y : It) : Bool := decide (x.2 < y.2 ∨ x.2 = y.2 ∧ x.1 < y.1)

/-- The row's block: l's elements ahead. -/
structure Row (w : World) (g cap : Nat) (l : List It) : Prop where
  block : ∃ cur, w.heap[g]? = some (.cells cur 41 (0, 0)) ∧ cur.size = cap * 2
  cap : l.length ≤ cap
  id : ∀ i, i < l.length → w.cell? ⟨g, i * 2, none⟩ = some (.int .i64 (at' l i).1)
  key : ∀ i, i < l.length → w.cell? ⟨g, i * 2 + 1, none⟩ = some (.int .i64 (at' l i).2)

theorem below_drewN (n : Nat) (w : World) : Below w.heap.size w (w.drewN n) := ⟨rfl, rfl, rfl, Nat.le_refl _, fun _ _ => rfl⟩
theorem below_grow (w : World) (os : Array Obj) : Below w.heap.size w (grow w os) := ⟨rfl, rfl, rfl, by simp [grow], fun k hk => by simp [grow, Array.getElem?_append, hk]⟩

theorem less66 (hb g cap i j : Nat) (m : Value) (l : List It) (w : World) (h0 : w.heap[hb]? = some (.cells #[.slice (some ⟨g, 0, none⟩) l.length cap, m] 48 (0, 0))) (hR : Row w g cap l) (hi : i < l.length) (hj : j < l.length) :
    Calls Try.prog 45 #[.pointer (some ⟨hb, 0, none⟩), .int .i64 i, .int .i64 j] w fun e w' => e = .returned (.bool (ltIt (at' l i) (at' l j))) ∧ Below w.heap.size w w' := by
  have hc : w.cell? ⟨hb, 0, none⟩ = some (.slice (some ⟨g, 0, none⟩) l.length cap) := by simp [World.cell?, h0]
  have a1 := hR.id i hi
  have a2 := hR.key i hi
  have b1 := hR.id j hj
  have b2 := hR.key j hj
  obtain ⟨x, hx⟩ : ∃ x, at' l i = x := ⟨_, rfl⟩
  obtain ⟨y, hy⟩ : ∃ y, at' l j = y := ⟨_, rfl⟩
  rw [hx] at a1 a2 ⊢
  rw [hy] at b1 b2 ⊢
  obtain ⟨x1, x2⟩ := x
  obtain ⟨y1, y2⟩ := y
  have q1 : (i : Int) < (l.length : Int) := by omega
  have q2 : (j : Int) < (l.length : Int) := by omega
  clear hR h0 hx hy
  go_enter Try.func45, Try.ntmps45
  go_wp2_with fail
  go_still_tail 14, (by kernel_rfl)
  change wpList _ _ _ _ _ w.drew
  go_wp2_with (go_at_call 49; refine (compare24 (x1, x2) (y1, y2) _).mono ?_; rintro e w' ⟨rfl, q, os', rfl⟩)
  go_ret
  have e : decide (cmpIt (x1, x2) (y1, y2) < 0) = ltIt (x1, x2) (y1, y2) := by
    unfold cmpIt orv cmp1 ltIt
    refine decide_eq_decide.2 ?_
    dsimp only
    split <;> rename_i h <;> revert h <;> repeat' split
    all_goals (intros; first | omega | simp_all)
  exact ⟨congrArg (fun b => Ending.returned (Value.bool b)) e, (below_drewN (1 + q) w).trans (below_grow (w.drewN (1 + q)) os')⟩

def swp (l : List It) (i j : Nat) : List It := (l.set i (at' l j)).set j (at' l i)

theorem length_swp (l : List It) (i j : Nat) : (swp l i j).length = l.length := by simp [swp]

theorem at_swp (l : List It) (i j k : Nat) (hi : i < l.length) (hj : j < l.length) : at' (swp l i j) k = if k = j then at' l i else if k = i then at' l j else at' l k := by
  unfold swp at'
  simp only [List.getD_eq_getElem?_getD, List.getElem?_set, List.length_set]
  by_cases h1 : k = j
  · subst h1; simp [hj]
  · by_cases h2 : k = i
    · subst h2; simp [hi, h1, Ne.symm h1]
    · simp [h1, h2, Ne.symm h1, Ne.symm h2]

theorem set_get {w : World} {g o : Nat} {u : Value} (h : w.cell? ⟨g, o, none⟩ = some u) (v : Value) (o' : Nat) : (w.setCell ⟨g, o, none⟩ v).cell? ⟨g, o', none⟩ = if o' = o then some v else w.cell? ⟨g, o', none⟩ := by
  by_cases e : o' = o
  · subst e; rw [if_pos rfl]; exact World.cell?_setCell_same _ _ _ h
  · rw [if_neg e]; exact World.cell?_setCell_other _ _ _ _ (fun h => e (by injection h with _ h _; exact h.symm))

theorem set_block {w : World} {g : Nat} {cur : Array Value} {t : TypeId} {fr : Nat × Nat} (h : w.heap[g]? = some (.cells cur t fr)) (o : Nat) (v : Value) : (w.setCell ⟨g, o, none⟩ v).heap[g]? = some (.cells (cur.setIfInBounds o v) t fr) := by
  simp only [World.setCell, Array.getElem?_modify, h]
  simp

/-- w' is w but for the blocks of S, and new ones. -/
structure Turn (S : List Nat) (w w' : World) : Prop where
  os : w'.os = w.os
  tape : w'.tape = w.tape
  output : w'.output = w.output
  size : w.heap.size ≤ w'.heap.size
  block : ∀ k, k < w.heap.size → k ∉ S → w'.heap[k]? = w.heap[k]?

theorem Turn.refl (S : List Nat) (w : World) : Turn S w w := ⟨rfl, rfl, rfl, Nat.le_refl _, fun _ _ _ => rfl⟩
theorem Turn.trans {S : List Nat} {a b c : World} (h : Turn S a b) (k : Turn S b c) : Turn S a c :=
  ⟨k.os.trans h.os, k.tape.trans h.tape, k.output.trans h.output, Nat.le_trans h.size k.size, fun i hi hc => (k.block i (Nat.lt_of_lt_of_le hi h.size) hc).trans (h.block i hi hc)⟩
theorem Turn.mono {S S' : List Nat} {a b : World} (h : Turn S a b) (hs : ∀ k ∈ S, k ∈ S') : Turn S' a b := ⟨h.os, h.tape, h.output, h.size, fun k hk hn => h.block k hk (fun hm => hn (hs k hm))⟩
theorem Turn.set (S : List Nat) (w : World) (p : Addr) (v : Value) (hp : p.block ∈ S) : Turn S w (w.setCell p v) :=
  ⟨rfl, rfl, rfl, by simp, fun k _ hk => Below.heap_setCell _ _ _ _ (fun e => hk (e ▸ hp))⟩
theorem Turn.drew (S : List Nat) (w : World) : Turn S w w.drew := ⟨rfl, rfl, rfl, Nat.le_refl _, fun _ _ _ => rfl⟩
theorem Turn.map {S : List Nat} {w w' : World} {b : Nat} (h : w.mapTurned w' b) (hb : b ∈ S) : Turn S w w' :=
  ⟨h.grown.os, h.grown.tape, h.grown.output, h.grown.size, fun k hk hn => h.grown.block k hk (fun e => hn (by cases e; exact hb))⟩
theorem Turn.of {S : List Nat} {w w' : World} (h : Below w.heap.size w w') : Turn S w w' := ⟨h.os, h.tape, h.output, h.size, fun k hk _ => h.block k hk⟩

theorem lt_size {w : World} {b : Nat} {o : Obj} (h : w.heap[b]? = some o) : b < w.heap.size := by
  by_cases hb : b < w.heap.size
  · exact hb
  · rw [Array.getElem?_eq_none (by omega)] at h; cases h

theorem Row.keep {w w' : World} {g cap : Nat} {l : List It} (h : Row w g cap l) (e : w'.heap[g]? = w.heap[g]?) : Row w' g cap l := by
  obtain ⟨⟨cur, h1, h2⟩, h3, h4, h5⟩ := h
  exact ⟨⟨cur, e.trans h1, h2⟩, h3, fun i hi => (World.cell?_of_block (w := w) e).trans (h4 i hi), fun i hi => (World.cell?_of_block (w := w) e).trans (h5 i hi)⟩

theorem Row.swap {w : World} {g cap : Nat} {l : List It} (h : Row w g cap l) {i j : Nat} (hi : i < l.length) (hj : j < l.length) :
    Row ((((w.setCell ⟨g, i * 2, none⟩ (.int .i64 (at' l j).1)).setCell ⟨g, i * 2 + 1, none⟩ (.int .i64 (at' l j).2)).setCell ⟨g, j * 2, none⟩ (.int .i64 (at' l i).1)).setCell ⟨g, j * 2 + 1, none⟩ (.int .i64 (at' l i).2)) g cap (swp l i j) := by
  obtain ⟨⟨cur, h1, h2⟩, h3, h4, h5⟩ := h
  have c1 := set_get (h4 i hi) (.int .i64 (at' l j).1)
  obtain ⟨u1, k1⟩ := cell?_setCell_some (w := w) (p := ⟨g, i * 2, none⟩) (x := .int .i64 (at' l j).1) (q := ⟨g, i * 2 + 1, none⟩) (h5 i hi)
  have c2 := set_get k1 (.int .i64 (at' l j).2)
  obtain ⟨u2, k2⟩ := cell?_setCell_some (w := w) (p := ⟨g, i * 2, none⟩) (x := .int .i64 (at' l j).1) (q := ⟨g, j * 2, none⟩) (h4 j hj)
  obtain ⟨u3, k3⟩ := cell?_setCell_some (w := _) (p := ⟨g, i * 2 + 1, none⟩) (x := .int .i64 (at' l j).2) (q := ⟨g, j * 2, none⟩) k2
  have c3 := set_get k3 (.int .i64 (at' l i).1)
  obtain ⟨u4, k4⟩ := cell?_setCell_some (w := w) (p := ⟨g, i * 2, none⟩) (x := .int .i64 (at' l j).1) (q := ⟨g, j * 2 + 1, none⟩) (h5 j hj)
  obtain ⟨u5, k5⟩ := cell?_setCell_some (w := _) (p := ⟨g, i * 2 + 1, none⟩) (x := .int .i64 (at' l j).2) (q := ⟨g, j * 2 + 1, none⟩) k4
  obtain ⟨u6, k6⟩ := cell?_setCell_some (w := _) (p := ⟨g, j * 2, none⟩) (x := .int .i64 (at' l i).1) (q := ⟨g, j * 2 + 1, none⟩) k5
  have c4 := set_get k6 (.int .i64 (at' l i).2)
  refine ⟨⟨_, set_block (set_block (set_block (set_block h1 _ _) _ _) _ _) _ _, by simp [h2]⟩, by rw [length_swp]; exact h3, fun k hk => ?_, fun k hk => ?_⟩
  · rw [length_swp] at hk
    rw [c4, c3, c2, c1, at_swp l i j k hi hj]
    by_cases e1 : k = j
    · subst e1; simp
    · by_cases e2 : k = i
      · subst e2; simp [e1, show k * 2 ≠ j * 2 by omega, show k * 2 ≠ j * 2 + 1 by omega]
      · simp only [e1, e2, if_false]
        rw [if_neg (by omega), if_neg (by omega), if_neg (by omega), if_neg (by omega)]
        exact h4 k hk
  · rw [length_swp] at hk
    rw [c4, c3, c2, c1, at_swp l i j k hi hj]
    by_cases e1 : k = j
    · subst e1; simp
    · by_cases e2 : k = i
      · subst e2; rw [if_neg (show ¬ k * 2 + 1 = j * 2 + 1 by omega), if_neg (show ¬ k * 2 + 1 = j * 2 by omega), if_pos rfl, if_neg e1, if_pos rfl]
      · simp only [e1, e2, if_false]
        rw [if_neg (by omega), if_neg (by omega), if_neg (by omega), if_neg (by omega)]
        exact h5 k hk

/-! The index. -/
abbrev key (k : Int) : Lit := .int .i64 k
abbrev num (n : Int) : DataW Unit := .lit (.int .i64 n)

structure Idx (D : DataW Unit) (l : List It) : Prop where
  tidy : Maps.Tidy D
  size : Maps.size D = l.length
  has : ∀ i, i < l.length → Maps.has D (key (at' l i).1) = true
  val : ∀ i, i < l.length → D.atKey (key (at' l i).1) (num 0) = num i
  back : ∀ k, Maps.has D (key k) = true → ∃ i, i < l.length ∧ (at' l i).1 = k

def Dist (l : List It) : Prop := ∀ i j, i < l.length → j < l.length → (at' l i).1 = (at' l j).1 → i = j

theorem isKey (k : Int) : WideAt.IsKeyLit (key k) := trivial
theorem key_ne {a b : Int} (h : a ≠ b) : key a ≠ key b := fun e => h (by injection e)

theorem Idx.swap {D : DataW Unit} {l : List It} (h : Idx D l) (hd : Dist l) {i j : Nat} (hi : i < l.length) (hj : j < l.length) :
    Idx ((D.put (key (at' (swp l i j) i).1) (num i)).put (key (at' (swp l i j) j).1) (num j)) (swp l i j) := by
  have hA : Maps.has D (key (at' (swp l i j) i).1) = true := by rw [at_swp l i j i hi hj]; split; exact h.has i hi; rw [if_pos rfl]; exact h.has j hj
  have hB : Maps.has D (key (at' (swp l i j) j).1) = true := by rw [at_swp l i j j hi hj, if_pos rfl]; exact h.has i hi
  have hI := h.tidy.isMap
  have key1 : ∀ k, Maps.has ((D.put (key (at' (swp l i j) i).1) (num i)).put (key (at' (swp l i j) j).1) (num j)) (key k) = Maps.has D (key k) := by
    intro k
    by_cases e1 : k = (at' (swp l i j) j).1
    · rw [e1, Maps.has_put_same (hI.put _ _) (isKey _), hB]
    · rw [Maps.has_put_other (key_ne e1)]
      by_cases e2 : k = (at' (swp l i j) i).1
      · rw [e2, Maps.has_put_same hI (isKey _), hA]
      · rw [Maps.has_put_other (key_ne e2)]
  refine ⟨(h.tidy.put (isKey _) _).put (isKey _) _, ?_, fun k hk => ?_, fun k hk => ?_, fun k hk => ?_⟩
  · rw [Maps.size_put (h.tidy.put (isKey _) _), Maps.size_put h.tidy, hA, length_swp]
    have : Maps.has (D.put (key (at' (swp l i j) i).1) (num i)) (key (at' (swp l i j) j).1) = true := by
      by_cases e2 : (at' (swp l i j) j).1 = (at' (swp l i j) i).1
      · rw [e2, Maps.has_put_same hI (isKey _)]
      · rw [Maps.has_put_other (key_ne e2), hB]
    rw [this]
    simpa using h.size
  · rw [length_swp] at hk
    rw [key1, at_swp l i j k hi hj]
    split
    · exact h.has i hi
    · split
      · exact h.has j hj
      · exact h.has k hk
  · rw [length_swp] at hk
    rw [at_swp l i j k hi hj]
    by_cases e1 : k = j
    · subst e1
      rw [if_pos rfl]
      have : at' l i = at' (swp l i k) k := by rw [at_swp l i k k hi hk, if_pos rfl]
      rw [this, Maps.atKey_put_same (hI.put _ _) (isKey _)]
    · rw [if_neg e1]
      by_cases e2 : k = i
      · subst e2
        rw [if_pos rfl]
        have t1 : at' (swp l k j) j = at' l k := by rw [at_swp l k j j hi hj, if_pos rfl]
        have t2 : at' (swp l k j) k = at' l j := by rw [at_swp l k j k hi hj, if_neg e1, if_pos rfl]
        rw [t1, t2, Maps.atKey_put_other (key_ne (fun e => e1 (hd _ _ hj hk e).symm)), Maps.atKey_put_same hI (isKey _)]
      · rw [if_neg e2]
        have t1 : at' (swp l i j) j = at' l i := by rw [at_swp l i j j hi hj, if_pos rfl]
        rw [t1, Maps.atKey_put_other (key_ne (fun e => e2 (hd _ _ hk hi e)))]
        rw [at_swp l i j i hi hj]
        by_cases e3 : i = j
        · rw [if_pos e3, Maps.atKey_put_other (key_ne (fun e => e2 (hd _ _ hk hi e)))]; exact h.val k hk
        · rw [if_neg e3, if_pos rfl, Maps.atKey_put_other (key_ne (fun e => e1 (hd _ _ hk hj e)))]; exact h.val k hk
  · rw [key1] at hk
    obtain ⟨m, hm, e⟩ := h.back k hk
    by_cases e1 : m = j
    · subst e1
      exact ⟨i, by rw [length_swp]; exact hi, by
        rw [at_swp l i m i hi hj]
        by_cases e3 : i = m
        · rw [if_pos e3, e3]; exact e
        · rw [if_neg e3, if_pos rfl]; exact e⟩
    · by_cases e2 : m = i
      · subst e2
        exact ⟨j, by rw [length_swp]; exact hj, by rw [at_swp l m j j hi hj, if_pos rfl]; exact e⟩
      · exact ⟨m, by rw [length_swp]; exact hm, by rw [at_swp l i j m hi hj, if_neg e1, if_neg e2]; exact e⟩

theorem ownsMap_exact {w : World} {P : Program} {k : TypeId} {R : Value → Option (DataW Unit × List MemPlace)} {b n : Nat} {D : DataW Unit} (h : w.ownsMap P k R b n D) : w.ownsMap P k R b (Maps.size D) D := by
  obtain ⟨es, clock, hb, F, _, rfl⟩ := h
  refine ⟨es, clock, hb, F, ?_, rfl⟩
  simp [Maps.size, length_sorted]

def OwnsI (w : World) (mb : Nat) (D : DataW Unit) : Prop := w.ownsMap Try.prog 3 (plainElem Try.prog 3) mb (Maps.size D) D

theorem OwnsI.lt {w : World} {mb : Nat} {D : DataW Unit} (h : OwnsI w mb D) : mb < w.heap.size := World.ownsMap.lt h
theorem OwnsI.keep {w w' : World} {mb : Nat} {D : DataW Unit} (h : OwnsI w mb D) (e : w'.heap[mb]? = w.heap[mb]?) : OwnsI w' mb D := by
  obtain ⟨es, clock, hb, F⟩ := h
  exact ⟨es, clock, e.trans hb, F⟩

theorem law3 : Maps.Keyed Try.prog 3 := Maps.int_keyed Try.underlying3
theorem zero3 (w : World) : (zeroValue 3).run Try.prog w = .ok (.int .i64 0) w := by kernel_rfl
theorem wf_of {x : Int} (h : I64 x) : (Lit.int .i64 x).wf = true := WalkArith.wf_i64 h
end Go.Proofs.Ytanlaannkdiieaa.Pk
