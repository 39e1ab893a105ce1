import Derived.Test.YtoofgcdilgfclaaU36
import Derived.Test.YtoofgcdilgfclaaU37
import Derived.Test.YtoofgcdilgfclaaU38
namespace Go.Proofs.Ytoofgcdilgfclaa
open Go.RowKit Go.Sort
set_option maxRecDepth 100000
set_option maxHeartbeats 2000000

theorem list_D {D E : List Nat} : (D.length = E.length ∧ ∀ j, j < D.length → gt D j = gt E j) ↔ D = E := ⟨fun h => gt_ext h.1 h.2, fun h => by subst h; exact ⟨rfl, fun _ _ => rfl⟩⟩
theorem take_step {α : Type} {l m : List α} {i : Nat} {x y : α} (hx : l[i]? = some x) (hy : m[i]? = some y) (h : l.take i = m.take i) (e : x = y) : l.take (i + 1) = m.take (i + 1) := by
  rw [List.take_add_one, List.take_add_one, hx, hy, h, e]

theorem csameX {w : World} {v v' : Value} {p q : Px} (h : PxV w v p) (h' : PxV w v' q) (t : Bool) (ht : t = true ↔ p = q) :
    Calls Try.prog 40 #[v, v'] w fun e w' => e = .returned (.bool t) ∧ Below w.heap.size w w' := by
  obtain ⟨A, c, rfl, h1, b1⟩ := h
  obtain ⟨A', c', rfl, h2, b2⟩ := h'
  refine csame _ _ _ _ _ _ A A' p.D.length c q.D.length c' (gt p.D) (gt q.D) w h1.rd h2.rd (fun j _ => b1.gt j) (fun j _ => b2.gt j) t (ht.trans ⟨fun e => by subst e; exact ⟨rfl, rfl, rfl, list_D.2 rfl⟩, fun e => ?_⟩)
  obtain ⟨e0, e1, e2, e9⟩ := e
  obtain ⟨x0, x1, x2, D⟩ := p
  obtain ⟨y0, y1, y2, E⟩ := q
  dsimp only at e0 e1 e2 e9
  have := list_D.1 e9
  subst e0 e1 e2 this
  rfl

theorem isameX {w : World} {v v' : Value} {p q : Ix} (h : IxV w v p) (h' : IxV w v' q) (t : Bool) (ht : t = true ↔ p = q) :
    Calls Try.prog 42 #[v, v'] w fun e w' => e = .returned (.bool t) ∧ Below w.heap.size w w' := by
  obtain ⟨A, c, rfl, h1, b1⟩ := h
  obtain ⟨A', c', rfl, h2, b2⟩ := h'
  refine isame _ _ _ _ A A' p.D.length c q.D.length c' (gt p.D) (gt q.D) w h1.rd h2.rd (fun j _ => b1.gt j) (fun j _ => b2.gt j) t (ht.trans ⟨fun e => by subst e; exact ⟨rfl, rfl, list_D.2 rfl⟩, fun e => ?_⟩)
  obtain ⟨e0, e1, e9⟩ := e
  obtain ⟨x0, x1, D⟩ := p
  obtain ⟨y0, y1, E⟩ := q
  dsimp only at e0 e1 e9
  have := list_D.1 e9
  subst e0 e1 this
  rfl

theorem rsameX {w : World} {v v' : Value} {p q : Px} (h : PxV w v p) (h' : PxV w v' q) (t : Bool) (ht : t = true ↔ p = q) :
    Calls Try.prog 59 #[v, v'] w fun e w' => e = .returned (.bool t) ∧ Below w.heap.size w w' := by
  obtain ⟨A, c, rfl, h1, b1⟩ := h
  obtain ⟨A', c', rfl, h2, b2⟩ := h'
  refine rsame _ _ _ _ _ _ A A' p.D.length c q.D.length c' (gt p.D) (gt q.D) w h1.rd h2.rd (fun j _ => b1.gt j) (fun j _ => b2.gt j) t (ht.trans ⟨fun e => by subst e; exact ⟨rfl, rfl, rfl, list_D.2 rfl⟩, fun e => ?_⟩)
  obtain ⟨e0, e1, e2, e9⟩ := e
  obtain ⟨x0, x1, x2, D⟩ := p
  obtain ⟨y0, y1, y2, E⟩ := q
  dsimp only at e0 e1 e2 e9
  have := list_D.1 e9
  subst e0 e1 e2 this
  rfl

theorem rsameIX {w : World} {v v' : Value} {p q : Ix} (h : IxV w v p) (h' : IxV w v' q) (t : Bool) (ht : t = true ↔ p = q) :
    Calls Try.prog 60 #[v, v'] w fun e w' => e = .returned (.bool t) ∧ Below w.heap.size w w' := by
  obtain ⟨A, c, rfl, h1, b1⟩ := h
  obtain ⟨A', c', rfl, h2, b2⟩ := h'
  refine rsameI _ _ _ _ A A' p.D.length c q.D.length c' (gt p.D) (gt q.D) w h1.rd h2.rd (fun j _ => b1.gt j) (fun j _ => b2.gt j) t (ht.trans ⟨fun e => by subst e; exact ⟨rfl, rfl, list_D.2 rfl⟩, fun e => ?_⟩)
  obtain ⟨e0, e1, e9⟩ := e
  obtain ⟨x0, x1, D⟩ := p
  obtain ⟨y0, y1, E⟩ := q
  dsimp only at e0 e1 e9
  have := list_D.1 e9
  subst e0 e1 this
  rfl

/-- slices.EqualFunc of Px. -/
theorem cequalP {w : World} {v v' : Value} {l m : List Px} (h : PR w v l) (h' : PR w v' m) (hn : l.length ≤ 1000000) (hn' : m.length ≤ 1000000) (t : Bool) (ht : t = true ↔ l = m) :
    Calls Try.prog 39 #[v, v', .func (.func 40) #[] #[]] w fun e w' => e = .returned (.bool t) ∧ Below w.heap.size w w' := by
  have HP := Lib.hid h
  have HQ := Lib.hid h'
  have HT := Lib.hid ht
  obtain ⟨A, c, rfl, _⟩ := h
  obtain ⟨A', c', rfl, _⟩ := h'
  obtain ⟨n, hl⟩ : ∃ n, l.length = n := ⟨_, rfl⟩
  obtain ⟨n', hl'⟩ : ∃ n', m.length = n' := ⟨_, rfl⟩
  have HL := Lib.hid hl
  have HL' := Lib.hid hl'
  rw [hl] at HP hn ⊢
  rw [hl'] at HQ hn' ⊢
  clear ht hl hl'
  by_cases hne : n = n'
  · subst hne
    go_enter Try.func39, Try.ntmps39
    go_wp2_with fail
    go_loopg [17] n (fun q s17 v => ∃ i : Nat, s17 = .int .i64 (i : Int) ∧ i ≤ n ∧ q = n - i ∧ Hid (Below w.heap.size w v ∧ l.take i = m.take i))
    case atStart => exact ⟨0, rfl, by omega, rfl, Lib.hid ⟨Below.refl _ _, rfl⟩⟩
    case round =>
      obtain ⟨i, rfl, hi, rfl, HS⟩ := hrel
      by_cases hlt : i < n
      · have hlt' : (i : Int) < (n : Int) := by omega
        have hi0 : (0 : Int) ≤ (i : Int) := by omega
        obtain ⟨x, b, Ax, cx, hx, rfl, hbl, a0, a1, a2, a3, hd, hy⟩ := (HP.out.below HS.out.1).at hlt
        obtain ⟨y, b', Ay, cy, hx', rfl, hbl', z0, z1, z2, z3, hd', hy'⟩ := (HQ.out.below HS.out.1).at hlt
        obtain ⟨r, hr⟩ := bool_of (x = y)
        obtain ⟨wn, hwn⟩ : ∃ wn, (wr.alloc (.cells #[.int .i64 x.s, .int .i64 x.g, .int .i64 x.i, .slice Ax x.D.length cx] 31)).alloc (.cells #[.int .i64 y.s, .int .i64 y.g, .int .i64 y.i, .slice Ay y.D.length cy] 31) = wn := ⟨_, rfl⟩
        have hbn : Below wr.heap.size wr wn := by rw [← hwn]; exact ((Below.refl _ _).alloc (Nat.le_refl _) _).alloc (by simp) _
        have HBN := Lib.hid hbn
        have HWN := Lib.hid hwn
        have HSX := Lib.hid (csameX (w := wn) (v := pv x.s x.g x.i Ax x.D.length cx) (v' := pv y.s y.g y.i Ay y.D.length cy) ⟨Ax, cx, rfl, hd.below hbn, hy⟩ ⟨Ay, cy, rfl, hd'.below hbn, hy'⟩ r hr)
        have HX := Lib.hid hx
        have HX' := Lib.hid hx'
        have HR := Lib.hid hr
        unfold pv at HSX
        clear hr hx hx' hd hd' hy hy' hwn hbn
        go_wp2_with fail
        rw [HWN.out]
        refine HSX.out.mono ?_
        rintro e w5 ⟨rfl, hb5⟩
        try dsimp only
        have HB5 : Hid (Below w.heap.size w w5) := Lib.hid (HS.out.1.trans ((HBN.out.trans (hb5.mono HBN.out.size)).mono HS.out.1.size))
        clear hb5 a0 a1 a2 a3 z0 z1 z2 z3
        cases r with
        | false =>
          obtain rfl : t = false := not_true HT.out (fun h => by
            subst h
            have h1 := HX.out
            rw [HX'.out] at h1
            injection h1 with h1
            have := HR.out.2 h1.symm
            cases this)
          go_wp2_with fail
          go_ret
          exact ⟨rfl, HB5.out⟩
        | true =>
          go_wp2_with fail
          go_roundg (n - (i + 1))
          case measure => omega
          case rel => exact ⟨i + 1, by go_num, by omega, rfl, Lib.hid ⟨HB5.out, take_step HX.out HX'.out HS.out.2 (HR.out.1 (by simp))⟩⟩
      · obtain rfl : i = n := by omega
        obtain rfl : t = true := HT.out.2 (by
          have := HS.out.2
          rwa [show l.take i = l from by rw [← HL.out, List.take_length], show m.take i = m from by rw [← HL'.out, List.take_length]] at this)
        go_wp2_with fail
        go_ret
        exact ⟨rfl, HS.out.1⟩
  · obtain rfl : t = false := not_true HT.out (fun h => by subst h; exact hne (HL.out.symm.trans HL'.out))
    have e1 : ((n : Int) == (n' : Int)) = false := beq_eq_false_iff_ne.2 (by omega)
    have e2 : ¬ (n : Int) = (n' : Int) := by omega
    go_enter Try.func39, Try.ntmps39
    go_wp2_with fail
    go_ret
    exact ⟨rfl, Below.refl _ _⟩

/-- slices.EqualFunc of Ix. -/
theorem cequalI {w : World} {v v' : Value} {l m : List Ix} (h : IR w v l) (h' : IR w v' m) (hn : l.length ≤ 1000000) (hn' : m.length ≤ 1000000) (t : Bool) (ht : t = true ↔ l = m) :
    Calls Try.prog 41 #[v, v', .func (.func 42) #[] #[]] w fun e w' => e = .returned (.bool t) ∧ Below w.heap.size w w' := by
  have HP := Lib.hid h
  have HQ := Lib.hid h'
  have HT := Lib.hid ht
  obtain ⟨A, c, rfl, _⟩ := h
  obtain ⟨A', c', rfl, _⟩ := h'
  obtain ⟨n, hl⟩ : ∃ n, l.length = n := ⟨_, rfl⟩
  obtain ⟨n', hl'⟩ : ∃ n', m.length = n' := ⟨_, rfl⟩
  have HL := Lib.hid hl
  have HL' := Lib.hid hl'
  rw [hl] at HP hn ⊢
  rw [hl'] at HQ hn' ⊢
  clear ht hl hl'
  by_cases hne : n = n'
  · subst hne
    go_enter Try.func41, Try.ntmps41
    go_wp2_with fail
    go_loopg [17] n (fun q s17 v => ∃ i : Nat, s17 = .int .i64 (i : Int) ∧ i ≤ n ∧ q = n - i ∧ Hid (Below w.heap.size w v ∧ l.take i = m.take i))
    case atStart => exact ⟨0, rfl, by omega, rfl, Lib.hid ⟨Below.refl _ _, rfl⟩⟩
    case round =>
      obtain ⟨i, rfl, hi, rfl, HS⟩ := hrel
      by_cases hlt : i < n
      · have hlt' : (i : Int) < (n : Int) := by omega
        have hi0 : (0 : Int) ≤ (i : Int) := by omega
        obtain ⟨x, b, Ax, cx, hx, rfl, hbl, a0, a1, a2, hd, hy⟩ := (HP.out.below HS.out.1).at hlt
        obtain ⟨y, b', Ay, cy, hx', rfl, hbl', z0, z1, z2, hd', hy'⟩ := (HQ.out.below HS.out.1).at hlt
        obtain ⟨r, hr⟩ := bool_of (x = y)
        obtain ⟨wn, hwn⟩ : ∃ wn, (wr.alloc (.cells #[.int .i64 x.s, .int .i64 x.g, .slice Ax x.D.length cx] 35)).alloc (.cells #[.int .i64 y.s, .int .i64 y.g, .slice Ay y.D.length cy] 35) = wn := ⟨_, rfl⟩
        have hbn : Below wr.heap.size wr wn := by rw [← hwn]; exact ((Below.refl _ _).alloc (Nat.le_refl _) _).alloc (by simp) _
        have HBN := Lib.hid hbn
        have HWN := Lib.hid hwn
        have HSX := Lib.hid (isameX (w := wn) (v := iv x.s x.g Ax x.D.length cx) (v' := iv y.s y.g Ay y.D.length cy) ⟨Ax, cx, rfl, hd.below hbn, hy⟩ ⟨Ay, cy, rfl, hd'.below hbn, hy'⟩ r hr)
        have HX := Lib.hid hx
        have HX' := Lib.hid hx'
        have HR := Lib.hid hr
        unfold iv at HSX
        clear hr hx hx' hd hd' hy hy' hwn hbn
        go_wp2_with fail
        rw [HWN.out]
        refine HSX.out.mono ?_
        rintro e w5 ⟨rfl, hb5⟩
        try dsimp only
        have HB5 : Hid (Below w.heap.size w w5) := Lib.hid (HS.out.1.trans ((HBN.out.trans (hb5.mono HBN.out.size)).mono HS.out.1.size))
        clear hb5 a0 a1 a2 z0 z1 z2
        cases r with
        | false =>
          obtain rfl : t = false := not_true HT.out (fun h => by
            subst h
            have h1 := HX.out
            rw [HX'.out] at h1
            injection h1 with h1
            have := HR.out.2 h1.symm
            cases this)
          go_wp2_with fail
          go_ret
          exact ⟨rfl, HB5.out⟩
        | true =>
          go_wp2_with fail
          go_roundg (n - (i + 1))
          case measure => omega
          case rel => exact ⟨i + 1, by go_num, by omega, rfl, Lib.hid ⟨HB5.out, take_step HX.out HX'.out HS.out.2 (HR.out.1 (by simp))⟩⟩
      · obtain rfl : i = n := by omega
        obtain rfl : t = true := HT.out.2 (by
          have := HS.out.2
          rwa [show l.take i = l from by rw [← HL.out, List.take_length], show m.take i = m from by rw [← HL'.out, List.take_length]] at this)
        go_wp2_with fail
        go_ret
        exact ⟨rfl, HS.out.1⟩
  · obtain rfl : t = false := not_true HT.out (fun h => by subst h; exact hne (HL.out.symm.trans HL'.out))
    have e1 : ((n : Int) == (n' : Int)) = false := beq_eq_false_iff_ne.2 (by omega)
    have e2 : ¬ (n : Int) = (n' : Int) := by omega
    go_enter Try.func41, Try.ntmps41
    go_wp2_with fail
    go_ret
    exact ⟨rfl, Below.refl _ _⟩

/-- the reference's, of Px. -/
theorem rsamesP {w : World} {v v' : Value} {l m : List Px} (h : PR w v l) (h' : PR w v' m) (hn : l.length ≤ 1000000) (hn' : m.length ≤ 1000000) (t : Bool) (ht : t = true ↔ l = m) :
    Calls Try.prog 49 #[v, v'] w fun e w' => e = .returned (.bool t) ∧ Below w.heap.size w w' := by
  have HP := Lib.hid h
  have HQ := Lib.hid h'
  have HT := Lib.hid ht
  obtain ⟨A, c, rfl, _⟩ := h
  obtain ⟨A', c', rfl, _⟩ := h'
  obtain ⟨n, hl⟩ : ∃ n, l.length = n := ⟨_, rfl⟩
  obtain ⟨n', hl'⟩ : ∃ n', m.length = n' := ⟨_, rfl⟩
  have HL := Lib.hid hl
  have HL' := Lib.hid hl'
  rw [hl] at HP hn ⊢
  rw [hl'] at HQ hn' ⊢
  clear ht hl hl'
  by_cases hne : n = n'
  · subst hne
    go_enter Try.func49, Try.ntmps49
    go_wp2_with fail
    go_loopg [5] n (fun q s5 v => ∃ i : Nat, s5 = .int .i64 (i : Int) ∧ i ≤ n ∧ q = n - i ∧ Hid (Below w.heap.size w v ∧ l.take i = m.take i))
    case atStart => exact ⟨0, rfl, by omega, rfl, Lib.hid ⟨Below.refl _ _, rfl⟩⟩
    case round =>
      obtain ⟨i, rfl, hi, rfl, HS⟩ := hrel
      by_cases hlt : i < n
      · have hlt' : (i : Int) < (n : Int) := by omega
        obtain ⟨x, b, Ax, cx, hx, rfl, hbl, a0, a1, a2, a3, hd, hy⟩ := (HP.out.below HS.out.1).at hlt
        obtain ⟨y, b', Ay, cy, hx', rfl, hbl', z0, z1, z2, z3, hd', hy'⟩ := (HQ.out.below HS.out.1).at hlt
        obtain ⟨r, hr⟩ := bool_of (x = y)
        have HSX := Lib.hid (rsameX (w := wr.drew) (v := pv x.s x.g x.i Ax x.D.length cx) (v' := pv y.s y.g y.i Ay y.D.length cy) ⟨Ax, cx, rfl, hd.below (below_drewN 1 wr), hy⟩ ⟨Ay, cy, rfl, hd'.below (below_drewN 1 wr), hy'⟩ r hr)
        have HB : Hid (Below w.heap.size w wr.drew) := Lib.hid HS.out.1.drew
        have HX := Lib.hid hx
        have HX' := Lib.hid hx'
        have HR := Lib.hid hr
        unfold pv at HSX
        clear hr hx hx' hd hd' hy hy'
        go_wp2_with fail
        go_region_with (refine HSX.out.mono ?_; rintro e w5 ⟨rfl, hb5⟩; (try dsimp only); have HB5 : Hid (Below w.heap.size w w5) := Lib.hid (HB.out.trans (hb5.mono HB.out.size)); clear hb5)
        all_goals
          cases r with
          | false =>
            obtain rfl : t = false := not_true HT.out (fun h => by
              subst h
              have h1 := HX.out
              rw [HX'.out] at h1
              injection h1 with h1
              have := HR.out.2 h1.symm
              cases this)
            go_wp2_with fail
            go_ret
            exact ⟨rfl, HB5.out⟩
          | true =>
            go_wp2_with fail
            go_roundg (n - (i + 1))
            case measure => omega
            case rel => exact ⟨i + 1, by go_num, by omega, rfl, Lib.hid ⟨HB5.out, take_step HX.out HX'.out HS.out.2 (HR.out.1 (by simp))⟩⟩
      · obtain rfl : i = n := by omega
        obtain rfl : t = true := HT.out.2 (by
          have := HS.out.2
          rwa [show l.take i = l from by rw [← HL.out, List.take_length], show m.take i = m from by rw [← HL'.out, List.take_length]] at this)
        go_wp2_with fail
        go_ret
        exact ⟨rfl, HS.out.1⟩
  · obtain rfl : t = false := not_true HT.out (fun h => by subst h; exact hne (HL.out.symm.trans HL'.out))
    have e1 : ((n : Int) == (n' : Int)) = false := beq_eq_false_iff_ne.2 (by omega)
    have e2 : ¬ (n : Int) = (n' : Int) := by omega
    go_enter Try.func49, Try.ntmps49
    go_wp2_with fail
    go_ret
    exact ⟨rfl, Below.refl _ _⟩

/-- the reference's, of Ix. -/
theorem rsamesI {w : World} {v v' : Value} {l m : List Ix} (h : IR w v l) (h' : IR w v' m) (hn : l.length ≤ 1000000) (hn' : m.length ≤ 1000000) (t : Bool) (ht : t = true ↔ l = m) :
    Calls Try.prog 50 #[v, v'] w fun e w' => e = .returned (.bool t) ∧ Below w.heap.size w w' := by
  have HP := Lib.hid h
  have HQ := Lib.hid h'
  have HT := Lib.hid ht
  obtain ⟨A, c, rfl, _⟩ := h
  obtain ⟨A', c', rfl, _⟩ := h'
  obtain ⟨n, hl⟩ : ∃ n, l.length = n := ⟨_, rfl⟩
  obtain ⟨n', hl'⟩ : ∃ n', m.length = n' := ⟨_, rfl⟩
  have HL := Lib.hid hl
  have HL' := Lib.hid hl'
  rw [hl] at HP hn ⊢
  rw [hl'] at HQ hn' ⊢
  clear ht hl hl'
  by_cases hne : n = n'
  · subst hne
    go_enter Try.func50, Try.ntmps50
    go_wp2_with fail
    go_loopg [5] n (fun q s5 v => ∃ i : Nat, s5 = .int .i64 (i : Int) ∧ i ≤ n ∧ q = n - i ∧ Hid (Below w.heap.size w v ∧ l.take i = m.take i))
    case atStart => exact ⟨0, rfl, by omega, rfl, Lib.hid ⟨Below.refl _ _, rfl⟩⟩
    case round =>
      obtain ⟨i, rfl, hi, rfl, HS⟩ := hrel
      by_cases hlt : i < n
      · have hlt' : (i : Int) < (n : Int) := by omega
        obtain ⟨x, b, Ax, cx, hx, rfl, hbl, a0, a1, a2, hd, hy⟩ := (HP.out.below HS.out.1).at hlt
        obtain ⟨y, b', Ay, cy, hx', rfl, hbl', z0, z1, z2, hd', hy'⟩ := (HQ.out.below HS.out.1).at hlt
        obtain ⟨r, hr⟩ := bool_of (x = y)
        have HSX := Lib.hid (rsameIX (w := wr.drew) (v := iv x.s x.g Ax x.D.length cx) (v' := iv y.s y.g Ay y.D.length cy) ⟨Ax, cx, rfl, hd.below (below_drewN 1 wr), hy⟩ ⟨Ay, cy, rfl, hd'.below (below_drewN 1 wr), hy'⟩ r hr)
        have HB : Hid (Below w.heap.size w wr.drew) := Lib.hid HS.out.1.drew
        have HX := Lib.hid hx
        have HX' := Lib.hid hx'
        have HR := Lib.hid hr
        unfold iv at HSX
        clear hr hx hx' hd hd' hy hy'
        go_wp2_with fail
        go_region_with (refine HSX.out.mono ?_; rintro e w5 ⟨rfl, hb5⟩; (try dsimp only); have HB5 : Hid (Below w.heap.size w w5) := Lib.hid (HB.out.trans (hb5.mono HB.out.size)); clear hb5)
        all_goals
          cases r with
          | false =>
            obtain rfl : t = false := not_true HT.out (fun h => by
              subst h
              have h1 := HX.out
              rw [HX'.out] at h1
              injection h1 with h1
              have := HR.out.2 h1.symm
              cases this)
            go_wp2_with fail
            go_ret
            exact ⟨rfl, HB5.out⟩
          | true =>
            go_wp2_with fail
            go_roundg (n - (i + 1))
            case measure => omega
            case rel => exact ⟨i + 1, by go_num, by omega, rfl, Lib.hid ⟨HB5.out, take_step HX.out HX'.out HS.out.2 (HR.out.1 (by simp))⟩⟩
      · obtain rfl : i = n := by omega
        obtain rfl : t = true := HT.out.2 (by
          have := HS.out.2
          rwa [show l.take i = l from by rw [← HL.out, List.take_length], show m.take i = m from by rw [← HL'.out, List.take_length]] at this)
        go_wp2_with fail
        go_ret
        exact ⟨rfl, HS.out.1⟩
  · obtain rfl : t = false := not_true HT.out (fun h => by subst h; exact hne (HL.out.symm.trans HL'.out))
    have e1 : ((n : Int) == (n' : Int)) = false := beq_eq_false_iff_ne.2 (by omega)
    have e2 : ¬ (n : Int) = (n' : Int) := by omega
    go_enter Try.func50, Try.ntmps50
    go_wp2_with fail
    go_ret
    exact ⟨rfl, Below.refl _ _⟩

/-- corbel/call.SameRep. -/
theorem csameRep {w : World} {v v' : Value} {p q : Rx} (h : RVal w v p) (h' : RVal w v' q) (np : p.ps.length ≤ 1000000) (nx : p.xs.length ≤ 1000000) (nq : q.ps.length ≤ 1000000) (ny : q.xs.length ≤ 1000000) (t : Bool) (ht : t = true ↔ p = q) :
    Calls Try.prog 15 #[v, v'] w fun e w' => e = .returned (.bool t) ∧ Below w.heap.size w w' := by
  obtain ⟨A1, c1, A2, c2, rfl, h1, h2⟩ := h
  obtain ⟨B1, d1, B2, d2, rfl, k1, k2⟩ := h'
  obtain ⟨code, boot, l, m⟩ := p
  obtain ⟨code', boot', l', m'⟩ := q
  simp only [Rx.mk.injEq] at ht
  dsimp only at h1 h2 k1 k2 np nx nq ny ⊢
  obtain ⟨w1, hw1⟩ : ∃ w1, (w.alloc (.cells #[.int .i64 code, .int .i64 boot, .slice A1 l.length c1, .slice A2 m.length c2] 39)).alloc (.cells #[.int .i64 code', .int .i64 boot', .slice B1 l'.length d1, .slice B2 m'.length d2] 39) = w1 := ⟨_, rfl⟩
  obtain ⟨H, hH⟩ : ∃ H, w.heap.size = H := ⟨_, rfl⟩
  have HH := Lib.hid hH
  have hb1 : Below H w w1 := by rw [← hw1, ← hH]; exact ((Below.refl _ _).alloc (Nat.le_refl _) _).alloc (by simp) _
  have HB1 := Lib.hid hb1
  have HW1 := Lib.hid hw1
  have HV : Hid (RV w1 H code boot (.slice A1 l.length c1) (.slice A2 m.length c2)) := Lib.hid (by rw [← hw1]; exact (RV.of_new hH).below ((Below.refl _ _).alloc (Nat.le_refl _) _))
  have HU : Hid (RV w1 (H + 1) code' boot' (.slice B1 l'.length d1) (.slice B2 m'.length d2)) := Lib.hid (by rw [← hw1]; exact RV.of_new (by simp [hH]))
  have hbw : Below w.heap.size w w1 := by rw [hH]; exact hb1
  obtain ⟨t1, ht1⟩ := bool_of (l = l')
  obtain ⟨t2, ht2⟩ := bool_of (m = m')
  have HS1 : Hid (∀ W, Below w1.heap.size w1 W → _) := Lib.hid (fun W hW => cequalP ((h1.below hbw).below hW) ((k1.below hbw).below hW) np nq t1 ht1)
  have HS2 : Hid (∀ W, Below w1.heap.size w1 W → _) := Lib.hid (fun W hW => cequalI ((h2.below hbw).below hW) ((k2.below hbw).below hW) nx ny t2 ht2)
  have HT := Lib.hid ht
  have HT1 := Lib.hid ht1
  have HT2 := Lib.hid ht2
  have HZ1 : Hid (H ≤ w1.heap.size) := Lib.hid (Nat.le_of_lt HV.out.lt)
  generalize l.length = n1 at *
  generalize m.length = n2 at *
  generalize l'.length = n3 at *
  generalize m'.length = n4 at *
  have a0 := HV.out.c0
  have a1 := HV.out.c1
  have a2 := HV.out.c2
  have a3 := HV.out.c3
  have b0 := HU.out.c0
  have b1 := HU.out.c1
  have b2 := HU.out.c2
  have b3 := HU.out.c3
  clear ht ht1 ht2 hw1 hH hb1 h1 h2 k1 k2 hbw
  unfold rpv
  by_cases e1 : code = code'
  · have f1 : (code == code') = true := beq_iff_eq.2 e1
    have E1 := Lib.hid e1
    clear e1
    by_cases e2 : boot = boot'
    · have f2 : (boot == boot') = true := beq_iff_eq.2 e2
      have E2 := Lib.hid e2
      clear e2
      go_enter Try.func15, Try.ntmps15
      go_upto_region 1 with fail
      rw [HW1.out, HH.out]
      go_wp2_with fail
      refine (HS1.out _ (Below.refl _ _)).mono ?_
      rintro e w2 ⟨rfl, hb2⟩
      try dsimp only
      cases t1 with
      | false =>
        obtain rfl : t = false := not_true HT.out (fun h => by have := HT1.out.2 h.2.2.1; cases this)
        go_wp2_with fail
        go_ret
        exact ⟨rfl, by rw [HH.out]; exact HB1.out.trans (hb2.mono HZ1.out)⟩
      | true =>
        have HB2 := Lib.hid hb2
        have a3' := (HV.out.below hb2).c3
        have b3' := (HU.out.below hb2).c3
        clear hb2 a0 a1 a2 a3 b0 b1 b2 b3
        go_wp2_with fail
        refine (HS2.out _ HB2.out).mono ?_
        rintro e w3 ⟨rfl, hb3⟩
        try dsimp only
        have HB3 : Hid (Below w1.heap.size w1 w3) := Lib.hid (HB2.out.trans (hb3.mono HB2.out.size))
        clear hb3
        cases t2 with
        | false =>
          obtain rfl : t = false := not_true HT.out (fun h => by have := HT2.out.2 h.2.2.2; cases this)
          go_wp2_with fail
          go_ret
          exact ⟨rfl, by rw [HH.out]; exact HB1.out.trans (HB3.out.mono HZ1.out)⟩
        | true =>
          obtain rfl : t = true := HT.out.2 ⟨E1.out, E2.out, HT1.out.1 (by simp), HT2.out.1 (by simp)⟩
          go_wp2_with fail
          go_ret
          exact ⟨rfl, by rw [HH.out]; exact HB1.out.trans (HB3.out.mono HZ1.out)⟩
    · have f2 : (boot == boot') = false := beq_eq_false_iff_ne.2 e2
      obtain rfl : t = false := not_true HT.out (fun h => e2 h.2.1)
      clear e2
      go_enter Try.func15, Try.ntmps15
      go_upto_region 1 with fail
      rw [HW1.out, HH.out]
      go_wp2_with fail
      go_ret
      exact ⟨rfl, by rw [HH.out]; exact HB1.out⟩
  · have f1 : (code == code') = false := beq_eq_false_iff_ne.2 e1
    obtain rfl : t = false := not_true HT.out (fun h => e1 h.1)
    clear e1
    go_enter Try.func15, Try.ntmps15
    go_upto_region 1 with fail
    rw [HW1.out, HH.out]
    go_wp2_with fail
    go_ret
    exact ⟨rfl, by rw [HH.out]; exact HB1.out⟩

/-- corbel/corbelref7.SameRep. -/
theorem rsameRep {w : World} {v v' : Value} {p q : Rx} (h : RVal w v p) (h' : RVal w v' q) (np : p.ps.length ≤ 1000000) (nx : p.xs.length ≤ 1000000) (nq : q.ps.length ≤ 1000000) (ny : q.xs.length ≤ 1000000) (t : Bool) (ht : t = true ↔ p = q) :
    Calls Try.prog 26 #[v, v'] w fun e w' => e = .returned (.bool t) ∧ Below w.heap.size w w' := by
  obtain ⟨A1, c1, A2, c2, rfl, h1, h2⟩ := h
  obtain ⟨B1, d1, B2, d2, rfl, k1, k2⟩ := h'
  obtain ⟨code, boot, l, m⟩ := p
  obtain ⟨code', boot', l', m'⟩ := q
  simp only [Rx.mk.injEq] at ht
  dsimp only at h1 h2 k1 k2 np nx nq ny ⊢
  obtain ⟨w1, hw1⟩ : ∃ w1, (w.alloc (.cells #[.int .i64 code, .int .i64 boot, .slice A1 l.length c1, .slice A2 m.length c2] 39)).alloc (.cells #[.int .i64 code', .int .i64 boot', .slice B1 l'.length d1, .slice B2 m'.length d2] 39) = w1 := ⟨_, rfl⟩
  obtain ⟨H, hH⟩ : ∃ H, w.heap.size = H := ⟨_, rfl⟩
  have HH := Lib.hid hH
  have hb1 : Below H w w1 := by rw [← hw1, ← hH]; exact ((Below.refl _ _).alloc (Nat.le_refl _) _).alloc (by simp) _
  have HB1 := Lib.hid hb1
  have HW1 := Lib.hid hw1
  have HV : Hid (RV w1 H code boot (.slice A1 l.length c1) (.slice A2 m.length c2)) := Lib.hid (by rw [← hw1]; exact (RV.of_new hH).below ((Below.refl _ _).alloc (Nat.le_refl _) _))
  have HU : Hid (RV w1 (H + 1) code' boot' (.slice B1 l'.length d1) (.slice B2 m'.length d2)) := Lib.hid (by rw [← hw1]; exact RV.of_new (by simp [hH]))
  have hbw : Below w.heap.size w w1 := by rw [hH]; exact hb1
  obtain ⟨t1, ht1⟩ := bool_of (l = l')
  obtain ⟨t2, ht2⟩ := bool_of (m = m')
  have HS1 : Hid (∀ W, Below w1.heap.size w1 W → _) := Lib.hid (fun W hW => rsamesP ((h1.below hbw).below hW) ((k1.below hbw).below hW) np nq t1 ht1)
  have HS2 : Hid (∀ W, Below w1.heap.size w1 W → _) := Lib.hid (fun W hW => rsamesI ((h2.below hbw).below hW) ((k2.below hbw).below hW) nx ny t2 ht2)
  have HT := Lib.hid ht
  have HT1 := Lib.hid ht1
  have HT2 := Lib.hid ht2
  have HZ1 : Hid (H ≤ w1.heap.size) := Lib.hid (Nat.le_of_lt HV.out.lt)
  generalize l.length = n1 at *
  generalize m.length = n2 at *
  generalize l'.length = n3 at *
  generalize m'.length = n4 at *
  have a0 := HV.out.c0
  have a1 := HV.out.c1
  have a2 := HV.out.c2
  have a3 := HV.out.c3
  have b0 := HU.out.c0
  have b1 := HU.out.c1
  have b2 := HU.out.c2
  have b3 := HU.out.c3
  clear ht ht1 ht2 hw1 hH hb1 h1 h2 k1 k2 hbw
  unfold rpv
  by_cases e1 : code = code'
  · have f1 : (code == code') = true := beq_iff_eq.2 e1
    have E1 := Lib.hid e1
    clear e1
    by_cases e2 : boot = boot'
    · have f2 : (boot == boot') = true := beq_iff_eq.2 e2
      have E2 := Lib.hid e2
      clear e2
      go_enter Try.func26, Try.ntmps26
      go_upto_region 1 with fail
      rw [HW1.out, HH.out]
      go_wp2_with fail
      refine (HS1.out _ (Below.refl _ _)).mono ?_
      rintro e w2 ⟨rfl, hb2⟩
      try dsimp only
      cases t1 with
      | false =>
        obtain rfl : t = false := not_true HT.out (fun h => by have := HT1.out.2 h.2.2.1; cases this)
        go_wp2_with fail
        go_ret
        exact ⟨rfl, by rw [HH.out]; exact HB1.out.trans (hb2.mono HZ1.out)⟩
      | true =>
        have HB2 := Lib.hid hb2
        have a3' := (HV.out.below hb2).c3
        have b3' := (HU.out.below hb2).c3
        clear hb2 a0 a1 a2 a3 b0 b1 b2 b3
        go_wp2_with fail
        refine (HS2.out _ HB2.out).mono ?_
        rintro e w3 ⟨rfl, hb3⟩
        try dsimp only
        have HB3 : Hid (Below w1.heap.size w1 w3) := Lib.hid (HB2.out.trans (hb3.mono HB2.out.size))
        clear hb3
        cases t2 with
        | false =>
          obtain rfl : t = false := not_true HT.out (fun h => by have := HT2.out.2 h.2.2.2; cases this)
          go_wp2_with fail
          go_ret
          exact ⟨rfl, by rw [HH.out]; exact HB1.out.trans (HB3.out.mono HZ1.out)⟩
        | true =>
          obtain rfl : t = true := HT.out.2 ⟨E1.out, E2.out, HT1.out.1 (by simp), HT2.out.1 (by simp)⟩
          go_wp2_with fail
          go_ret
          exact ⟨rfl, by rw [HH.out]; exact HB1.out.trans (HB3.out.mono HZ1.out)⟩
    · have f2 : (boot == boot') = false := beq_eq_false_iff_ne.2 e2
      obtain rfl : t = false := not_true HT.out (fun h => e2 h.2.1)
      clear e2
      go_enter Try.func26, Try.ntmps26
      go_upto_region 1 with fail
      rw [HW1.out, HH.out]
      go_wp2_with fail
      go_ret
      exact ⟨rfl, by rw [HH.out]; exact HB1.out⟩
  · have f1 : (code == code') = false := beq_eq_false_iff_ne.2 e1
    obtain rfl : t = false := not_true HT.out (fun h => e1 h.1)
    clear e1
    go_enter Try.func26, Try.ntmps26
    go_upto_region 1 with fail
    rw [HW1.out, HH.out]
    go_wp2_with fail
    go_ret
    exact ⟨rfl, by rw [HH.out]; exact HB1.out⟩
end Go.Proofs.Ytoofgcdilgfclaa
