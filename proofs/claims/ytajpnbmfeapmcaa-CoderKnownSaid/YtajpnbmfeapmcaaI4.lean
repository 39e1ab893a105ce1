import Derived.Test.YtajpnbmfeapmcaaI3
namespace Go.Proofs.Ytajpnbmfeapmcaa
open Go.RowKit Go.Sort
set_option maxRecDepth 100000
set_option maxHeartbeats 1000000

theorem mmul_nil (v1 v2 : Value) (w : World) : Calls Try.prog 27 #[.pointer none, v1, v2] w fun e w' => e = .returned (.slice none 0 0) ∧ w' = w := by
  go_enter Try.func27, Try.ntmps27
  go_wp2_with fail
  go_ret
  exact ⟨rfl, rfl⟩
theorem minverse_nil (v1 : Value) (w : World) : Calls Try.prog 30 #[.pointer none, v1] w fun e w' => e = .returned (.tuple #[.slice none 0 0, .bool false]) ∧ w' = w := by
  go_enter Try.func30, Try.ntmps30
  go_wp2_with fail
  go_ret2
  exact ⟨rfl, rfl⟩
/-- A product that doesn't fit. -/
theorem mmul_none (f : Nat) (a b : Option Addr) (xss yss : List (List Nat)) (ca cb c : Nat) (w : World) (hx : RawIn w a xss) (hy : RawIn w b yss) (lx : xss.length ≤ 9223372036854775807) (ly : yss.length ≤ 9223372036854775807) (px : RightP xss)
    (hc : ∀ (i : Nat) (xs : List Nat), xss[i]? = some xs → xs.length = c) (hno : ¬ (RightP yss ∧ c = yss.length)) :
    Calls Try.prog 27 #[.pointer (some ⟨f, 0, none⟩), .slice a xss.length ca, .slice b yss.length cb] w fun e w' => e = .returned (.slice none 0 0) ∧ w' = w := by
  have R1 := Lib.hid (mright a xss ca w hx lx true ⟨fun _ => px, fun _ => rfl⟩)
  have R2 := Lib.hid (fun t ht => mright b yss cb w hy ly t ht)
  have h0 : 0 < xss.length := by have := px.1; omega
  obtain ⟨x0, hx0⟩ : ∃ x0, xss[0]? = some x0 := ⟨_, List.getElem?_eq_getElem h0⟩
  obtain ⟨b', o, rfl, hb, g0, cap0, c0, _⟩ := hx 0 x0 hx0
  rw [Nat.add_zero, hc 0 x0 hx0] at c0
  have h0' : (0 : Int) < (xss.length : Int) := by omega
  by_cases py : RightP yss
  · have R3 := Lib.hid (R2.out true ⟨fun _ => py, fun _ => rfl⟩)
    have hne : ¬ c = yss.length := fun e => hno ⟨py, e⟩
    have t1 : ((c : Int) != (yss.length : Int)) = true := by rw [bne_iff_ne]; omega
    clear hx hy px py hc hno R2 hx0 hne
    go_enter Try.func27, Try.ntmps27
    go_wp2_with fail
    refine R1.out.mono ?_
    rintro e w' ⟨rfl, hw⟩
    obtain rfl := hw.symm
    go_wp2_with fail
    refine R3.out.mono ?_
    rintro e w' ⟨rfl, hw⟩
    obtain rfl := hw.symm
    go_wp2_with fail
    go_ret
    exact ⟨rfl, rfl⟩
  · have R3 := Lib.hid (R2.out false ⟨fun h => (by cases h), fun h => absurd h py⟩)
    clear hx hy px py hc hno R2 hx0
    go_enter Try.func27, Try.ntmps27
    go_wp2_with fail
    refine R1.out.mono ?_
    rintro e w' ⟨rfl, hw⟩
    obtain rfl := hw.symm
    go_wp2_with fail
    refine R3.out.mono ?_
    rintro e w' ⟨rfl, hw⟩
    obtain rfl := hw.symm
    go_wp2_with fail
    go_ret
    exact ⟨rfl, rfl⟩
/-- The inverse of what is not square. -/
theorem minverse_none (f : Nat) (a : Option Addr) (xss : List (List Nat)) (ca c : Nat) (w : World) (hx : RawIn w a xss) (lx : xss.length ≤ 9223372036854775807) (px : RightP xss)
    (hc : ∀ (i : Nat) (xs : List Nat), xss[i]? = some xs → xs.length = c) (hne : ¬ c = xss.length) :
    Calls Try.prog 30 #[.pointer (some ⟨f, 0, none⟩), .slice a xss.length ca] w fun e w' => e = .returned (.tuple #[.slice none 0 0, .bool false]) ∧ w' = w := by
  have R1 := Lib.hid (mright a xss ca w hx lx true ⟨fun _ => px, fun _ => rfl⟩)
  have h0 : 0 < xss.length := by have := px.1; omega
  obtain ⟨x0, hx0⟩ : ∃ x0, xss[0]? = some x0 := ⟨_, List.getElem?_eq_getElem h0⟩
  obtain ⟨b', o, rfl, hb, g0, cap0, c0, _⟩ := hx 0 x0 hx0
  rw [Nat.add_zero, hc 0 x0 hx0] at c0
  have h0' : (0 : Int) < (xss.length : Int) := by omega
  have t1 : ((c : Int) != (xss.length : Int)) = true := by rw [bne_iff_ne]; omega
  clear hx px hc hx0 hne
  go_enter Try.func30, Try.ntmps30
  go_wp2_with fail
  refine R1.out.mono ?_
  rintro e w' ⟨rfl, hw⟩
  obtain rfl := hw.symm
  go_wp2_with fail
  go_ret2
  exact ⟨rfl, rfl⟩

/-- Literals: rows that lie in blocks of their own. -/
def litRow (xs : List Nat) : Obj := .cells (xs.map (fun x => Value.int .u8 (x : Nat))).toArray 5
theorem litRow_cell {w : World} {b j x : Nat} {xs : List Nat} (h : w.heap[b]? = some (litRow xs)) (hx : xs[j]? = some x) : w.cell? ⟨b, 0 + j, none⟩ = some (.int .u8 (x : Nat)) := by
  rw [Nat.zero_add, cell_of_block h]
  simp [hx]
theorem raw_lit1 {w : World} {b g : Nat} {xs : List Nat} {l cap : Nat} (hl : xs.length = l) (hb : w.heap[b]? = some (.cells #[.slice (some ⟨g, 0, none⟩) l cap] 29 (0, 0))) (hg : w.heap[g]? = some (litRow xs)) : RawIn w (some ⟨b, 0, none⟩) [xs] := by
  intro i ys hi
  have hlt : i < 1 := (List.getElem?_eq_some_iff.1 hi).1
  obtain rfl : i = 0 := by omega
  cases hi
  exact ⟨b, 0, rfl, heap_lt hb, some ⟨g, 0, none⟩, cap, by rw [cell_of_block hb, hl]; rfl, fun j x hx => ⟨g, 0, rfl, heap_lt hg, litRow_cell hg hx⟩⟩
theorem raw_lit2 {w : World} {b g h : Nat} {xs ys : List Nat} {l m cap cap' : Nat} (hl : xs.length = l) (hm : ys.length = m) (hb : w.heap[b]? = some (.cells #[.slice (some ⟨g, 0, none⟩) l cap, .slice (some ⟨h, 0, none⟩) m cap'] 29 (0, 0)))
    (hg : w.heap[g]? = some (litRow xs)) (hh : w.heap[h]? = some (litRow ys)) : RawIn w (some ⟨b, 0, none⟩) [xs, ys] := by
  intro i zs hi
  have hlt : i < 2 := (List.getElem?_eq_some_iff.1 hi).1
  match i, hlt with
  | 0, _ =>
    cases hi
    exact ⟨b, 0, rfl, heap_lt hb, some ⟨g, 0, none⟩, cap, by rw [cell_of_block hb, hl]; rfl, fun j x hx => ⟨g, 0, rfl, heap_lt hg, litRow_cell hg hx⟩⟩
  | 1, _ =>
    cases hi
    exact ⟨b, 0, rfl, heap_lt hb, some ⟨h, 0, none⟩, cap', by rw [cell_of_block hb, hm]; rfl, fun j x hx => ⟨h, 0, rfl, heap_lt hh, litRow_cell hh hx⟩⟩

/-- The inverse, where it is known. -/
theorem inv_known (f : Nat) (a : Option Addr) (xss : List (List Nat)) (ca n : Nat) (w : World) (hf : Fld w f) (hx : RawIn w a xss) (hn : xss.length = n) (px : RightP xss) (bx : Bytes xss)
    (hm : ∀ (i : Nat) (xs : List Nat), xss[i]? = some xs → xs.length = xss.length) (Y : Mx) (hY : Bd n n Y) (hr : EqM n n (mm n (ent xss) Y) one) (hd : det n (ent xss) ≠ 0) :
    Calls Try.prog 30 #[.pointer (some ⟨f, 0, none⟩), .slice a n ca] w fun e w' => ∃ b, e = .returned (.tuple #[.slice (some ⟨b, 0, none⟩) n n, .bool true]) ∧ RawIn w' (some ⟨b, 0, none⟩) (rowsOf n n Y) ∧ Below w.heap.size w w' := by
  subst hn
  have hA : Bd xss.length xss.length (ent xss) := fun i _ j _ => ent_lt bx i j
  refine (minverse f a xss ca w hf hx px bx hm).mono ?_
  rintro e w' ⟨ok, X, v, rfl, hF, hb, h1, h2⟩
  have e1 := hF.iff_det hA
  rw [decide_eq_true hd] at e1
  subst e1
  obtain ⟨b, rfl, hr2⟩ := h2 rfl
  have e2 := inv_one hA (hF.yes hA).1 hY hr
  exact ⟨b, rfl, by rw [← rowsOf_congr e2]; exact hr2, hb⟩
theorem inv_known_no (f : Nat) (a : Option Addr) (xss : List (List Nat)) (ca n : Nat) (w : World) (hf : Fld w f) (hx : RawIn w a xss) (hn : xss.length = n) (px : RightP xss) (bx : Bytes xss)
    (hm : ∀ (i : Nat) (xs : List Nat), xss[i]? = some xs → xs.length = xss.length) (hd : det n (ent xss) = 0) :
    Calls Try.prog 30 #[.pointer (some ⟨f, 0, none⟩), .slice a n ca] w fun e w' => e = .returned (.tuple #[.slice none 0 0, .bool false]) ∧ Below w.heap.size w w' := by
  subst hn
  have hA : Bd xss.length xss.length (ent xss) := fun i _ j _ => ent_lt bx i j
  refine (minverse f a xss ca w hf hx px bx hm).mono ?_
  rintro e w' ⟨ok, X, v, rfl, hF, hb, h1, h2⟩
  have e1 := hF.iff_det hA
  rw [decide_eq_false (fun h => h hd)] at e1
  subst e1
  rw [h1 rfl]
  exact ⟨rfl, hb⟩
/-- The product, as rows. -/
theorem mmulr (f : Nat) (a b : Option Addr) (xss yss : List (List Nat)) (ca cb r n c : Nat) (w : World) (hf : Fld w f) (hx : RawIn w a xss) (hy : RawIn w b yss) (hr : xss.length = r) (hn : yss.length = n) (px : RightP xss) (py : RightP yss) (bx : Bytes xss) (bY : Bytes yss)
    (hm : ∀ (i : Nat) (xs : List Nat), xss[i]? = some xs → xs.length = yss.length) (hc : ∀ (i : Nat) (ys : List Nat), yss[i]? = some ys → ys.length = c) :
    Calls Try.prog 27 #[.pointer (some ⟨f, 0, none⟩), .slice a r ca, .slice b n cb] w fun e w' => ∃ o, e = .returned (.slice (some ⟨o, 0, none⟩) r r) ∧
      RawIn w' (some ⟨o, 0, none⟩) (rowsOf r c (mm n (ent xss) (ent yss))) ∧ Below w.heap.size w w' := by
  subst hr hn
  refine (mmul f a b xss yss ca cb c w hf hx hy px py bx bY hm hc).mono ?_
  rintro e w' ⟨rfl, ho, hb⟩
  exact ⟨_, rfl, ho.raw, hb⟩
/-- Same, where both are known. -/
theorem msamer (a b : Option Addr) (xss yss : List (List Nat)) (ca cb r n : Nat) (w : World) (hx : RawIn w a xss) (hy : RawIn w b yss) (hr : xss.length = r) (hn : yss.length = n) (lx : xss.length ≤ 9223372036854775807) (bx : Bytes xss) (bY : Bytes yss)
    (nx : ∀ (i : Nat) (xs : List Nat), xss[i]? = some xs → 0 < xs.length) (ny : ∀ (i : Nat) (xs : List Nat), yss[i]? = some xs → 0 < xs.length) (t : Bool) (ht : t = true ↔ xss = yss) :
    Calls Try.prog 33 #[.slice a r ca, .slice b n cb] w fun e w' => e = .returned (.bool t) ∧ w = w' := by
  subst hr hn
  refine (msame a b xss yss ca cb w hx hy lx bx bY nx ny t ht).mono ?_
  rintro e w' ⟨rfl, rfl⟩
  exact ⟨rfl, rfl⟩
end Go.Proofs.Ytajpnbmfeapmcaa
