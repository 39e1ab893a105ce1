import Derived.Test.YtoofgcdilgfclaaU08
import Derived.Test.YtoofgcdilgfclaaU10
import Derived.Test.YtoofgcdilgfclaaU03
namespace Go.Proofs.Ytoofgcdilgfclaa
open Go.RowKit Go.Sort
set_option maxRecDepth 100000
set_option maxHeartbeats 1000000
/-! Chapter 9, said plainly: an intent, its block. -/
structure It where
  s : Nat
  g : Nat
  D : Nat → Nat
def It.Ok (x : It) : Prop := x.s < 40 ∧ 1 ≤ x.g ∧ x.g ≤ 1099511627776 ∧ ∀ j, j < 128 → x.D j < 256
def itF (no : Nat) (x : It) : Nat → Nat := fun j => if j < 6 then byteAt no 6 j else if j = 6 then x.s else if j < 13 then byteAt x.g 6 (j - 7) else x.D (j - 13)
theorem itF_lt {no : Nat} {x : It} (h : x.Ok) : ∀ j, j < 141 → itF no x j < 256 := by
  obtain ⟨h1, h2, h3, h4⟩ := h
  intro j hj
  unfold itF
  split
  · exact byteAt_lt _ _ _
  · split
    · omega
    · split
      · exact byteAt_lt _ _ _
      · exact h4 _ (by omega)
/-- An intent's block. -/
def itS (no : Nat) (x : It) : Nat → Nat := sealF 2 141 (itF no x)
theorem itS_lt {no : Nat} {x : It} (h : x.Ok) (j : Nat) : itS no x j < 256 := sealF_lt (by decide) (itF_lt h) j
theorem itS_read {no : Nat} {x : It} {F : Nat → Nat} (hx : x.Ok) (hno : no < 281474976710656) (hF : ∀ j, j < 160 → F j = itS no x j) :
    OpenOk F ∧ num4 F 156 = sumF F 156 ∧ F 0 = 2 ∧ F 1 * 256 + F 2 = 141 ∧ numF (fun j => F (3 + j)) 6 = no ∧ F 9 = x.s ∧ numF (fun j => F (3 + (7 + j))) 6 = x.g ∧ ∀ j, j < 128 → F (16 + j) = x.D j := by
  obtain ⟨h1, h2, h3, h4, h5⟩ := openOk_seal (kind := 2) (n := 141) (B := itF no x) (F := F) (by decide) (by decide) hF
  refine ⟨h1, h2, h3, h4, ?_, ?_, ?_, fun j hj => ?_⟩
  · have e : numF (fun j => F (3 + j)) 6 = numF (byteAt no 6) 6 := by
      rw [numF_6, numF_6]
      simp only [h5 0 (by omega), h5 1 (by omega), h5 2 (by omega), h5 3 (by omega), h5 4 (by omega), h5 5 (by omega)]
      rfl
    rw [e]
    exact byte6 no hno
  · exact h5 6 (by omega)
  · have e : numF (fun j => F (3 + (7 + j))) 6 = numF (byteAt x.g 6) 6 := by
      rw [numF_6, numF_6]
      simp only [h5 (7 + 0) (by omega), h5 (7 + 1) (by omega), h5 (7 + 2) (by omega), h5 (7 + 3) (by omega), h5 (7 + 4) (by omega), h5 (7 + 5) (by omega)]
      rfl
    rw [e]
    exact byte6 x.g (by have := hx.2.2.1; omega)
  · have := h5 (13 + j) (by omega)
    rw [show 3 + (13 + j) = 16 + j by omega] at this
    rw [this]
    unfold itF
    rw [if_neg (by omega), if_neg (by omega), if_neg (by omega), Nat.add_sub_cancel_left]
/-- Two intents alike. -/
def It.Alike (x y : It) : Prop := x.s = y.s ∧ x.g = y.g ∧ ∀ j, j < 128 → x.D j = y.D j
theorem It.Alike.refl (x : It) : x.Alike x := ⟨rfl, rfl, fun _ _ => rfl⟩
attribute [irreducible] itF itS

/-- An intent as a value. -/
abbrev iv (s g : Int) (A : Option Addr) (n c : Nat) : Value := .agg #[.int .i64 s, .int .i64 g, .slice A n c]
/-- A slot as a value. -/
abbrev sv (no s g : Int) (A : Option Addr) (n c : Nat) : Value := .agg #[.int .i64 no, .int .i64 s, .int .i64 g, .slice A n c]
/-- May there be such an intent? -/
def OkJ (s g : Int) (n : Nat) : Prop := 0 ≤ s ∧ s < 40 ∧ 1 ≤ g ∧ g ≤ 1099511627776 ∧ n = 128
/-- An intent in a variable. -/
def IV (w : World) (b : Nat) (s g : Int) (A : Option Addr) (n c : Nat) : Prop := w.heap[b]? = some (.cells #[.int .i64 s, .int .i64 g, .slice A n c] 35 (0, 0))
section
variable {w w' : World} {b n c : Nat} {s g : Int} {A : Option Addr}
theorem IV.c0 (h : IV w b s g A n c) : w.cell? ⟨b, 0, none⟩ = some (.int .i64 s) := cell_of_block h
theorem IV.c1 (h : IV w b s g A n c) : w.cell? ⟨b, 1, none⟩ = some (.int .i64 g) := cell_of_block h
theorem IV.c2 (h : IV w b s g A n c) : w.cell? ⟨b, 2, none⟩ = some (.slice A n c) := cell_of_block h
theorem IV.f (h : IV w b s g A n c) (k : Nat) : w.frozen? ⟨b, k, none⟩ = false := free_of_block h
theorem IV.lt (h : IV w b s g A n c) : b < w.heap.size := heap_lt h
theorem IV.keep (h : IV w b s g A n c) (e : w'.heap[b]? = w.heap[b]?) : IV w' b s g A n c := e.trans h
theorem IV.below (h : IV w b s g A n c) (e : Below w.heap.size w w') : IV w' b s g A n c := (e.block b h.lt).trans h
theorem IV.new (w : World) (s g : Int) (A : Option Addr) (n c : Nat) : IV (w.alloc (.cells #[.int .i64 s, .int .i64 g, .slice A n c] 35)) w.heap.size s g A n c := alloc_block w _
theorem IV.of_new {H : Nat} (hH : w.heap.size = H) : IV (w.alloc (.cells #[.int .i64 s, .int .i64 g, .slice A n c] 35)) H s g A n c := hH ▸ IV.new w s g A n c
theorem IV.put (h : IV w b s g A n c) {s' g' : Int} {A' : Option Addr} {n' c' : Nat} : IV (((w.setCell ⟨b, 0, none⟩ (.int .i64 s')).setCell ⟨b, 1, none⟩ (.int .i64 g')).setCell ⟨b, 2, none⟩ (.slice A' n' c')) b s' g' A' n' c' := by
  unfold IV at h ⊢
  rw [set_block (set_block (set_block h 0 _) 1 _) 2 _]
  rfl
theorem IV.put_d (h : IV w b s g A n c) {A' : Option Addr} {n' c' : Nat} : IV (w.setCell ⟨b, 2, none⟩ (.slice A' n' c')) b s g A' n' c' := by
  unfold IV at h ⊢
  rw [set_block h 2 _]
  rfl
theorem IV.load (h : IV w b s g A n c) : (loadVar 35 ⟨b, 0, none⟩).run Try.prog w = .ok (iv s g A n c) w := by
  have c0 := h.c0
  have c1 := h.c1
  have c2 := h.c2
  have s0 := h.lt
  simp [go_sem, c0, c1, c2, iv]
end
theorem below_put3 {B : Nat} {w0 w : World} {b : Nat} (h : Below B w0 w) (hb : B ≤ b) (v0 v1 v2 : Value) : Below B w0 (((w.setCell ⟨b, 0, none⟩ v0).setCell ⟨b, 1, none⟩ v1).setCell ⟨b, 2, none⟩ v2) :=
  ((h.setCell hb _).setCell hb _).setCell hb _
/-- An intent's bytes, in a block of bytes. -/
def DatI (w : World) (A : Option Addr) (D : Nat → Nat) : Prop := ∃ g o cs, A = some ⟨g, o, none⟩ ∧ w.heap[g]? = some (.cells cs 5 (0, 0)) ∧ ∀ j, j < 128 → w.cell? ⟨g, o + j, none⟩ = some (.int .u8 (D j : Nat))
theorem DatI.of {w : World} {g o n : Nat} {D F : Nat → Nat} (h : Blk8 w g n F) (r : Rd w (some ⟨g, o, none⟩) 128 D) : DatI w (some ⟨g, o, none⟩) D := by
  obtain ⟨cs, hb, _⟩ := h
  exact ⟨g, o, cs, rfl, hb, fun j hj => r.some_ hj⟩
theorem DatI.blk {w : World} {g : Nat} {D : Nat → Nat} (h : Blk8 w g 128 D) : DatI w (some ⟨g, 0, none⟩) D := DatI.of h h.rd
theorem DatI.rd {w : World} {A : Option Addr} {D : Nat → Nat} (h : DatI w A D) : Rd w A 128 D := fun _ => by
  obtain ⟨g, o, cs, e, _, hc⟩ := h
  exact ⟨g, o, e, hc⟩
theorem DatI.keep {w w' : World} {A : Option Addr} {D : Nat → Nat} (h : DatI w A D) (k : ∀ (g : Nat) (cs : Array Value), w.heap[g]? = some (Obj.cells cs 5 (0, 0)) → w'.heap[g]? = w.heap[g]?) : DatI w' A D := by
  obtain ⟨g, o, cs, e, hb, hc⟩ := h
  have h1 := k g cs hb
  exact ⟨g, o, cs, e, h1.trans hb, fun j hj => (World.cell?_of_block (w := w) h1).trans (hc j hj)⟩
theorem DatI.below {w w' : World} {A : Option Addr} {D : Nat → Nat} (h : DatI w A D) (b : Below w.heap.size w w') : DatI w' A D := h.keep (fun g _ hb => b.block g (heap_lt hb))
theorem DatI.congr {w : World} {A : Option Addr} {D E : Nat → Nat} (h : DatI w A D) (e : ∀ j, j < 128 → D j = E j) : DatI w A E := by
  obtain ⟨g, o, cs, a, hb, hc⟩ := h
  exact ⟨g, o, cs, a, hb, fun j hj => by rw [← e j hj]; exact hc j hj⟩
/-- A cell of a block of another kind is put. -/
theorem DatI.far {w : World} {A : Option Addr} {D : Nat → Nat} {b k : Nat} {cs : Array Value} {t : TypeId} {fr : Nat × Nat} {v : Value} (h : DatI w A D) (hb : w.heap[b]? = some (.cells cs t fr)) (ht : t ≠ 5) : DatI (w.setCell ⟨b, k, none⟩ v) A D :=
  h.keep (fun g cs' hg => set_other (by rintro rfl; rw [hb] at hg; cases hg; exact ht rfl) k v)
theorem DatI.far3 {w : World} {A : Option Addr} {D : Nat → Nat} {b n c : Nat} {s g : Int} {B : Option Addr} (h : DatI w A D) (k : IV w b s g B n c) {v0 v1 v2 : Value} :
    DatI (((w.setCell ⟨b, 0, none⟩ v0).setCell ⟨b, 1, none⟩ v1).setCell ⟨b, 2, none⟩ v2) A D := by
  have h1 := set_block k 0 v0
  have h2 := set_block h1 1 v1
  exact ((h.far k (by decide)).far h1 (by decide)).far h2 (by decide)
theorem DatI.some_ {w : World} {A : Option Addr} {D : Nat → Nat} (h : DatI w A D) : ∃ g o, A = some ⟨g, o, none⟩ := by
  obtain ⟨g, o, _, e, _⟩ := h
  exact ⟨g, o, e⟩
/-- An intent as it is handed about. -/
def ItV (w : World) (v : Value) (x : It) : Prop := ∃ A c, v = iv (x.s : Int) (x.g : Int) A 128 c ∧ DatI w A x.D
theorem ItV.below {w w' : World} {v : Value} {x : It} (h : ItV w v x) (b : Below w.heap.size w w') : ItV w' v x := by
  obtain ⟨A, c, e, d⟩ := h
  exact ⟨A, c, e, d.below b⟩
theorem Blk8.farI {w : World} {g n b k : Nat} {F : Nat → Nat} {cs : Array Value} {t : TypeId} {fr : Nat × Nat} {v : Value} (h : Blk8 w g n F) (hb : w.heap[b]? = some (.cells cs t fr)) (ht : t ≠ 5) : Blk8 (w.setCell ⟨b, k, none⟩ v) g n F :=
  h.keep (set_other (by rintro rfl; obtain ⟨cs', h1, _⟩ := h; rw [hb] at h1; cases h1; exact ht rfl) k v)
theorem Blk8.far3 {w : World} {q m : Nat} {D : Nat → Nat} {b n c : Nat} {s g : Int} {B : Option Addr} (h : Blk8 w q m D) (k : IV w b s g B n c) {v0 v1 v2 : Value} :
    Blk8 (((w.setCell ⟨b, 0, none⟩ v0).setCell ⟨b, 1, none⟩ v1).setCell ⟨b, 2, none⟩ v2) q m D := by
  have h1 := set_block k 0 v0
  have h2 := set_block h1 1 v1
  exact ((h.farI k (by decide)).farI h1 (by decide)).farI h2 (by decide)
/-- intent.Right. -/
theorem iright (s g : Int) (A : Option Addr) (n cap : Nat) (w : World) (t : Bool) (ht : t = true ↔ OkJ s g n) :
    Calls Try.prog 57 #[iv s g A n cap] w fun e w' => e = .returned (.bool t) ∧ Below w.heap.size w w' := by
  have HB : Hid (Below w.heap.size w (w.alloc (.cells #[.int .i64 s, .int .i64 g, .slice A n cap] 35))) := Lib.hid ((Below.refl _ _).alloc (Nat.le_refl _) _)
  unfold OkJ at ht
  unfold iv
  have walk : True := trivial
  by_cases h0 : 0 ≤ s
  · have p0 := h0
    by_cases h1 : s < 40
    · have p1 := h1
      by_cases h2 : 1 ≤ g
      · have p2 := h2
        by_cases h3 : g ≤ 1099511627776
        · have p3 := h3
          by_cases h4 : (n : Int) = 128
          · have p5 : ((n : Int) == 128) = true := beq_iff_eq.2 h4
            obtain rfl : t = true := ht.2 (by refine ⟨h0, h1, h2, h3, by omega⟩)
            clear ht h0 h1 h2 h3 h4
            go_enter Try.func57, Try.ntmps57
            go_wp2_with fail
            go_ret
            exact ⟨rfl, HB.out⟩
          · obtain rfl : t = false := not_true ht (fun h => by omega)
            have p5 : ((n : Int) == 128) = false := beq_eq_false_iff_ne.2 h4
            clear ht h0 h1 h2 h3 h4
            go_enter Try.func57, Try.ntmps57
            go_wp2_with fail
            go_ret
            exact ⟨rfl, HB.out⟩
        · obtain rfl : t = false := not_true ht (fun h => by omega)
          clear ht h0 h1 h2
          go_enter Try.func57, Try.ntmps57
          go_wp2_with fail
          go_ret
          exact ⟨rfl, HB.out⟩
      · obtain rfl : t = false := not_true ht (fun h => by omega)
        clear ht h0 h1
        go_enter Try.func57, Try.ntmps57
        go_wp2_with fail
        go_ret
        exact ⟨rfl, HB.out⟩
    · obtain rfl : t = false := not_true ht (fun h => by omega)
      clear ht h0
      go_enter Try.func57, Try.ntmps57
      go_wp2_with fail
      go_ret
      exact ⟨rfl, HB.out⟩
  · obtain rfl : t = false := not_true ht (fun h => by omega)
    clear ht 
    go_enter Try.func57, Try.ntmps57
    go_wp2_with fail
    go_ret
    exact ⟨rfl, HB.out⟩
/-- intent.Same. -/
theorem isame (s g s' g' : Int) (A A' : Option Addr) (n c n' c' : Nat) (D D' : Nat → Nat) (w : World) (h1 : Rd w A n D) (h2 : Rd w A' n' D') (b1 : ∀ j, j < n → D j < 256) (b2 : ∀ j, j < n' → D' j < 256)
    (t : Bool) (ht : t = true ↔ s = s' ∧ g = g' ∧ n = n' ∧ ∀ j, j < n → D j = D' j) :
    Calls Try.prog 42 #[iv s g A n c, iv s' g' A' n' c'] w fun e w' => e = .returned (.bool t) ∧ Below w.heap.size w w' := by
  have HT := Lib.hid ht
  obtain ⟨w1, hw1⟩ : ∃ w1, (w.alloc (.cells #[.int .i64 s, .int .i64 g, .slice A n c] 35)).alloc (.cells #[.int .i64 s', .int .i64 g', .slice A' n' c'] 35) = w1 := ⟨_, rfl⟩
  have HB1 : Hid (Below w.heap.size w w1) := Lib.hid (by rw [← hw1]; exact ((Below.refl _ _).alloc (Nat.le_refl _) _).alloc (by simp) _)
  have HW1 := Lib.hid hw1
  have HE := Lib.hid (fun t' ht' => bequal A A' n n' c c' D D' w1 (h1.keep HB1.out) (h2.keep HB1.out) b1 b2 t' ht')
  clear ht h1 h2 b1 b2 hw1
  unfold iv
  by_cases hs : s = s'
  · have e1 : (s == s') = true := beq_iff_eq.2 hs
    have HS := Lib.hid hs
    clear hs
    by_cases hg : g = g'
    · have e2 : (g == g') = true := beq_iff_eq.2 hg
      have HG := Lib.hid hg
      clear hg
      have HE2 := Lib.hid (HE.out t ⟨fun h => (HT.out.1 h).2.2, fun h => HT.out.2 ⟨HS.out, HG.out, h⟩⟩)
      go_enter Try.func42, Try.ntmps42
      go_wp2_with fail
      rw [HW1.out]
      refine HE2.out.mono ?_
      rintro e w' ⟨rfl, hw⟩
      obtain rfl := hw.symm
      go_wp2_with fail
      go_ret
      exact ⟨rfl, HB1.out⟩
    · have e2 : (g == g') = false := beq_eq_false_iff_ne.2 hg
      obtain rfl : t = false := not_true HT.out (fun h => hg h.2.1)
      clear hg
      go_enter Try.func42, Try.ntmps42
      go_wp2_with fail
      go_ret
      rw [HW1.out]
      exact ⟨rfl, HB1.out⟩
  · have e1 : (s == s') = false := beq_eq_false_iff_ne.2 hs
    obtain rfl : t = false := not_true HT.out (fun h => hs h.1)
    clear hs
    go_enter Try.func42, Try.ntmps42
    go_wp2_with fail
    go_ret
    rw [HW1.out]
    exact ⟨rfl, HB1.out⟩
theorem isameV {w : World} {v v' : Value} {x y : It} (h : ItV w v x) (h' : ItV w v' y) (hx : ∀ j, j < 128 → x.D j < 256) (hy : ∀ j, j < 128 → y.D j < 256) (t : Bool) (ht : t = true ↔ x.Alike y) :
    Calls Try.prog 42 #[v, v'] w fun e w' => e = .returned (.bool t) ∧ Below w.heap.size w w' := by
  obtain ⟨A, c, rfl, d⟩ := h
  obtain ⟨A', c', rfl, d'⟩ := h'
  refine isame _ _ _ _ A A' 128 c 128 c' x.D y.D w d.rd d'.rd hx hy t ⟨fun h => ?_, fun h => ht.2 ⟨by omega, by omega, h.2.2.2⟩⟩
  obtain ⟨a, b, e⟩ := ht.1 h
  exact ⟨by omega, by omega, rfl, e⟩
/-- one of corbellaw9. -/
def oneI (s g : Nat) (x : Int) : It := ⟨s, g, bytesF x⟩
theorem oneI_ok {s g : Nat} {x : Int} (hs : s < 40) (h1 : 1 ≤ g) (h2 : g ≤ 1099511627776) : (oneI s g x).Ok := ⟨hs, h1, h2, fun j _ => bytesF_lt x j⟩
def LOneI (s g : Nat) (x : Int) (w : World) (e : Ending) (w' : World) : Prop := ∃ b, e = .returned (iv (s : Int) (g : Int) (some ⟨b, 0, none⟩) 128 128) ∧ Blk8 w' b 128 (bytesF x) ∧ Below w.heap.size w w' ∧ w.heap.size ≤ b
/-- clone: the same bytes in new memory. -/
def IClone (s g : Int) (D : Nat → Nat) (w : World) (e : Ending) (w' : World) : Prop := ∃ b c, e = .returned (iv s g (some ⟨b, 0, none⟩) 128 c) ∧ Blk8 w' b 128 D ∧ Below w.heap.size w w' ∧ w.heap.size ≤ b ∧ 128 ≤ c
end Go.Proofs.Ytoofgcdilgfclaa
