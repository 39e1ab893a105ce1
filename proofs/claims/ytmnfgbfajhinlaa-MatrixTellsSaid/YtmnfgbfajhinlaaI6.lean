import Derived.Test.YtmnfgbfajhinlaaI5
namespace Go.Proofs.Ytmnfgbfajhinlaa
open Go.RowKit Go.Sort
set_option maxRecDepth 100000
set_option maxHeartbeats 2000000

def L10 (w : World) : World := (w.alloc (.cells #[] 5)).alloc (.cells #[.slice (some ⟨w.heap.size, 0, none⟩) 0 0] 27)
def L121 (w : World) (P Q R : Int) : World := ((w.alloc (.cells #[.int .u8 P] 5)).alloc (.cells #[.int .u8 Q, .int .u8 R] 5)).alloc (.cells #[.slice (some ⟨w.heap.size, 0, none⟩) 1 1, .slice (some ⟨w.heap.size + 1, 0, none⟩) 2 2] 27)
theorem lit10 (w : World) : Hid (RawIn (L10 w) (some ⟨w.heap.size + 1, 0, none⟩) [[]] ∧ Below w.heap.size w (L10 w)) :=
  Lib.hid ⟨raw_lit1 rfl (push2_b _ _ _) (push2_a _ _ _), ((Below.refl _ _).alloc (Nat.le_refl _) _).alloc (by simp) _⟩
theorem lit121 (w : World) (p q r : Nat) (P Q R : Int) (hp : P = p) (hq : Q = q) (hr : R = r) : Hid (RawIn (L121 w P Q R) (some ⟨w.heap.size + 1 + 1, 0, none⟩) [[p], [q, r]] ∧ Below w.heap.size w (L121 w P Q R)) := by
  subst hp hq hr
  exact Lib.hid ⟨raw_lit2 rfl rfl (push3_c _ _ _ _) (push3_a _ _ _ _) (push3_b _ _ _ _), (((Below.refl _ _).alloc (Nat.le_refl _) _).alloc (by simp) _).alloc (by simp; omega) _⟩

def L12b (w : World) (P Q R S : Int) : World := (((w.alloc (.cells #[.int .u8 P, .int .u8 Q] 5)).alloc (.cells #[.slice (some ⟨w.heap.size, 0, none⟩) 2 2] 27)).alloc (.cells #[.int .u8 R, .int .u8 S] 5)).alloc (.cells #[.slice (some ⟨w.heap.size + 1 + 1, 0, none⟩) 2 2] 27)
def L11b (w : World) (P R : Int) : World := (((w.alloc (.cells #[.int .u8 P] 5)).alloc (.cells #[.slice (some ⟨w.heap.size, 0, none⟩) 1 1] 27)).alloc (.cells #[.int .u8 R] 5)).alloc (.cells #[.slice (some ⟨w.heap.size + 1 + 1, 0, none⟩) 1 1] 27)
theorem lit12b (w : World) (p q r s : Nat) (P Q R S : Int) (hp : P = p) (hq : Q = q) (hr : R = r) (hs : S = s) : Hid (RawIn (L12b w P Q R S) (some ⟨w.heap.size + 1, 0, none⟩) [[p, q]] ∧ RawIn (L12b w P Q R S) (some ⟨w.heap.size + 1 + 1 + 1, 0, none⟩) [[r, s]] ∧ Below w.heap.size w (L12b w P Q R S)) := by
  have e : L12b w P Q R S = L12 (L12 w P Q) R S := by unfold L12b L12; rw [alloc_size, alloc_size]
  have h1 := lit12 w p q P Q hp hq
  have h2 := lit12 (L12 w P Q) r s R S hr hs
  have hz : (L12 w P Q).heap.size = w.heap.size + 1 + 1 := by unfold L12; rw [alloc_size, alloc_size]
  rw [← e] at h2
  have h3 := h2.out.1
  rw [hz] at h3
  exact Lib.hid ⟨h1.out.1.keep h2.out.2, h3, h1.out.2.trans (h2.out.2.mono (by omega))⟩
theorem lit11b (w : World) (p r : Nat) (P R : Int) (hp : P = p) (hr : R = r) : Hid (RawIn (L11b w P R) (some ⟨w.heap.size + 1, 0, none⟩) [[p]] ∧ RawIn (L11b w P R) (some ⟨w.heap.size + 1 + 1 + 1, 0, none⟩) [[r]] ∧ Below w.heap.size w (L11b w P R)) := by
  have e : L11b w P R = L11 (L11 w P) R := by unfold L11b L11; rw [alloc_size, alloc_size]
  have h1 := lit11 w p P hp
  have h2 := lit11 (L11 w P) r R hr
  have hz : (L11 w P).heap.size = w.heap.size + 1 + 1 := by unfold L11; rw [alloc_size, alloc_size]
  rw [← e] at h2
  have h3 := h2.out.1
  rw [hz] at h3
  exact Lib.hid ⟨h1.out.1.keep h2.out.2, h3, h1.out.2.trans (h2.out.2.mono (by omega))⟩
theorem mmul_noner (f : Nat) (a b : Option Addr) (xss yss : List (List Nat)) (ca cb r n c : Nat) (w : World) (hx : RawIn w a xss) (hy : RawIn w b yss) (hr : xss.length = r) (hn : yss.length = n) (lx : r ≤ 1000) (ly : n ≤ 1000) (px : RightP xss)
    (hc : ∀ (i : Nat) (xs : List Nat), xss[i]? = some xs → xs.length = c) (hno : ¬ (RightP yss ∧ c = yss.length)) :
    Calls Try.prog 13 #[.pointer (some ⟨f, 0, none⟩), .slice a r ca, .slice b n cb] w fun e w' => e = .returned (.slice none 0 0) ∧ w' = w := by
  subst hr hn
  exact mmul_none f a b xss yss ca cb c w hx hy (by omega) (by omega) px hc hno

theorem ident64 (w : World) : Calls Try.prog 11 #[.int .i64 64] w fun e w' => ∃ b, e = .returned (.slice (some ⟨b, 0, none⟩) 64 64) ∧ Below w.heap.size w w' :=
  (midentity 64 w (by decide) (by decide)).mono fun _ _ ⟨he, _, hb⟩ => ⟨_, he, hb⟩
/-- Right of a literal. -/
theorem rightr (a : Option Addr) (xss : List (List Nat)) (cap n : Nat) (w : World) (h : RawIn w a xss) (hn : xss.length = n) (hl : n ≤ 1000) (t : Bool) (ht : t = true ↔ RightP xss) :
    Calls Try.prog 12 #[.slice a n cap] w fun e w' => e = .returned (.bool t) ∧ w = w' := by
  subst hn
  refine (mright a xss cap w h (by omega) t ht).mono ?_
  rintro e w' ⟨rfl, rfl⟩
  exact ⟨rfl, rfl⟩
theorem not_right_nil : ¬ RightP [] := fun h => absurd h.1 (by decide)
theorem not_right_none : ¬ RightP [[]] := fun h => by
  obtain ⟨c, h1, _, h3⟩ := h.2.2
  have := h3 0 [] rfl
  simp at this
  omega
theorem not_right_odd : ¬ RightP [[1], [1, 2]] := fun h => by
  obtain ⟨c, h1, _, h3⟩ := h.2.2
  have a := h3 0 [1] rfl
  have b := h3 1 [1, 2] rfl
  simp at a b
  omega
theorem right12 (p q : Nat) : RightP [[p, q]] := right_of 1 2 rfl (by decide) (by decide) (by decide) (by decide) (by simp)

theorem matrixKnown (w : World) : Calls Try.prog 3 #[] w fun e w' => e = .returned (.bool true) ∧ Below w.heap.size w w' := by
  obtain ⟨qj1, qj2, qj3, qj4⟩ := sq2 (xss := xsJ) (Or.inr (Or.inr (Or.inl rfl)))
  obtain ⟨qo1, qo2, qo3, qo4⟩ := sq2 (xss := [[1, 1], [1, 1]]) (Or.inr (Or.inr (Or.inr rfl)))
  have QJ := Lib.hid (And.intro qj2 (And.intro qj3 qj4))
  have QO := Lib.hid (And.intro qo2 (And.intro qo3 qo4))
  have LJ := Lib.hid qj1
  clear qj1 qj2 qj3 qj4 qo1 qo2 qo3 qo4
  go_enter Try.func3, Try.ntmps3
  go_wp2_with fail
  refine (fnew0 _).mono ?_
  rintro e w2 ⟨f, rfl, HF⟩
  have HF : Hid (Fld w2 f ∧ Below w.heap.size w w2) := Lib.hid ⟨HF.out.1, HF.out.2.1⟩
  go_wp2_with fail
  have HL := lit22 w2 1 1 1 1 1 1 1 1 rfl rfl rfl rfl
  change Calls _ _ _ (L22 w2 1 1 1 1) _
  generalize L22 w2 1 1 1 1 = w3 at HL ⊢
  generalize w2.heap.size + 1 + 1 = a3 at HL ⊢
  have HF3 : Hid (Fld w3 f ∧ Below w.heap.size w w3) := Lib.hid ⟨HF.out.1.keep HL.out.2, HF.out.2.trans (HL.out.2.mono HF.out.2.size)⟩
  clear HF
  refine (inv_known_no f _ [[1, 1], [1, 1]] 2 2 w3 HF3.out.1 HL.out.1 rfl QO.out.1 QO.out.2.1 QO.out.2.2 det1).mono ?_
  rintro e w4 ⟨rfl, b4⟩
  have HF4 : Hid (Fld w4 f ∧ Below w.heap.size w w4) := Lib.hid ⟨HF3.out.1.keep b4, HF3.out.2.trans (b4.mono HF3.out.2.size)⟩
  clear HL b4 HF3
  go_wp2_with fail
  have HL := lit12 w4 1 1 1 1 rfl rfl
  change Calls _ _ _ (L12 w4 1 1) _
  generalize L12 w4 1 1 = w5 at HL ⊢
  generalize w4.heap.size + 1 = a5 at HL ⊢
  have HF5 : Hid (Fld w5 f ∧ Below w.heap.size w w5) := Lib.hid ⟨HF4.out.1.keep HL.out.2, HF4.out.2.trans (HL.out.2.mono HF4.out.2.size)⟩
  clear HF4
  refine (minverse_none f _ [[1, 1]] 1 2 w5 HL.out.1 (by simp) (right12 1 1) (all_of_mem (by simp)) (by simp)).mono ?_
  rintro e w' ⟨rfl, hw⟩
  obtain rfl := hw.symm
  clear HL
  go_wp2_with fail
  have HL := lit11 w5 1 1 rfl
  change Calls _ _ _ (L11 w5 1) _
  generalize L11 w5 1 = w6 at HL ⊢
  generalize w5.heap.size + 1 = a6 at HL ⊢
  have HF6 : Hid (Fld w6 f ∧ Below w.heap.size w w6) := Lib.hid ⟨HF5.out.1.keep HL.out.2, HF5.out.2.trans (HL.out.2.mono HF5.out.2.size)⟩
  clear HF5 HL
  refine (minverse_nil _ w6).mono ?_
  rintro e w' ⟨rfl, hw⟩
  obtain rfl := hw.symm
  go_wp2_with fail
  have HL := lit22 w6 0 1 1 0 0 1 1 0 rfl rfl rfl rfl
  change Calls _ _ _ (L22 w6 0 1 1 0) _
  generalize L22 w6 0 1 1 0 = w7 at HL ⊢
  generalize w6.heap.size + 1 + 1 = a7 at HL ⊢
  have HF7 : Hid (Fld w7 f ∧ Below w.heap.size w w7) := Lib.hid ⟨HF6.out.1.keep HL.out.2, HF6.out.2.trans (HL.out.2.mono HF6.out.2.size)⟩
  have HR7 : Hid (RawIn w7 (some ⟨a7, 0, none⟩) xsJ) := Lib.hid HL.out.1
  clear HF6 HL
  refine (inv_known f _ xsJ 2 2 w7 HF7.out.1 HR7.out LJ.out QJ.out.1 QJ.out.2.1 (by rw [LJ.out]; exact QJ.out.2.2) (ent xsJ) (fun i _ j _ => ent_lt QJ.out.2.1 i j) entJ_inv (by rw [detJ]; decide)).mono ?_
  rintro e w8 ⟨b, rfl, r8, b8⟩
  have HF8 : Hid (Fld w8 f ∧ Below w.heap.size w w8) := Lib.hid ⟨HF7.out.1.keep b8, HF7.out.2.trans (b8.mono HF7.out.2.size)⟩
  have HR8 : Hid (RawIn w8 (some ⟨b, 0, none⟩) xsJ) := Lib.hid (by rw [rowsOf_J] at r8; exact r8)
  clear r8 b8 HF7 HR7
  go_wp2_with fail
  refine (mknown w8).mono ?_
  rintro e w9 ⟨rfl, b9⟩
  have HF9 : Hid (Fld w9 f ∧ Below w.heap.size w w9) := Lib.hid ⟨HF8.out.1.keep b9, HF8.out.2.trans (b9.mono HF8.out.2.size)⟩
  have HR9 := Lib.hid (HR8.out.keep b9)
  clear b9 HF8 HR8
  go_wp2_with fail
  have HL := lit22 w9 0 1 1 0 0 1 1 0 rfl rfl rfl rfl
  change Calls _ _ _ (L22 w9 0 1 1 0) _
  generalize L22 w9 0 1 1 0 = w10 at HL ⊢
  generalize w9.heap.size + 1 + 1 = a10 at HL ⊢
  have HF10 : Hid (Fld w10 f ∧ Below w.heap.size w w10) := Lib.hid ⟨HF9.out.1.keep HL.out.2, HF9.out.2.trans (HL.out.2.mono HF9.out.2.size)⟩
  have HR10 : Hid (RawIn w10 (some ⟨b, 0, none⟩) xsJ ∧ RawIn w10 (some ⟨a10, 0, none⟩) xsJ) := Lib.hid ⟨HR9.out.keep HL.out.2, HL.out.1⟩
  clear HF9 HR9 HL
  refine (msamer _ _ xsJ xsJ 2 2 2 2 _ HR10.out.1 HR10.out.2 LJ.out LJ.out (by rw [LJ.out]; omega) QJ.out.2.1 QJ.out.2.1 (fun i xs h => by have := QJ.out.2.2 i xs h; omega) (fun i xs h => by have := QJ.out.2.2 i xs h; omega) true (by simp)).mono ?_
  rintro e w' ⟨rfl, hw⟩
  obtain rfl := hw
  clear HR10
  go_wp2_with fail
  refine (midentity_none 0 w10 (by omega)).mono ?_
  rintro e w' ⟨rfl, hw⟩
  obtain rfl := hw.symm
  go_wp2_with fail
  refine (midentity_none 65 w10 (by omega)).mono ?_
  rintro e w' ⟨rfl, hw⟩
  obtain rfl := hw.symm
  go_wp2_with fail
  refine (ident64 w10).mono ?_
  rintro e w11 ⟨b64, rfl, b11⟩
  have HF11 : Hid (Fld w11 f ∧ Below w.heap.size w w11) := Lib.hid ⟨HF10.out.1.keep b11, HF10.out.2.trans (b11.mono HF10.out.2.size)⟩
  clear b11 HF10
  go_wp2_with fail
  refine (rightr none [] 0 0 w11 (fun i xs h => by simp at h) rfl (by omega) false ⟨fun h => (by cases h), fun h => absurd h not_right_nil⟩).mono ?_
  rintro e w' ⟨rfl, hw⟩
  obtain rfl := hw
  go_wp2_with fail
  have HL := lit10 w11
  change Calls _ _ _ (L10 w11) _
  generalize L10 w11 = w12 at HL ⊢
  generalize w11.heap.size + 1 = a12 at HL ⊢
  have HF12 : Hid (Fld w12 f ∧ Below w.heap.size w w12) := Lib.hid ⟨HF11.out.1.keep HL.out.2, HF11.out.2.trans (HL.out.2.mono HF11.out.2.size)⟩
  clear HF11
  refine (rightr _ [[]] 1 1 w12 HL.out.1 rfl (by omega) false ⟨fun h => (by cases h), fun h => absurd h not_right_none⟩).mono ?_
  rintro e w' ⟨rfl, hw⟩
  obtain rfl := hw
  clear HL
  go_wp2_with fail
  have HL := lit121 w12 1 1 2 1 1 2 rfl rfl rfl
  change Calls _ _ _ (L121 w12 1 1 2) _
  generalize L121 w12 1 1 2 = w13 at HL ⊢
  generalize w12.heap.size + 1 + 1 = a13 at HL ⊢
  have HF13 : Hid (Fld w13 f ∧ Below w.heap.size w w13) := Lib.hid ⟨HF12.out.1.keep HL.out.2, HF12.out.2.trans (HL.out.2.mono HF12.out.2.size)⟩
  clear HF12
  refine (rightr _ [[1], [1, 2]] 2 2 w13 HL.out.1 rfl (by omega) false ⟨fun h => (by cases h), fun h => absurd h not_right_odd⟩).mono ?_
  rintro e w' ⟨rfl, hw⟩
  obtain rfl := hw
  clear HL
  go_wp2_with fail
  have HL := lit12 w13 1 2 1 2 rfl rfl
  change Calls _ _ _ (L12 w13 1 2) _
  generalize L12 w13 1 2 = w14 at HL ⊢
  generalize w13.heap.size + 1 = a14 at HL ⊢
  have HF14 : Hid (Fld w14 f ∧ Below w.heap.size w w14) := Lib.hid ⟨HF13.out.1.keep HL.out.2, HF13.out.2.trans (HL.out.2.mono HF13.out.2.size)⟩
  clear HF13
  refine (rightr _ [[1, 2]] 1 1 w14 HL.out.1 rfl (by omega) true ⟨fun _ => right12 1 2, fun _ => rfl⟩).mono ?_
  rintro e w' ⟨rfl, hw⟩
  obtain rfl := hw
  clear HL
  go_wp2_with fail
  have HL := lit12b w14 1 2 1 2 1 2 1 2 rfl rfl rfl rfl
  change Calls _ _ _ (L12b w14 1 2 1 2) _
  generalize L12b w14 1 2 1 2 = w15 at HL ⊢
  generalize w14.heap.size + 1 + 1 + 1 = b15 at HL ⊢
  generalize w14.heap.size + 1 = a15 at HL ⊢
  have HF15 : Hid (Fld w15 f ∧ Below w.heap.size w w15) := Lib.hid ⟨HF14.out.1.keep HL.out.2.2, HF14.out.2.trans (HL.out.2.2.mono HF14.out.2.size)⟩
  clear HF14
  refine (mmul_noner f _ _ [[1, 2]] [[1, 2]] 1 1 1 1 2 w15 HL.out.1 HL.out.2.1 rfl rfl (by omega) (by omega) (right12 1 2) (all_of_mem (by simp)) (by simp)).mono ?_
  rintro e w' ⟨rfl, hw⟩
  obtain rfl := hw.symm
  clear HL
  go_wp2_with fail
  have HL := lit11b w15 1 1 1 1 rfl rfl
  change Calls _ _ _ (L11b w15 1 1) _
  generalize L11b w15 1 1 = w16 at HL ⊢
  generalize w15.heap.size + 1 + 1 + 1 = b16 at HL ⊢
  generalize w15.heap.size + 1 = a16 at HL ⊢
  have HF16 : Hid (Fld w16 f ∧ Below w.heap.size w w16) := Lib.hid ⟨HF15.out.1.keep HL.out.2.2, HF15.out.2.trans (HL.out.2.2.mono HF15.out.2.size)⟩
  clear HF15 HL
  refine (mmul_nil _ _ w16).mono ?_
  rintro e w' ⟨rfl, hw⟩
  obtain rfl := hw.symm
  go_wp2_with fail
  have HL := lit11b w16 1 2 1 2 rfl rfl
  change Calls _ _ _ (L11b w16 1 2) _
  generalize L11b w16 1 2 = w17 at HL ⊢
  generalize w16.heap.size + 1 + 1 + 1 = b17 at HL ⊢
  generalize w16.heap.size + 1 = a17 at HL ⊢
  have HF17 : Hid (Fld w17 f ∧ Below w.heap.size w w17) := Lib.hid ⟨HF16.out.1.keep HL.out.2.2, HF16.out.2.trans (HL.out.2.2.mono HF16.out.2.size)⟩
  clear HF16
  refine (msamer _ _ [[1]] [[2]] 1 1 1 1 _ HL.out.1 HL.out.2.1 rfl rfl (by simp) (bytes_of (by simp)) (bytes_of (by simp)) (all_of_mem (by simp)) (all_of_mem (by simp)) false (by simp)).mono ?_
  rintro e w' ⟨rfl, hw⟩
  obtain rfl := hw
  clear HL
  go_wp2_with fail
  go_ret
  exact ⟨rfl, HF17.out.2⟩
end Go.Proofs.Ytmnfgbfajhinlaa
