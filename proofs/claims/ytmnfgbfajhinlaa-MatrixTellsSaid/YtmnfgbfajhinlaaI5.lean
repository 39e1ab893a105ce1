import Derived.Test.YtmnfgbfajhinlaaI4
namespace Go.Proofs.Ytmnfgbfajhinlaa
open Go.RowKit Go.Sort
set_option maxRecDepth 100000
set_option maxHeartbeats 1000000

theorem two_cases {P : Nat → Nat → Prop} (h00 : P 0 0) (h01 : P 0 1) (h10 : P 1 0) (h11 : P 1 1) : ∀ i, i < 2 → ∀ j, j < 2 → P i j := fun i hi j hj => by
  match i, hi, j, hj with
  | 0, _, 0, _ => exact h00
  | 0, _, 1, _ => exact h01
  | 1, _, 0, _ => exact h10
  | 1, _, 1, _ => exact h11
def xsA : List (List Nat) := [[1, 1], [0, 1]]
def xsI : List (List Nat) := [[1, 0], [0, 1]]
def xsJ : List (List Nat) := [[0, 1], [1, 0]]
theorem right_of {xss : List (List Nat)} (r c : Nat) (h : xss.length = r) (h1 : 1 ≤ r) (h2 : r ≤ 64) (c1 : 1 ≤ c) (c2 : c ≤ 64) (hc : ∀ xs ∈ xss, xs.length = c) : RightP xss :=
  ⟨by omega, by omega, c, c1, c2, fun _ xs hx => hc xs (List.mem_of_getElem? hx)⟩
theorem all_of_mem {xss : List (List Nat)} {P : List Nat → Prop} (h : ∀ xs ∈ xss, P xs) : ∀ (i : Nat) (xs : List Nat), xss[i]? = some xs → P xs := fun _ xs hx => h xs (List.mem_of_getElem? hx)
theorem bytes_of {xss : List (List Nat)} (h : ∀ xs ∈ xss, ∀ x ∈ xs, x < 256) : Bytes xss := fun _ xs hx => h xs (List.mem_of_getElem? hx)
theorem sq2 {xss : List (List Nat)} (h : xss = xsA ∨ xss = xsI ∨ xss = xsJ ∨ xss = [[1, 1], [1, 1]]) : xss.length = 2 ∧ RightP xss ∧ Bytes xss ∧ (∀ (i : Nat) (xs : List Nat), xss[i]? = some xs → xs.length = 2) := by
  have h2 : xss.length = 2 ∧ (∀ xs ∈ xss, xs.length = 2) ∧ ∀ xs ∈ xss, ∀ x ∈ xs, x < 256 := by
    rcases h with rfl | rfl | rfl | rfl <;> (refine ⟨rfl, ?_, ?_⟩ <;> decide)
  exact ⟨h2.1, right_of 2 2 h2.1 (by decide) (by decide) (by decide) (by decide) h2.2.1, bytes_of h2.2.2, all_of_mem h2.2.1⟩
theorem entA_inv : EqM 2 2 (mm 2 (ent xsA) (ent xsA)) one := two_cases (by kernel_rfl) (by kernel_rfl) (by kernel_rfl) (by kernel_rfl)
theorem entJ_inv : EqM 2 2 (mm 2 (ent xsJ) (ent xsJ)) one := two_cases (by kernel_rfl) (by kernel_rfl) (by kernel_rfl) (by kernel_rfl)
theorem detA : det 2 (ent xsA) = 1 := by kernel_rfl
theorem detJ : det 2 (ent xsJ) = 1 := by kernel_rfl
theorem det1 : det 2 (ent [[1, 1], [1, 1]]) = 0 := by kernel_rfl
theorem rowsOf_one2 : rowsOf 2 2 one = xsI := by decide
theorem rowsOf_A : rowsOf 2 2 (ent xsA) = xsA := by decide
theorem rowsOf_J : rowsOf 2 2 (ent xsJ) = xsJ := by decide

theorem fnew0 (w : World) : Calls Try.prog 7 #[] w fun e w' => ∃ f, e = .returned (.pointer (some ⟨f, 0, none⟩)) ∧ Hid (Fld w' f ∧ Below w.heap.size w w' ∧ w.heap.size ≤ f) :=
  (fnew w).mono fun _ _ ⟨he, hf, hb⟩ => ⟨_, he, Lib.hid ⟨hf, hb, Nat.le_refl _⟩⟩
theorem push2_a (w : World) (o p : Obj) : ((w.alloc o).alloc p).heap[w.heap.size]? = some o := by rw [alloc_old _ _ (by simp), alloc_block]
theorem push2_b (w : World) (o p : Obj) : ((w.alloc o).alloc p).heap[w.heap.size + 1]? = some p := by
  have := alloc_block (w.alloc o) p
  rwa [alloc_size] at this
theorem push3_a (w : World) (o p q : Obj) : (((w.alloc o).alloc p).alloc q).heap[w.heap.size]? = some o := by rw [alloc_old _ _ (by simp; omega), push2_a]
theorem push3_b (w : World) (o p q : Obj) : (((w.alloc o).alloc p).alloc q).heap[w.heap.size + 1]? = some p := by rw [alloc_old _ _ (by simp), push2_b]
theorem push3_c (w : World) (o p q : Obj) : (((w.alloc o).alloc p).alloc q).heap[w.heap.size + 2]? = some q := by
  have := alloc_block ((w.alloc o).alloc p) q
  rwa [alloc_size, alloc_size] at this

/-- The world behind a literal of two rows of two, of one row of two, of one row of one. -/
def L22 (w : World) (P Q R S : Int) : World := ((w.alloc (.cells #[.int .u8 P, .int .u8 Q] 5)).alloc (.cells #[.int .u8 R, .int .u8 S] 5)).alloc (.cells #[.slice (some ⟨w.heap.size, 0, none⟩) 2 2, .slice (some ⟨w.heap.size + 1, 0, none⟩) 2 2] 27)
def L12 (w : World) (P Q : Int) : World := (w.alloc (.cells #[.int .u8 P, .int .u8 Q] 5)).alloc (.cells #[.slice (some ⟨w.heap.size, 0, none⟩) 2 2] 27)
def L11 (w : World) (P : Int) : World := (w.alloc (.cells #[.int .u8 P] 5)).alloc (.cells #[.slice (some ⟨w.heap.size, 0, none⟩) 1 1] 27)
theorem lit22 (w : World) (p q r s : Nat) (P Q R S : Int) (hp : P = p) (hq : Q = q) (hr : R = r) (hs : S = s) : Hid (RawIn (L22 w P Q R S) (some ⟨w.heap.size + 1 + 1, 0, none⟩) [[p, q], [r, s]] ∧ Below w.heap.size w (L22 w P Q R S)) := by
  subst hp hq hr hs
  exact Lib.hid ⟨raw_lit2 rfl rfl (push3_c _ _ _ _) (push3_a _ _ _ _) (push3_b _ _ _ _), (((Below.refl _ _).alloc (Nat.le_refl _) _).alloc (by simp) _).alloc (by simp; omega) _⟩
theorem lit12 (w : World) (p q : Nat) (P Q : Int) (hp : P = p) (hq : Q = q) : Hid (RawIn (L12 w P Q) (some ⟨w.heap.size + 1, 0, none⟩) [[p, q]] ∧ Below w.heap.size w (L12 w P Q)) := by
  subst hp hq
  exact Lib.hid ⟨raw_lit1 rfl (push2_b _ _ _) (push2_a _ _ _), ((Below.refl _ _).alloc (Nat.le_refl _) _).alloc (by simp) _⟩
theorem lit11 (w : World) (p : Nat) (P : Int) (hp : P = p) : Hid (RawIn (L11 w P) (some ⟨w.heap.size + 1, 0, none⟩) [[p]] ∧ Below w.heap.size w (L11 w P)) := by
  subst hp
  exact Lib.hid ⟨raw_lit1 rfl (push2_b _ _ _) (push2_a _ _ _), ((Below.refl _ _).alloc (Nat.le_refl _) _).alloc (by simp) _⟩

theorem mknown (w : World) : Calls Try.prog 9 #[] w fun e w' => e = .returned (.bool true) ∧ Below w.heap.size w w' := by
  obtain ⟨qa1, qa2, qa3, qa4⟩ := sq2 (xss := xsA) (Or.inl rfl)
  obtain ⟨qi1, qi2, qi3, qi4⟩ := sq2 (xss := xsI) (Or.inr (Or.inl rfl))
  have QA := Lib.hid (And.intro qa2 (And.intro qa3 qa4))
  have QI := Lib.hid (And.intro qi2 (And.intro qi3 qi4))
  have LA := Lib.hid (And.intro qa1 qi1)
  clear qa1 qa2 qa3 qa4 qi1 qi2 qi3 qi4
  go_enter Try.func9, Try.ntmps9
  go_wp2_with fail
  refine (fnew0 _).mono ?_
  rintro e w2 ⟨f, rfl, HF⟩
  go_wp2_with fail
  have HL := lit22 w2 1 1 0 1 1 1 0 1 rfl rfl rfl rfl
  change Calls _ _ _ (L22 w2 1 1 0 1) _
  generalize L22 w2 1 1 0 1 = w3 at HL ⊢
  generalize w2.heap.size + 1 + 1 = ab at HL ⊢
  have HF3 : Hid (Fld w3 f ∧ Below w.heap.size w w3) := Lib.hid ⟨HF.out.1.keep HL.out.2, HF.out.2.1.trans (HL.out.2.mono HF.out.2.1.size)⟩
  have HR3 : Hid (RawIn w3 (some ⟨ab, 0, none⟩) xsA) := Lib.hid HL.out.1
  clear HL
  refine (inv_known f _ xsA 2 2 w3 HF3.out.1 HR3.out LA.out.1 QA.out.1 QA.out.2.1 (by rw [LA.out.1]; exact QA.out.2.2) (ent xsA) (fun i _ j _ => ent_lt QA.out.2.1 i j) entA_inv (by rw [detA]; decide)).mono ?_
  rintro e w4 ⟨b, rfl, r4, b4⟩
  have HF4 : Hid (Fld w4 f ∧ Below w.heap.size w w4) := Lib.hid ⟨HF3.out.1.keep b4, HF3.out.2.trans (b4.mono HF3.out.2.size)⟩
  have HR4 : Hid (RawIn w4 (some ⟨ab, 0, none⟩) xsA ∧ RawIn w4 (some ⟨b, 0, none⟩) xsA) := Lib.hid ⟨HR3.out.keep b4, by rw [rowsOf_A] at r4; exact r4⟩
  clear r4 b4 HF3 HR3 HF
  go_wp2_with fail
  refine (msamer _ _ xsA xsA 2 2 2 2 _ HR4.out.1 HR4.out.2 LA.out.1 LA.out.1 (by rw [LA.out.1]; omega) QA.out.2.1 QA.out.2.1 (fun i xs h => by have := QA.out.2.2 i xs h; omega) (fun i xs h => by have := QA.out.2.2 i xs h; omega) true (by simp)).mono ?_
  rintro e w5 ⟨rfl, rfl⟩
  go_wp2_with fail
  refine (mmulr f _ _ xsA xsA 2 2 2 2 2 _ HF4.out.1 HR4.out.1 HR4.out.2 LA.out.1 LA.out.1 QA.out.1 QA.out.1 QA.out.2.1 QA.out.2.1 (by rw [LA.out.1]; exact QA.out.2.2) QA.out.2.2).mono ?_
  rintro e w6 ⟨o, rfl, r6, b6⟩
  have HR6 : Hid (RawIn w6 (some ⟨o, 0, none⟩) xsI ∧ Below w.heap.size w w6) := Lib.hid ⟨by rw [rowsOf_congr entA_inv, rowsOf_one2] at r6; exact r6, HF4.out.2.trans (b6.mono HF4.out.2.size)⟩
  clear r6 b6 HF4 HR4
  go_wp2_with fail
  have HL := lit22 w6 1 0 0 1 1 0 0 1 rfl rfl rfl rfl
  change Calls _ _ _ (L22 w6 1 0 0 1) _
  generalize L22 w6 1 0 0 1 = w7 at HL ⊢
  generalize w6.heap.size + 1 + 1 = ab7 at HL ⊢
  have HR7 : Hid (RawIn w7 (some ⟨o, 0, none⟩) xsI ∧ RawIn w7 (some ⟨ab7, 0, none⟩) xsI ∧ Below w.heap.size w w7) := Lib.hid ⟨HR6.out.1.keep HL.out.2, HL.out.1, HR6.out.2.trans (HL.out.2.mono HR6.out.2.size)⟩
  clear HL HR6
  refine (msamer _ _ xsI xsI 2 2 2 2 _ HR7.out.1 HR7.out.2.1 LA.out.2 LA.out.2 (by rw [LA.out.2]; omega) QI.out.2.1 QI.out.2.1 (fun i xs h => by have := QI.out.2.2 i xs h; omega) (fun i xs h => by have := QI.out.2.2 i xs h; omega) true (by simp)).mono ?_
  rintro e w8 ⟨rfl, rfl⟩
  go_wp2_with fail
  go_ret
  exact ⟨rfl, HR7.out.2.2⟩
end Go.Proofs.Ytmnfgbfajhinlaa
