import Derived.Test.YtoofgcdilgfclaaU04
namespace Go.Proofs.Ytoofgcdilgfclaa
open Go.RowKit Go.Sort
set_option maxRecDepth 100000
set_option maxHeartbeats 1000000

/-! Bytes as lists. -/
def gt (L : List Nat) : Nat → Nat := fun j => L.getD j 0
def numL (L : List Nat) : Nat := numF (gt L) L.length
def byteL (x m : Nat) : List Nat := (List.range m).map (byteAt x m)
/-- All are bytes. -/
def By (L : List Nat) : Prop := ∀ x ∈ L, x < 256
theorem gt_of {L : List Nat} {j : Nat} (h : j < L.length) : gt L j = L[j] := by
  unfold gt
  rw [List.getD_eq_getElem?_getD, List.getElem?_eq_getElem h]; rfl
theorem gt_far {L : List Nat} {j : Nat} (h : L.length ≤ j) : gt L j = 0 := by
  unfold gt
  rw [List.getD_eq_getElem?_getD, List.getElem?_eq_none h]; rfl
theorem By.gt {L : List Nat} (h : By L) (j : Nat) : gt L j < 256 := by
  by_cases e : j < L.length
  · rw [gt_of e]; exact h _ (List.getElem_mem e)
  · rw [gt_far (by omega)]; omega
theorem gt_app (A B : List Nat) (j : Nat) : gt (A ++ B) j = if j < A.length then gt A j else gt B (j - A.length) := by
  split
  · next h => rw [gt_of (by rw [List.length_append]; omega), gt_of h, List.getElem_append_left h]
  · next h =>
    by_cases e : j - A.length < B.length
    · rw [gt_of (by rw [List.length_append]; omega), gt_of e, List.getElem_append_right (by omega)]
    · rw [gt_far (by rw [List.length_append]; omega), gt_far (by omega)]
theorem gt_take {L : List Nat} {k j : Nat} (h : j < k) : gt (L.take k) j = gt L j := by
  by_cases e : j < L.length
  · rw [gt_of (by rw [List.length_take]; omega), gt_of e, List.getElem_take]
  · rw [gt_far (by rw [List.length_take]; omega), gt_far (by omega)]
theorem gt_drop (L : List Nat) (k j : Nat) : gt (L.drop k) j = gt L (k + j) := by
  by_cases e : k + j < L.length
  · rw [gt_of (by rw [List.length_drop]; omega), gt_of e, List.getElem_drop]
  · rw [gt_far (by rw [List.length_drop]; omega), gt_far (by omega)]
theorem gt_ext {A B : List Nat} (hl : A.length = B.length) (h : ∀ j, j < A.length → gt A j = gt B j) : A = B := by
  apply List.ext_getElem hl
  intro j h1 h2
  have := h j h1
  rwa [gt_of h1, gt_of h2] at this
theorem range_gt (L : List Nat) : (List.range L.length).map (gt L) = L := by
  apply gt_ext
  · simp
  · intro j hj
    rw [gt_of hj]; simp
theorem By.app {A B : List Nat} (h : By A) (k : By B) : By (A ++ B) := fun x hx => (List.mem_append.1 hx).elim (h x) (k x)
theorem By.take {A : List Nat} (h : By A) (k : Nat) : By (A.take k) := fun x hx => h x (List.mem_of_mem_take hx)
theorem By.drop {A : List Nat} (h : By A) (k : Nat) : By (A.drop k) := fun x hx => h x (List.mem_of_mem_drop hx)
theorem By.nil : By [] := fun x hx => by cases hx
theorem numF_byteAt (x m : Nat) : ∀ k, k ≤ m → numF (byteAt x m) k = x / 256 ^ (m - k) % 256 ^ k
  | 0, _ => by unfold numF; simp [Nat.mod_one]
  | k + 1, h => by
    have e : m - k = (m - (k + 1)) + 1 := by omega
    rw [numF_succ, numF_byteAt x m k (by omega), e, Nat.pow_succ, ← Nat.div_div_eq_div_mul, Nat.pow_succ, Nat.mul_comm (256 ^ k) 256, Nat.mod_mul]
    unfold byteAt
    rw [show m - 1 - k = m - (k + 1) by omega]
    omega
theorem numF_div (F : Nat → Nat) (hF : ∀ j, F j < 256) (k : Nat) : ∀ d, numF F (k + d) / 256 ^ d = numF F k
  | 0 => by simp
  | d + 1 => by
    rw [show k + (d + 1) = (k + d) + 1 by omega, numF_succ, Nat.pow_succ, Nat.mul_comm (256 ^ d) 256, ← Nat.div_div_eq_div_mul]
    have := hF (k + d)
    rw [show (numF F (k + d) * 256 + F (k + d)) / 256 = numF F (k + d) by omega]
    exact numF_div F hF k d
theorem byteAt_num (F : Nat → Nat) (hF : ∀ j, F j < 256) {m j : Nat} (hj : j < m) : byteAt (numF F m) m j = F j := by
  unfold byteAt
  have h := numF_div F hF (j + 1) (m - 1 - j)
  rw [show j + 1 + (m - 1 - j) = m by omega] at h
  rw [h, numF_succ]
  have := hF j
  omega
theorem byteL_len (x m : Nat) : (byteL x m).length = m := by unfold byteL; simp
theorem byteL_by (x m : Nat) : By (byteL x m) := by
  intro y hy
  unfold byteL at hy
  obtain ⟨j, _, rfl⟩ := List.mem_map.1 hy
  exact byteAt_lt x m j
theorem gt_byteL {x m j : Nat} (h : j < m) : gt (byteL x m) j = byteAt x m j := by
  rw [gt_of (by rw [byteL_len]; exact h)]
  unfold byteL
  simp
theorem numF_congr {F G : Nat → Nat} : ∀ {k : Nat}, (∀ j, j < k → F j = G j) → numF F k = numF G k
  | 0, _ => by unfold numF; rfl
  | k + 1, h => by rw [numF_succ, numF_succ, numF_congr (k := k) (fun j hj => h j (by omega)), h k (by omega)]
theorem numL_byteL {x m : Nat} (h : x < 256 ^ m) : numL (byteL x m) = x := by
  unfold numL
  rw [byteL_len, numF_congr (G := byteAt x m) (fun j hj => gt_byteL hj), numF_byteAt x m m (Nat.le_refl _), Nat.sub_self, Nat.pow_zero, Nat.div_one, Nat.mod_eq_of_lt h]
theorem byteL_numL {L : List Nat} (h : By L) : byteL (numL L) L.length = L := by
  apply gt_ext
  · exact byteL_len _ _
  · intro j hj
    rw [byteL_len] at hj
    rw [gt_byteL hj]
    exact byteAt_num _ h.gt hj
theorem numL_lt {L : List Nat} (h : By L) : numL L < 256 ^ L.length := numF_lt (fun j _ => h.gt j)
theorem byteL_1 {x : Nat} (h : x < 256) : byteL x 1 = [x] := by
  unfold byteL
  simp [byte1 x h]
theorem numL_1 (x : Nat) : numL [x] = x := by
  show numF (gt [x]) 1 = x
  rw [numF_1]; rfl

/-! Bytes that are read from the front on. -/
abbrev St := List Nat × Bool
def nx (k : Nat) (s : St) : List Nat × St := if s.1.length < k then ([], s.1, true) else (s.1.take k, s.1.drop k, s.2)
theorem nx_lt {k : Nat} {s : St} (h : s.1.length < k) : nx k s = ([], s.1, true) := if_pos h
theorem nx_ge {k : Nat} {s : St} (h : k ≤ s.1.length) : nx k s = (s.1.take k, s.1.drop k, s.2) := if_neg (by omega)
theorem nx_app {k : Nat} (A B : List Nat) (t : Bool) (h : A.length = k) : nx k (A ++ B, t) = (A, B, t) := by
  subst h
  rw [nx_ge (by simp)]
  simp
theorem nx_false {k : Nat} {s : St} (h : (nx k s).2.2 = false) : s.2 = false ∧ (nx k s).1.length = k ∧ s.1 = (nx k s).1 ++ (nx k s).2.1 := by
  by_cases e : s.1.length < k
  · rw [nx_lt e] at h; cases h
  · rw [nx_ge (by omega)] at h ⊢
    exact ⟨h, by rw [List.length_take]; omega, (List.take_append_drop k s.1).symm⟩
theorem nx_by {k : Nat} {s : St} (h : By s.1) : By (nx k s).1 ∧ By (nx k s).2.1 := by
  by_cases e : s.1.length < k
  · rw [nx_lt e]; exact ⟨By.nil, h⟩
  · rw [nx_ge (by omega)]; exact ⟨h.take k, h.drop k⟩
theorem nx_len (k : Nat) (s : St) : (nx k s).1.length ≤ k ∧ (nx k s).2.1.length ≤ s.1.length := by
  by_cases e : s.1.length < k
  · rw [nx_lt e]; exact ⟨Nat.zero_le _, Nat.le_refl _⟩
  · rw [nx_ge (by omega)]; exact ⟨by rw [List.length_take]; omega, by rw [List.length_drop]; omega⟩
attribute [irreducible] nx

/-! Requests. -/
structure Qx where
  k : Int
  s : Int
  g : Int
  i : Int
  D : List Nat
deriving DecidableEq
def Qx.no : Qx := ⟨0, 0, 0, 0, []⟩
def Qx.Right (q : Qx) : Prop := 1 ≤ q.k ∧ q.k ≤ 6 ∧ 0 ≤ q.s ∧ q.s ≤ 65535 ∧ 0 ≤ q.g ∧ q.g ≤ 1099511627776 ∧ 0 ≤ q.i ∧ q.i ≤ 255 ∧ q.D.length ≤ 128
instance (q : Qx) : Decidable q.Right := by unfold Qx.Right; infer_instance
def Qx.lay (q : Qx) : List Nat := byteL q.k.toNat 1 ++ (byteL q.s.toNat 2 ++ (byteL q.g.toNat 6 ++ (byteL q.i.toNat 1 ++ (byteL q.D.length 2 ++ q.D))))
def rdQ (L : List Nat) : Qx × St :=
  let a := nx 1 (L, false); let b := nx 2 a.2; let c := nx 6 b.2; let d := nx 1 c.2; let e := nx 2 d.2; let f := nx (numL e.1) e.2
  (⟨(numL a.1 : Nat), (numL b.1 : Nat), (numL c.1 : Nat), (numL d.1 : Nat), f.1⟩, f.2)
/-- What the project reads. -/
def projQ (L : List Nat) : Option Qx := if (rdQ L).2.2 = false ∧ (rdQ L).2.1 = [] ∧ (rdQ L).1.Right then some (rdQ L).1 else none
def cutQ (L : List Nat) : Qx := ⟨(numL (L.take 1) : Nat), (numL ((L.drop 1).take 2) : Nat), (numL ((L.drop 3).take 6) : Nat), (numL ((L.drop 9).take 1) : Nat), L.drop 12⟩
/-- What the reference reads. -/
def refQ (L : List Nat) : Option Qx := if 12 ≤ L.length ∧ (cutQ L).Right ∧ (cutQ L).lay = L then some (cutQ L) else none
theorem Qx.lay_len (q : Qx) : q.lay.length = 12 + q.D.length := by
  unfold Qx.lay
  simp only [List.length_append, byteL_len]
  omega
theorem Qx.Right.nums {q : Qx} (h : q.Right) : numL (byteL q.k.toNat 1) = q.k.toNat ∧ numL (byteL q.s.toNat 2) = q.s.toNat ∧ numL (byteL q.g.toNat 6) = q.g.toNat ∧ numL (byteL q.i.toNat 1) = q.i.toNat ∧ numL (byteL q.D.length 2) = q.D.length := by
  obtain ⟨a, b, c, d, e, f, g, i, j⟩ := h
  exact ⟨numL_byteL (by omega), numL_byteL (by omega), numL_byteL (by omega), numL_byteL (by omega), numL_byteL (by omega)⟩
theorem projQ_lay {q : Qx} (h : q.Right) : projQ q.lay = some q := by
  obtain ⟨n1, n2, n3, n4, n5⟩ := h.nums
  have e : rdQ q.lay = (q, [], false) := by
    unfold rdQ Qx.lay
    rw [nx_app _ _ _ (byteL_len _ _)]
    dsimp only
    rw [nx_app _ _ _ (byteL_len _ _)]
    dsimp only
    rw [nx_app _ _ _ (byteL_len _ _)]
    dsimp only
    rw [nx_app _ _ _ (byteL_len _ _)]
    dsimp only
    rw [nx_app _ _ _ (byteL_len _ _)]
    dsimp only
    rw [n1, n2, n3, n4, n5]
    have e2 := nx_app q.D [] false rfl
    rw [List.append_nil] at e2
    rw [e2]
    obtain ⟨a, b, c, d, e, f, g, i, j⟩ := h
    rw [Int.toNat_of_nonneg (by omega), Int.toNat_of_nonneg (by omega), Int.toNat_of_nonneg (by omega), Int.toNat_of_nonneg (by omega)]
  unfold projQ
  rw [e]
  exact if_pos ⟨rfl, rfl, h⟩
theorem of_projQ {L : List Nat} {q : Qx} (hL : By L) (h : projQ L = some q) : q.Right ∧ q.lay = L := by
  unfold projQ at h
  split at h
  · next hc =>
    obtain ⟨h1, h2, h3⟩ := hc
    cases h
    refine ⟨h3, ?_⟩
    revert h1 h2 h3
    unfold rdQ
    dsimp only
    intro h1 h2 h3
    obtain ⟨f1, f2, f3⟩ := nx_false h1
    obtain ⟨e1, e2, e3⟩ := nx_false f1
    obtain ⟨d1, d2, d3⟩ := nx_false e1
    obtain ⟨c1, c2, c3⟩ := nx_false d1
    obtain ⟨b1, b2, b3⟩ := nx_false c1
    obtain ⟨a1, a2, a3⟩ := nx_false b1
    have ya := nx_by (k := 1) (s := (L, false)) hL
    have yb := nx_by (k := 2) ya.2
    have yc := nx_by (k := 6) yb.2
    have yd := nx_by (k := 1) yc.2
    have ye := nx_by (k := 2) yd.2
    rw [h2, List.append_nil] at f3
    unfold Qx.lay
    dsimp only
    simp only [Int.toNat_natCast]
    rw [f2]
    have q1 := byteL_numL ya.1
    have q2 := byteL_numL yb.1
    have q3 := byteL_numL yc.1
    have q4 := byteL_numL yd.1
    have q5 := byteL_numL ye.1
    rw [a2] at q1
    rw [b2] at q2
    rw [c2] at q3
    rw [d2] at q4
    rw [e2] at q5
    rw [q1, q2, q3, q4, q5, ← f3, ← e3, ← d3, ← c3, ← b3]
    exact a3.symm
  · cases h
theorem of_refQ {L : List Nat} {q : Qx} (h : refQ L = some q) : q.Right ∧ q.lay = L := by
  unfold refQ at h
  split at h
  · next hc => cases h; exact hc.2
  · cases h
theorem refQ_lay {q : Qx} (h : q.Right) : refQ q.lay = some q := by
  obtain ⟨n1, n2, n3, n4, n5⟩ := h.nums
  have e : cutQ q.lay = q := by
    have l1 := byteL_len q.k.toNat 1
    have l2 := byteL_len q.s.toNat 2
    have l3 := byteL_len q.g.toNat 6
    have l4 := byteL_len q.i.toNat 1
    have l5 := byteL_len q.D.length 2
    have d1 : q.lay.drop 1 = byteL q.s.toNat 2 ++ (byteL q.g.toNat 6 ++ (byteL q.i.toNat 1 ++ (byteL q.D.length 2 ++ q.D))) := List.drop_left' l1
    have d3 : q.lay.drop 3 = byteL q.g.toNat 6 ++ (byteL q.i.toNat 1 ++ (byteL q.D.length 2 ++ q.D)) := by rw [show 3 = 1 + 2 from rfl, ← List.drop_drop, d1]; exact List.drop_left' l2
    have d9 : q.lay.drop 9 = byteL q.i.toNat 1 ++ (byteL q.D.length 2 ++ q.D) := by rw [show 9 = 3 + 6 from rfl, ← List.drop_drop, d3]; exact List.drop_left' l3
    have d10 : q.lay.drop 10 = byteL q.D.length 2 ++ q.D := by rw [show 10 = 9 + 1 from rfl, ← List.drop_drop, d9]; exact List.drop_left' l4
    have d12 : q.lay.drop 12 = q.D := by rw [show 12 = 10 + 2 from rfl, ← List.drop_drop, d10]; exact List.drop_left' l5
    have t0 : q.lay.take 1 = byteL q.k.toNat 1 := List.take_left' l1
    unfold cutQ
    rw [d1, d3, d9, d12, t0, List.take_left' l2, List.take_left' l3, List.take_left' l4, n1, n2, n3, n4]
    obtain ⟨a, b, c, d, e, f, g, i, j⟩ := h
    rw [Int.toNat_of_nonneg (by omega), Int.toNat_of_nonneg (by omega), Int.toNat_of_nonneg (by omega), Int.toNat_of_nonneg (by omega)]
  unfold refQ
  rw [e]
  exact if_pos ⟨by rw [Qx.lay_len]; omega, h, rfl⟩
/-- Both read the same. -/
theorem proj_ref {L : List Nat} (hL : By L) : projQ L = refQ L := by
  cases h : refQ L with
  | some q =>
    obtain ⟨h1, h2⟩ := of_refQ h
    rw [← h2]
    exact projQ_lay h1
  | none =>
    cases h' : projQ L with
    | none => rfl
    | some q =>
      obtain ⟨h1, h2⟩ := of_projQ hL h'
      rw [← h2, refQ_lay h1] at h
      cases h
theorem Qx.lay_inj {p q : Qx} (hp : p.Right) (hq : q.Right) (h : p.lay = q.lay) : p = q := by
  have := projQ_lay hp
  rw [h, projQ_lay hq] at this
  cases this
  rfl
theorem Qx.lay_by {q : Qx} (h : By q.D) : By q.lay := (byteL_by _ _).app ((byteL_by _ _).app ((byteL_by _ _).app ((byteL_by _ _).app ((byteL_by _ _).app h))))
end Go.Proofs.Ytoofgcdilgfclaa
