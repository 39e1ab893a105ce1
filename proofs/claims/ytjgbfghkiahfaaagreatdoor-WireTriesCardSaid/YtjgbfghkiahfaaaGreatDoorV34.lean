import Derived.Test.YtjgbfghkiahfaaaGreatDoorV03
import Derived.Test.YtjgbfghkiahfaaaGreatDoorV01
import Derived.Test.YtjgbfghkiahfaaaGreatDoorV24
import Derived.Test.YtjgbfghkiahfaaaGreatDoorV08
import Derived.Deep.RegionHeld
import Derived.Test.YtjgbfghkiahfaaaGreatDoorV04
namespace Go.Proofs.YtjgbfghkiahfaaaGreatDoor
open Go.RowKit Go.Sort
set_option maxRecDepth 100000
set_option maxHeartbeats 1000000

/-! Bytes as lists. -/
def gt (L : List Nat) : Nat → Nat := fun j => L.getD j 0
def numL (L : List Nat) : Nat := numF (gt L) L.length
def byteL (x m : Nat) : List Nat := (List.range m).map (byteAt x m)
/-- All are bytes. -/
def By (L : List Nat) : Prop := ∀ x ∈ L, x < 256
theorem gt_of {L : List Nat} {j : Nat} (h : j < L.length) : gt L j = L[j] := by
  unfold gt
  rw [List.getD_eq_getElem?_getD, List.getElem?_eq_getElem h]; rfl
theorem gt_far {L : List Nat} {j : Nat} (h : L.length ≤ j) : gt L j = 0 := by
  unfold gt
  rw [List.getD_eq_getElem?_getD, List.getElem?_eq_none h]; rfl
theorem By.gt {L : List Nat} (h : By L) (j : Nat) : gt L j < 256 := by
  by_cases e : j < L.length
  · rw [gt_of e]; exact h _ (List.getElem_mem e)
  · rw [gt_far (by omega)]; omega
theorem gt_app (A B : List Nat) (j : Nat) : gt (A ++ B) j = if j < A.length then gt A j else gt B (j - A.length) := by
  split
  · next h => rw [gt_of (by rw [List.length_append]; omega), gt_of h, List.getElem_append_left h]
  · next h =>
    by_cases e : j - A.length < B.length
    · rw [gt_of (by rw [List.length_append]; omega), gt_of e, List.getElem_append_right (by omega)]
    · rw [gt_far (by rw [List.length_append]; omega), gt_far (by omega)]
theorem gt_take {L : List Nat} {k j : Nat} (h : j < k) : gt (L.take k) j = gt L j := by
  by_cases e : j < L.length
  · rw [gt_of (by rw [List.length_take]; omega), gt_of e, List.getElem_take]
  · rw [gt_far (by rw [List.length_take]; omega), gt_far (by omega)]
theorem gt_drop (L : List Nat) (k j : Nat) : gt (L.drop k) j = gt L (k + j) := by
  by_cases e : k + j < L.length
  · rw [gt_of (by rw [List.length_drop]; omega), gt_of e, List.getElem_drop]
  · rw [gt_far (by rw [List.length_drop]; omega), gt_far (by omega)]
theorem gt_ext {A B : List Nat} (hl : A.length = B.length) (h : ∀ j, j < A.length → gt A j = gt B j) : A = B := by
  apply List.ext_getElem hl
  intro j h1 h2
  have := h j h1
  rwa [gt_of h1, gt_of h2] at this
theorem range_gt (L : List Nat) : (List.range L.length).map (gt L) = L := by
  apply gt_ext
  · simp
  · intro j hj
    rw [gt_of hj]; simp
theorem By.app {A B : List Nat} (h : By A) (k : By B) : By (A ++ B) := fun x hx => (List.mem_append.1 hx).elim (h x) (k x)
theorem By.take {A : List Nat} (h : By A) (k : Nat) : By (A.take k) := fun x hx => h x (List.mem_of_mem_take hx)
theorem By.drop {A : List Nat} (h : By A) (k : Nat) : By (A.drop k) := fun x hx => h x (List.mem_of_mem_drop hx)
theorem By.nil : By [] := fun x hx => by cases hx
theorem numF_byteAt (x m : Nat) : ∀ k, k ≤ m → numF (byteAt x m) k = x / 256 ^ (m - k) % 256 ^ k
  | 0, _ => by unfold numF; simp [Nat.mod_one]
  | k + 1, h => by
    have e : m - k = (m - (k + 1)) + 1 := by omega
    rw [numF_succ, numF_byteAt x m k (by omega), e, Nat.pow_succ, ← Nat.div_div_eq_div_mul, Nat.pow_succ, Nat.mul_comm (256 ^ k) 256, Nat.mod_mul]
    unfold byteAt
    rw [show m - 1 - k = m - (k + 1) by omega]
    omega
theorem numF_div (F : Nat → Nat) (hF : ∀ j, F j < 256) (k : Nat) : ∀ d, numF F (k + d) / 256 ^ d = numF F k
  | 0 => by simp
  | d + 1 => by
    rw [show k + (d + 1) = (k + d) + 1 by omega, numF_succ, Nat.pow_succ, Nat.mul_comm (256 ^ d) 256, ← Nat.div_div_eq_div_mul]
    have := hF (k + d)
    rw [show (numF F (k + d) * 256 + F (k + d)) / 256 = numF F (k + d) by omega]
    exact numF_div F hF k d
theorem byteAt_num (F : Nat → Nat) (hF : ∀ j, F j < 256) {m j : Nat} (hj : j < m) : byteAt (numF F m) m j = F j := by
  unfold byteAt
  have h := numF_div F hF (j + 1) (m - 1 - j)
  rw [show j + 1 + (m - 1 - j) = m by omega] at h
  rw [h, numF_succ]
  have := hF j
  omega
theorem byteL_len (x m : Nat) : (byteL x m).length = m := by unfold byteL; simp
theorem byteL_by (x m : Nat) : By (byteL x m) := by
  intro y hy
  unfold byteL at hy
  obtain ⟨j, _, rfl⟩ := List.mem_map.1 hy
  exact byteAt_lt x m j
theorem gt_byteL {x m j : Nat} (h : j < m) : gt (byteL x m) j = byteAt x m j := by
  rw [gt_of (by rw [byteL_len]; exact h)]
  unfold byteL
  simp
theorem numF_congr {F G : Nat → Nat} : ∀ {k : Nat}, (∀ j, j < k → F j = G j) → numF F k = numF G k
  | 0, _ => by unfold numF; rfl
  | k + 1, h => by rw [numF_succ, numF_succ, numF_congr (k := k) (fun j hj => h j (by omega)), h k (by omega)]
theorem numL_byteL {x m : Nat} (h : x < 256 ^ m) : numL (byteL x m) = x := by
  unfold numL
  rw [byteL_len, numF_congr (G := byteAt x m) (fun j hj => gt_byteL hj), numF_byteAt x m m (Nat.le_refl _), Nat.sub_self, Nat.pow_zero, Nat.div_one, Nat.mod_eq_of_lt h]
theorem byteL_numL {L : List Nat} (h : By L) : byteL (numL L) L.length = L := by
  apply gt_ext
  · exact byteL_len _ _
  · intro j hj
    rw [byteL_len] at hj
    rw [gt_byteL hj]
    exact byteAt_num _ h.gt hj
theorem numL_lt {L : List Nat} (h : By L) : numL L < 256 ^ L.length := numF_lt (fun j _ => h.gt j)
theorem byteL_1 {x : Nat} (h : x < 256) : byteL x 1 = [x] := by
  unfold byteL
  simp [byte1 x h]
theorem numL_1 (x : Nat) : numL [x] = x := by
  show numF (gt [x]) 1 = x
  rw [numF_1]; rfl

/-! Bytes that are read from the front on. -/
abbrev St := List Nat × Bool
def nx (k : Nat) (s : St) : List Nat × St := if s.1.length < k then ([], s.1, true) else (s.1.take k, s.1.drop k, s.2)
theorem nx_lt {k : Nat} {s : St} (h : s.1.length < k) : nx k s = ([], s.1, true) := if_pos h
theorem nx_ge {k : Nat} {s : St} (h : k ≤ s.1.length) : nx k s = (s.1.take k, s.1.drop k, s.2) := if_neg (by omega)
theorem nx_app {k : Nat} (A B : List Nat) (t : Bool) (h : A.length = k) : nx k (A ++ B, t) = (A, B, t) := by
  subst h
  rw [nx_ge (by simp)]
  simp
theorem nx_false {k : Nat} {s : St} (h : (nx k s).2.2 = false) : s.2 = false ∧ (nx k s).1.length = k ∧ s.1 = (nx k s).1 ++ (nx k s).2.1 := by
  by_cases e : s.1.length < k
  · rw [nx_lt e] at h; cases h
  · rw [nx_ge (by omega)] at h ⊢
    exact ⟨h, by rw [List.length_take]; omega, (List.take_append_drop k s.1).symm⟩
theorem nx_by {k : Nat} {s : St} (h : By s.1) : By (nx k s).1 ∧ By (nx k s).2.1 := by
  by_cases e : s.1.length < k
  · rw [nx_lt e]; exact ⟨By.nil, h⟩
  · rw [nx_ge (by omega)]; exact ⟨h.take k, h.drop k⟩
theorem nx_len (k : Nat) (s : St) : (nx k s).1.length ≤ k ∧ (nx k s).2.1.length ≤ s.1.length := by
  by_cases e : s.1.length < k
  · rw [nx_lt e]; exact ⟨Nat.zero_le _, Nat.le_refl _⟩
  · rw [nx_ge (by omega)]; exact ⟨by rw [List.length_take]; omega, by rw [List.length_drop]; omega⟩
attribute [irreducible] nx

/-! Requests. -/
structure Qx where
  k : Int
  s : Int
  g : Int
  i : Int
  D : List Nat
deriving DecidableEq
def Qx.no : Qx := ⟨0, 0, 0, 0, []⟩
def Qx.Right (q : Qx) : Prop := 1 ≤ q.k ∧ q.k ≤ 6 ∧ 0 ≤ q.s ∧ q.s ≤ 65535 ∧ 0 ≤ q.g ∧ q.g ≤ 1099511627776 ∧ 0 ≤ q.i ∧ q.i ≤ 255 ∧ q.D.length ≤ 128
instance (q : Qx) : Decidable q.Right := by unfold Qx.Right; infer_instance
def Qx.lay (q : Qx) : List Nat := byteL q.k.toNat 1 ++ (byteL q.s.toNat 2 ++ (byteL q.g.toNat 6 ++ (byteL q.i.toNat 1 ++ (byteL q.D.length 2 ++ q.D))))
def rdQ (L : List Nat) : Qx × St :=
  let a := nx 1 (L, false); let b := nx 2 a.2; let c := nx 6 b.2; let d := nx 1 c.2; let e := nx 2 d.2; let f := nx (numL e.1) e.2
  (⟨(numL a.1 : Nat), (numL b.1 : Nat), (numL c.1 : Nat), (numL d.1 : Nat), f.1⟩, f.2)
/-- What the project reads. -/
def projQ (L : List Nat) : Option Qx := if (rdQ L).2.2 = false ∧ (rdQ L).2.1 = [] ∧ (rdQ L).1.Right then some (rdQ L).1 else none
def cutQ (L : List Nat) : Qx := ⟨(numL (L.take 1) : Nat), (numL ((L.drop 1).take 2) : Nat), (numL ((L.drop 3).take 6) : Nat), (numL ((L.drop 9).take 1) : Nat), L.drop 12⟩
/-- What the reference reads. -/
def refQ (L : List Nat) : Option Qx := if 12 ≤ L.length ∧ (cutQ L).Right ∧ (cutQ L).lay = L then some (cutQ L) else none
theorem Qx.lay_len (q : Qx) : q.lay.length = 12 + q.D.length := by
  unfold Qx.lay
  simp only [List.length_append, byteL_len]
  omega
theorem Qx.Right.nums {q : Qx} (h : q.Right) : numL (byteL q.k.toNat 1) = q.k.toNat ∧ numL (byteL q.s.toNat 2) = q.s.toNat ∧ numL (byteL q.g.toNat 6) = q.g.toNat ∧ numL (byteL q.i.toNat 1) = q.i.toNat ∧ numL (byteL q.D.length 2) = q.D.length := by
  obtain ⟨a, b, c, d, e, f, g, i, j⟩ := h
  exact ⟨numL_byteL (by omega), numL_byteL (by omega), numL_byteL (by omega), numL_byteL (by omega), numL_byteL (by omega)⟩
theorem projQ_lay {q : Qx} (h : q.Right) : projQ q.lay = some q := by
  obtain ⟨n1, n2, n3, n4, n5⟩ := h.nums
  have e : rdQ q.lay = (q, [], false) := by
    unfold rdQ Qx.lay
    rw [nx_app _ _ _ (byteL_len _ _)]
    dsimp only
    rw [nx_app _ _ _ (byteL_len _ _)]
    dsimp only
    rw [nx_app _ _ _ (byteL_len _ _)]
    dsimp only
    rw [nx_app _ _ _ (byteL_len _ _)]
    dsimp only
    rw [nx_app _ _ _ (byteL_len _ _)]
    dsimp only
    rw [n1, n2, n3, n4, n5]
    have e2 := nx_app q.D [] false rfl
    rw [List.append_nil] at e2
    rw [e2]
    obtain ⟨a, b, c, d, e, f, g, i, j⟩ := h
    rw [Int.toNat_of_nonneg (by omega), Int.toNat_of_nonneg (by omega), Int.toNat_of_nonneg (by omega), Int.toNat_of_nonneg (by omega)]
  unfold projQ
  rw [e]
  exact if_pos ⟨rfl, rfl, h⟩
theorem of_projQ {L : List Nat} {q : Qx} (hL : By L) (h : projQ L = some q) : q.Right ∧ q.lay = L := by
  unfold projQ at h
  split at h
  · next hc =>
    obtain ⟨h1, h2, h3⟩ := hc
    cases h
    refine ⟨h3, ?_⟩
    revert h1 h2 h3
    unfold rdQ
    dsimp only
    intro h1 h2 h3
    obtain ⟨f1, f2, f3⟩ := nx_false h1
    obtain ⟨e1, e2, e3⟩ := nx_false f1
    obtain ⟨d1, d2, d3⟩ := nx_false e1
    obtain ⟨c1, c2, c3⟩ := nx_false d1
    obtain ⟨b1, b2, b3⟩ := nx_false c1
    obtain ⟨a1, a2, a3⟩ := nx_false b1
    have ya := nx_by (k := 1) (s := (L, false)) hL
    have yb := nx_by (k := 2) ya.2
    have yc := nx_by (k := 6) yb.2
    have yd := nx_by (k := 1) yc.2
    have ye := nx_by (k := 2) yd.2
    rw [h2, List.append_nil] at f3
    unfold Qx.lay
    dsimp only
    simp only [Int.toNat_natCast]
    rw [f2]
    have q1 := byteL_numL ya.1
    have q2 := byteL_numL yb.1
    have q3 := byteL_numL yc.1
    have q4 := byteL_numL yd.1
    have q5 := byteL_numL ye.1
    rw [a2] at q1
    rw [b2] at q2
    rw [c2] at q3
    rw [d2] at q4
    rw [e2] at q5
    rw [q1, q2, q3, q4, q5, ← f3, ← e3, ← d3, ← c3, ← b3]
    exact a3.symm
  · cases h
theorem of_refQ {L : List Nat} {q : Qx} (h : refQ L = some q) : q.Right ∧ q.lay = L := by
  unfold refQ at h
  split at h
  · next hc => cases h; exact hc.2
  · cases h
theorem refQ_lay {q : Qx} (h : q.Right) : refQ q.lay = some q := by
  obtain ⟨n1, n2, n3, n4, n5⟩ := h.nums
  have e : cutQ q.lay = q := by
    have l1 := byteL_len q.k.toNat 1
    have l2 := byteL_len q.s.toNat 2
    have l3 := byteL_len q.g.toNat 6
    have l4 := byteL_len q.i.toNat 1
    have l5 := byteL_len q.D.length 2
    have d1 : q.lay.drop 1 = byteL q.s.toNat 2 ++ (byteL q.g.toNat 6 ++ (byteL q.i.toNat 1 ++ (byteL q.D.length 2 ++ q.D))) := List.drop_left' l1
    have d3 : q.lay.drop 3 = byteL q.g.toNat 6 ++ (byteL q.i.toNat 1 ++ (byteL q.D.length 2 ++ q.D)) := by rw [show 3 = 1 + 2 from rfl, ← List.drop_drop, d1]; exact List.drop_left' l2
    have d9 : q.lay.drop 9 = byteL q.i.toNat 1 ++ (byteL q.D.length 2 ++ q.D) := by rw [show 9 = 3 + 6 from rfl, ← List.drop_drop, d3]; exact List.drop_left' l3
    have d10 : q.lay.drop 10 = byteL q.D.length 2 ++ q.D := by rw [show 10 = 9 + 1 from rfl, ← List.drop_drop, d9]; exact List.drop_left' l4
    have d12 : q.lay.drop 12 = q.D := by rw [show 12 = 10 + 2 from rfl, ← List.drop_drop, d10]; exact List.drop_left' l5
    have t0 : q.lay.take 1 = byteL q.k.toNat 1 := List.take_left' l1
    unfold cutQ
    rw [d1, d3, d9, d12, t0, List.take_left' l2, List.take_left' l3, List.take_left' l4, n1, n2, n3, n4]
    obtain ⟨a, b, c, d, e, f, g, i, j⟩ := h
    rw [Int.toNat_of_nonneg (by omega), Int.toNat_of_nonneg (by omega), Int.toNat_of_nonneg (by omega), Int.toNat_of_nonneg (by omega)]
  unfold refQ
  rw [e]
  exact if_pos ⟨by rw [Qx.lay_len]; omega, h, rfl⟩
/-- Both read the same. -/
theorem proj_ref {L : List Nat} (hL : By L) : projQ L = refQ L := by
  cases h : refQ L with
  | some q =>
    obtain ⟨h1, h2⟩ := of_refQ h
    rw [← h2]
    exact projQ_lay h1
  | none =>
    cases h' : projQ L with
    | none => rfl
    | some q =>
      obtain ⟨h1, h2⟩ := of_projQ hL h'
      rw [← h2, refQ_lay h1] at h
      cases h
theorem Qx.lay_inj {p q : Qx} (hp : p.Right) (hq : q.Right) (h : p.lay = q.lay) : p = q := by
  have := projQ_lay hp
  rw [h, projQ_lay hq] at this
  cases this
  rfl
theorem Qx.lay_by {q : Qx} (h : By q.D) : By q.lay := (byteL_by _ _).app ((byteL_by _ _).app ((byteL_by _ _).app ((byteL_by _ _).app ((byteL_by _ _).app h))))
end Go.Proofs.YtjgbfghkiahfaaaGreatDoor
namespace Go.Proofs.YtjgbfghkiahfaaaGreatDoor
open Go.RowKit Go.Sort

/-! A raw request. -/
structure RQ where
  kind : Int
  stripe : Int
  gen : Int
  index : Int
  seed : Int
  bend : Int
def RQsIn (w : World) (a : Option Addr) (L : List RQ) : Prop := ∀ (i : Nat) (x : RQ), L[i]? = some x → ∃ g o, a = some ⟨g, o, none⟩ ∧ g < w.heap.size ∧ w.cell? ⟨g, o + i * 6, none⟩ = some (.int .i64 x.kind) ∧ w.cell? ⟨g, o + i * 6 + 1, none⟩ = some (.int .i64 x.stripe) ∧ w.cell? ⟨g, o + i * 6 + 2, none⟩ = some (.int .i64 x.gen) ∧ w.cell? ⟨g, o + i * 6 + 3, none⟩ = some (.int .i64 x.index) ∧ w.cell? ⟨g, o + i * 6 + 4, none⟩ = some (.int .i64 x.seed) ∧ w.cell? ⟨g, o + i * 6 + 5, none⟩ = some (.int .i64 x.bend)
end Go.Proofs.YtjgbfghkiahfaaaGreatDoor
namespace Go.Proofs.YtjgbfghkiahfaaaGreatDoor
open Go.RowKit Go.Sort
set_option maxRecDepth 100000
set_option maxHeartbeats 2000000

/-! corbelhand.Req. -/
abbrev rawv (x0 x1 x2 x3 x4 x5 : Int) : Value := .agg #[.int .i64 x0, .int .i64 x1, .int .i64 x2, .int .i64 x3, .int .i64 x4, .int .i64 x5]
section
variable {w w' : World} {b : Nat} {x0 x1 x2 x3 x4 x5 : Int}
end
section
variable {w : World} {b m c : Nat} {k s g i : Int} {A : Option Addr}
theorem QV.f (h : QV w b k s g i A m c) (j : Nat) : w.frozen? ⟨b, j, none⟩ = false := free_of_block h
theorem QV.put0 (h : QV w b k s g i A m c) (v : Int) : QV (w.setCell ⟨b, 0, none⟩ (.int .i64 v)) b v s g i A m c := set_block h 0 _
theorem QV.put1 (h : QV w b k s g i A m c) (v : Int) : QV (w.setCell ⟨b, 1, none⟩ (.int .i64 v)) b k v g i A m c := set_block h 1 _
theorem QV.put2 (h : QV w b k s g i A m c) (v : Int) : QV (w.setCell ⟨b, 2, none⟩ (.int .i64 v)) b k s v i A m c := set_block h 2 _
theorem QV.put3 (h : QV w b k s g i A m c) (v : Int) : QV (w.setCell ⟨b, 3, none⟩ (.int .i64 v)) b k s g v A m c := set_block h 3 _
theorem QV.put4 (h : QV w b k s g i A m c) (B : Option Addr) (n d : Nat) : QV (w.setCell ⟨b, 4, none⟩ (.slice B n d)) b k s g i B n d := set_block h 4 _
theorem QV.put5 (h : QV w b k s g i A m c) {k' s' g' i' : Int} {A' : Option Addr} {m' c' : Nat} : QV (((((w.setCell ⟨b, 0, none⟩ (.int .i64 k')).setCell ⟨b, 1, none⟩ (.int .i64 s')).setCell ⟨b, 2, none⟩ (.int .i64 g')).setCell ⟨b, 3, none⟩ (.int .i64 i')).setCell ⟨b, 4, none⟩ (.slice A' m' c')) b k' s' g' i' A' m' c' := ((((h.put0 k').put1 s').put2 g').put3 i').put4 A' m' c'
end
theorem DatN.set {w : World} {A : Option Addr} {n b j : Nat} {D : Nat → Nat} {cs : Array Value} {t : TypeId} {fr : Nat × Nat} {v : Value} (h : DatN w A n D) (hb : w.heap[b]? = some (.cells cs t fr)) (ht : t ≠ 5) : DatN (w.setCell ⟨b, j, none⟩ v) A n D :=
  h.keep (fun g cs' hg => set_other (by
    rintro rfl
    rw [hb] at hg
    cases hg
    exact ht rfl) _ _)
/-- What Req answers: some request. -/
def RqRet (w : World) (e : Ending) (w' : World) : Prop := ∃ (q : Rq) (A : Option Addr) (c : Nat), e = .returned (rqv q.k q.s q.g q.i A q.n c) ∧ DatN w' A q.n q.D ∧ (∀ j, j < q.n → q.D j < 256) ∧ Below w.heap.size w w'
section
variable {w0 v v' : World} {H n c : Nat} {x0 x1 x2 x3 x4 x5 k s g i : Int} {A : Option Addr} {D : Nat → Nat}
end
end Go.Proofs.YtjgbfghkiahfaaaGreatDoor
namespace Go.Proofs.YtjgbfghkiahfaaaGreatDoor
open Go.RowKit Go.Sort
set_option maxRecDepth 100000
set_option maxHeartbeats 1000000

/-! Bytes in memory, as a list. -/
def BL (w : World) (A : Option Addr) (L : List Nat) : Prop := DatN w A L.length (gt L)
theorem BL.rd {w : World} {A : Option Addr} {L : List Nat} (h : BL w A L) : Rd w A L.length (gt L) := DatN.rd h
theorem BL.below {w w' : World} {A : Option Addr} {L : List Nat} (h : BL w A L) (b : Below w.heap.size w w') : BL w' A L := DatN.below h b
theorem BL.nil {w : World} {A : Option Addr} : BL w A [] := Or.inl rfl
theorem BL.set {w : World} {A : Option Addr} {L : List Nat} {b j : Nat} {cs : Array Value} {t : TypeId} {fr : Nat × Nat} {v : Value} (h : BL w A L) (hb : w.heap[b]? = some (.cells cs t fr)) (ht : t ≠ 5) : BL (w.setCell ⟨b, j, none⟩ v) A L := DatN.set h hb ht
theorem BL.turn {w w' : World} {A : Option Addr} {L : List Nat} {b : Nat} {cs : Array Value} {t : TypeId} {fr : Nat × Nat} (h : BL w A L) (hb : w.heap[b]? = some (.cells cs t fr)) (ht : t ≠ 5) (k : Turn [b] w w') : BL w' A L :=
  DatN.keep h (fun g cs' hg => k.block g (heap_lt hg) (fun hm => by
    obtain rfl : g = b := by simpa using hm
    rw [hb] at hg
    cases hg
    exact ht rfl))
theorem BL.drew {w : World} {A : Option Addr} {L : List Nat} (h : BL w A L) : BL w.drew A L := h.below (below_drewN 1 w)
theorem BL.of {w : World} {A : Option Addr} {n : Nat} {F : Nat → Nat} {L : List Nat} (h : DatN w A n F) (hn : L.length = n) (hF : ∀ j, j < n → F j = gt L j) : BL w A L := by
  subst hn
  rcases h with h | ⟨g, o, cs, h1, h2, h3⟩
  · exact Or.inl h
  · exact Or.inr ⟨g, o, cs, h1, h2, fun j hj => by rw [← hF j hj]; exact h3 j hj⟩
theorem BL.blk {w : World} {g : Nat} {n : Nat} {F : Nat → Nat} {L : List Nat} (h : Blk8 w g n F) (hn : L.length = n) (hF : ∀ j, j < n → F j = gt L j) : BL w (some ⟨g, 0, none⟩) L := BL.of (DatN.blk h) hn hF
theorem BL.own {w : World} {B n cap : Nat} {A : Option Addr} {F : Nat → Nat} {L : List Nat} (h : w.ownsRow B 5 1 (.slice A n cap) n (rowL n F)) (hn : L.length = n) (hF : ∀ j, j < n → F j = gt L j) : BL w A L := by
  cases n with
  | zero => exact Or.inl hn
  | succ k =>
    obtain ⟨g, cap', e⟩ := own_succ h
    cases e
    exact BL.blk (own_blk h) hn hF
theorem BL.take {w : World} {A : Option Addr} {L : List Nat} (h : BL w A L) (k : Nat) : BL w A (L.take k) := by
  rcases h with h | ⟨g, o, cs, h1, h2, h3⟩
  · exact Or.inl (by rw [List.length_take, h]; omega)
  · exact Or.inr ⟨g, o, cs, h1, h2, fun j hj => by rw [List.length_take] at hj; rw [gt_take (by omega)]; exact h3 j (by omega)⟩
theorem BL.drop {w : World} {A : Option Addr} {L : List Nat} (h : BL w A L) (k : Nat) (B : Option Addr) (hB : k < L.length → ∀ g o, A = some ⟨g, o, none⟩ → B = some ⟨g, o + k, none⟩) : BL w B (L.drop k) := by
  by_cases hk : k < L.length
  · rcases h with h | ⟨g, o, cs, h1, h2, h3⟩
    · omega
    · exact Or.inr ⟨g, o + k, cs, hB hk g o h1, h2, fun j hj => by rw [List.length_drop] at hj; rw [gt_drop, Nat.add_assoc]; exact h3 (k + j) (by omega)⟩
  · exact Or.inl (by rw [List.length_drop]; omega)

/-! The reader. -/
section
variable {w w' : World} {r n c : Nat} {t : Bool} {A : Option Addr}
end
theorem nof_L {w : World} {A : Option Addr} {L : List Nat} (c : Nat) (h : BL w A L) (hL : By L) (hn : L.length ≤ 7) :
    Calls Tryz.prog 100 #[.slice A L.length c] w fun e w' => e = .returned (.int .i64 (numL L : Nat)) ∧ w' = w :=
  nof A L.length c (gt L) w h.rd (fun j _ => hL.gt j) hn
/-- bytes.Clone of any bytes. -/
def NewB (L : List Nat) (w : World) (e : Ending) (w' : World) : Prop := ∃ B c, e = .returned (.slice B L.length c) ∧ L.length ≤ c ∧ BL w' B L ∧ Below w.heap.size w w'
theorem bclone_none (n c : Nat) (w : World) : Calls Tryz.prog 60 #[.slice none n c] w fun e w' => e = .returned (.slice none 0 0) ∧ w' = w := by
  have heq : Sem.run Tryz.prog (binOp .eql 36 (.slice none n c) (.slice none 0 0)) w = .ok (.bool true) w := Lib.run_eql_slice_nil w 36 5 none n c 0 0 Tryz.underlying36
  go_enter Tryz.func60, Tryz.ntmps60
  go_wp2_with fail
  go_ret
  exact ⟨rfl, rfl⟩
theorem bclone_L {w : World} {A : Option Addr} {L : List Nat} (c : Nat) (h : BL w A L) (hn : L.length ≤ 140737488355328) :
    Calls Tryz.prog 60 #[.slice A L.length c] w (NewB L w) := by
  cases A with
  | none =>
    refine (bclone_none L.length c w).mono ?_
    rintro e w' ⟨rfl, hw⟩
    obtain rfl := hw.symm
    have e0 : L = [] := by
      rcases h with h | ⟨g, o, cs, h1, _⟩
      · exact List.length_eq_zero_iff.1 h
      · cases h1
    subst e0
    exact ⟨none, 0, rfl, Nat.le_refl _, BL.nil, Below.refl _ _⟩
  | some a =>
    refine (bclone a L.length c (gt L) w h.rd hn).mono ?_
    rintro e w' ⟨g, cap, rfl, ho, hb, _, _, hc⟩
    exact ⟨some ⟨g, 0, none⟩, cap, rfl, hc, BL.own ho rfl (fun _ _ => rfl), hb⟩
end Go.Proofs.YtjgbfghkiahfaaaGreatDoor
namespace Go.Proofs.YtjgbfghkiahfaaaGreatDoor
open Go.RowKit Go.Sort
set_option maxRecDepth 100000
set_option maxHeartbeats 1000000

def QVal (w : World) (v : Value) (q : Qx) : Prop := ∃ A c, v = rqv q.k q.s q.g q.i A q.D.length c ∧ BL w A q.D ∧ By q.D
theorem QVal.below {w w' : World} {v : Value} {q : Qx} (h : QVal w v q) (b : Below w.heap.size w w') : QVal w' v q := by
  obtain ⟨A, c, h1, h2, h4⟩ := h
  exact ⟨A, c, h1, h2.below b, h4⟩
/-- within. -/
theorem cwithin (n a b : Int) (t : Bool) (ht : t = true ↔ a ≤ n ∧ n ≤ b) (w : World) :
    Calls Tryz.prog 66 #[.int .i64 n, .int .i64 a, .int .i64 b] w fun e w' => e = .returned (.bool t) ∧ w' = w := by
  by_cases h1 : a ≤ n
  · have e2 : decide (n ≤ b) = t := by
      cases t with
      | true => exact decide_eq_true (ht.1 rfl).2
      | false => refine decide_eq_false (fun h => ?_); have := ht.2 ⟨h1, h⟩; cases this
    clear ht
    go_enter Tryz.func66, Tryz.ntmps66
    go_wp2_with fail
    go_ret
    exact ⟨rfl, rfl⟩
  · obtain rfl : t = false := not_true ht (fun h => h1 h.1)
    clear ht
    go_enter Tryz.func66, Tryz.ntmps66
    go_wp2_with fail
    go_ret
    exact ⟨rfl, rfl⟩
def OkQ (k s g i : Int) (n : Nat) : Prop := 1 ≤ k ∧ k ≤ 6 ∧ 0 ≤ s ∧ s ≤ 65535 ∧ 0 ≤ g ∧ g ≤ 1099511627776 ∧ 0 ≤ i ∧ i ≤ 255 ∧ n ≤ 128
/-- rightReq. -/
theorem crightReq (k s g i : Int) (A : Option Addr) (n c : Nat) (w : World) (t : Bool) (ht : t = true ↔ OkQ k s g i n) :
    Calls Tryz.prog 50 #[rqv k s g i A n c] w fun e w' => e = .returned (.bool t) ∧ Below w.heap.size w w' := by
  obtain ⟨w1, hw1⟩ : ∃ w1, w.alloc (.cells #[.int .i64 k, .int .i64 s, .int .i64 g, .int .i64 i, .slice A n c] 38) = w1 := ⟨_, rfl⟩
  obtain ⟨H, hH⟩ : ∃ H, w.heap.size = H := ⟨_, rfl⟩
  have HW1 := Lib.hid hw1
  have HH := Lib.hid hH
  have hq : QV w1 H k s g i A n c := by rw [← hw1]; exact QV.of_new hH
  have HB1 : Hid (Below H w w1) := Lib.hid (by rw [← hw1, ← hH]; exact (Below.refl _ _).alloc (Nat.le_refl _) _)
  have q0 := hq.c0
  have q1 := hq.c1
  have q2 := hq.c2
  have q3 := hq.c3
  have q4 := hq.c4
  obtain ⟨t1, h1⟩ : ∃ t1 : Bool, t1 = true ↔ 1 ≤ k ∧ k ≤ 6 := ⟨decide (1 ≤ k ∧ k ≤ 6), by simp⟩
  obtain ⟨t2, h2⟩ : ∃ t2 : Bool, t2 = true ↔ 0 ≤ s ∧ s ≤ 65535 := ⟨decide (0 ≤ s ∧ s ≤ 65535), by simp⟩
  obtain ⟨t3, h3⟩ : ∃ t3 : Bool, t3 = true ↔ 0 ≤ g ∧ g ≤ 1099511627776 := ⟨decide (0 ≤ g ∧ g ≤ 1099511627776), by simp⟩
  obtain ⟨t4, h4⟩ : ∃ t4 : Bool, t4 = true ↔ 0 ≤ i ∧ i ≤ 255 := ⟨decide (0 ≤ i ∧ i ≤ 255), by simp⟩
  obtain ⟨t5, h5⟩ : ∃ t5 : Bool, decide ((n : Int) ≤ 128) = t5 := ⟨_, rfl⟩
  have hT : t = (t1 && t2 && t3 && t4 && t5) := by
    rw [Bool.eq_iff_iff, ht]
    unfold OkQ
    simp only [Bool.and_eq_true, h1, h2, h3, h4, ← h5, decide_eq_true_eq]
    omega
  have HC1 := Lib.hid (fun W => cwithin k 1 6 t1 h1 W)
  have HC2 := Lib.hid (fun W => cwithin s 0 65535 t2 h2 W)
  have HC3 := Lib.hid (fun W => cwithin g 0 1099511627776 t3 h3 W)
  have HC4 := Lib.hid (fun W => cwithin i 0 255 t4 h4 W)
  clear h1 h2 h3 h4 ht hw1 hH hq
  unfold rqv
  cases t1 with
  | false =>
    simp only [Bool.false_and] at hT
    subst hT
    go_enter Tryz.func50, Tryz.ntmps50
    go_wp2_with fail
    rw [HW1.out, HH.out]
    refine (HC1.out _).mono ?_
    rintro e w2 ⟨rfl, hw⟩
    obtain rfl := hw.symm
    try dsimp only
    go_wp2_with fail
    go_ret
    exact ⟨rfl, by rw [HH.out]; exact HB1.out⟩
  | true =>
    cases t2 with
    | false =>
      simp only [Bool.false_and, Bool.and_false] at hT
      subst hT
      go_enter Tryz.func50, Tryz.ntmps50
      go_wp2_with fail
      rw [HW1.out, HH.out]
      refine (HC1.out _).mono ?_
      rintro e w2 ⟨rfl, hw⟩
      obtain rfl := hw.symm
      try dsimp only
      go_wp2_with fail
      refine (HC2.out _).mono ?_
      rintro e w2 ⟨rfl, hw⟩
      obtain rfl := hw.symm
      try dsimp only
      go_wp2_with fail
      go_ret
      exact ⟨rfl, by rw [HH.out]; exact HB1.out⟩
    | true =>
      cases t3 with
      | false =>
        simp only [Bool.false_and, Bool.and_false] at hT
        subst hT
        go_enter Tryz.func50, Tryz.ntmps50
        go_wp2_with fail
        rw [HW1.out, HH.out]
        refine (HC1.out _).mono ?_
        rintro e w2 ⟨rfl, hw⟩
        obtain rfl := hw.symm
        try dsimp only
        go_wp2_with fail
        refine (HC2.out _).mono ?_
        rintro e w2 ⟨rfl, hw⟩
        obtain rfl := hw.symm
        try dsimp only
        go_wp2_with fail
        refine (HC3.out _).mono ?_
        rintro e w2 ⟨rfl, hw⟩
        obtain rfl := hw.symm
        try dsimp only
        go_wp2_with fail
        go_ret
        exact ⟨rfl, by rw [HH.out]; exact HB1.out⟩
      | true =>
        simp only [Bool.true_and] at hT
        have HT := Lib.hid hT
        clear hT
        go_enter Tryz.func50, Tryz.ntmps50
        go_wp2_with fail
        rw [HW1.out, HH.out]
        refine (HC1.out _).mono ?_
        rintro e w2 ⟨rfl, hw⟩
        obtain rfl := hw.symm
        try dsimp only
        go_wp2_with fail
        refine (HC2.out _).mono ?_
        rintro e w2 ⟨rfl, hw⟩
        obtain rfl := hw.symm
        try dsimp only
        go_wp2_with fail
        refine (HC3.out _).mono ?_
        rintro e w2 ⟨rfl, hw⟩
        obtain rfl := hw.symm
        try dsimp only
        go_wp2_with fail
        refine (HC4.out _).mono ?_
        rintro e w2 ⟨rfl, hw⟩
        obtain rfl := hw.symm
        try dsimp only
        cases t4 with
        | false =>
          go_wp2_with fail
          go_ret
          exact ⟨by rw [HT.out]; rfl, by rw [HH.out]; exact HB1.out⟩
        | true =>
          go_wp2_with fail
          go_ret
          exact ⟨by rw [HT.out]; rfl, by rw [HH.out]; exact HB1.out⟩
end Go.Proofs.YtjgbfghkiahfaaaGreatDoor
