import Derived.Test.YtjgbfghkiahfaaaGreatDoorV34
import Derived.Test.YtjgbfghkiahfaaaGreatDoorV03
import Derived.Test.YtjgbfghkiahfaaaGreatDoorV08
namespace Go.Proofs.YtjgbfghkiahfaaaGreatDoor
open Go.RowKit Go.Sort
set_option maxRecDepth 100000
set_option maxHeartbeats 1000000

/-! Replies. -/
structure Px where
  s : Int
  g : Int
  i : Int
  D : List Nat
deriving DecidableEq
structure Ix where
  s : Int
  g : Int
  D : List Nat
deriving DecidableEq
structure Rx where
  code : Int
  boot : Int
  ps : List Px
  xs : List Ix
deriving DecidableEq
def Rx.no : Rx := ⟨0, 0, [], []⟩
def Px.Right (p : Px) : Prop := OkI p.s p.g p.i p.D.length
def Ix.Right (p : Ix) : Prop := OkJ p.s p.g p.D.length
instance (p : Px) : Decidable p.Right := by unfold Px.Right OkI; infer_instance
instance (p : Ix) : Decidable p.Right := by unfold Ix.Right OkJ; infer_instance
def Px.lay (p : Px) : List Nat := byteL p.s.toNat 1 ++ (byteL p.g.toNat 6 ++ (byteL p.i.toNat 1 ++ p.D))
def Ix.lay (p : Ix) : List Nat := byteL p.s.toNat 1 ++ (byteL p.g.toNat 6 ++ p.D)
def layPs (l : List Px) : List Nat := (l.map Px.lay).flatten
def layIs (l : List Ix) : List Nat := (l.map Ix.lay).flatten
def Rx.Right (p : Rx) : Prop := (0 ≤ p.code ∧ p.code ≤ 255) ∧ (0 ≤ p.boot ∧ p.boot ≤ 2147483647) ∧ p.ps.length ≤ 2 ∧ p.xs.length ≤ 16 ∧ (∀ x ∈ p.ps, x.Right) ∧ ∀ x ∈ p.xs, x.Right
instance (p : Rx) : Decidable p.Right := by unfold Rx.Right; infer_instance
def Rx.lay (p : Rx) : List Nat := byteL p.code.toNat 1 ++ (byteL p.boot.toNat 4 ++ (byteL p.ps.length 1 ++ (layPs p.ps ++ (byteL p.xs.length 1 ++ layIs p.xs))))
theorem Px.lay_len {p : Px} (h : p.Right) : p.lay.length = 40 := by
  obtain ⟨_, _, _, _, _, _, h⟩ := h
  unfold Px.lay
  simp only [List.length_append, byteL_len, h]
theorem Ix.lay_len {p : Ix} (h : p.Right) : p.lay.length = 135 := by
  obtain ⟨_, _, _, _, h⟩ := h
  unfold Ix.lay
  simp only [List.length_append, byteL_len, h]
theorem layPs_snoc (l : List Px) (p : Px) : layPs (l ++ [p]) = layPs l ++ p.lay := by unfold layPs; simp
theorem layIs_snoc (l : List Ix) (p : Ix) : layIs (l ++ [p]) = layIs l ++ p.lay := by unfold layIs; simp
theorem layPs_len : ∀ {l : List Px}, (∀ x ∈ l, x.Right) → (layPs l).length = 40 * l.length
  | [], _ => rfl
  | p :: l, h => by
    have e : layPs (p :: l) = p.lay ++ layPs l := rfl
    rw [e, List.length_append, Px.lay_len (h p (List.mem_cons_self ..)), layPs_len (fun x hx => h x (List.mem_cons_of_mem _ hx)), List.length_cons]
    omega
theorem layIs_len : ∀ {l : List Ix}, (∀ x ∈ l, x.Right) → (layIs l).length = 135 * l.length
  | [], _ => rfl
  | p :: l, h => by
    have e : layIs (p :: l) = p.lay ++ layIs l := rfl
    rw [e, List.length_append, Ix.lay_len (h p (List.mem_cons_self ..)), layIs_len (fun x hx => h x (List.mem_cons_of_mem _ hx)), List.length_cons]
    omega
theorem Rx.lay_len {p : Rx} (h : p.Right) : p.lay.length = 7 + 40 * p.ps.length + 135 * p.xs.length := by
  obtain ⟨_, _, _, _, h1, h2⟩ := h
  unfold Rx.lay
  simp only [List.length_append, byteL_len, layPs_len h1, layIs_len h2]
  omega
/-- What the counts say. -/
theorem Rx.lay_counts {p : Rx} (h : p.Right) : gt p.lay 5 = p.ps.length ∧ gt p.lay (6 + 40 * p.ps.length) = p.xs.length := by
  obtain ⟨_, _, h3, h4, h1, h2⟩ := h
  have e1 := byteL_len p.code.toNat 1
  have e2 := byteL_len p.boot.toNat 4
  have e3 := byteL_len p.ps.length 1
  have e4 := layPs_len h1
  have e5 := byteL_len p.xs.length 1
  unfold Rx.lay
  refine ⟨?_, ?_⟩
  · rw [gt_app, if_neg (by omega), gt_app, if_neg (by omega), gt_app, if_pos (by omega), e1, e2, gt_byteL (by omega)]
    exact byte1 _ (by omega)
  · rw [gt_app, if_neg (by omega), gt_app, if_neg (by omega), gt_app, if_neg (by omega), gt_app, if_neg (by omega), gt_app, if_pos (by omega), e1, e2, e3, e4, gt_byteL (by omega), show 6 + 40 * p.ps.length - 1 - 4 - 1 - 40 * p.ps.length = 0 by omega]
    exact byte1 _ (by omega)

/-! What the project reads. -/
def rdX (s : St) : Px × St :=
  let a := nx 1 s; let b := nx 6 a.2; let c := nx 1 b.2; let d := nx 32 c.2
  (⟨(numL a.1 : Nat), (numL b.1 : Nat), (numL c.1 : Nat), d.1⟩, d.2)
def rdY (s : St) : Ix × St :=
  let a := nx 1 s; let b := nx 6 a.2; let d := nx 128 b.2
  (⟨(numL a.1 : Nat), (numL b.1 : Nat), d.1⟩, d.2)
def rdPs : Nat → St → List Px × St
  | 0, s => ([], s)
  | k + 1, s => ((rdPs k s).1 ++ [(rdX (rdPs k s).2).1], (rdX (rdPs k s).2).2)
def rdIs : Nat → St → List Ix × St
  | 0, s => ([], s)
  | k + 1, s => ((rdIs k s).1 ++ [(rdY (rdIs k s).2).1], (rdY (rdIs k s).2).2)
def rdR (L : List Nat) : Rx × St :=
  let a := nx 1 (L, false); let b := nx 4 a.2; let n := nx 1 b.2; let ps := rdPs (numL n.1) n.2; let m := nx 1 ps.2; let xs := rdIs (numL m.1) m.2
  (⟨(numL a.1 : Nat), (numL b.1 : Nat), ps.1, xs.1⟩, xs.2)
def projR (L : List Nat) : Option Rx := if (rdR L).2.2 = false ∧ (rdR L).2.1 = [] ∧ (rdR L).1.Right then some (rdR L).1 else none
theorem byteL_num' {k : Nat} {s : St} (hb : By s.1) (h : (nx k s).1.length = k) : byteL (numL (nx k s).1) k = (nx k s).1 := by
  have := byteL_numL (nx_by (k := k) hb).1
  rwa [h] at this
theorem rdX_false {s : St} (hb : By s.1) (h : (rdX s).2.2 = false) : s.2 = false ∧ s.1 = (rdX s).1.lay ++ (rdX s).2.1 ∧ By (rdX s).2.1 := by
  revert h
  unfold rdX
  dsimp only
  intro h
  obtain ⟨d1, d2, d3⟩ := nx_false h
  obtain ⟨c1, c2, c3⟩ := nx_false d1
  obtain ⟨b1, b2, b3⟩ := nx_false c1
  obtain ⟨a1, a2, a3⟩ := nx_false b1
  have ya := (nx_by (k := 1) hb).2
  have yb := (nx_by (k := 6) ya).2
  have yc := (nx_by (k := 1) yb).2
  have yd := (nx_by (k := 32) yc).2
  refine ⟨a1, ?_, yd⟩
  unfold Px.lay
  dsimp only
  simp only [Int.toNat_natCast]
  rw [byteL_num' hb a2, byteL_num' ya b2, byteL_num' yb c2]
  simp only [List.append_assoc]
  rw [← d3, ← c3, ← b3]
  exact a3
theorem rdY_false {s : St} (hb : By s.1) (h : (rdY s).2.2 = false) : s.2 = false ∧ s.1 = (rdY s).1.lay ++ (rdY s).2.1 ∧ By (rdY s).2.1 := by
  revert h
  unfold rdY
  dsimp only
  intro h
  obtain ⟨d1, d2, d3⟩ := nx_false h
  obtain ⟨b1, b2, b3⟩ := nx_false d1
  obtain ⟨a1, a2, a3⟩ := nx_false b1
  have ya := (nx_by (k := 1) hb).2
  have yb := (nx_by (k := 6) ya).2
  have yd := (nx_by (k := 128) yb).2
  refine ⟨a1, ?_, yd⟩
  unfold Ix.lay
  dsimp only
  simp only [Int.toNat_natCast]
  rw [byteL_num' hb a2, byteL_num' ya b2]
  simp only [List.append_assoc]
  rw [← d3, ← b3]
  exact a3
/-- Whatever is read are bytes. -/
theorem rdX_by {s : St} (hb : By s.1) : By (rdX s).1.D ∧ By (rdX s).2.1 ∧ (rdX s).1.D.length ≤ 32 ∧ (rdX s).2.1.length ≤ s.1.length := by
  unfold rdX
  dsimp only
  have ya := (nx_by (k := 1) hb).2
  have yb := (nx_by (k := 6) ya).2
  have yc := (nx_by (k := 1) yb).2
  have yd := nx_by (k := 32) yc
  have l1 := (nx_len 1 s).2
  have l2 := (nx_len 6 (nx 1 s).2).2
  have l3 := (nx_len 1 (nx 6 (nx 1 s).2).2).2
  have l4 := nx_len 32 (nx 1 (nx 6 (nx 1 s).2).2).2
  exact ⟨yd.1, yd.2, l4.1, by omega⟩
theorem rdY_by {s : St} (hb : By s.1) : By (rdY s).1.D ∧ By (rdY s).2.1 ∧ (rdY s).1.D.length ≤ 128 ∧ (rdY s).2.1.length ≤ s.1.length := by
  unfold rdY
  dsimp only
  have ya := (nx_by (k := 1) hb).2
  have yb := (nx_by (k := 6) ya).2
  have yd := nx_by (k := 128) yb
  have l1 := (nx_len 1 s).2
  have l2 := (nx_len 6 (nx 1 s).2).2
  have l4 := nx_len 128 (nx 6 (nx 1 s).2).2
  exact ⟨yd.1, yd.2, l4.1, by omega⟩
theorem rdPs_by {s : St} (hb : By s.1) : ∀ k, By (rdPs k s).2.1 ∧ (rdPs k s).2.1.length ≤ s.1.length ∧ (rdPs k s).1.length = k ∧ ∀ x ∈ (rdPs k s).1, By x.D
  | 0 => ⟨hb, Nat.le_refl _, rfl, fun x hx => by cases hx⟩
  | k + 1 => by
    obtain ⟨h1, h2, h3, h4⟩ := rdPs_by hb k
    obtain ⟨a, b, c, d⟩ := rdX_by h1
    refine ⟨b, Nat.le_trans d h2, by show ((rdPs k s).1 ++ [_]).length = _; rw [List.length_append, h3]; rfl, fun x hx => ?_⟩
    have hx' : x ∈ (rdPs k s).1 ++ [(rdX (rdPs k s).2).1] := hx
    rcases List.mem_append.1 hx' with e | e
    · exact h4 x e
    · obtain rfl := List.mem_singleton.1 e
      exact a
theorem rdIs_by {s : St} (hb : By s.1) : ∀ k, By (rdIs k s).2.1 ∧ (rdIs k s).2.1.length ≤ s.1.length ∧ (rdIs k s).1.length = k ∧ ∀ x ∈ (rdIs k s).1, By x.D
  | 0 => ⟨hb, Nat.le_refl _, rfl, fun x hx => by cases hx⟩
  | k + 1 => by
    obtain ⟨h1, h2, h3, h4⟩ := rdIs_by hb k
    obtain ⟨a, b, c, d⟩ := rdY_by h1
    refine ⟨b, Nat.le_trans d h2, by show ((rdIs k s).1 ++ [_]).length = _; rw [List.length_append, h3]; rfl, fun x hx => ?_⟩
    have hx' : x ∈ (rdIs k s).1 ++ [(rdY (rdIs k s).2).1] := hx
    rcases List.mem_append.1 hx' with e | e
    · exact h4 x e
    · obtain rfl := List.mem_singleton.1 e
      exact a
theorem rdPs_false {s : St} (hb : By s.1) : ∀ {k : Nat}, (rdPs k s).2.2 = false → s.2 = false ∧ s.1 = layPs (rdPs k s).1 ++ (rdPs k s).2.1
  | 0, h => ⟨h, rfl⟩
  | k + 1, h => by
    obtain ⟨h1, h2, _⟩ := rdX_false (rdPs_by hb k).1 h
    obtain ⟨h3, h4⟩ := rdPs_false hb h1
    refine ⟨h3, ?_⟩
    show s.1 = layPs ((rdPs k s).1 ++ [_]) ++ _
    rw [layPs_snoc, List.append_assoc]
    refine h4.trans ?_
    exact congrArg (layPs (rdPs k s).1 ++ ·) h2
theorem rdIs_false {s : St} (hb : By s.1) : ∀ {k : Nat}, (rdIs k s).2.2 = false → s.2 = false ∧ s.1 = layIs (rdIs k s).1 ++ (rdIs k s).2.1
  | 0, h => ⟨h, rfl⟩
  | k + 1, h => by
    obtain ⟨h1, h2, _⟩ := rdY_false (rdIs_by hb k).1 h
    obtain ⟨h3, h4⟩ := rdIs_false hb h1
    refine ⟨h3, ?_⟩
    show s.1 = layIs ((rdIs k s).1 ++ [_]) ++ _
    rw [layIs_snoc, List.append_assoc]
    refine h4.trans ?_
    exact congrArg (layIs (rdIs k s).1 ++ ·) h2
theorem of_projR {L : List Nat} {p : Rx} (hL : By L) (h : projR L = some p) : p.Right ∧ p.lay = L := by
  unfold projR at h
  split at h
  · next hc =>
    obtain ⟨h1, h2, h3⟩ := hc
    cases h
    refine ⟨h3, ?_⟩
    revert h1 h2 h3
    unfold rdR
    dsimp only
    intro h1 h2 h3
    have ya := (nx_by (k := 1) (s := (L, false)) hL).2
    have yb := (nx_by (k := 4) ya).2
    have yn := (nx_by (k := 1) yb).2
    have yp := rdPs_by yn (numL (nx 1 (nx 4 (nx 1 (L, false)).2).2).1)
    have ym := (nx_by (k := 1) yp.1).2
    have yx := rdIs_by ym (numL (nx 1 (rdPs (numL (nx 1 (nx 4 (nx 1 (L, false)).2).2).1) (nx 1 (nx 4 (nx 1 (L, false)).2).2).2).2).1)
    obtain ⟨x1, x3⟩ := rdIs_false ym h1
    obtain ⟨m1, m2, m3⟩ := nx_false x1
    obtain ⟨p1, p3⟩ := rdPs_false yn m1
    obtain ⟨n1, n2, n3⟩ := nx_false p1
    obtain ⟨b1, b2, b3⟩ := nx_false n1
    obtain ⟨a1, a2, a3⟩ := nx_false b1
    rw [h2, List.append_nil] at x3
    unfold Rx.lay
    dsimp only
    simp only [Int.toNat_natCast]
    rw [yp.2.2.1, yx.2.2.1, byteL_num' hL a2, byteL_num' ya b2, byteL_num' yb n2, byteL_num' yp.1 m2, ← x3, ← m3, ← p3, ← n3, ← b3]
    exact a3.symm
  · cases h
theorem rdX_lay {p : Px} (h : p.Right) (R : List Nat) : rdX (p.lay ++ R, false) = (p, R, false) := by
  obtain ⟨a, b, c, d, e, f, g⟩ := h
  unfold rdX Px.lay
  simp only [List.append_assoc]
  rw [nx_app _ _ _ (byteL_len _ _)]
  dsimp only
  rw [nx_app _ _ _ (byteL_len _ _)]
  dsimp only
  rw [nx_app _ _ _ (byteL_len _ _)]
  dsimp only
  rw [nx_app _ _ _ g]
  dsimp only
  rw [numL_byteL (by omega), numL_byteL (by omega), numL_byteL (by omega), Int.toNat_of_nonneg (by omega), Int.toNat_of_nonneg (by omega), Int.toNat_of_nonneg (by omega)]
theorem rdY_lay {p : Ix} (h : p.Right) (R : List Nat) : rdY (p.lay ++ R, false) = (p, R, false) := by
  obtain ⟨a, b, c, d, g⟩ := h
  unfold rdY Ix.lay
  simp only [List.append_assoc]
  rw [nx_app _ _ _ (byteL_len _ _)]
  dsimp only
  rw [nx_app _ _ _ (byteL_len _ _)]
  dsimp only
  rw [nx_app _ _ _ g]
  dsimp only
  rw [numL_byteL (by omega), numL_byteL (by omega), Int.toNat_of_nonneg (by omega), Int.toNat_of_nonneg (by omega)]
theorem rdPs_lay (l : List Px) (R : List Nat) (h : ∀ x ∈ l, x.Right) : ∀ k, k ≤ l.length → rdPs k (layPs l ++ R, false) = (l.take k, layPs (l.drop k) ++ R, false)
  | 0, _ => rfl
  | k + 1, hk => by
    have ih := rdPs_lay l R h k (by omega)
    have e : l.drop k = l[k] :: l.drop (k + 1) := List.drop_eq_getElem_cons (by omega)
    have e2 : layPs (l.drop k) = (l[k]).lay ++ layPs (l.drop (k + 1)) := by rw [e]; rfl
    show ((rdPs k _).1 ++ [(rdX (rdPs k _).2).1], (rdX (rdPs k _).2).2) = _
    rw [ih]
    dsimp only
    rw [e2, List.append_assoc, rdX_lay (h _ (List.getElem_mem _))]
    rw [List.take_add_one, List.getElem?_eq_getElem (by omega)]
    rfl
theorem rdIs_lay (l : List Ix) (R : List Nat) (h : ∀ x ∈ l, x.Right) : ∀ k, k ≤ l.length → rdIs k (layIs l ++ R, false) = (l.take k, layIs (l.drop k) ++ R, false)
  | 0, _ => rfl
  | k + 1, hk => by
    have ih := rdIs_lay l R h k (by omega)
    have e : l.drop k = l[k] :: l.drop (k + 1) := List.drop_eq_getElem_cons (by omega)
    have e2 : layIs (l.drop k) = (l[k]).lay ++ layIs (l.drop (k + 1)) := by rw [e]; rfl
    show ((rdIs k _).1 ++ [(rdY (rdIs k _).2).1], (rdY (rdIs k _).2).2) = _
    rw [ih]
    dsimp only
    rw [e2, List.append_assoc, rdY_lay (h _ (List.getElem_mem _))]
    rw [List.take_add_one, List.getElem?_eq_getElem (by omega)]
    rfl
theorem projR_lay {p : Rx} (h : p.Right) : projR p.lay = some p := by
  obtain ⟨⟨a, b⟩, ⟨c, d⟩, e, f, h1, h2⟩ := h
  have er : rdR p.lay = (p, [], false) := by
    unfold rdR Rx.lay
    rw [nx_app _ _ _ (byteL_len _ _)]
    dsimp only
    rw [nx_app _ _ _ (byteL_len _ _)]
    dsimp only
    rw [nx_app _ _ _ (byteL_len _ _)]
    dsimp only
    rw [numL_byteL (by omega), numL_byteL (by omega), numL_byteL (by omega), rdPs_lay p.ps _ h1 p.ps.length (Nat.le_refl _)]
    dsimp only
    rw [List.take_length, List.drop_length, show layPs [] = [] from rfl, List.nil_append, nx_app _ _ _ (byteL_len _ _)]
    dsimp only
    have e3 := rdIs_lay p.xs [] h2 p.xs.length (Nat.le_refl _)
    rw [List.append_nil] at e3
    rw [numL_byteL (by omega), e3]
    dsimp only
    rw [List.take_length, List.drop_length, show layIs [] = [] from rfl, List.nil_append, Int.toNat_of_nonneg a, Int.toNat_of_nonneg c]
  unfold projR
  rw [er]
  exact if_pos ⟨rfl, rfl, ⟨a, b⟩, ⟨c, d⟩, e, f, h1, h2⟩
theorem projR_none {L : List Nat} (h : ∀ p : Rx, p.Right → p.lay = L → False) (hL : By L) : projR L = none := by
  cases e : projR L with
  | none => rfl
  | some p =>
    obtain ⟨h1, h2⟩ := of_projR hL e
    exact (h p h1 h2).elim
theorem layPs_by : ∀ {l : List Px}, (∀ x ∈ l, By x.D) → By (layPs l)
  | [], _ => By.nil
  | p :: l, h => by
    have e : layPs (p :: l) = p.lay ++ layPs l := rfl
    rw [e]
    exact ((byteL_by _ _).app ((byteL_by _ _).app ((byteL_by _ _).app (h p (List.mem_cons_self ..))))).app (layPs_by (fun x hx => h x (List.mem_cons_of_mem _ hx)))
theorem layIs_by : ∀ {l : List Ix}, (∀ x ∈ l, By x.D) → By (layIs l)
  | [], _ => By.nil
  | p :: l, h => by
    have e : layIs (p :: l) = p.lay ++ layIs l := rfl
    rw [e]
    exact ((byteL_by _ _).app ((byteL_by _ _).app (h p (List.mem_cons_self ..)))).app (layIs_by (fun x hx => h x (List.mem_cons_of_mem _ hx)))
theorem Rx.lay_by {p : Rx} (h1 : ∀ x ∈ p.ps, By x.D) (h2 : ∀ x ∈ p.xs, By x.D) : By p.lay :=
  (byteL_by _ _).app ((byteL_by _ _).app ((byteL_by _ _).app ((layPs_by h1).app ((byteL_by _ _).app (layIs_by h2)))))
end Go.Proofs.YtjgbfghkiahfaaaGreatDoor
