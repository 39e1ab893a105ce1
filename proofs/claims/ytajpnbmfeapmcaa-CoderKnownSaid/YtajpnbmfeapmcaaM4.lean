import Derived.Test.YtajpnbmfeapmcaaM3
namespace Go.Proofs.Ytajpnbmfeapmcaa

/-- What a call of Inverse has found of A: with true the inverse, with false that there is none. -/
def Found (n : Nat) (A X : Mx) (ok : Bool) : Prop := (ok = true ∧ Inv n A X ∧ det n A ≠ 0) ∨ (ok = false ∧ Sing n A)

theorem Found.yes {n : Nat} {A X : Mx} (_ha : Bd n n A) (h : Found n A X true) : Inv n A X ∧ det n A ≠ 0 := by
  rcases h with ⟨_, h⟩ | ⟨h, _⟩
  · exact h
  · cases h
theorem Found.no {n : Nat} {A X : Mx} (h : Found n A X false) : Sing n A := by
  rcases h with ⟨h, _⟩ | ⟨_, h⟩
  · cases h
  · exact h

theorem Found.iff_det {n : Nat} {A X : Mx} {ok : Bool} (ha : Bd n n A) (h : Found n A X ok) : ok = decide (det n A ≠ 0) := by
  rcases h with ⟨rfl, _, h⟩ | ⟨rfl, h⟩
  · exact (decide_eq_true h).symm
  · exact (decide_eq_false (fun hn => hn (det_sing ha h))).symm

/-- Two that were found of the same one. -/
theorem Found.same {n : Nat} {A B X Y : Mx} {o p : Bool} (ha : Bd n n A) (e : EqM n n A B) (h : Found n A X o) (k : Found n B Y p) : o = p ∧ (o = true → EqM n n X Y) := by
  have hb := ha.of e
  have o1 := h.iff_det ha
  have p1 := k.iff_det hb
  rw [det_congr e] at o1
  refine ⟨o1.trans p1.symm, fun ho => ?_⟩
  subst ho
  have hp : p = true := p1.trans o1.symm
  subst hp
  exact inv_one ha (h.yes ha).1 (k.yes hb).1.bx ((mm_congr e (EqM.refl _ _ _)).trans (k.yes hb).1.right)

/-- A product's. -/
theorem Found.prod {n : Nat} {A B P X Y Z : Mx} {o p q : Bool} (ha : Bd n n A) (hb : Bd n n B) (e : EqM n n (mm n A B) P) (h : Found n A X o) (k : Found n B Y p) (m : Found n P Z q) :
    q = (o && p) ∧ (q = true → EqM n n Z (mm n Y X)) := by
  have hP : Bd n n P := (mm_bd n n n A B).of e
  have sP : Sing n (mm n A B) → q = false := fun s => by
    cases q
    · rfl
    · have i := (m.yes hP).1
      exact absurd s (not_sing (mm_bd _ _ _ _ _) i.bx ((mm_congr (EqM.refl _ _ _) e).trans i.left))
  cases p with
  | false =>
    have := sP (sing_right ha hb k.no)
    subst this
    exact ⟨(Bool.and_false o).symm, fun h => by cases h⟩
  | true =>
    cases o with
    | false =>
      have := sP (sing_left ha hb (k.yes hb).1 h.no)
      subst this
      exact ⟨rfl, fun h => by cases h⟩
    | true =>
      have i := inv_prod ha hb (h.yes ha).1 (k.yes hb).1
      have hq : q = true := by
        cases q
        · obtain ⟨v, hv, hc, h0⟩ := m.no
          refine absurd (⟨v, hv, hc, fun r hr => ?_⟩ : Sing n (mm n A B)) (not_sing (mm_bd _ _ _ _ _) i.bx i.left)
          rw [← h0 r hr]
          exact sx_congr (fun j hj => by rw [e r hr j hj])
        · rfl
      subst hq
      refine ⟨rfl, fun _ => ?_⟩
      exact (inv_one hP ⟨(m.yes hP).1.bx, (m.yes hP).1.right, (m.yes hP).1.left⟩ i.bx ((mm_congr e.symm (EqM.refl _ _ _)).trans i.right))

theorem sw_inj {p q i k : Nat} (h : sw p q i = sw p q k) : i = k := by rw [← sw_sw p q i, h, sw_sw]
/-- From the right a change of rows is one of columns. -/
theorem mm_swap {r n p q : Nat} {A : Mx} (ha : Bd r n A) (hp : p < n) (hq : q < n) : EqM r n (mm n A (swap p q)) (fun i k => A i (sw p q k)) := by
  intro i hi k hk
  show sx n (fun j => mul (A i j) (swap p q j k)) = A i (sw p q k)
  have hk' := sw_lt hp hq hk
  rw [sx_one (c := sw p q k) hk' (fun j _ hj => by
    unfold swap
    rw [if_neg (fun e => hj (by rw [e, sw_sw])), mul_zero])]
  unfold swap
  rw [sw_sw, if_pos rfl, mul_one (ha i hi _ hk')]
/-- Two rows that change places. -/
theorem Found.swapped {n p q : Nat} {A D X Y : Mx} {o r : Bool} (ha : Bd n n A) (hp : p < n) (hq : q < n) (e : EqM n n D (fun i k => A (sw p q i) k)) (h : Found n A X o) (k : Found n D Y r) :
    o = r ∧ (o = true → EqM n n Y (fun i k => X i (sw p q k))) := by
  have eD : EqM n n (mm n (swap p q) A) D := (swap_mm ha hp hq).trans e.symm
  have hs : Found n (swap p q) (swap p q) true := Or.inl ⟨rfl, swap_inv hp hq, by
    have := det_of_swap hp hq (one_bd n n)
    rw [det_one] at this
    have e2 : EqM n n (fun i k => one (sw p q i) k) (swap p q) := fun i _ k _ => by
      unfold one swap
      dsimp only
      by_cases h : sw p q i = k
      · rw [if_pos h, if_pos h.symm]
      · rw [if_neg h, if_neg (fun e => h e.symm)]
    rw [det_congr e2] at this
    rw [this]; decide⟩
  have f := Found.prod (swap_bd n p q) ha eD hs h k
  rw [Bool.true_and] at f
  refine ⟨f.1.symm, fun ho => ?_⟩
  subst ho
  exact (f.2 f.1).trans (mm_swap (h.yes ha).1.bx hp hq)

/-- The document's inverse. -/
theorem Found.doc {n : Nat} {A X : Mx} (ha : Bd (n + 1) (n + 1) A) (h : Found (n + 1) A X true) : EqM (n + 1) (n + 1) X (fun j i => mul (inv (det (n + 1) A)) (det n (wo A i j))) :=
  inv_one ha (h.yes ha).1 (fun _ _ _ _ => mul_lt _ _) (adj_right ha (h.yes ha).2)

/-- Two rows alike, or one of nothing: there is none. -/
theorem Found.alike {n i k : Nat} {A X : Mx} {o : Bool} (_ha : Bd n n A) (hi : i < n) (hk : k < n) (hik : i ≠ k) (e : ∀ j, j < n → A i j = A k j) (h : Found n A X o) : o = Bool.false := by
  rcases h with ⟨rfl, h, _⟩ | ⟨h, _⟩
  · exact absurd h.right (fun hr => no_inv_alike hi hk hik e hr)
  · exact h
theorem Found.none {n k : Nat} {A X : Mx} {o : Bool} (hk : k < n) (e : ∀ j, j < n → A k j = 0) (h : Found n A X o) : o = Bool.false := by
  rcases h with ⟨rfl, h, _⟩ | ⟨h, _⟩
  · exact absurd h.right (fun hr => no_inv_none hk e hr)
  · exact h

/-- An elimination that came to its end, or stood still at column c. -/
theorem Found.of_done {n : Nat} {A L R : Mx} (ha : Bd n n A) (g : Gauss n A L R) (d : Dt n A L) (e : EqM n n L one) : Found n A R Bool.true := Or.inl ⟨rfl, g.done ha e, d.done e⟩
theorem Found.of_stuck {n c : Nat} {A L R X : Mx} (ha : Bd n n A) (g : Gauss n A L R) (hc : c < n) (hid : ∀ i, i < n → ∀ j, j < c → L i j = one i j) (h0 : ∀ i, c ≤ i → i < n → L i c = 0) : Found n A X Bool.false :=
  Or.inr ⟨rfl, g.fails ha (sing_of g.bl hc hid h0)⟩
end Go.Proofs.Ytajpnbmfeapmcaa
