import Derived.Test.YtajpnbmfeapmcaaM2
namespace Go.Proofs.Ytajpnbmfeapmcaa

theorem sx_head (n : Nat) (f : Nat → Nat) : sx (n + 1) f = f 0 ^^^ sx n (fun k => f (k + 1)) := by
  induction n with
  | zero => rw [sx_succ, sx_nil, sx_nil, Nat.zero_xor, Nat.xor_zero]
  | succ n ih => rw [sx_succ, ih, sx_succ, Nat.xor_assoc]
theorem skip_up (c j : Nat) : skip (c + 1) (j + 1) = skip c j + 1 := by
  unfold skip
  split <;> split <;> omega

/-- By the first column. -/
theorem det_col : ∀ {n : Nat} {A : Mx}, Bd (n + 1) (n + 1) A → det (n + 1) A = sx (n + 1) (fun i => mul (A i 0) (det n (wo A i 0))) := by
  intro n
  induction n with
  | zero => intro A _; rfl
  | succ n ih =>
    intro A ha
    rw [det_succ, sx_head, sx_head (n + 1) (fun i => mul (A i 0) (det (n + 1) (wo A i 0)))]
    congr 1
    have e1 : sx (n + 1) (fun k => mul (A 0 (k + 1)) (det (n + 1) (wo A 0 (k + 1)))) =
        sx (n + 1) (fun k => sx (n + 1) (fun i => mul (A 0 (k + 1)) (mul (A (i + 1) 0) (det n (wo (wo A 0 (k + 1)) i 0))))) := by
      refine sx_congr (fun k hk => ?_)
      rw [ih (wo_bd ha), sx_mul (ha 0 (by omega) (k + 1) (by omega)) (fun _ _ => mul_lt _ _)]
      refine sx_congr (fun i _ => ?_)
      have : wo A 0 (k + 1) i 0 = A (i + 1) 0 := by
        show A (skip 0 i) (skip (k + 1) 0) = _
        have b : skip (k + 1) 0 = 0 := by unfold skip; rw [if_pos (by omega)]
        rw [skip_zero, b]
      rw [this]
    have e2 : sx (n + 1) (fun i => mul (A (i + 1) 0) (det (n + 1) (wo A (i + 1) 0))) =
        sx (n + 1) (fun i => sx (n + 1) (fun k => mul (A (i + 1) 0) (mul (A 0 (k + 1)) (det n (wo (wo A (i + 1) 0) 0 k))))) := by
      refine sx_congr (fun i hi => ?_)
      rw [det_succ, sx_mul (ha (i + 1) (by omega) 0 (by omega)) (fun _ _ => mul_lt _ _)]
      refine sx_congr (fun k _ => ?_)
      have : wo A (i + 1) 0 0 k = A 0 (k + 1) := by
        show A (skip (i + 1) 0) (skip 0 k) = _
        have b : skip (i + 1) 0 = 0 := by unfold skip; rw [if_pos (by omega)]
        rw [skip_zero, b]
      rw [this]
    rw [e1, e2, sx_swap]
    refine sx_congr (fun i hi => sx_congr (fun k hk => ?_))
    have e3 : wo (wo A 0 (k + 1)) i 0 = wo (wo A (i + 1) 0) 0 k := by
      funext x y
      show A (skip 0 (skip i x)) (skip (k + 1) (skip 0 y)) = A (skip (i + 1) (skip 0 x)) (skip 0 (skip k y))
      rw [skip_zero, skip_zero, skip_zero, skip_zero, skip_up, skip_up]
    have a := ha 0 (by omega) (k + 1) (by omega)
    have b := ha (i + 1) (by omega) 0 (by omega)
    rw [e3, mul_assoc a b (det_lt _ _), mul_assoc b a (det_lt _ _), mul_comm (A 0 (k + 1))]

def tr (A : Mx) : Mx := fun i j => A j i
theorem tr_bd {n : Nat} {A : Mx} (h : Bd n n A) : Bd n n (tr A) := fun i hi j hj => h j hj i hi
theorem det_tr : ∀ {n : Nat} {A : Mx}, Bd n n A → det n (tr A) = det n A := by
  intro n
  induction n with
  | zero => intros; rfl
  | succ n ih =>
    intro A ha
    rw [det_col ha, det_succ]
    refine sx_congr (fun k _ => ?_)
    have e : wo (tr A) 0 k = tr (wo A k 0) := rfl
    rw [e, ih (wo_bd ha)]
    rfl

/-- A row that is made of the others, and of itself. -/
theorem det_comb {n c : Nat} {B : Mx} {v : Nat → Nat} (hc : c < n) (hb : Bd n n B) (hv : ∀ k, k < n → v k < 256) : ∀ {m : Nat}, m ≤ n →
    det n (setr B c (fun i => sx m (fun j => mul (v j) (B j i)))) = if c < m then mul (v c) (det n B) else 0 := by
  intro m
  induction m with
  | zero =>
    intro _
    rw [if_neg (by omega)]
    exact det_none hc (setr_bd hb (fun _ _ => by rw [sx_nil]; decide)) (fun j _ => by unfold setr; rw [if_pos rfl]; rfl)
  | succ m ih =>
    intro hm
    have e : (fun i => sx (m + 1) (fun j => mul (v j) (B j i))) = (fun i => (fun i => sx m (fun j => mul (v j) (B j i))) i ^^^ (fun i => mul (v m) (B m i)) i) := by
      funext i; exact sx_succ _ _
    rw [e, det_add hc hb (fun _ _ => sx_lt (fun _ _ => mul_lt _ _)) (fun _ _ => mul_lt _ _), ih (by omega), det_scale hc (hv m (by omega)) hb (fun j hj => hb m (by omega) j hj)]
    by_cases h : c < m
    · rw [if_pos h, if_pos (by omega)]
      have : det n (setr B c (B m)) = 0 := det_two (r := c) (s := m) hc (by omega) (by omega) (setr_bd hb (fun j hj => hb m (by omega) j hj)) (fun j _ => by
        unfold setr
        rw [if_pos rfl, if_neg (by omega)])
      rw [this, mul_zero, Nat.xor_zero]
    · rw [if_neg h, Nat.zero_xor]
      by_cases h2 : c = m
      · rw [if_pos (by omega), ← h2, setr_same]
      · rw [if_neg (by omega)]
        have : det n (setr B c (B m)) = 0 := det_two (r := c) (s := m) hc (by omega) h2 (setr_bd hb (fun j hj => hb m (by omega) j hj)) (fun j _ => by
          unfold setr
          rw [if_pos rfl, if_neg (fun e => h2 e.symm)])
        rw [this, mul_zero]

/-- What leads a column that is not nothing to nothing has no determinant. -/
theorem det_sing {n : Nat} {A : Mx} (ha : Bd n n A) (h : Sing n A) : det n A = 0 := by
  obtain ⟨v, hv, ⟨c, hc, hvc⟩, h0⟩ := h
  have e := det_comb hc (tr_bd ha) hv (Nat.le_refl n)
  rw [if_pos hc, det_tr ha] at e
  have z : det n (setr (tr A) c (fun i => sx n (fun j => mul (v j) (tr A j i)))) = 0 := det_none hc (setr_bd (tr_bd ha) (fun _ _ => sx_lt (fun _ _ => mul_lt _ _))) (fun i hi => by
    unfold setr
    rw [if_pos rfl]
    exact (sx_congr (fun j _ => mul_comm _ _)).trans (h0 i hi))
  rw [z] at e
  rcases mul_eq_zero.1 e.symm with h | h
  · exact absurd h hvc
  · exact h

theorem det_one : ∀ n : Nat, det n one = 1 := by
  intro n
  induction n with
  | zero => rfl
  | succ n ih =>
    have e : wo one 0 0 = one := by
      funext i j
      show one (skip 0 i) (skip 0 j) = one i j
      rw [skip_zero, skip_zero]
      unfold one
      by_cases h : i = j
      · rw [if_pos (by omega), if_pos h]
      · rw [if_neg (by omega), if_neg h]
    rw [det_succ, sx_one (c := 0) (by omega) (fun k _ hk => by unfold one; rw [if_neg (fun e => hk e.symm), zero_mul]), e, ih]
    show mul (if 0 = 0 then 1 else 0) 1 = 1
    rw [if_pos rfl, mul_one (by decide)]

/-- The determinant of L is A's, but for a number that is not 0. -/
def Dt (n : Nat) (A L : Mx) : Prop := ∃ s, s < 256 ∧ s ≠ 0 ∧ det n L = mul s (det n A)
theorem Dt.start (n : Nat) (A : Mx) : Dt n A A := ⟨1, by decide, by decide, (one_mul (det_lt _ _)).symm⟩
theorem Dt.step {n t : Nat} {A L L' : Mx} (h : Dt n A L) (ht : t < 256) (t0 : t ≠ 0) (e : det n L' = mul t (det n L)) : Dt n A L' := by
  obtain ⟨s, hs, s0, es⟩ := h
  exact ⟨mul t s, mul_lt _ _, fun h => (mul_eq_zero.1 h).elim t0 s0, by rw [e, es, mul_assoc ht hs (det_lt _ _)]⟩
theorem Dt.done {n : Nat} {A L : Mx} (h : Dt n A L) (e : EqM n n L one) : det n A ≠ 0 := by
  obtain ⟨s, hs, s0, es⟩ := h
  rw [det_congr e, det_one] at es
  intro h0
  rw [h0, mul_zero] at es
  exact absurd es (by decide)

theorem det_of_scale {n p s : Nat} {L : Mx} (hp : p < n) (hs : s < 256) (hl : Bd n n L) : det n (fun i k => if i = p then mul s (L i k) else L i k) = mul s (det n L) := by
  have e : EqM n n (fun i k => if i = p then mul s (L i k) else L i k) (setr L p (fun k => mul s (L p k))) := fun i _ k _ => by
    unfold setr
    dsimp only
    by_cases h : i = p
    · rw [if_pos h, if_pos h, h]
    · rw [if_neg h, if_neg h]
  rw [det_congr e, det_scale hp hs hl (fun j hj => hl p hp j hj), setr_same]
theorem det_of_swap {n p q : Nat} {L : Mx} (hp : p < n) (hq : q < n) (hl : Bd n n L) : det n (fun i k => L (sw p q i) k) = det n L := by
  by_cases h : p = q
  · subst h
    refine det_congr (fun i _ k _ => ?_)
    have : sw p p i = i := by unfold sw; split <;> simp_all
    show L (sw p p i) k = L i k
    rw [this]
  · rw [← det_swap hp hq h hl]
    refine det_congr (fun i _ k _ => ?_)
    unfold setr sw
    by_cases h1 : i = q
    · rw [if_pos h1, if_neg (by omega), if_pos h1]
    · rw [if_neg h1]
      by_cases h2 : i = p
      · rw [if_pos h2, if_neg h1, if_pos h2]
      · rw [if_neg h2, if_neg h1, if_neg h2]
theorem det_of_clear {n p : Nat} {c : Nat → Nat} {L : Mx} (hp : p < n) (hc : ∀ i, i < n → c i < 256) (hl : Bd n n L) :
    det n (fun i k => if i = p then L i k else L i k ^^^ mul (c i) (L p k)) = det n L := by
  let C : Nat → Mx := fun m i k => if i = p ∨ ¬ i < m then L i k else L i k ^^^ mul (c i) (L p k)
  have bC : ∀ m, Bd n n (C m) := fun m i hi k hk => by
    show (if i = p ∨ ¬ i < m then L i k else L i k ^^^ mul (c i) (L p k)) < 256
    split
    · exact hl i hi k hk
    · exact xor_lt (hl i hi k hk) (mul_lt _ _)
  have key : ∀ m, m ≤ n → det n (C m) = det n L := by
    intro m
    induction m with
    | zero => intro _; exact det_congr (fun i _ k _ => if_pos (Or.inr (by omega)))
    | succ m ih =>
      intro hm
      rw [← ih (by omega)]
      by_cases h : m = p
      · refine det_congr (fun i _ k _ => ?_)
        show (if i = p ∨ ¬ i < m + 1 then _ else _) = (if i = p ∨ ¬ i < m then _ else _)
        by_cases h1 : i = p
        · rw [if_pos (Or.inl h1), if_pos (Or.inl h1)]
        · by_cases h2 : i < m
          · rw [if_neg (by omega), if_neg (by omega)]
          · rw [if_pos (by omega), if_pos (by omega)]
      · have e : EqM n n (C (m + 1)) (setr (C m) m (fun k => C m m k ^^^ mul (c m) (L p k))) := fun i _ k _ => by
          unfold setr
          show (if i = p ∨ ¬ i < m + 1 then L i k else L i k ^^^ mul (c i) (L p k)) = (if i = m then (if m = p ∨ ¬ m < m then L m k else L m k ^^^ mul (c m) (L p k)) ^^^ mul (c m) (L p k) else (if i = p ∨ ¬ i < m then L i k else L i k ^^^ mul (c i) (L p k)))
          by_cases h1 : i = m
          · subst h1
            rw [if_neg (by omega), if_pos rfl, if_pos (Or.inr (by omega))]
          · rw [if_neg h1]
            by_cases h2 : i = p
            · rw [if_pos (Or.inl h2), if_pos (Or.inl h2)]
            · by_cases h3 : i < m
              · rw [if_neg (by omega), if_neg (by omega)]
              · rw [if_pos (by omega), if_pos (by omega)]
        rw [det_congr e, det_add (by omega) (bC m) (fun j hj => bC m m (by omega) j hj) (fun _ _ => mul_lt _ _), setr_same, det_scale (by omega) (hc m (by omega)) (bC m) (fun j hj => hl p hp j hj)]
        have : det n (setr (C m) m (L p)) = 0 := det_two (r := m) (s := p) (by omega) hp h (setr_bd (bC m) (fun j hj => hl p hp j hj)) (fun j _ => by
          unfold setr
          rw [if_pos rfl, if_neg (fun e => h e.symm)]
          show L p j = (if p = p ∨ ¬ p < m then L p j else _)
          rw [if_pos (Or.inl rfl)])
        rw [this, mul_zero, Nat.xor_zero]
  rw [← key n (Nat.le_refl n)]
  refine det_congr (fun i hi k _ => ?_)
  show (if i = p then L i k else L i k ^^^ mul (c i) (L p k)) = (if i = p ∨ ¬ i < n then L i k else L i k ^^^ mul (c i) (L p k))
  by_cases h1 : i = p
  · rw [if_pos h1, if_pos (Or.inl h1)]
  · rw [if_neg h1, if_neg (by omega)]

/-- The document's inverse, by what is left without a row and a column. -/
theorem adj_right {n : Nat} {A : Mx} (ha : Bd (n + 1) (n + 1) A) (h : det (n + 1) A ≠ 0) : EqM (n + 1) (n + 1) (mm (n + 1) A (fun j i => mul (inv (det (n + 1) A)) (adj n A j i))) one := by
  intro s hs r hr
  have e := mm_adj ha s hs r hr
  show sx (n + 1) (fun k => mul (A s k) (mul (inv (det (n + 1) A)) (adj n A k r))) = one s r
  have e2 : sx (n + 1) (fun k => mul (A s k) (mul (inv (det (n + 1) A)) (adj n A k r))) = mul (inv (det (n + 1) A)) (mm (n + 1) A (adj n A) s r) := by
    show _ = mul _ (sx (n + 1) (fun k => mul (A s k) (adj n A k r)))
    rw [sx_mul (inv_lt _) (fun _ _ => mul_lt _ _)]
    refine sx_congr (fun k hk => ?_)
    have a := ha s hs k hk
    have d : adj n A k r < 256 := det_lt _ _
    rw [mul_assoc a (inv_lt _) d, mul_comm (A s k), ← mul_assoc (inv_lt _) a d]
  rw [e2, e]
  unfold one
  dsimp only
  by_cases h1 : s = r
  · rw [if_pos h1, if_pos h1, mul_comm, mul_inv (det_lt _ _) h]
  · rw [if_neg h1, if_neg h1, mul_zero]
end Go.Proofs.Ytajpnbmfeapmcaa
