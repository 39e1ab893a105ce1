import Derived.Test.YtajpnbmfeapmcaaM1
namespace Go.Proofs.Ytajpnbmfeapmcaa

def skip (c j : Nat) : Nat := if j < c then j else j + 1
/-- Without a row and a column. -/
def wo (A : Mx) (r c : Nat) : Mx := fun i j => A (skip r i) (skip c j)
/-- The determinant, by the first row. (1 is -1 here: no signs.) -/
def det : Nat → Mx → Nat
  | 0, _ => 1
  | n + 1, A => sx (n + 1) (fun k => mul (A 0 k) (det n (wo A 0 k)))
theorem det_succ (n : Nat) (A : Mx) : det (n + 1) A = sx (n + 1) (fun k => mul (A 0 k) (det n (wo A 0 k))) := rfl
theorem det_lt (n : Nat) (A : Mx) : det n A < 256 := by
  cases n with
  | zero => show 1 < 256; decide
  | succ n => exact sx_lt (fun _ _ => mul_lt _ _)
theorem skip_lt {n c j : Nat} (hj : j < n) : skip c j < n + 1 := by unfold skip; split <;> omega
theorem skip_ne (c j : Nat) : skip c j ≠ c := by unfold skip; split <;> omega
theorem skip_zero (j : Nat) : skip 0 j = j + 1 := by unfold skip; rw [if_neg (by omega)]
theorem wo_bd {n r c : Nat} {A : Mx} (h : Bd (n + 1) (n + 1) A) : Bd n n (wo A r c) := fun _ hi _ hj => h _ (skip_lt hi) _ (skip_lt hj)
theorem det_congr : ∀ {n : Nat} {A B : Mx}, EqM n n A B → det n A = det n B := by
  intro n
  induction n with
  | zero => intros; rfl
  | succ n ih =>
    intro A B h
    rw [det_succ, det_succ]
    exact sx_congr (fun k hk => by rw [h 0 (by omega) k hk, ih (A := wo A 0 k) (B := wo B 0 k) (fun i hi j hj => h _ (skip_lt hi) _ (skip_lt hj))])

/-- Another row in the place of row r. -/
def setr (A : Mx) (r : Nat) (u : Nat → Nat) : Mx := fun i j => if i = r then u j else A i j
theorem setr_same (A : Mx) (r : Nat) : setr A r (A r) = A := by
  funext i j
  unfold setr
  split
  · rename_i h; rw [h]
  · rfl
theorem setr_bd {n c r : Nat} {A : Mx} {u : Nat → Nat} (h : Bd n c A) (hu : ∀ j, j < c → u j < 256) : Bd n c (setr A r u) := fun i hi j hj => by
  unfold setr
  split
  · exact hu j hj
  · exact h i hi j hj
theorem wo_setr_at (A : Mx) (r c : Nat) (u : Nat → Nat) : wo (setr A r u) r c = wo A r c := by
  funext i j
  unfold wo setr
  rw [if_neg (skip_ne r i)]
theorem wo_setr_zero (A : Mx) (r c : Nat) (u : Nat → Nat) : wo (setr A (r + 1) u) 0 c = setr (wo A 0 c) r (fun j => u (skip c j)) := by
  funext i j
  unfold wo setr
  rw [skip_zero]
  by_cases h : i = r
  · rw [if_pos (by omega), if_pos h]
  · rw [if_neg (by omega), if_neg h]
    show A (i + 1) (skip c j) = A (skip 0 i) (skip c j)
    rw [skip_zero]

theorem det_add : ∀ {n r : Nat} {A : Mx} {u v : Nat → Nat}, r < n → Bd n n A → (∀ j, j < n → u j < 256) → (∀ j, j < n → v j < 256) →
    det n (setr A r (fun j => u j ^^^ v j)) = det n (setr A r u) ^^^ det n (setr A r v) := by
  intro n
  induction n with
  | zero => intro r A u v h; omega
  | succ n ih =>
    intro r A u v hr ha hu hv
    rw [det_succ, det_succ, det_succ, ← sx_xor]
    refine sx_congr (fun k hk => ?_)
    cases r with
    | zero =>
      rw [wo_setr_at, wo_setr_at, wo_setr_at]
      show mul (if 0 = 0 then u k ^^^ v k else A 0 k) _ = mul (if 0 = 0 then u k else A 0 k) _ ^^^ mul (if 0 = 0 then v k else A 0 k) _
      rw [if_pos rfl, if_pos rfl, if_pos rfl, mul_comm, mul_xor (det_lt _ _) (hu k hk) (hv k hk), mul_comm, mul_comm (det n (wo A 0 k)) (v k)]
    | succ r =>
      rw [wo_setr_zero, wo_setr_zero, wo_setr_zero, ih (by omega) (wo_bd ha) (fun j hj => hu _ (skip_lt hj)) (fun j hj => hv _ (skip_lt hj))]
      have e : ∀ w : Nat → Nat, setr A (r + 1) w 0 k = A 0 k := fun w => by unfold setr; rw [if_neg (by omega)]
      rw [e, e, e, mul_xor (ha 0 (by omega) k hk) (det_lt _ _) (det_lt _ _)]

theorem det_scale : ∀ {n r s : Nat} {A : Mx} {u : Nat → Nat}, r < n → s < 256 → Bd n n A → (∀ j, j < n → u j < 256) →
    det n (setr A r (fun j => mul s (u j))) = mul s (det n (setr A r u)) := by
  intro n
  induction n with
  | zero => intro r s A u h; omega
  | succ n ih =>
    intro r s A u hr hs ha hu
    rw [det_succ, det_succ, sx_mul hs (fun _ _ => mul_lt _ _)]
    refine sx_congr (fun k hk => ?_)
    cases r with
    | zero =>
      rw [wo_setr_at, wo_setr_at]
      show mul (if 0 = 0 then mul s (u k) else A 0 k) _ = mul s (mul (if 0 = 0 then u k else A 0 k) _)
      rw [if_pos rfl, if_pos rfl, mul_assoc hs (hu k hk) (det_lt _ _)]
    | succ r =>
      rw [wo_setr_zero, wo_setr_zero, ih (by omega) hs (wo_bd ha) (fun j hj => hu _ (skip_lt hj))]
      have e : ∀ w : Nat → Nat, setr A (r + 1) w 0 k = A 0 k := fun w => by unfold setr; rw [if_neg (by omega)]
      have a0 := ha 0 (by omega) k hk
      rw [e, e, mul_assoc a0 hs (det_lt _ _), mul_comm (A 0 k) s, ← mul_assoc hs a0 (det_lt _ _)]

theorem det_none {n r : Nat} {A : Mx} (hr : r < n) (ha : Bd n n A) (h : ∀ j, j < n → A r j = 0) : det n A = 0 := by
  have e : EqM n n A (setr A r (fun j => mul 0 (A r j))) := fun i hi j hj => by
    unfold setr
    split
    · rename_i h'; rw [h', h j hj]; exact (zero_mul _).symm
    · rfl
  rw [det_congr e, det_scale hr (by decide) ha (fun j hj => ha r hr j hj), zero_mul]

/-- A sum over pairs that are alike both ways, with nothing on the diagonal. -/
theorem sx_pairs {n : Nat} {h : Nat → Nat → Nat} (hs : ∀ i j, i < n → j < n → h i j = h j i) (h0 : ∀ i, i < n → h i i = 0) : sx n (fun i => sx n (fun j => h i j)) = 0 := by
  induction n with
  | zero => rfl
  | succ n ih =>
    rw [sx_succ]
    have e : sx n (fun i => sx (n + 1) (fun j => h i j)) = sx n (fun i => sx n (fun j => h i j)) ^^^ sx n (fun i => h i n) := by
      rw [← sx_xor]
      exact sx_congr (fun i _ => sx_succ _ _)
    rw [e, ih (fun i j hi hj => hs i j (by omega) (by omega)) (fun i hi => h0 i (by omega)), sx_succ, h0 n (by omega), Nat.zero_xor, Nat.xor_zero,
      sx_congr (fun i hi => hs i n (by omega) (by omega)), Nat.xor_self]
/-- A sum that leaves one out. -/
theorem sx_skip {n c : Nat} (f : Nat → Nat) (hc : c < n + 1) : sx n (fun l => f (skip c l)) = sx (n + 1) (fun m => if m = c then 0 else f m) := by
  induction n with
  | zero =>
    have : c = 0 := by omega
    subst this
    rw [sx_nil, sx_succ, sx_nil, if_pos rfl]; rfl
  | succ n ih =>
    by_cases h : c < n + 1
    · rw [sx_succ, ih h, sx_succ (n + 1)]
      have : skip c n = n + 1 := by unfold skip; rw [if_neg (by omega)]
      rw [this, if_neg (by omega)]
    · have e : c = n + 1 := by omega
      subst e
      rw [sx_succ (n + 1), if_pos rfl, Nat.xor_zero]
      exact sx_congr (fun k hk => by
        have : skip (n + 1) k = k := by unfold skip; rw [if_pos hk]
        rw [this, if_neg (by omega)])
/-- Two columns left out, in whichever order. -/
theorem skip_skip {k m : Nat} (h : k < m) (j : Nat) : skip k (skip (m - 1) j) = skip m (skip k j) := by
  unfold skip
  repeat' split
  all_goals omega

/-- Columns k and m left out. -/
def out2 (k m j : Nat) : Nat := if k < m then skip m (skip k j) else skip k (skip m j)
theorem out2_comm {k m : Nat} (h : k ≠ m) (j : Nat) : out2 k m j = out2 m k j := by
  unfold out2
  rcases Nat.lt_or_gt_of_ne h with h | h
  · rw [if_pos h, if_neg (by omega)]
  · rw [if_neg (by omega), if_pos h]
theorem out2_skip (k l j : Nat) : skip k (skip l j) = out2 k (skip k l) j := by
  unfold out2
  by_cases h : l < k
  · have e : skip k l = l := by unfold skip; rw [if_pos h]
    rw [e, if_neg (by omega)]
  · have e : skip k l = l + 1 := by unfold skip; rw [if_neg h]
    rw [e, if_pos (by omega)]
    exact skip_skip (m := l + 1) (by omega) j

theorem det_top2 {n : Nat} {A : Mx} (ha : Bd (n + 2) (n + 2) A) (h : ∀ j, j < n + 2 → A 0 j = A 1 j) : det (n + 2) A = 0 := by
  let D : Nat → Nat → Nat := fun k m => det n (fun i j => A (i + 2) (out2 k m j))
  have e : det (n + 2) A = sx (n + 2) (fun k => sx (n + 2) (fun m => if m = k then 0 else mul (A 0 k) (mul (A 0 m) (D k m)))) := by
    rw [det_succ]
    refine sx_congr (fun k hk => ?_)
    rw [det_succ, sx_mul (ha 0 (by omega) k hk) (fun _ _ => mul_lt _ _)]
    have := sx_skip (n := n + 1) (fun m => mul (A 0 k) (mul (A 0 m) (D k m))) hk
    rw [← this]
    refine sx_congr (fun l hl => ?_)
    have e1 : wo A 0 k 0 l = A 0 (skip k l) := by
      show A (skip 0 0) (skip k l) = _
      rw [skip_zero, h _ (skip_lt hl)]
    have e2 : det n (wo (wo A 0 k) 0 l) = D k (skip k l) := det_congr (fun i _ j _ => by
      show A (skip 0 (skip 0 i)) (skip k (skip l j)) = A (i + 2) (out2 k (skip k l) j)
      rw [skip_zero, skip_zero, out2_skip])
    rw [e1, e2]
  rw [e]
  refine sx_pairs (fun i j hi hj => ?_) (fun i _ => if_pos rfl)
  by_cases hij : i = j
  · subst hij; rfl
  · have eD : D j i = D i j := det_congr (fun x _ y _ => by show A _ _ = A _ _; rw [out2_comm hij])
    rw [if_neg (fun e => hij e.symm), if_neg hij, eD]
    have a := ha 0 (by omega) i hi
    have b := ha 0 (by omega) j hj
    rw [mul_assoc a b (det_lt _ _), mul_assoc b a (det_lt _ _), mul_comm (A 0 i)]

theorem det_near : ∀ {n r : Nat} {A : Mx}, r + 1 < n → Bd n n A → (∀ j, j < n → A r j = A (r + 1) j) → det n A = 0 := by
  intro n
  induction n with
  | zero => intro r A h; omega
  | succ n ih =>
    intro r A hr ha h
    cases r with
    | zero =>
      match n, hr with
      | n + 1, _ => exact det_top2 ha h
    | succ r =>
      rw [det_succ]
      refine sx_none (fun k hk => ?_)
      rw [ih (r := r) (A := wo A 0 k) (by omega) (wo_bd ha) (fun j hj => ?_), mul_zero]
      show A (skip 0 r) (skip k j) = A (skip 0 (r + 1)) (skip k j)
      rw [skip_zero, skip_zero]
      exact h _ (skip_lt hj)

theorem setr_setr (A : Mx) (r : Nat) (u v : Nat → Nat) : setr (setr A r u) r v = setr A r v := by
  funext i j
  unfold setr
  split <;> rfl
theorem setr_comm {A : Mx} {r s : Nat} (h : r ≠ s) (u v : Nat → Nat) : setr (setr A r u) s v = setr (setr A s v) r u := by
  funext i j
  unfold setr
  by_cases h1 : i = s
  · rw [if_pos h1, if_neg (by omega), if_pos h1]
  · rw [if_neg h1]
    split <;> rfl

/-- Where two rows, alike, make nothing, they may change places. -/
theorem det_change {n r s : Nat} {A : Mx} (hr : r < n) (hs : s < n) (hrs : r ≠ s) (ha : Bd n n A)
    (hz : ∀ {B : Mx}, Bd n n B → (∀ j, j < n → B r j = B s j) → det n B = 0) : det n (setr (setr A r (A s)) s (A r)) = det n A := by
  have bu : ∀ j, j < n → A r j < 256 := fun j hj => ha r hr j hj
  have bv : ∀ j, j < n → A s j < 256 := fun j hj => ha s hs j hj
  let S : (Nat → Nat) → (Nat → Nat) → Mx := fun u v => setr (setr A r u) s v
  have z : ∀ u : Nat → Nat, (∀ j, j < n → u j < 256) → det n (S u u) = 0 := fun u hu => hz (setr_bd (setr_bd ha hu) hu) (fun j _ => by
    show (if r = s then u j else (if r = r then u j else A r j)) = (if s = s then u j else _)
    rw [if_neg hrs, if_pos rfl, if_pos rfl])
  have addL : ∀ u u' v : Nat → Nat, (∀ j, j < n → u j < 256) → (∀ j, j < n → u' j < 256) → (∀ j, j < n → v j < 256) → det n (S (fun j => u j ^^^ u' j) v) = det n (S u v) ^^^ det n (S u' v) := by
    intro u u' v hu hu' hv
    show det n (setr (setr A r _) s v) = det n (setr (setr A r u) s v) ^^^ det n (setr (setr A r u') s v)
    rw [setr_comm hrs, setr_comm hrs, setr_comm hrs]
    exact det_add hr (setr_bd ha hv) hu hu'
  have addR : ∀ u v v' : Nat → Nat, (∀ j, j < n → u j < 256) → (∀ j, j < n → v j < 256) → (∀ j, j < n → v' j < 256) → det n (S u (fun j => v j ^^^ v' j)) = det n (S u v) ^^^ det n (S u v') := by
    intro u v v' hu hv hv'
    exact det_add hs (setr_bd ha hu) hv hv'
  have hw : ∀ j, j < n → (A r j ^^^ A s j) < 256 := fun j hj => xor_lt (bu j hj) (bv j hj)
  have h0 := z _ hw
  rw [addL _ _ _ bu bv hw, addR _ _ _ bu bu bv, addR _ _ _ bv bu bv, z _ bu, z _ bv, Nat.zero_xor, Nat.xor_zero] at h0
  have eA : S (A r) (A s) = A := by
    show setr (setr A r (A r)) s (A s) = A
    rw [setr_same, setr_same]
  rw [eA] at h0
  show det n (S (A s) (A r)) = det n A
  have : det n A ^^^ (det n A ^^^ det n (S (A s) (A r))) = det n A ^^^ 0 := by rw [h0]
  rw [← Nat.xor_assoc, Nat.xor_self, Nat.zero_xor, Nat.xor_zero] at this
  exact this

/-- Two rows alike. -/
theorem det_alike {n : Nat} : ∀ {d r : Nat} {A : Mx}, r + d + 1 < n → Bd n n A → (∀ j, j < n → A r j = A (r + d + 1) j) → det n A = 0 := by
  intro d
  induction d with
  | zero => intro r A hr ha h; exact det_near hr ha h
  | succ d ih =>
    intro r A hr ha h
    have c := det_change (r := r + d + 1) (s := r + d + 1 + 1) (A := A) (by omega) (by omega) (by omega) ha (fun hb e => det_near (by omega) hb e)
    rw [← c]
    refine ih (r := r) (by omega) (setr_bd (setr_bd ha (fun j hj => ha _ (by omega) j hj)) (fun j hj => ha _ (by omega) j hj)) (fun j hj => ?_)
    unfold setr
    rw [if_neg (by omega), if_neg (by omega), if_neg (by omega), if_pos rfl]
    have := h j hj
    rw [this]
    congr 1
theorem det_two {n r s : Nat} {A : Mx} (hr : r < n) (hs : s < n) (hrs : r ≠ s) (ha : Bd n n A) (h : ∀ j, j < n → A r j = A s j) : det n A = 0 := by
  rcases Nat.lt_or_gt_of_ne hrs with l | l
  · exact det_alike (d := s - r - 1) (r := r) (by omega) ha (fun j hj => by rw [h j hj]; congr 1; omega)
  · exact det_alike (d := r - s - 1) (r := s) (by omega) ha (fun j hj => by rw [← h j hj]; congr 1; omega)
theorem det_swap {n r s : Nat} {A : Mx} (hr : r < n) (hs : s < n) (hrs : r ≠ s) (ha : Bd n n A) : det n (setr (setr A r (A s)) s (A r)) = det n A :=
  det_change hr hs hrs ha (fun hb h => det_two hr hs hrs hb h)

/-- By any row. -/
theorem det_row {n : Nat} : ∀ {r : Nat} {A : Mx}, r < n + 1 → Bd (n + 1) (n + 1) A → det (n + 1) A = sx (n + 1) (fun k => mul (A r k) (det n (wo A r k))) := by
  intro r
  induction r with
  | zero => intro A _ _; rfl
  | succ r ih =>
    intro A hr ha
    have c := det_swap (r := r) (s := r + 1) (A := A) (by omega) hr (by omega) ha
    rw [← c, ih (by omega) (setr_bd (setr_bd ha (fun j hj => ha _ (by omega) j hj)) (fun j hj => ha _ (by omega) j hj))]
    refine sx_congr (fun k hk => ?_)
    have e1 : setr (setr A r (A (r + 1))) (r + 1) (A r) r k = A (r + 1) k := by
      unfold setr
      rw [if_neg (by omega), if_pos rfl]
    have e2 : wo (setr (setr A r (A (r + 1))) (r + 1) (A r)) r k = wo A (r + 1) k := by
      funext i j
      unfold wo setr
      by_cases h1 : i < r
      · have a : skip r i = i := by unfold skip; rw [if_pos h1]
        have b : skip (r + 1) i = i := by unfold skip; rw [if_pos (by omega)]
        rw [a, b, if_neg (by omega), if_neg (by omega)]
      · have a : skip r i = i + 1 := by unfold skip; rw [if_neg h1]
        by_cases h2 : i = r
        · have b : skip (r + 1) i = i := by unfold skip; rw [if_pos (by omega)]
          rw [a, b, if_pos (by omega), h2]
        · have b : skip (r + 1) i = i + 1 := by unfold skip; rw [if_neg (by omega)]
          rw [a, b, if_neg (by omega), if_neg (by omega)]
    rw [e1, e2]

/-- What is left without a row and a column, turned about: A times it is the determinant times the identity. -/
def adj (n : Nat) (A : Mx) : Mx := fun j i => det n (wo A i j)
theorem mm_adj {n : Nat} {A : Mx} (ha : Bd (n + 1) (n + 1) A) : EqM (n + 1) (n + 1) (mm (n + 1) A (adj n A)) (fun i j => if i = j then det (n + 1) A else 0) := by
  intro s hs r hr
  show sx (n + 1) (fun k => mul (A s k) (det n (wo A r k))) = _
  have e := det_row (A := setr A r (A s)) hr (setr_bd ha (fun j hj => ha s hs j hj))
  have e' : sx (n + 1) (fun k => mul (setr A r (A s) r k) (det n (wo (setr A r (A s)) r k))) = sx (n + 1) (fun k => mul (A s k) (det n (wo A r k))) := sx_congr (fun k _ => by
    rw [wo_setr_at]
    unfold setr
    rw [if_pos rfl])
  rw [e'] at e
  rw [← e]
  dsimp only
  by_cases h : s = r
  · rw [if_pos h, h, setr_same]
  · rw [if_neg h]
    refine det_two hs hr h (setr_bd ha (fun j hj => ha s hs j hj)) (fun j hj => ?_)
    unfold setr
    rw [if_neg h, if_pos rfl]
end Go.Proofs.Ytajpnbmfeapmcaa
