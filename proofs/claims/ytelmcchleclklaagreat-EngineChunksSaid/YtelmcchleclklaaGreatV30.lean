import Derived.Test.YtelmcchleclklaaGreatV29
namespace Go.Proofs.YtelmcchleclklaaGreat.Kc

def sx (n : Nat) (f : Nat → Nat) : Nat := Nat.rec 0 (fun k s => s ^^^ f k) n
theorem sx_nil (f : Nat → Nat) : sx 0 f = 0 := rfl
theorem sx_succ (n : Nat) (f : Nat → Nat) : sx (n + 1) f = sx n f ^^^ f n := rfl
theorem sx_congr {n : Nat} {f g : Nat → Nat} (h : ∀ k, k < n → f k = g k) : sx n f = sx n g := by
 induction n with
 | zero => rfl
 | succ n ih => rw [sx_succ, sx_succ, ih (fun k hk => h k (by omega)), h n (by omega)]
theorem sx_none {n : Nat} {f : Nat → Nat} (h : ∀ k, k < n → f k = 0) : sx n f = 0 := by
 induction n with
 | zero => rfl
 | succ n ih => rw [sx_succ, ih (fun k hk => h k (by omega)), h n (by omega)]; rfl
theorem sx_lt {n : Nat} {f : Nat → Nat} (h : ∀ k, k < n → f k < 256) : sx n f < 256 := by
 induction n with
 | zero => rw [sx_nil]; decide
 | succ n ih => rw [sx_succ]; exact xor_lt (ih (fun k hk => h k (by omega))) (h n (by omega))
theorem xor4 (a b c d : Nat) : (a ^^^ b) ^^^ (c ^^^ d) = (a ^^^ c) ^^^ (b ^^^ d) := by
 rw [Nat.xor_assoc, Nat.xor_assoc, ← Nat.xor_assoc b, Nat.xor_comm b c, Nat.xor_assoc]
theorem sx_xor (n : Nat) (f g : Nat → Nat) : sx n (fun k => f k ^^^ g k) = sx n f ^^^ sx n g := by
 induction n with
 | zero => rw [sx_nil, sx_nil, sx_nil]; rfl
 | succ n ih => rw [sx_succ, sx_succ, sx_succ, ih, xor4]
theorem sx_mul {n a : Nat} {f : Nat → Nat} (ha : a < 256) (h : ∀ k, k < n → f k < 256) : mul a (sx n f) = sx n (fun k => mul a (f k)) := by
 induction n with
 | zero => rw [sx_nil, sx_nil, mul_zero]
 | succ n ih => rw [sx_succ, sx_succ, mul_xor ha (sx_lt (fun k hk => h k (by omega))) (h n (by omega)), ih (fun k hk => h k (by omega))]
theorem sx_mul' {n a : Nat} {f : Nat → Nat} (ha : a < 256) (h : ∀ k, k < n → f k < 256) : mul (sx n f) a = sx n (fun k => mul (f k) a) := by
 rw [mul_comm, sx_mul ha h]
 exact sx_congr (fun k _ => mul_comm _ _)
theorem sx_swap (n m : Nat) (f : Nat → Nat → Nat) : sx n (fun i => sx m (fun j => f i j)) = sx m (fun j => sx n (fun i => f i j)) := by
 induction n with
 | zero => rw [sx_nil]; exact (sx_none (fun k _ => rfl)).symm
 | succ n ih => rw [sx_succ, ih, ← sx_xor]; rfl
theorem sx_one {n c : Nat} {f : Nat → Nat} (hc : c < n) (h : ∀ k, k < n → k ≠ c → f k = 0) : sx n f = f c := by
 induction n with
 | zero => omega
 | succ n ih =>
  rw [sx_succ]
  by_cases e : c = n
  ·subst e
   rw [sx_none (fun k hk => h k (by omega) (by omega)), Nat.zero_xor]
  ·rw [ih (by omega) (fun k hk hkc => h k (by omega) hkc), h n (by omega) (fun e' => e e'.symm), Nat.xor_zero]
theorem sx_two {n c d : Nat} {f : Nat → Nat} (hc : c < n) (hd : d < n) (hcd : c ≠ d) (h : ∀ k, k < n → k ≠ c → k ≠ d → f k = 0) : sx n f = f c ^^^ f d := by
 have e : sx n f = sx n (fun k => (if k = c then f k else 0) ^^^ (if k = c then 0 else f k)) := sx_congr (fun k _ => by split <;> simp)
 rw [e, sx_xor, sx_one (c := c) hc (fun k _ hk => if_neg hk), sx_one (c := d) hd (fun k hk hkd => by
  by_cases e : k = c
  ·rw [if_pos e]
  ·rw [if_neg e]; exact h k hk e hkd), if_pos rfl, if_neg (fun e => hcd e.symm)]

abbrev Mx := Nat → Nat → Nat
def Bd (r c : Nat) (A : Mx) : Prop := ∀ i, i < r → ∀ j, j < c → A i j < 256
def EqM (r c : Nat) (A B : Mx) : Prop := ∀ i, i < r → ∀ j, j < c → A i j = B i j
def mm (n : Nat) (A B : Mx) : Mx := fun i k => sx n (fun j => mul (A i j) (B j k))
def one : Mx := fun i j => if i = j then 1 else 0
theorem one_bd (r c : Nat) : Bd r c one := fun i _ j _ => by unfold one; split <;> decide
theorem mm_bd (r n c : Nat) (A B : Mx) : Bd r c (mm n A B) := fun _ _ _ _ => sx_lt (fun _ _ => mul_lt _ _)
theorem EqM.symm {r c : Nat} {A B : Mx} (h : EqM r c A B) : EqM r c B A := fun i hi j hj => (h i hi j hj).symm
theorem EqM.trans {r c : Nat} {A B C : Mx} (h : EqM r c A B) (k : EqM r c B C) : EqM r c A C := fun i hi j hj => (h i hi j hj).trans (k i hi j hj)
theorem EqM.refl (r c : Nat) (A : Mx) : EqM r c A A := fun _ _ _ _ => rfl
theorem Bd.of {r c : Nat} {A B : Mx} (h : Bd r c A) (e : EqM r c A B) : Bd r c B := fun i hi j hj => e i hi j hj ▸ h i hi j hj
theorem mm_congr {r n c : Nat} {A A' B B' : Mx} (ha : EqM r n A A') (hb : EqM n c B B') : EqM r c (mm n A B) (mm n A' B') :=
 fun i hi k hk => sx_congr (fun j hj => by rw [ha i hi j hj, hb j hj k hk])
theorem mm_assoc {r n m c : Nat} {A B C : Mx} (ha : Bd r n A) (hb : Bd n m B) (hc : Bd m c C) : EqM r c (mm m (mm n A B) C) (mm n A (mm m B C)) := by
 intro i hi k hk
 show sx m (fun l => mul (sx n (fun j => mul (A i j) (B j l))) (C l k)) = sx n (fun j => mul (A i j) (sx m (fun l => mul (B j l) (C l k))))
 have e1 : sx m (fun l => mul (sx n (fun j => mul (A i j) (B j l))) (C l k)) = sx m (fun l => sx n (fun j => mul (mul (A i j) (B j l)) (C l k))) :=
  sx_congr (fun l hl => sx_mul' (hc l hl k hk) (fun j _ => mul_lt _ _))
 have e2 : sx n (fun j => mul (A i j) (sx m (fun l => mul (B j l) (C l k)))) = sx n (fun j => sx m (fun l => mul (A i j) (mul (B j l) (C l k)))) :=
  sx_congr (fun j hj => sx_mul (ha i hi j hj) (fun l _ => mul_lt _ _))
 rw [e1, e2, sx_swap]
 exact sx_congr (fun j hj => sx_congr (fun l hl => (mul_assoc (ha i hi j hj) (hb j hj l hl) (hc l hl k hk)).symm))
theorem one_mul {a : Nat} (ha : a < 256) : mul 1 a = a := by rw [mul_comm, mul_one ha]
theorem mm_one {r n : Nat} {A : Mx} (ha : Bd r n A) : EqM r n (mm n A one) A := by
 intro i hi k hk
 show sx n (fun j => mul (A i j) (one j k)) = A i k
 rw [sx_one (c := k) hk (fun j _ hj => by unfold one; rw [if_neg hj, mul_zero])]
 unfold one
 rw [if_pos rfl, mul_one (ha i hi k hk)]
theorem one_mm {n c : Nat} {A : Mx} (ha : Bd n c A) : EqM n c (mm n one A) A := by
 intro i hi k hk
 show sx n (fun j => mul (one i j) (A j k)) = A i k
 rw [sx_one (c := i) hi (fun j _ hj => by unfold one; rw [if_neg (fun e => hj e.symm), zero_mul])]
 unfold one
 rw [if_pos rfl, one_mul (ha i hi k hk)]

structure Inv (n : Nat) (A X : Mx) : Prop where
 bx : Bd n n X
 right : EqM n n (mm n A X) one
 left : EqM n n (mm n X A) one
def Sing (n : Nat) (A : Mx) : Prop := ∃ v : Nat → Nat, (∀ k, k < n → v k < 256) ∧ (∃ c, c < n ∧ v c ≠ 0) ∧ ∀ i, i < n → sx n (fun j => mul (A i j) (v j)) = 0

def col (v : Nat → Nat) : Mx := fun i _ => v i
theorem col_bd {n : Nat} {v : Nat → Nat} (h : ∀ k, k < n → v k < 256) : Bd n 1 (col v) := fun i hi _ _ => h i hi

theorem inv_one {n : Nat} {A X Y : Mx} (ha : Bd n n A) (h : Inv n A X) (hy : Bd n n Y) (hr : EqM n n (mm n A Y) one) : EqM n n X Y := by
 have e1 := mm_assoc h.bx ha hy
 have e2 : EqM n n (mm n (mm n X A) Y) (mm n one Y) := mm_congr h.left (EqM.refl _ _ _)
 have e3 : EqM n n (mm n X (mm n A Y)) (mm n X one) := mm_congr (EqM.refl _ _ _) hr
 exact ((mm_one h.bx).symm.trans (e3.symm.trans (e1.symm.trans (e2.trans (one_mm hy)))))

theorem inv_prod {n : Nat} {A B X Y : Mx} (ha : Bd n n A) (hb : Bd n n B) (hx : Inv n A X) (hy : Inv n B Y) : Inv n (mm n A B) (mm n Y X) := by
 have half : ∀ {A B X Y : Mx}, Bd n n A → Bd n n B → Bd n n X → Bd n n Y → EqM n n (mm n B Y) one → EqM n n (mm n A X) one → EqM n n (mm n (mm n A B) (mm n Y X)) one := by
  intro A B X Y ha hb hx hy h1 h2
  refine (mm_assoc ha hb (mm_bd _ _ _ _ _)).trans ?_
  refine (mm_congr (EqM.refl _ _ _) ((mm_assoc hb hy hx).symm.trans ((mm_congr h1 (EqM.refl _ _ _)).trans (one_mm hx)))).trans h2
 exact ⟨mm_bd _ _ _ _ _, half ha hb hx.bx hy.bx hy.right hx.right, half hy.bx hx.bx hb ha hx.left hy.left⟩

theorem sing_right {n : Nat} {A B : Mx} (ha : Bd n n A) (hb : Bd n n B) (h : Sing n B) : Sing n (mm n A B) := by
 obtain ⟨v, hv, hc, h0⟩ := h
 refine ⟨v, hv, hc, fun i hi => ?_⟩
 have e := mm_assoc ha hb (col_bd hv) i hi 0 (by omega)
 refine Eq.trans (show _ = mm n (mm n A B) (col v) i 0 from rfl) (e.trans (sx_none (fun j hj => ?_)))
 have : mm n B (col v) j 0 = 0 := h0 j hj
 rw [this, mul_zero]

structure Gauss (n : Nat) (A L R : Mx) : Prop where
 bl : Bd n n L
 br : Bd n n R
 prod : EqM n n (mm n R A) L
 back : ∃ E, Inv n R E

theorem Gauss.start {n : Nat} {A : Mx} (ha : Bd n n A) : Gauss n A A one :=
 ⟨ha, one_bd _ _, one_mm ha, one, ⟨one_bd _ _, mm_one (one_bd _ _), mm_one (one_bd _ _)⟩⟩

theorem Gauss.step {n : Nat} {A L R T T' L' R' : Mx} (ha : Bd n n A) (h : Gauss n A L R) (bt : Bd n n T) (ht : Inv n T T') (hl : EqM n n (mm n T L) L') (hr : EqM n n (mm n T R) R') : Gauss n A L' R' := by
 obtain ⟨E, hE⟩ := h.back
 have p := inv_prod bt h.br ht hE
 refine ⟨(mm_bd n n n T L).of hl, (mm_bd n n n T R).of hr, ?_, mm n E T', ?_⟩
 ·refine (mm_congr hr.symm (EqM.refl _ _ _)).trans ((mm_assoc bt h.br ha).trans ((mm_congr (EqM.refl _ _ _) h.prod).trans hl))
 ·exact ⟨p.bx, (mm_congr hr.symm (EqM.refl _ _ _)).trans p.right, (mm_congr (EqM.refl _ _ _) hr.symm).trans p.left⟩

theorem Gauss.done {n : Nat} {A L R : Mx} (ha : Bd n n A) (h : Gauss n A L R) (e : EqM n n L one) : Inv n A R := by
 obtain ⟨E, hE⟩ := h.back
 have hl : EqM n n (mm n R A) one := h.prod.trans e
 have hA : EqM n n E A := inv_one h.br hE ha hl
 exact ⟨h.br, (mm_congr hA.symm (EqM.refl _ _ _)).trans hE.left, hl⟩

theorem Gauss.fails {n : Nat} {A L R : Mx} (ha : Bd n n A) (h : Gauss n A L R) (s : Sing n L) : Sing n A := by
 obtain ⟨E, hE⟩ := h.back
 obtain ⟨v, hv, hc, h0⟩ := s
 refine ⟨v, hv, hc, fun i hi => ?_⟩
 have e0 : ∀ j, j < n → mm n R (mm n A (col v)) j 0 = 0 := fun j hj => by
  have a := mm_assoc h.br ha (col_bd hv) j hj 0 (by omega)
  have b := (mm_congr h.prod (EqM.refl n 1 (col v))) j hj 0 (by omega)
  exact a.symm.trans (b.trans (h0 j hj))
 have a1 := mm_assoc hE.bx h.br (mm_bd n n 1 A (col v)) i hi 0 (by omega)
 have a2 := (mm_congr hE.left (EqM.refl n 1 (mm n A (col v)))) i hi 0 (by omega)
 have a3 := one_mm (mm_bd n n 1 A (col v)) i hi 0 (by omega)
 have a4 : mm n E (mm n R (mm n A (col v))) i 0 = 0 := sx_none (fun j hj => by rw [e0 j hj, mul_zero])
 exact (show sx n (fun j => mul (A i j) (v j)) = mm n A (col v) i 0 from rfl).trans (a3.symm.trans (a2.symm.trans (a1.trans a4)))

theorem sing_of {n c : Nat} {L : Mx} (hl : Bd n n L) (hc : c < n) (hid : ∀ i, i < n → ∀ j, j < c → L i j = one i j) (h0 : ∀ i, c ≤ i → i < n → L i c = 0) : Sing n L := by
 refine ⟨fun j => if j < c then L j c else if j = c then 1 else 0, fun k hk => ?_, ⟨c, hc, by dsimp only; rw [if_neg (Nat.lt_irrefl c), if_pos rfl]; decide⟩, fun i hi => ?_⟩
 ·dsimp only
  split
  ·exact hl k hk c hc
  ·split <;> decide
 ·by_cases hic : i < c
  ·rw [sx_two (c := i) (d := c) hi hc (by omega) (fun k hk k1 k2 => ?_)]
   ·dsimp only
    rw [if_pos hic, if_neg (Nat.lt_irrefl c), if_pos rfl, hid i hi i hic, mul_one (hl i hi c hc)]
    unfold one
    rw [if_pos rfl, one_mul (hl i hi c hc), Nat.xor_self]
   ·by_cases hkc : k < c
    ·rw [hid i hi k hkc]
     unfold one
     rw [if_neg (fun e => k1 e.symm), zero_mul]
    ·dsimp only
     rw [if_neg hkc, if_neg k2, mul_zero]
  ·rw [sx_none (fun k hk => ?_)]
   by_cases hkc : k < c
   ·rw [hid i hi k hkc]
    unfold one
    rw [if_neg (by omega), zero_mul]
   ·by_cases e : k = c
    ·subst e
     rw [h0 i (by omega) hi, zero_mul]
    ·dsimp only
     rw [if_neg hkc, if_neg e, mul_zero]

def scale (p s : Nat) : Mx := fun i j => if i = j then (if i = p then s else 1) else 0
theorem scale_bd {n p s : Nat} (hs : s < 256) : Bd n n (scale p s) := fun i _ j _ => by
 unfold scale
 repeat' split
 all_goals first | exact hs | decide
theorem scale_mm {n c p s : Nat} {A : Mx} (ha : Bd n c A) : EqM n c (mm n (scale p s) A) (fun i k => if i = p then mul s (A i k) else A i k) := by
 intro i hi k hk
 show sx n (fun j => mul (scale p s i j) (A j k)) = _
 rw [sx_one (c := i) hi (fun j _ hj => by unfold scale; rw [if_neg (fun e => hj e.symm), zero_mul])]
 unfold scale
 dsimp only
 rw [if_pos rfl]
 by_cases e : i = p
 ·rw [if_pos e, if_pos e]
 ·rw [if_neg e, if_neg e, one_mul (ha i hi k hk)]
theorem scale_inv {n p s t : Nat} (hs : s < 256) (ht : t < 256) (e : mul s t = 1) : Inv n (scale p s) (scale p t) := by
 have half : ∀ {s t : Nat}, t < 256 → mul s t = 1 → EqM n n (mm n (scale p s) (scale p t)) one := by
  intro s t ht e i hi k hk
  rw [scale_mm (scale_bd ht) i hi k hk]
  unfold scale one
  dsimp only
  by_cases h1 : i = k
  ·rw [if_pos h1, if_pos h1]
   by_cases h2 : i = p
   ·rw [if_pos h2, if_pos h2, e]
   ·rw [if_neg h2, if_neg h2]
  ·rw [if_neg h1, if_neg h1, mul_zero]
   split <;> rfl
 exact ⟨scale_bd ht, half ht e, half hs (by rw [mul_comm]; exact e)⟩

def clear (p : Nat) (c : Nat → Nat) : Mx := fun i j => if i = j then 1 else if j = p then c i else 0
theorem clear_bd {n p : Nat} {c : Nat → Nat} (hc : ∀ i, i < n → c i < 256) : Bd n n (clear p c) := fun i hi j _ => by
 unfold clear
 repeat' split
 all_goals first | exact hc i hi | decide
theorem clear_mm {n m p : Nat} {c : Nat → Nat} {A : Mx} (ha : Bd n m A) (hp : p < n) : EqM n m (mm n (clear p c) A) (fun i k => if i = p then A i k else A i k ^^^ mul (c i) (A p k)) := by
 intro i hi k hk
 show sx n (fun j => mul (clear p c i j) (A j k)) = _
 by_cases e : i = p
 ·subst e
  rw [sx_one (c := i) hi (fun j _ hj => by unfold clear; rw [if_neg (fun e => hj e.symm), if_neg hj, zero_mul])]
  unfold clear
  dsimp only
  rw [if_pos rfl, if_pos rfl, one_mul (ha i hi k hk)]
 ·rw [sx_two (c := i) (d := p) hi hp e (fun j _ h1 h2 => by unfold clear; rw [if_neg (fun e => h1 e.symm), if_neg h2, zero_mul])]
  unfold clear
  dsimp only
  rw [if_pos rfl, if_neg e, if_pos rfl, if_neg e, one_mul (ha i hi k hk)]
theorem clear_inv {n p : Nat} {c : Nat → Nat} (hc : ∀ i, i < n → c i < 256) (hp : p < n) : Inv n (clear p c) (clear p c) := by
 have h : EqM n n (mm n (clear p c) (clear p c)) one := by
  intro i hi k hk
  rw [clear_mm (clear_bd hc) hp i hi k hk]
  dsimp only
  by_cases e : i = p
  ·rw [if_pos e]
   unfold clear one
   by_cases h1 : i = k
   ·rw [if_pos h1, if_pos h1]
   ·rw [if_neg h1, if_neg h1, if_neg (by omega)]
  ·rw [if_neg e]
   unfold clear one
   by_cases h1 : i = k
   ·rw [if_pos h1, if_pos h1, if_neg (by omega), if_neg (by omega), mul_zero, Nat.xor_zero]
   ·rw [if_neg h1, if_neg h1]
    by_cases h2 : k = p
    ·rw [if_pos h2, if_pos h2.symm, mul_one (hc i hi), Nat.xor_self]
    ·rw [if_neg h2, if_neg (fun e => h2 e.symm), if_neg h2, mul_zero, Nat.xor_zero]
 exact ⟨clear_bd hc, h, h⟩

def sw (p q i : Nat) : Nat := if i = p then q else if i = q then p else i
theorem sw_sw (p q i : Nat) : sw p q (sw p q i) = i := by
 unfold sw
 repeat' split
 all_goals omega
theorem sw_lt {n p q i : Nat} (hp : p < n) (hq : q < n) (hi : i < n) : sw p q i < n := by
 unfold sw
 repeat' split
 all_goals assumption
def swap (p q : Nat) : Mx := fun i j => if j = sw p q i then 1 else 0
theorem swap_bd (n p q : Nat) : Bd n n (swap p q) := fun i _ j _ => by unfold swap; split <;> decide
theorem swap_mm {n m p q : Nat} {A : Mx} (ha : Bd n m A) (hp : p < n) (hq : q < n) : EqM n m (mm n (swap p q) A) (fun i k => A (sw p q i) k) := by
 intro i hi k hk
 show sx n (fun j => mul (swap p q i j) (A j k)) = _
 rw [sx_one (c := sw p q i) (sw_lt hp hq hi) (fun j _ hj => by unfold swap; rw [if_neg hj, zero_mul])]
 unfold swap
 dsimp only
 rw [if_pos rfl, one_mul (ha _ (sw_lt hp hq hi) k hk)]
theorem swap_inv {n p q : Nat} (hp : p < n) (hq : q < n) : Inv n (swap p q) (swap p q) := by
 have h : EqM n n (mm n (swap p q) (swap p q)) one := by
  intro i hi k hk
  rw [swap_mm (swap_bd n p q) hp hq i hi k hk]
  unfold swap one
  dsimp only
  rw [sw_sw]
  by_cases e : k = i
  ·rw [if_pos e, if_pos e.symm]
  ·rw [if_neg e, if_neg (fun h => e h.symm)]
 exact ⟨swap_bd n p q, h, h⟩

end Go.Proofs.YtelmcchleclklaaGreat.Kc
