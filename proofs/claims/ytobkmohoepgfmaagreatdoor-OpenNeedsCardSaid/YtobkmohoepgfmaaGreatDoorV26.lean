import Derived.Test.YtobkmohoepgfmaaGreatDoorV25
import Derived.WalkKit
import Derived.WalkSpells
import Derived.Lib.Hide
import Derived.Outline
import Derived.Deep.QuietTactic
import Derived.Deep.RegionHeld
import Derived.Deep.RegionWith
import Derived.Deep.RegionLaw
import Derived.Deep.AppendLies
import Derived.Deep.LoopGhost
import Derived.Maps.OwnSet
import Derived.Sort.Grow
import Derived.BigRegion
import Derived.BigQuiet
import Derived.StillTailTactics
import Derived.Laws.BitsLemmas
import Derived.Laws.ResultCell
namespace Go.Proofs.YtobkmohoepgfmaaGreatDoor.Kc

def skip (c j : Nat) : Nat := if j < c then j else j + 1
def wo (A : Mx) (r c : Nat) : Mx := fun i j => A (skip r i) (skip c j)
def det : Nat → Mx → Nat
 | 0, _ => 1
 | n + 1, A => sx (n + 1) (fun k => mul (A 0 k) (det n (wo A 0 k)))
theorem det_succ (n : Nat) (A : Mx) : det (n + 1) A = sx (n + 1) (fun k => mul (A 0 k) (det n (wo A 0 k))) := rfl
theorem det_lt (n : Nat) (A : Mx) : det n A < 256 := by
 cases n with
 | zero => show 1 < 256; decide
 | succ n => exact sx_lt (fun _ _ => mul_lt _ _)
theorem skip_lt {n c j : Nat} (hj : j < n) : skip c j < n + 1 := by unfold skip; split <;> omega
theorem skip_ne (c j : Nat) : skip c j ≠ c := by unfold skip; split <;> omega
theorem skip_zero (j : Nat) : skip 0 j = j + 1 := by unfold skip; rw [if_neg (by omega)]
theorem wo_bd {n r c : Nat} {A : Mx} (h : Bd (n + 1) (n + 1) A) : Bd n n (wo A r c) := fun _ hi _ hj => h _ (skip_lt hi) _ (skip_lt hj)
theorem det_congr : ∀ {n : Nat} {A B : Mx}, EqM n n A B → det n A = det n B := by
 intro n
 induction n with
 | zero => intros; rfl
 | succ n ih =>
  intro A B h
  rw [det_succ, det_succ]
  exact sx_congr (fun k hk => by rw [h 0 (by omega) k hk, ih (A := wo A 0 k) (B := wo B 0 k) (fun i hi j hj => h _ (skip_lt hi) _ (skip_lt hj))])

def setr (A : Mx) (r : Nat) (u : Nat → Nat) : Mx := fun i j => if i = r then u j else A i j
theorem setr_same (A : Mx) (r : Nat) : setr A r (A r) = A := by
 funext i j
 unfold setr
 split
 ·rename_i h; rw [h]
 ·rfl
theorem setr_bd {n c r : Nat} {A : Mx} {u : Nat → Nat} (h : Bd n c A) (hu : ∀ j, j < c → u j < 256) : Bd n c (setr A r u) := fun i hi j hj => by
 unfold setr
 split
 ·exact hu j hj
 ·exact h i hi j hj
theorem wo_setr_at (A : Mx) (r c : Nat) (u : Nat → Nat) : wo (setr A r u) r c = wo A r c := by
 funext i j
 unfold wo setr
 rw [if_neg (skip_ne r i)]
theorem wo_setr_zero (A : Mx) (r c : Nat) (u : Nat → Nat) : wo (setr A (r + 1) u) 0 c = setr (wo A 0 c) r (fun j => u (skip c j)) := by
 funext i j
 unfold wo setr
 rw [skip_zero]
 by_cases h : i = r
 ·rw [if_pos (by omega), if_pos h]
 ·rw [if_neg (by omega), if_neg h]
  show A (i + 1) (skip c j) = A (skip 0 i) (skip c j)
  rw [skip_zero]

theorem det_add : ∀ {n r : Nat} {A : Mx} {u v : Nat → Nat}, r < n → Bd n n A → (∀ j, j < n → u j < 256) → (∀ j, j < n → v j < 256) →
  det n (setr A r (fun j => u j ^^^ v j)) = det n (setr A r u) ^^^ det n (setr A r v) := by
 intro n
 induction n with
 | zero => intro r A u v h; omega
 | succ n ih =>
  intro r A u v hr ha hu hv
  rw [det_succ, det_succ, det_succ, ← sx_xor]
  refine sx_congr (fun k hk => ?_)
  cases r with
  | zero =>
   rw [wo_setr_at, wo_setr_at, wo_setr_at]
   show mul (if 0 = 0 then u k ^^^ v k else A 0 k) _ = mul (if 0 = 0 then u k else A 0 k) _ ^^^ mul (if 0 = 0 then v k else A 0 k) _
   rw [if_pos rfl, if_pos rfl, if_pos rfl, mul_comm, mul_xor (det_lt _ _) (hu k hk) (hv k hk), mul_comm, mul_comm (det n (wo A 0 k)) (v k)]
  | succ r =>
   rw [wo_setr_zero, wo_setr_zero, wo_setr_zero, ih (by omega) (wo_bd ha) (fun j hj => hu _ (skip_lt hj)) (fun j hj => hv _ (skip_lt hj))]
   have e : ∀ w : Nat → Nat, setr A (r + 1) w 0 k = A 0 k := fun w => by unfold setr; rw [if_neg (by omega)]
   rw [e, e, e, mul_xor (ha 0 (by omega) k hk) (det_lt _ _) (det_lt _ _)]

theorem det_scale : ∀ {n r s : Nat} {A : Mx} {u : Nat → Nat}, r < n → s < 256 → Bd n n A → (∀ j, j < n → u j < 256) →
  det n (setr A r (fun j => mul s (u j))) = mul s (det n (setr A r u)) := by
 intro n
 induction n with
 | zero => intro r s A u h; omega
 | succ n ih =>
  intro r s A u hr hs ha hu
  rw [det_succ, det_succ, sx_mul hs (fun _ _ => mul_lt _ _)]
  refine sx_congr (fun k hk => ?_)
  cases r with
  | zero =>
   rw [wo_setr_at, wo_setr_at]
   show mul (if 0 = 0 then mul s (u k) else A 0 k) _ = mul s (mul (if 0 = 0 then u k else A 0 k) _)
   rw [if_pos rfl, if_pos rfl, mul_assoc hs (hu k hk) (det_lt _ _)]
  | succ r =>
   rw [wo_setr_zero, wo_setr_zero, ih (by omega) hs (wo_bd ha) (fun j hj => hu _ (skip_lt hj))]
   have e : ∀ w : Nat → Nat, setr A (r + 1) w 0 k = A 0 k := fun w => by unfold setr; rw [if_neg (by omega)]
   have a0 := ha 0 (by omega) k hk
   rw [e, e, mul_assoc a0 hs (det_lt _ _), mul_comm (A 0 k) s, ← mul_assoc hs a0 (det_lt _ _)]

theorem det_none {n r : Nat} {A : Mx} (hr : r < n) (ha : Bd n n A) (h : ∀ j, j < n → A r j = 0) : det n A = 0 := by
 have e : EqM n n A (setr A r (fun j => mul 0 (A r j))) := fun i hi j hj => by
  unfold setr
  split
  ·rename_i h'; rw [h', h j hj]; exact (zero_mul _).symm
  ·rfl
 rw [det_congr e, det_scale hr (by decide) ha (fun j hj => ha r hr j hj), zero_mul]

theorem sx_pairs {n : Nat} {h : Nat → Nat → Nat} (hs : ∀ i j, i < n → j < n → h i j = h j i) (h0 : ∀ i, i < n → h i i = 0) : sx n (fun i => sx n (fun j => h i j)) = 0 := by
 induction n with
 | zero => rfl
 | succ n ih =>
  rw [sx_succ]
  have e : sx n (fun i => sx (n + 1) (fun j => h i j)) = sx n (fun i => sx n (fun j => h i j)) ^^^ sx n (fun i => h i n) := by
   rw [← sx_xor]
   exact sx_congr (fun i _ => sx_succ _ _)
  rw [e, ih (fun i j hi hj => hs i j (by omega) (by omega)) (fun i hi => h0 i (by omega)), sx_succ, h0 n (by omega), Nat.zero_xor, Nat.xor_zero,
   sx_congr (fun i hi => hs i n (by omega) (by omega)), Nat.xor_self]
theorem sx_skip {n c : Nat} (f : Nat → Nat) (hc : c < n + 1) : sx n (fun l => f (skip c l)) = sx (n + 1) (fun m => if m = c then 0 else f m) := by
 induction n with
 | zero =>
  have : c = 0 := by omega
  subst this
  rw [sx_nil, sx_succ, sx_nil, if_pos rfl]; rfl
 | succ n ih =>
  by_cases h : c < n + 1
  ·rw [sx_succ, ih h, sx_succ (n + 1)]
   have : skip c n = n + 1 := by unfold skip; rw [if_neg (by omega)]
   rw [this, if_neg (by omega)]
  ·have e : c = n + 1 := by omega
   subst e
   rw [sx_succ (n + 1), if_pos rfl, Nat.xor_zero]
   exact sx_congr (fun k hk => by
    have : skip (n + 1) k = k := by unfold skip; rw [if_pos hk]
    rw [this, if_neg (by omega)])
theorem skip_skip {k m : Nat} (h : k < m) (j : Nat) : skip k (skip (m - 1) j) = skip m (skip k j) := by
 unfold skip
 repeat' split
 all_goals omega

def out2 (k m j : Nat) : Nat := if k < m then skip m (skip k j) else skip k (skip m j)
theorem out2_comm {k m : Nat} (h : k ≠ m) (j : Nat) : out2 k m j = out2 m k j := by
 unfold out2
 rcases Nat.lt_or_gt_of_ne h with h | h
 ·rw [if_pos h, if_neg (by omega)]
 ·rw [if_neg (by omega), if_pos h]
theorem out2_skip (k l j : Nat) : skip k (skip l j) = out2 k (skip k l) j := by
 unfold out2
 by_cases h : l < k
 ·have e : skip k l = l := by unfold skip; rw [if_pos h]
  rw [e, if_neg (by omega)]
 ·have e : skip k l = l + 1 := by unfold skip; rw [if_neg h]
  rw [e, if_pos (by omega)]
  exact skip_skip (m := l + 1) (by omega) j

theorem det_top2 {n : Nat} {A : Mx} (ha : Bd (n + 2) (n + 2) A) (h : ∀ j, j < n + 2 → A 0 j = A 1 j) : det (n + 2) A = 0 := by
 let D : Nat → Nat → Nat := fun k m => det n (fun i j => A (i + 2) (out2 k m j))
 have e : det (n + 2) A = sx (n + 2) (fun k => sx (n + 2) (fun m => if m = k then 0 else mul (A 0 k) (mul (A 0 m) (D k m)))) := by
  rw [det_succ]
  refine sx_congr (fun k hk => ?_)
  rw [det_succ, sx_mul (ha 0 (by omega) k hk) (fun _ _ => mul_lt _ _)]
  have := sx_skip (n := n + 1) (fun m => mul (A 0 k) (mul (A 0 m) (D k m))) hk
  rw [← this]
  refine sx_congr (fun l hl => ?_)
  have e1 : wo A 0 k 0 l = A 0 (skip k l) := by
   show A (skip 0 0) (skip k l) = _
   rw [skip_zero, h _ (skip_lt hl)]
  have e2 : det n (wo (wo A 0 k) 0 l) = D k (skip k l) := det_congr (fun i _ j _ => by
   show A (skip 0 (skip 0 i)) (skip k (skip l j)) = A (i + 2) (out2 k (skip k l) j)
   rw [skip_zero, skip_zero, out2_skip])
  rw [e1, e2]
 rw [e]
 refine sx_pairs (fun i j hi hj => ?_) (fun i _ => if_pos rfl)
 by_cases hij : i = j
 ·subst hij; rfl
 ·have eD : D j i = D i j := det_congr (fun x _ y _ => by show A _ _ = A _ _; rw [out2_comm hij])
  rw [if_neg (fun e => hij e.symm), if_neg hij, eD]
  have a := ha 0 (by omega) i hi
  have b := ha 0 (by omega) j hj
  rw [mul_assoc a b (det_lt _ _), mul_assoc b a (det_lt _ _), mul_comm (A 0 i)]

theorem det_near : ∀ {n r : Nat} {A : Mx}, r + 1 < n → Bd n n A → (∀ j, j < n → A r j = A (r + 1) j) → det n A = 0 := by
 intro n
 induction n with
 | zero => intro r A h; omega
 | succ n ih =>
  intro r A hr ha h
  cases r with
  | zero =>
   match n, hr with
   | n + 1, _ => exact det_top2 ha h
  | succ r =>
   rw [det_succ]
   refine sx_none (fun k hk => ?_)
   rw [ih (r := r) (A := wo A 0 k) (by omega) (wo_bd ha) (fun j hj => ?_), mul_zero]
   show A (skip 0 r) (skip k j) = A (skip 0 (r + 1)) (skip k j)
   rw [skip_zero, skip_zero]
   exact h _ (skip_lt hj)

theorem setr_comm {A : Mx} {r s : Nat} (h : r ≠ s) (u v : Nat → Nat) : setr (setr A r u) s v = setr (setr A s v) r u := by
 funext i j
 unfold setr
 by_cases h1 : i = s
 ·rw [if_pos h1, if_neg (by omega), if_pos h1]
 ·rw [if_neg h1]
  split <;> rfl

theorem det_change {n r s : Nat} {A : Mx} (hr : r < n) (hs : s < n) (hrs : r ≠ s) (ha : Bd n n A)
  (hz : ∀ {B : Mx}, Bd n n B → (∀ j, j < n → B r j = B s j) → det n B = 0) : det n (setr (setr A r (A s)) s (A r)) = det n A := by
 have bu : ∀ j, j < n → A r j < 256 := fun j hj => ha r hr j hj
 have bv : ∀ j, j < n → A s j < 256 := fun j hj => ha s hs j hj
 let S : (Nat → Nat) → (Nat → Nat) → Mx := fun u v => setr (setr A r u) s v
 have z : ∀ u : Nat → Nat, (∀ j, j < n → u j < 256) → det n (S u u) = 0 := fun u hu => hz (setr_bd (setr_bd ha hu) hu) (fun j _ => by
  show (if r = s then u j else (if r = r then u j else A r j)) = (if s = s then u j else _)
  rw [if_neg hrs, if_pos rfl, if_pos rfl])
 have addL : ∀ u u' v : Nat → Nat, (∀ j, j < n → u j < 256) → (∀ j, j < n → u' j < 256) → (∀ j, j < n → v j < 256) → det n (S (fun j => u j ^^^ u' j) v) = det n (S u v) ^^^ det n (S u' v) := by
  intro u u' v hu hu' hv
  show det n (setr (setr A r _) s v) = det n (setr (setr A r u) s v) ^^^ det n (setr (setr A r u') s v)
  rw [setr_comm hrs, setr_comm hrs, setr_comm hrs]
  exact det_add hr (setr_bd ha hv) hu hu'
 have addR : ∀ u v v' : Nat → Nat, (∀ j, j < n → u j < 256) → (∀ j, j < n → v j < 256) → (∀ j, j < n → v' j < 256) → det n (S u (fun j => v j ^^^ v' j)) = det n (S u v) ^^^ det n (S u v') := by
  intro u v v' hu hv hv'
  exact det_add hs (setr_bd ha hu) hv hv'
 have hw : ∀ j, j < n → (A r j ^^^ A s j) < 256 := fun j hj => xor_lt (bu j hj) (bv j hj)
 have h0 := z _ hw
 rw [addL _ _ _ bu bv hw, addR _ _ _ bu bu bv, addR _ _ _ bv bu bv, z _ bu, z _ bv, Nat.zero_xor, Nat.xor_zero] at h0
 have eA : S (A r) (A s) = A := by
  show setr (setr A r (A r)) s (A s) = A
  rw [setr_same, setr_same]
 rw [eA] at h0
 show det n (S (A s) (A r)) = det n A
 have : det n A ^^^ (det n A ^^^ det n (S (A s) (A r))) = det n A ^^^ 0 := by rw [h0]
 rw [← Nat.xor_assoc, Nat.xor_self, Nat.zero_xor, Nat.xor_zero] at this
 exact this

theorem det_alike {n : Nat} : ∀ {d r : Nat} {A : Mx}, r + d + 1 < n → Bd n n A → (∀ j, j < n → A r j = A (r + d + 1) j) → det n A = 0 := by
 intro d
 induction d with
 | zero => intro r A hr ha h; exact det_near hr ha h
 | succ d ih =>
  intro r A hr ha h
  have c := det_change (r := r + d + 1) (s := r + d + 1 + 1) (A := A) (by omega) (by omega) (by omega) ha (fun hb e => det_near (by omega) hb e)
  rw [← c]
  refine ih (r := r) (by omega) (setr_bd (setr_bd ha (fun j hj => ha _ (by omega) j hj)) (fun j hj => ha _ (by omega) j hj)) (fun j hj => ?_)
  unfold setr
  rw [if_neg (by omega), if_neg (by omega), if_neg (by omega), if_pos rfl]
  have := h j hj
  rw [this]
  congr 1
theorem det_two {n r s : Nat} {A : Mx} (hr : r < n) (hs : s < n) (hrs : r ≠ s) (ha : Bd n n A) (h : ∀ j, j < n → A r j = A s j) : det n A = 0 := by
 rcases Nat.lt_or_gt_of_ne hrs with l | l
 ·exact det_alike (d := s - r - 1) (r := r) (by omega) ha (fun j hj => by rw [h j hj]; congr 1; omega)
 ·exact det_alike (d := r - s - 1) (r := s) (by omega) ha (fun j hj => by rw [← h j hj]; congr 1; omega)
theorem det_swap {n r s : Nat} {A : Mx} (hr : r < n) (hs : s < n) (hrs : r ≠ s) (ha : Bd n n A) : det n (setr (setr A r (A s)) s (A r)) = det n A :=
 det_change hr hs hrs ha (fun hb h => det_two hr hs hrs hb h)

theorem det_row {n : Nat} : ∀ {r : Nat} {A : Mx}, r < n + 1 → Bd (n + 1) (n + 1) A → det (n + 1) A = sx (n + 1) (fun k => mul (A r k) (det n (wo A r k))) := by
 intro r
 induction r with
 | zero => intro A _ _; rfl
 | succ r ih =>
  intro A hr ha
  have c := det_swap (r := r) (s := r + 1) (A := A) (by omega) hr (by omega) ha
  rw [← c, ih (by omega) (setr_bd (setr_bd ha (fun j hj => ha _ (by omega) j hj)) (fun j hj => ha _ (by omega) j hj))]
  refine sx_congr (fun k hk => ?_)
  have e1 : setr (setr A r (A (r + 1))) (r + 1) (A r) r k = A (r + 1) k := by
   unfold setr
   rw [if_neg (by omega), if_pos rfl]
  have e2 : wo (setr (setr A r (A (r + 1))) (r + 1) (A r)) r k = wo A (r + 1) k := by
   funext i j
   unfold wo setr
   by_cases h1 : i < r
   ·have a : skip r i = i := by unfold skip; rw [if_pos h1]
    have b : skip (r + 1) i = i := by unfold skip; rw [if_pos (by omega)]
    rw [a, b, if_neg (by omega), if_neg (by omega)]
   ·have a : skip r i = i + 1 := by unfold skip; rw [if_neg h1]
    by_cases h2 : i = r
    ·have b : skip (r + 1) i = i := by unfold skip; rw [if_pos (by omega)]
     rw [a, b, if_pos (by omega), h2]
    ·have b : skip (r + 1) i = i + 1 := by unfold skip; rw [if_neg (by omega)]
     rw [a, b, if_neg (by omega), if_neg (by omega)]
  rw [e1, e2]

def adj (n : Nat) (A : Mx) : Mx := fun j i => det n (wo A i j)
theorem mm_adj {n : Nat} {A : Mx} (ha : Bd (n + 1) (n + 1) A) : EqM (n + 1) (n + 1) (mm (n + 1) A (adj n A)) (fun i j => if i = j then det (n + 1) A else 0) := by
 intro s hs r hr
 show sx (n + 1) (fun k => mul (A s k) (det n (wo A r k))) = _
 have e := det_row (A := setr A r (A s)) hr (setr_bd ha (fun j hj => ha s hs j hj))
 have e' : sx (n + 1) (fun k => mul (setr A r (A s) r k) (det n (wo (setr A r (A s)) r k))) = sx (n + 1) (fun k => mul (A s k) (det n (wo A r k))) := sx_congr (fun k _ => by
  rw [wo_setr_at]
  unfold setr
  rw [if_pos rfl])
 rw [e'] at e
 rw [← e]
 dsimp only
 by_cases h : s = r
 ·rw [if_pos h, h, setr_same]
 ·rw [if_neg h]
  refine det_two hs hr h (setr_bd ha (fun j hj => ha s hs j hj)) (fun j hj => ?_)
  unfold setr
  rw [if_neg h, if_pos rfl]
end Go.Proofs.YtobkmohoepgfmaaGreatDoor.Kc
namespace Go.Proofs.YtobkmohoepgfmaaGreatDoor.Kc

theorem sx_head (n : Nat) (f : Nat → Nat) : sx (n + 1) f = f 0 ^^^ sx n (fun k => f (k + 1)) := by
 induction n with
 | zero => rw [sx_succ, sx_nil, sx_nil, Nat.zero_xor, Nat.xor_zero]
 | succ n ih => rw [sx_succ, ih, sx_succ, Nat.xor_assoc]
theorem skip_up (c j : Nat) : skip (c + 1) (j + 1) = skip c j + 1 := by
 unfold skip
 split <;> split <;> omega

theorem det_col : ∀ {n : Nat} {A : Mx}, Bd (n + 1) (n + 1) A → det (n + 1) A = sx (n + 1) (fun i => mul (A i 0) (det n (wo A i 0))) := by
 intro n
 induction n with
 | zero => intro A _; rfl
 | succ n ih =>
  intro A ha
  rw [det_succ, sx_head, sx_head (n + 1) (fun i => mul (A i 0) (det (n + 1) (wo A i 0)))]
  congr 1
  have e1 : sx (n + 1) (fun k => mul (A 0 (k + 1)) (det (n + 1) (wo A 0 (k + 1)))) =
    sx (n + 1) (fun k => sx (n + 1) (fun i => mul (A 0 (k + 1)) (mul (A (i + 1) 0) (det n (wo (wo A 0 (k + 1)) i 0))))) := by
   refine sx_congr (fun k hk => ?_)
   rw [ih (wo_bd ha), sx_mul (ha 0 (by omega) (k + 1) (by omega)) (fun _ _ => mul_lt _ _)]
   refine sx_congr (fun i _ => ?_)
   have : wo A 0 (k + 1) i 0 = A (i + 1) 0 := by
    show A (skip 0 i) (skip (k + 1) 0) = _
    have b : skip (k + 1) 0 = 0 := by unfold skip; rw [if_pos (by omega)]
    rw [skip_zero, b]
   rw [this]
  have e2 : sx (n + 1) (fun i => mul (A (i + 1) 0) (det (n + 1) (wo A (i + 1) 0))) =
    sx (n + 1) (fun i => sx (n + 1) (fun k => mul (A (i + 1) 0) (mul (A 0 (k + 1)) (det n (wo (wo A (i + 1) 0) 0 k))))) := by
   refine sx_congr (fun i hi => ?_)
   rw [det_succ, sx_mul (ha (i + 1) (by omega) 0 (by omega)) (fun _ _ => mul_lt _ _)]
   refine sx_congr (fun k _ => ?_)
   have : wo A (i + 1) 0 0 k = A 0 (k + 1) := by
    show A (skip (i + 1) 0) (skip 0 k) = _
    have b : skip (i + 1) 0 = 0 := by unfold skip; rw [if_pos (by omega)]
    rw [skip_zero, b]
   rw [this]
  rw [e1, e2, sx_swap]
  refine sx_congr (fun i hi => sx_congr (fun k hk => ?_))
  have e3 : wo (wo A 0 (k + 1)) i 0 = wo (wo A (i + 1) 0) 0 k := by
   funext x y
   show A (skip 0 (skip i x)) (skip (k + 1) (skip 0 y)) = A (skip (i + 1) (skip 0 x)) (skip 0 (skip k y))
   rw [skip_zero, skip_zero, skip_zero, skip_zero, skip_up, skip_up]
  have a := ha 0 (by omega) (k + 1) (by omega)
  have b := ha (i + 1) (by omega) 0 (by omega)
  rw [e3, mul_assoc a b (det_lt _ _), mul_assoc b a (det_lt _ _), mul_comm (A 0 (k + 1))]

def tr (A : Mx) : Mx := fun i j => A j i
theorem tr_bd {n : Nat} {A : Mx} (h : Bd n n A) : Bd n n (tr A) := fun i hi j hj => h j hj i hi
theorem det_tr : ∀ {n : Nat} {A : Mx}, Bd n n A → det n (tr A) = det n A := by
 intro n
 induction n with
 | zero => intros; rfl
 | succ n ih =>
  intro A ha
  rw [det_col ha, det_succ]
  refine sx_congr (fun k _ => ?_)
  have e : wo (tr A) 0 k = tr (wo A k 0) := rfl
  rw [e, ih (wo_bd ha)]
  rfl

theorem det_comb {n c : Nat} {B : Mx} {v : Nat → Nat} (hc : c < n) (hb : Bd n n B) (hv : ∀ k, k < n → v k < 256) : ∀ {m : Nat}, m ≤ n →
  det n (setr B c (fun i => sx m (fun j => mul (v j) (B j i)))) = if c < m then mul (v c) (det n B) else 0 := by
 intro m
 induction m with
 | zero =>
  intro _
  rw [if_neg (by omega)]
  exact det_none hc (setr_bd hb (fun _ _ => by rw [sx_nil]; decide)) (fun j _ => by unfold setr; rw [if_pos rfl]; rfl)
 | succ m ih =>
  intro hm
  have e : (fun i => sx (m + 1) (fun j => mul (v j) (B j i))) = (fun i => (fun i => sx m (fun j => mul (v j) (B j i))) i ^^^ (fun i => mul (v m) (B m i)) i) := by
   funext i; exact sx_succ _ _
  rw [e, det_add hc hb (fun _ _ => sx_lt (fun _ _ => mul_lt _ _)) (fun _ _ => mul_lt _ _), ih (by omega), det_scale hc (hv m (by omega)) hb (fun j hj => hb m (by omega) j hj)]
  by_cases h : c < m
  ·rw [if_pos h, if_pos (by omega)]
   have : det n (setr B c (B m)) = 0 := det_two (r := c) (s := m) hc (by omega) (by omega) (setr_bd hb (fun j hj => hb m (by omega) j hj)) (fun j _ => by
    unfold setr
    rw [if_pos rfl, if_neg (by omega)])
   rw [this, mul_zero, Nat.xor_zero]
  ·rw [if_neg h, Nat.zero_xor]
   by_cases h2 : c = m
   ·rw [if_pos (by omega), ← h2, setr_same]
   ·rw [if_neg (by omega)]
    have : det n (setr B c (B m)) = 0 := det_two (r := c) (s := m) hc (by omega) h2 (setr_bd hb (fun j hj => hb m (by omega) j hj)) (fun j _ => by
     unfold setr
     rw [if_pos rfl, if_neg (fun e => h2 e.symm)])
    rw [this, mul_zero]

theorem det_sing {n : Nat} {A : Mx} (ha : Bd n n A) (h : Sing n A) : det n A = 0 := by
 obtain ⟨v, hv, ⟨c, hc, hvc⟩, h0⟩ := h
 have e := det_comb hc (tr_bd ha) hv (Nat.le_refl n)
 rw [if_pos hc, det_tr ha] at e
 have z : det n (setr (tr A) c (fun i => sx n (fun j => mul (v j) (tr A j i)))) = 0 := det_none hc (setr_bd (tr_bd ha) (fun _ _ => sx_lt (fun _ _ => mul_lt _ _))) (fun i hi => by
  unfold setr
  rw [if_pos rfl]
  exact (sx_congr (fun j _ => mul_comm _ _)).trans (h0 i hi))
 rw [z] at e
 rcases mul_eq_zero.1 e.symm with h | h
 ·exact absurd h hvc
 ·exact h

theorem det_one : ∀ n : Nat, det n one = 1 := by
 intro n
 induction n with
 | zero => rfl
 | succ n ih =>
  have e : wo one 0 0 = one := by
   funext i j
   show one (skip 0 i) (skip 0 j) = one i j
   rw [skip_zero, skip_zero]
   unfold one
   by_cases h : i = j
   ·rw [if_pos (by omega), if_pos h]
   ·rw [if_neg (by omega), if_neg h]
  rw [det_succ, sx_one (c := 0) (by omega) (fun k _ hk => by unfold one; rw [if_neg (fun e => hk e.symm), zero_mul]), e, ih]
  show mul (if 0 = 0 then 1 else 0) 1 = 1
  rw [if_pos rfl, mul_one (by decide)]

def Dt (n : Nat) (A L : Mx) : Prop := ∃ s, s < 256 ∧ s ≠ 0 ∧ det n L = mul s (det n A)
theorem Dt.start (n : Nat) (A : Mx) : Dt n A A := ⟨1, by decide, by decide, (one_mul (det_lt _ _)).symm⟩
theorem Dt.step {n t : Nat} {A L L' : Mx} (h : Dt n A L) (ht : t < 256) (t0 : t ≠ 0) (e : det n L' = mul t (det n L)) : Dt n A L' := by
 obtain ⟨s, hs, s0, es⟩ := h
 exact ⟨mul t s, mul_lt _ _, fun h => (mul_eq_zero.1 h).elim t0 s0, by rw [e, es, mul_assoc ht hs (det_lt _ _)]⟩
theorem Dt.done {n : Nat} {A L : Mx} (h : Dt n A L) (e : EqM n n L one) : det n A ≠ 0 := by
 obtain ⟨s, hs, s0, es⟩ := h
 rw [det_congr e, det_one] at es
 intro h0
 rw [h0, mul_zero] at es
 exact absurd es (by decide)

theorem det_of_scale {n p s : Nat} {L : Mx} (hp : p < n) (hs : s < 256) (hl : Bd n n L) : det n (fun i k => if i = p then mul s (L i k) else L i k) = mul s (det n L) := by
 have e : EqM n n (fun i k => if i = p then mul s (L i k) else L i k) (setr L p (fun k => mul s (L p k))) := fun i _ k _ => by
  unfold setr
  dsimp only
  by_cases h : i = p
  ·rw [if_pos h, if_pos h, h]
  ·rw [if_neg h, if_neg h]
 rw [det_congr e, det_scale hp hs hl (fun j hj => hl p hp j hj), setr_same]
theorem det_of_swap {n p q : Nat} {L : Mx} (hp : p < n) (hq : q < n) (hl : Bd n n L) : det n (fun i k => L (sw p q i) k) = det n L := by
 by_cases h : p = q
 ·subst h
  refine det_congr (fun i _ k _ => ?_)
  have : sw p p i = i := by unfold sw; split <;> simp_all
  show L (sw p p i) k = L i k
  rw [this]
 ·rw [← det_swap hp hq h hl]
  refine det_congr (fun i _ k _ => ?_)
  unfold setr sw
  by_cases h1 : i = q
  ·rw [if_pos h1, if_neg (by omega), if_pos h1]
  ·rw [if_neg h1]
   by_cases h2 : i = p
   ·rw [if_pos h2, if_neg h1, if_pos h2]
   ·rw [if_neg h2, if_neg h1, if_neg h2]
theorem det_of_clear {n p : Nat} {c : Nat → Nat} {L : Mx} (hp : p < n) (hc : ∀ i, i < n → c i < 256) (hl : Bd n n L) :
  det n (fun i k => if i = p then L i k else L i k ^^^ mul (c i) (L p k)) = det n L := by
 let C : Nat → Mx := fun m i k => if i = p ∨ ¬ i < m then L i k else L i k ^^^ mul (c i) (L p k)
 have bC : ∀ m, Bd n n (C m) := fun m i hi k hk => by
  show (if i = p ∨ ¬ i < m then L i k else L i k ^^^ mul (c i) (L p k)) < 256
  split
  ·exact hl i hi k hk
  ·exact xor_lt (hl i hi k hk) (mul_lt _ _)
 have key : ∀ m, m ≤ n → det n (C m) = det n L := by
  intro m
  induction m with
  | zero => intro _; exact det_congr (fun i _ k _ => if_pos (Or.inr (by omega)))
  | succ m ih =>
   intro hm
   rw [← ih (by omega)]
   by_cases h : m = p
   ·refine det_congr (fun i _ k _ => ?_)
    show (if i = p ∨ ¬ i < m + 1 then _ else _) = (if i = p ∨ ¬ i < m then _ else _)
    by_cases h1 : i = p
    ·rw [if_pos (Or.inl h1), if_pos (Or.inl h1)]
    ·by_cases h2 : i < m
     ·rw [if_neg (by omega), if_neg (by omega)]
     ·rw [if_pos (by omega), if_pos (by omega)]
   ·have e : EqM n n (C (m + 1)) (setr (C m) m (fun k => C m m k ^^^ mul (c m) (L p k))) := fun i _ k _ => by
     unfold setr
     show (if i = p ∨ ¬ i < m + 1 then L i k else L i k ^^^ mul (c i) (L p k)) = (if i = m then (if m = p ∨ ¬ m < m then L m k else L m k ^^^ mul (c m) (L p k)) ^^^ mul (c m) (L p k) else (if i = p ∨ ¬ i < m then L i k else L i k ^^^ mul (c i) (L p k)))
     by_cases h1 : i = m
     ·subst h1
      rw [if_neg (by omega), if_pos rfl, if_pos (Or.inr (by omega))]
     ·rw [if_neg h1]
      by_cases h2 : i = p
      ·rw [if_pos (Or.inl h2), if_pos (Or.inl h2)]
      ·by_cases h3 : i < m
       ·rw [if_neg (by omega), if_neg (by omega)]
       ·rw [if_pos (by omega), if_pos (by omega)]
    rw [det_congr e, det_add (by omega) (bC m) (fun j hj => bC m m (by omega) j hj) (fun _ _ => mul_lt _ _), setr_same, det_scale (by omega) (hc m (by omega)) (bC m) (fun j hj => hl p hp j hj)]
    have : det n (setr (C m) m (L p)) = 0 := det_two (r := m) (s := p) (by omega) hp h (setr_bd (bC m) (fun j hj => hl p hp j hj)) (fun j _ => by
     unfold setr
     rw [if_pos rfl, if_neg (fun e => h e.symm)]
     show L p j = (if p = p ∨ ¬ p < m then L p j else _)
     rw [if_pos (Or.inl rfl)])
    rw [this, mul_zero, Nat.xor_zero]
 rw [← key n (Nat.le_refl n)]
 refine det_congr (fun i hi k _ => ?_)
 show (if i = p then L i k else L i k ^^^ mul (c i) (L p k)) = (if i = p ∨ ¬ i < n then L i k else L i k ^^^ mul (c i) (L p k))
 by_cases h1 : i = p
 ·rw [if_pos h1, if_pos (Or.inl h1)]
 ·rw [if_neg h1, if_neg (by omega)]

theorem adj_right {n : Nat} {A : Mx} (ha : Bd (n + 1) (n + 1) A) (h : det (n + 1) A ≠ 0) : EqM (n + 1) (n + 1) (mm (n + 1) A (fun j i => mul (inv (det (n + 1) A)) (adj n A j i))) one := by
 intro s hs r hr
 have e := mm_adj ha s hs r hr
 show sx (n + 1) (fun k => mul (A s k) (mul (inv (det (n + 1) A)) (adj n A k r))) = one s r
 have e2 : sx (n + 1) (fun k => mul (A s k) (mul (inv (det (n + 1) A)) (adj n A k r))) = mul (inv (det (n + 1) A)) (mm (n + 1) A (adj n A) s r) := by
  show _ = mul _ (sx (n + 1) (fun k => mul (A s k) (adj n A k r)))
  rw [sx_mul (inv_lt _) (fun _ _ => mul_lt _ _)]
  refine sx_congr (fun k hk => ?_)
  have a := ha s hs k hk
  have d : adj n A k r < 256 := det_lt _ _
  rw [mul_assoc a (inv_lt _) d, mul_comm (A s k), ← mul_assoc (inv_lt _) a d]
 rw [e2, e]
 unfold one
 dsimp only
 by_cases h1 : s = r
 ·rw [if_pos h1, if_pos h1, mul_comm, mul_inv (det_lt _ _) h]
 ·rw [if_neg h1, if_neg h1, mul_zero]
end Go.Proofs.YtobkmohoepgfmaaGreatDoor.Kc
namespace Go.Proofs.YtobkmohoepgfmaaGreatDoor.Kc

def Found (n : Nat) (A X : Mx) (ok : Bool) : Prop := (ok = true ∧ Inv n A X ∧ det n A ≠ 0) ∨ (ok = false ∧ Sing n A)

theorem Found.yes {n : Nat} {A X : Mx} (_ha : Bd n n A) (h : Found n A X true) : Inv n A X ∧ det n A ≠ 0 := by
 rcases h with ⟨_, h⟩ | ⟨h, _⟩
 ·exact h
 ·cases h
theorem Found.iff_det {n : Nat} {A X : Mx} {ok : Bool} (ha : Bd n n A) (h : Found n A X ok) : ok = decide (det n A ≠ 0) := by
 rcases h with ⟨rfl, _, h⟩ | ⟨rfl, h⟩
 ·exact (decide_eq_true h).symm
 ·exact (decide_eq_false (fun hn => hn (det_sing ha h))).symm

theorem sw_inj {p q i k : Nat} (h : sw p q i = sw p q k) : i = k := by rw [← sw_sw p q i, h, sw_sw]
theorem Found.doc {n : Nat} {A X : Mx} (ha : Bd (n + 1) (n + 1) A) (h : Found (n + 1) A X true) : EqM (n + 1) (n + 1) X (fun j i => mul (inv (det (n + 1) A)) (det n (wo A i j))) :=
 inv_one ha (h.yes ha).1 (fun _ _ _ _ => mul_lt _ _) (adj_right ha (h.yes ha).2)

theorem Found.of_done {n : Nat} {A L R : Mx} (ha : Bd n n A) (g : Gauss n A L R) (d : Dt n A L) (e : EqM n n L one) : Found n A R Bool.true := Or.inl ⟨rfl, g.done ha e, d.done e⟩
theorem Found.of_stuck {n c : Nat} {A L R X : Mx} (ha : Bd n n A) (g : Gauss n A L R) (hc : c < n) (hid : ∀ i, i < n → ∀ j, j < c → L i j = one i j) (h0 : ∀ i, c ≤ i → i < n → L i c = 0) : Found n A X Bool.false :=
 Or.inr ⟨rfl, g.fails ha (sing_of g.bl hc hid h0)⟩
end Go.Proofs.YtobkmohoepgfmaaGreatDoor.Kc
namespace Go.Proofs.YtobkmohoepgfmaaGreatDoor.Kc
open Go.RowKit Go.Sort
set_option maxRecDepth 100000

theorem bits_xor_u8 (a b : Nat) (ha : a < 256) (hb : b < 256) : bits .xor .u8 (a : Int) (b : Int) = ((a ^^^ b : Nat) : Int) := by
 have ha' : a % 2 ^ IntKind.u8.bits = a := Nat.mod_eq_of_lt ha
 have hb' : b % 2 ^ IntKind.u8.bits = b := Nat.mod_eq_of_lt hb
 simp only [bits, BitVec.ofInt_natCast, BitVec.toNat_xor, BitVec.toNat_ofNat, ha', hb']
 rw [IntKind.wrap_u8]
 have := xor_lt ha hb
 omega
theorem bits_xor_i64 (a b : Nat) (ha : a < 2 ^ 62) (hb : b < 2 ^ 62) : bits .xor .i64 (a : Int) (b : Int) = ((a ^^^ b : Nat) : Int) := by
 have h2 : (2 : Nat) ^ 62 ≤ 2 ^ IntKind.i64.bits := by decide
 have ha' : a % 2 ^ IntKind.i64.bits = a := Nat.mod_eq_of_lt (Nat.lt_of_lt_of_le ha h2)
 have hb' : b % 2 ^ IntKind.i64.bits = b := Nat.mod_eq_of_lt (Nat.lt_of_lt_of_le hb h2)
 simp only [bits, BitVec.ofInt_natCast, BitVec.toNat_xor, BitVec.toNat_ofNat, ha', hb']
 rw [IntKind.wrap_i64]
 have := Nat.xor_lt_two_pow ha hb
 omega

theorem cell?_lt {w : World} {b o : Nat} {v : Value} (h : w.cell? ⟨b, o, none⟩ = some v) : b < w.heap.size := by
 unfold World.cell? at h
 by_cases hb : b < w.heap.size
 ·exact hb
 ·simp [Array.getElem?_eq_none (by omega : w.heap.size ≤ b)] at h

structure Fld (w : World) (f : Nat) : Prop where
 exp : ∀ k, k < 255 → w.cell? ⟨f, k, none⟩ = some (.int .u8 (pw k : Nat))
 log : ∀ k, k < 255 → w.cell? ⟨f, 255 + pw k, none⟩ = some (.int .u8 (k : Nat))
theorem Fld.lt {w : World} {f : Nat} (h : Fld w f) : f < w.heap.size := cell?_lt (h.exp 0 (by decide))
theorem Fld.keep {w w' : World} {f : Nat} (h : Fld w f) (b : Below w.heap.size w w') : Fld w' f :=
 ⟨fun k hk => (b.cell (p := ⟨f, k, none⟩) h.lt).trans (h.exp k hk), fun k hk => (b.cell (p := ⟨f, 255 + pw k, none⟩) h.lt).trans (h.log k hk)⟩
theorem Fld.lgc {w : World} {f : Nat} (h : Fld w f) {a : Nat} (ha : a < 256) (h0 : a ≠ 0) : w.cell? ⟨f, 255 + a, none⟩ = some (.int .u8 (lg a : Nat)) := by
 have := h.log (lg a) (lg_ok ha h0).2
 rw [(lg_ok ha h0).1] at this
 exact this

theorem fmade (f : Nat) (w : World) (h : Fld w f) : Calls Tryz.prog 112 #[.pointer (some ⟨f, 0, none⟩)] w fun e w' => e = .returned (.bool true) ∧ w' = w := by
 have h0 := h.exp 0 (by decide)
 have e : pw 0 = 1 := pw_zero
 rw [e] at h0
 clear h
 go_enter Tryz.func112, Tryz.ntmps112
 go_wp2
 go_ret
 exact ⟨rfl, rfl⟩

theorem flog (f a : Nat) (w : World) (h : Fld w f) (ha : a < 256) : Calls Tryz.prog 186 #[.pointer (some ⟨f, 0, none⟩), .int .u8 (a : Int)] w
  fun e w' => e = .returned (.tuple #[.int .i64 (if a = 0 then 0 else lg a : Nat), .bool (decide (a ≠ 0))]) ∧ w' = w := by
 have HH := Lib.hid h
 by_cases h0 : a = 0
 ·subst h0
  clear h
  go_enter Tryz.func186, Tryz.ntmps186
  go_wp2_with fail
  go_ret2
  exact ⟨rfl, rfl⟩
 ·have h1 := h.lgc ha h0
  have h2 := (lg_ok ha h0).2
  have e0 : ((a : Int) == 0) = false := beq_eq_false_iff_ne.2 (by omega)
  have a1 : (a : Int) < 256 := by omega
  clear h
  generalize lg a = n at *
  go_enter Tryz.func186, Tryz.ntmps186
  go_wp2_with fail
  refine (fmade f _ HH.out).mono ?_
  rintro e w2 ⟨rfl, rfl⟩
  go_wp2_with fail
  go_ret2
  exact ⟨rfl, rfl⟩

theorem fadd (f a b : Nat) (w : World) (h : Fld w f) (ha : a < 256) (hb : b < 256) : Calls Tryz.prog 157 #[.pointer (some ⟨f, 0, none⟩), .int .u8 (a : Int), .int .u8 (b : Int)] w
  fun e w' => e = .returned (.int .u8 ((a ^^^ b : Nat) : Int)) ∧ w' = w := by
 have HH := Lib.hid h
 clear h
 rw [← bits_xor_u8 a b ha hb]
 go_enter Tryz.func157, Tryz.ntmps157
 go_wp2_with (go_at_call 112; refine (fmade f _ HH.out).mono ?_; rintro e w2 ⟨rfl, rfl⟩)
 go_ret
 exact ⟨rfl, rfl⟩



theorem fexp (f : Nat) (n : Int) (w : World) (h : Fld w f) (_hn : -9223372036854775808 ≤ n ∧ n ≤ 9223372036854775807) : Calls Tryz.prog 79 #[.pointer (some ⟨f, 0, none⟩), .int .i64 n] w
  fun e w' => e = .returned (.int .u8 (pw (n % 255).toNat : Nat)) ∧ w' = w := by
 have HH := Lib.hid h
 have h1 := h.exp (n % 255).toNat (by omega)
 have hr : (n.tmod 255 = n % 255 ∧ 0 ≤ n.tmod 255) ∨ (n.tmod 255 < 0 ∧ n.tmod 255 + 255 = n % 255) := by
  rw [Int.tmod_eq_emod]
  split
  ·left; omega
  ·right
   rename_i hc
   have : ¬ (n % 255 = 0) := fun e => hc (Or.inr (Int.dvd_of_emod_eq_zero e))
   omega
 generalize pw (n % 255).toNat = v at *
 clear h
 rcases hr with ⟨hr, hr0⟩ | ⟨hr0, hr⟩
 ·have hl : n.tmod 255 < 255 := by omega
  have hs : ¬ n.tmod 255 < 0 := by omega
  rw [← hr] at h1
  clear hr
  go_enter Tryz.func79, Tryz.ntmps79
  go_wp2_with (go_at_call 112; refine (fmade f _ HH.out).mono ?_; rintro e w2 ⟨rfl, rfl⟩)
  go_ret
  exact ⟨rfl, rfl⟩
 ·have hl : -255 ≤ n.tmod 255 := by omega
  have hs : 0 ≤ n.tmod 255 + 255 := by omega
  rw [← hr] at h1
  clear hr
  go_enter Tryz.func79, Tryz.ntmps79
  go_wp2_with (go_at_call 112; refine (fmade f _ HH.out).mono ?_; rintro e w2 ⟨rfl, rfl⟩)
  go_ret
  exact ⟨rfl, rfl⟩

theorem fmul (f a b : Nat) (w : World) (h : Fld w f) (ha : a < 256) (hb : b < 256) : Calls Tryz.prog 156 #[.pointer (some ⟨f, 0, none⟩), .int .u8 (a : Int), .int .u8 (b : Int)] w
  fun e w' => e = .returned (.int .u8 (mul a b : Nat)) ∧ w' = w := by
 have HH := Lib.hid h
 have HA := Lib.hid ha
 have HB := Lib.hid hb
 clear h ha hb
 rw [mul_def]
 by_cases h0 : a = 0
 ·subst h0
  rw [if_pos (Or.inl rfl)]
  go_enter Tryz.func156, Tryz.ntmps156
  go_wp2_with fail
  refine (flog f 0 _ HH.out HA.out).mono ?_
  rintro e w2 ⟨rfl, rfl⟩
  go_wp2_with fail
  refine (flog f b _ HH.out HB.out).mono ?_
  rintro e w2 ⟨rfl, rfl⟩
  go_wp2_with fail
  all_goals (go_ret; exact ⟨rfl, rfl⟩)
 ·by_cases h1 : b = 0
  ·subst h1
   rw [if_pos (Or.inr rfl)]
   go_enter Tryz.func156, Tryz.ntmps156
   go_wp2_with fail
   refine (flog f a _ HH.out HA.out).mono ?_
   rintro e w2 ⟨rfl, rfl⟩
   go_wp2_with fail
   refine (flog f 0 _ HH.out HB.out).mono ?_
   rintro e w2 ⟨rfl, rfl⟩
   go_wp2_with fail
   all_goals (go_ret; exact ⟨rfl, rfl⟩)
  ·have la := (lg_ok HA.out h0).2
   have lb := (lg_ok HB.out h1).2
   rw [if_neg (by simp [h0, h1])]
   go_enter Tryz.func156, Tryz.ntmps156
   go_wp2_with fail
   refine (flog f a _ HH.out HA.out).mono ?_
   rintro e w2 ⟨rfl, rfl⟩
   go_wp2_with fail
   refine (flog f b _ HH.out HB.out).mono ?_
   rintro e w2 ⟨rfl, rfl⟩
   go_wp2_with fail
   have HE : Hid ((((lg a : Int) + (lg b : Int)) % 255).toNat = (lg a + lg b) % 255) := Lib.hid (by omega)
   refine (fexp f _ _ HH.out (by omega)).mono ?_
   rintro e w2 ⟨rfl, rfl⟩
   rw [HE.out]
   go_wp2_with fail
   go_ret
   exact ⟨rfl, rfl⟩

theorem finv (f a : Nat) (w : World) (h : Fld w f) (ha : a < 256) : Calls Tryz.prog 155 #[.pointer (some ⟨f, 0, none⟩), .int .u8 (a : Int)] w
  fun e w' => e = .returned (.tuple #[.int .u8 (if a = 0 then 0 else inv a : Nat), .bool (decide (a ≠ 0))]) ∧ w' = w := by
 have HH := Lib.hid h
 have HA := Lib.hid ha
 clear h ha
 by_cases h0 : a = 0
 ·subst h0
  go_enter Tryz.func155, Tryz.ntmps155
  go_wp2_with fail
  refine (flog f 0 _ HH.out HA.out).mono ?_
  rintro e w2 ⟨rfl, rfl⟩
  go_wp2_with fail
  go_ret2
  exact ⟨rfl, rfl⟩
 ·have la := (lg_ok HA.out h0).2
  have HV : Hid (∀ z : Int, z = -(lg a : Int) → pw (z % 255).toNat = inv a) := Lib.hid (by
   rintro z rfl
   rw [inv_def]
   congr 1
   omega)
  rw [if_neg h0]
  go_enter Tryz.func155, Tryz.ntmps155
  go_wp2_with fail
  refine (flog f a _ HH.out HA.out).mono ?_
  rintro e w2 ⟨rfl, rfl⟩
  go_wp2_with fail
  refine (fexp f _ _ HH.out (by omega)).mono ?_
  rintro e w2 ⟨rfl, rfl⟩
  rw [HV.out _ rfl]
  go_wp2_with fail
  go_ret2
  rw [show decide (a ≠ 0) = true from decide_eq_true h0]
  exact ⟨rfl, rfl⟩

theorem fdouble (x : Nat) (w : World) (h : x < 256) : Calls Tryz.prog 111 #[.int .i64 (x : Int)] w fun e w' => e = .returned (.int .i64 (dbl x : Nat)) ∧ w' = w := by
 rw [dbl_eq]
 have hb : bits .xor .i64 ((x : Int) * 2) 285 = ((2 * x ^^^ 285 : Nat) : Int) := by
  have := bits_xor_i64 (2 * x) 285 (by omega) (by omega)
  rw [← this]
  congr 1
  omega
 by_cases hc : 256 ≤ 2 * x
 ·have hi : (256 : Int) ≤ (x : Int) * 2 := by omega
  rw [if_pos hc]
  generalize 2 * x ^^^ 285 = y at *
  go_enter Tryz.func111, Tryz.ntmps111
  go_wp2
  go_ret
  exact ⟨rfl, rfl⟩
 ·have hi : ¬ (256 : Int) ≤ (x : Int) * 2 := by omega
  rw [if_neg hc]
  have e : ((2 * x : Nat) : Int) = (x : Int) * 2 := by omega
  rw [e]
  clear hb e
  go_enter Tryz.func111, Tryz.ntmps111
  go_wp2
  go_ret
  exact ⟨rfl, rfl⟩

theorem fzero : ∃ zs : Array Value, zs.size = 511 ∧ zs ≠ #[] ∧ (∀ k : Nat, k < 511 → zs[k]? = some (.int .u8 0)) ∧ ∀ w, Sem.run Tryz.prog (zeroValue 217) w = .ok (.agg zs) w := by
 refine ⟨Array.replicate 511 (.int .u8 0), Array.size_replicate, ?_, ?_, ?_⟩
 ·intro h
  have := congrArg Array.size h
  simp at this
 ·intro k hk
  rw [Array.getElem?_replicate, if_pos hk]
 ·intro w
  kernel_rfl

structure Part (w : World) (f n : Nat) : Prop where
 room : ∀ k, k < 511 → ∃ v, w.cell? ⟨f, k, none⟩ = some (.int .u8 v)
 exp : ∀ k, k < n → w.cell? ⟨f, k, none⟩ = some (.int .u8 (pw k : Nat))
 log : ∀ k, k < n → w.cell? ⟨f, 255 + pw k, none⟩ = some (.int .u8 (k : Nat))
 fz : ∀ k, w.frozen? ⟨f, k, none⟩ = false

theorem Part.next {w : World} {f n : Nat} (h : Part w f n) (hn : n < 255) :
  Part ((w.setCell ⟨f, n, none⟩ (.int .u8 (pw n : Nat))).setCell ⟨f, 255 + pw n, none⟩ (.int .u8 (n : Nat))) f (n + 1) := by
 have hlt := pw_lt n
 obtain ⟨v1, e1⟩ := h.room n (by omega)
 obtain ⟨v2, e2⟩ := h.room (255 + pw n) (by omega)
 have ne : ∀ a b : Nat, a ≠ b → (⟨f, a, none⟩ : Addr) ≠ ⟨f, b, none⟩ := fun a b hab e => hab (by injection e)
 have e2' : (w.setCell ⟨f, n, none⟩ (.int .u8 (pw n : Nat))).cell? ⟨f, 255 + pw n, none⟩ = some (.int .u8 v2) := by
  rw [World.cell?_setCell_other _ _ _ _ (ne _ _ (by omega)), e2]
 have key : ∀ k : Nat, ((w.setCell ⟨f, n, none⟩ (.int .u8 (pw n : Nat))).setCell ⟨f, 255 + pw n, none⟩ (.int .u8 (n : Nat))).cell? ⟨f, k, none⟩ =
   if k = 255 + pw n then some (.int .u8 (n : Nat)) else if k = n then some (.int .u8 (pw n : Nat)) else w.cell? ⟨f, k, none⟩ := by
  intro k
  split
  ·subst k; rw [World.cell?_setCell_same _ _ _ e2']
  ·rw [World.cell?_setCell_other _ _ _ _ (ne _ _ (by omega))]
   split
   ·subst k; rw [World.cell?_setCell_same _ _ _ e1]
   ·rw [World.cell?_setCell_other _ _ _ _ (ne _ _ (by omega))]
 refine ⟨fun k hk => ?_, fun k hk => ?_, fun k hk => ?_, fun k => ?_⟩
 ·rw [key]
  split
  ·exact ⟨_, rfl⟩
  ·split
   ·exact ⟨_, rfl⟩
   ·exact h.room k hk
 ·rw [key, if_neg (by omega)]
  split
  ·subst k; rfl
  ·exact h.exp k (by omega)
 ·rw [key]
  by_cases e : k = n
  ·subst k; rw [if_pos rfl]
  ·have := pw_lt k
   rw [if_neg (by intro e3; exact e (pw_inj (by omega) hn (by omega))), if_neg (by omega)]
   exact h.log k (by omega)
 ·rw [World.frozen?_setCell, World.frozen?_setCell]; exact h.fz k

theorem cell_of_block {w : World} {b k : Nat} {cs : Array Value} {t : TypeId} {fr : Nat × Nat} (h : w.heap[b]? = some (.cells cs t fr)) : w.cell? ⟨b, k, none⟩ = cs[k]? := by
 simp [World.cell?, h]

theorem fnew (w : World) : Calls Tryz.prog 78 #[] w fun e w' => e = .returned (.pointer (some ⟨w.heap.size, 0, none⟩)) ∧ Fld w' w.heap.size ∧ Below w.heap.size w w' := by
 obtain ⟨zs, z1, z2, z3, z4⟩ := fzero
 have H0 : Hid (Part (w.alloc (.cells zs 217)) w.heap.size 0 ∧ Below w.heap.size w (w.alloc (.cells zs 217))) := by
  have hb : (w.alloc (.cells zs 217)).heap[w.heap.size]? = some (.cells zs 217 (0, 0)) := by
   show (w.heap.push _)[w.heap.size]? = _
   rw [Array.getElem?_push, if_pos rfl]
  refine Lib.hid ⟨⟨fun k hk => ⟨0, ?_⟩, fun k hk => by omega, fun k hk => by omega, fun k => ?_⟩, (Below.refl _ _).alloc (Nat.le_refl _) _⟩
  ·rw [cell_of_block hb, z3 k hk]
  ·generalize w.alloc _ = w1 at *
   simp [World.frozen?, hb]
 go_enter Tryz.func78, Tryz.ntmps78
 go_wp2
 generalize w.alloc (.cells zs 217) = w1 at *
 clear z1 z2 z3 z4
 go_loopg [2, 6] 255 (fun q s2 s6 v => ∃ n : Nat, s2 = .int .i64 (pw n : Nat) ∧ s6 = .int .i64 (n : Int) ∧ n ≤ 255 ∧ q = 255 - n ∧ Hid (Part v w.heap.size n ∧ Below w.heap.size w v))
 case atStart => exact ⟨0, by rw [pw_zero]; rfl, rfl, by omega, rfl, H0⟩
 case round =>
  obtain ⟨n, rfl, rfl, hn, rfl, HS⟩ := hrel
  by_cases hlt : n < 255
  ·have hp := pw_lt n
   have hl : (n : Int) < 255 := by omega
   obtain ⟨v1, e1⟩ := HS.out.1.room n (by omega)
   obtain ⟨v2, e2⟩ := HS.out.1.room (255 + pw n) (by omega)
   have HN := Lib.hid (HS.out.1.next hlt)
   have e2' : (wr.setCell ⟨w.heap.size, n, none⟩ (.int .u8 (pw n : Nat))).cell? ⟨w.heap.size, 255 + pw n, none⟩ = some (.int .u8 v2) := by
    rw [World.cell?_setCell_other _ _ _ _ (by intro e; injection e; omega), e2]
   have HD := Lib.hid (fdouble (pw n))
   have HP : pw (n + 1) = dbl (pw n) := pw_succ n
   have hpi : (pw n : Int) < 256 := by omega
   rw [← HP] at HD
   clear HP
   have f1 := HS.out.1.fz n
   have f2 := (World.frozen?_setCell wr ⟨w.heap.size, n, none⟩ ⟨w.heap.size, 255 + pw n, none⟩ (.int .u8 (pw n : Nat))).trans (HS.out.1.fz (255 + pw n))
   have HB := Lib.hid HS.out.2
   clear HS H0
   generalize pw n = x at *
   go_wp2_with fail
   refine (HD.out _ hp).mono ?_
   rintro e w2 ⟨rfl, rfl⟩
   go_wp2_with fail
   go_roundg (255 - (n + 1))
   case measure => omega
   case rel => exact ⟨n + 1, rfl, by go_num, by omega, rfl, Lib.hid ⟨HN.out, (HB.out.setCell (Nat.le_refl _) _).setCell (Nat.le_refl _) _⟩⟩
  ·have hge : ¬ (n : Int) < 255 := by omega
   have e : n = 255 := by omega
   go_wp2_with fail
   go_ret
   subst e
   exact ⟨rfl, ⟨HS.out.1.exp, HS.out.1.log⟩, HS.out.2⟩

end Go.Proofs.YtobkmohoepgfmaaGreatDoor.Kc
