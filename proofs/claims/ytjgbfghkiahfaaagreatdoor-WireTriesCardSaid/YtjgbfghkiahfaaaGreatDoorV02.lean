import Derived.Test.YtjgbfghkiahfaaaGreatDoorV01
namespace Go.Proofs.YtjgbfghkiahfaaaGreatDoor
open Go.RowKit Go.Sort
set_option maxRecDepth 100000
set_option maxHeartbeats 1000000

/-- A sum of bytes, from the front. -/
def sumF (F : Nat → Nat) : Nat → Nat
  | 0 => 1
  | k + 1 => (sumF F k * 31 + F k * F k + 7) % 4294967291
theorem sumF_zero (F : Nat → Nat) : sumF F 0 = 1 := rfl
theorem sumF_succ (F : Nat → Nat) (k : Nat) : sumF F (k + 1) = (sumF F k * 31 + F k * F k + 7) % 4294967291 := rfl
theorem sumF_lt (F : Nat → Nat) (k : Nat) : sumF F k < 4294967291 := by
  cases k with
  | zero => rw [sumF_zero]; decide
  | succ k => rw [sumF_succ]; exact Nat.mod_lt _ (by decide)
theorem sumF_congr {F G : Nat → Nat} : ∀ {n : Nat}, (∀ j, j < n → F j = G j) → sumF F n = sumF G n
  | 0, _ => rfl
  | n + 1, h => by rw [sumF_succ, sumF_succ, sumF_congr (n := n) (fun j hj => h j (by omega)), h n (by omega)]
attribute [irreducible] sumF
theorem sq_lt {x : Nat} (h : x < 256) : x * x ≤ 65025 := Nat.le_trans (Nat.mul_le_mul (by omega : x ≤ 255) (by omega : x ≤ 255)) (by decide)
/-- Sums that part stay apart. -/
theorem step_apart {h h' c : Nat} (l : h < 4294967291) (l' : h' < 4294967291) (e : (h * 31 + c) % 4294967291 = (h' * 31 + c) % 4294967291) : h = h' := by omega
theorem step_mod (a c : Nat) : (a % 4294967291 * 31 + c) % 4294967291 = (a * 31 + c) % 4294967291 := by omega
theorem mod_near {a b : Nat} (h : a % 4294967291 = b % 4294967291) (h1 : a < b + 4294967291) (h2 : b < a + 4294967291) : a = b := by omega
theorem sumF_apart {F G : Nat → Nat} {p : Nat} (hp : sumF F p ≠ sumF G p) : ∀ d, (∀ j, p ≤ j → j < p + d → F j = G j) → sumF F (p + d) ≠ sumF G (p + d)
  | 0, _ => hp
  | d + 1, h => fun e => by
    rw [show p + (d + 1) = (p + d) + 1 by omega, sumF_succ, sumF_succ, h (p + d) (by omega) (by omega), Nat.add_assoc, Nat.add_assoc] at e
    exact sumF_apart hp d (fun j h1 h2 => h j h1 (by omega)) (step_apart (sumF_lt _ _) (sumF_lt _ _) e)
theorem sq_ne {x y : Nat} (hxy : x ≠ y) : x * x ≠ y * y := fun e => by
  rcases Nat.lt_or_gt_of_ne hxy with h | h
  · have := Nat.mul_lt_mul_of_lt_of_lt h h; omega
  · have := Nat.mul_lt_mul_of_lt_of_lt h h; omega
/-- One byte turned: another sum. -/
theorem sumF_turn {F G : Nat → Nat} {p n : Nat} (hp : p < n) (hF : F p < 256) (hG : G p < 256) (hne : F p ≠ G p) (he : ∀ j, j < n → j ≠ p → F j = G j) : sumF F n ≠ sumF G n := by
  have h1 : sumF F (p + 1) ≠ sumF G (p + 1) := fun e => by
    rw [sumF_succ, sumF_succ, sumF_congr (fun j hj => he j (by omega) (by omega))] at e
    have a := sq_lt hF
    have b := sq_lt hG
    have c := sq_ne hne
    generalize F p * F p = x at *
    generalize G p * G p = y at *
    have d := sumF_lt G p
    omega
  have := sumF_apart h1 (n - (p + 1)) (fun j h2 h3 => he j (by omega) (by omega))
  rwa [show p + 1 + (n - (p + 1)) = n by omega] at this
/-- Two bytes that change places. -/
theorem sumF_swap {F G : Nat → Nat} {p n : Nat} (hp : p + 1 < n) (hF : F p < 256) (hG : F (p + 1) < 256) (h1 : G p = F (p + 1)) (h2 : G (p + 1) = F p) (he : ∀ j, j < n → j ≠ p → j ≠ p + 1 → G j = F j) : sumF G n = sumF F n ↔ F p = F (p + 1) := by
  constructor
  · intro e
    refine Classical.byContradiction fun hne => ?_
    refine sumF_apart (F := G) (G := F) (p := p + 2) (fun e => ?_) (n - (p + 2)) (fun j h3 h4 => he j (by omega) (by omega) (by omega)) (by rw [show p + 2 + (n - (p + 2)) = n by omega]; exact e)
    rw [show p + 2 = (p + 1) + 1 by omega, sumF_succ, sumF_succ, sumF_succ, sumF_succ, sumF_congr (fun j hj => he j (by omega) (by omega) (by omega)), h1, h2] at e
    have a := sq_lt hF
    have b := sq_lt hG
    have c := sq_ne hne
    generalize F p * F p = x at *
    generalize F (p + 1) * F (p + 1) = y at *
    generalize sumF F p = s at *
    have f1 := step_mod (s * 31 + y + 7) (x + 7)
    have f2 := step_mod (s * 31 + x + 7) (y + 7)
    rw [← Nat.add_assoc] at f1 f2
    rw [f1, f2] at e
    have := mod_near e (by omega) (by omega)
    omega
  · intro e
    refine sumF_congr (fun j hj => ?_)
    by_cases e1 : j = p
    · subst e1; rw [h1, e]
    · by_cases e2 : j = p + 1
      · subst e2; rw [h2, e]
      · exact he j hj e1 e2

/-- Four bytes as a number. -/
def num4 (F : Nat → Nat) (q : Nat) : Nat := F q * 16777216 + F (q + 1) * 65536 + F (q + 2) * 256 + F (q + 3)
/-- A number's bytes, the highest first: byte k of m. -/
def byteAt (x m k : Nat) : Nat := x / 256 ^ (m - 1 - k) % 256
theorem byteAt_lt (x m k : Nat) : byteAt x m k < 256 := Nat.mod_lt _ (by decide)
theorem byte4 (x : Nat) (h : x < 4294967296) : byteAt x 4 0 * 16777216 + byteAt x 4 1 * 65536 + byteAt x 4 2 * 256 + byteAt x 4 3 = x := by
  unfold byteAt
  simp only [show (4 - 1 - 0 : Nat) = 3 from rfl, show (4 - 1 - 1 : Nat) = 2 from rfl, show (4 - 1 - 2 : Nat) = 1 from rfl, show (4 - 1 - 3 : Nat) = 0 from rfl, show (256 ^ 3 : Nat) = 16777216 from rfl, show (256 ^ 2 : Nat) = 65536 from rfl, show (256 ^ 1 : Nat) = 256 from rfl, show (256 ^ 0 : Nat) = 1 from rfl]
  omega
theorem byte2 (x : Nat) (h : x < 65536) : byteAt x 2 0 * 256 + byteAt x 2 1 = x := by
  unfold byteAt
  simp only [show (2 - 1 - 0 : Nat) = 1 from rfl, show (2 - 1 - 1 : Nat) = 0 from rfl, show (256 ^ 1 : Nat) = 256 from rfl, show (256 ^ 0 : Nat) = 1 from rfl]
  omega
theorem byte1 (x : Nat) (h : x < 256) : byteAt x 1 0 = x := by
  unfold byteAt
  simp only [show (1 - 1 - 0 : Nat) = 0 from rfl, show (256 ^ 0 : Nat) = 1 from rfl]
  omega

/-- A block's bytes ahead of its sum. -/
def headF (kind n : Nat) (B : Nat → Nat) : Nat → Nat := fun j => if j = 0 then kind else if j = 1 then byteAt n 2 0 else if j = 2 then byteAt n 2 1 else if j < 3 + n then B (j - 3) else 0
/-- A block. -/
def sealF (kind n : Nat) (B : Nat → Nat) : Nat → Nat := fun j => if j < 156 then headF kind n B j else byteAt (sumF (headF kind n B) 156) 4 (j - 156)
theorem headF_lt {kind n : Nat} {B : Nat → Nat} (hk : kind < 256) (hB : ∀ j, j < n → B j < 256) (j : Nat) : headF kind n B j < 256 := by
  unfold headF
  repeat' split
  · exact hk
  · exact byteAt_lt _ _ _
  · exact byteAt_lt _ _ _
  · exact hB _ (by omega)
  · decide
theorem sealF_lt {kind n : Nat} {B : Nat → Nat} (hk : kind < 256) (hB : ∀ j, j < n → B j < 256) (j : Nat) : sealF kind n B j < 256 := by
  unfold sealF
  split
  · exact headF_lt hk hB j
  · exact byteAt_lt _ _ _
theorem sealF_head {kind n : Nat} {B : Nat → Nat} {j : Nat} (h : j < 156) : sealF kind n B j = headF kind n B j := if_pos h
theorem sealF_sum (kind n : Nat) (B : Nat → Nat) : sumF (sealF kind n B) 156 = sumF (headF kind n B) 156 := sumF_congr (fun _ h => sealF_head h)
theorem sealF_num (kind n : Nat) (B : Nat → Nat) : num4 (sealF kind n B) 156 = sumF (sealF kind n B) 156 := by
  rw [sealF_sum]
  unfold num4 sealF
  simp only [show ¬ (156 : Nat) < 156 by decide, show ¬ (156 + 1 : Nat) < 156 by decide, show ¬ (156 + 2 : Nat) < 156 by decide, show ¬ (156 + 3 : Nat) < 156 by decide, if_false]
  exact byte4 _ (by have := sumF_lt (headF kind n B) 156; omega)
theorem sealF_0 (kind n : Nat) (B : Nat → Nat) : sealF kind n B 0 = kind := rfl
theorem sealF_12 {kind n : Nat} (B : Nat → Nat) (hn : n < 65536) : sealF kind n B 1 * 256 + sealF kind n B 2 = n := byte2 n hn
theorem sealF_body {kind n : Nat} {B : Nat → Nat} (hn : n ≤ 153) {j : Nat} (hj : j < n) : sealF kind n B (3 + j) = B j := by
  rw [sealF_head (by omega)]
  unfold headF
  rw [if_neg (by omega), if_neg (by omega), if_neg (by omega), if_pos (by omega), Nat.add_sub_cancel_left]
theorem headF_congr {kind n : Nat} {B C : Nat → Nat} (h : ∀ j, j < n → B j = C j) (j : Nat) : headF kind n B j = headF kind n C j := by
  unfold headF
  split
  · rfl
  · split
    · rfl
    · split
      · rfl
      · split
        · exact h _ (by omega)
        · rfl
theorem sealF_congr {kind n : Nat} {B C : Nat → Nat} (h : ∀ j, j < n → B j = C j) (j : Nat) : sealF kind n B j = sealF kind n C j := by
  unfold sealF
  rw [headF_congr h j, sumF_congr (fun k _ => headF_congr h k)]
theorem sealF_inj {k1 k2 n1 n2 : Nat} {B C : Nat → Nat} (h1 : n1 ≤ 153) (h2 : n2 ≤ 153) (h : ∀ j, j < 160 → sealF k1 n1 B j = sealF k2 n2 C j) : k1 = k2 ∧ n1 = n2 ∧ ∀ j, j < n1 → B j = C j := by
  have e0 := h 0 (by omega)
  rw [sealF_0, sealF_0] at e0
  have e1 := sealF_12 (kind := k1) B (show n1 < 65536 by omega)
  have e2 := sealF_12 (kind := k2) C (show n2 < 65536 by omega)
  rw [h 1 (by omega), h 2 (by omega), e2] at e1
  subst e1
  exact ⟨e0, rfl, fun j hj => by
    have := h (3 + j) (by omega)
    rwa [sealF_body h2 hj, sealF_body h2 hj] at this⟩

/-- Is a block what Seal makes of its kind and body? -/
def OpenOk (F : Nat → Nat) : Prop := 1 ≤ F 0 ∧ F 1 * 256 + F 2 ≤ 153 ∧ ∀ j, j < 160 → sealF (F 0) (F 1 * 256 + F 2) (fun k => F (3 + k)) j = F j
theorem openOk_seal {kind n : Nat} {B F : Nat → Nat} (hk : 1 ≤ kind) (hn : n ≤ 153) (h : ∀ j, j < 160 → F j = sealF kind n B j) : OpenOk F ∧ num4 F 156 = sumF F 156 ∧ F 0 = kind ∧ F 1 * 256 + F 2 = n ∧ ∀ j, j < n → F (3 + j) = B j := by
  have e0 : F 0 = kind := (h 0 (by omega)).trans (sealF_0 _ _ _)
  have e1 : F 1 * 256 + F 2 = n := by rw [h 1 (by omega), h 2 (by omega)]; exact sealF_12 B (by omega)
  have e2 : ∀ j, j < n → F (3 + j) = B j := fun j hj => by rw [h (3 + j) (by omega)]; exact sealF_body hn hj
  refine ⟨⟨by omega, by omega, fun j hj => ?_⟩, ?_, e0, e1, e2⟩
  · rw [e0, e1, h j hj]
    exact sealF_congr e2 j
  · rw [sumF_congr (fun j hj => h j (by omega)), ← sealF_num]
    unfold num4
    rw [h 156 (by omega), h (156 + 1) (by omega), h (156 + 2) (by omega), h (156 + 3) (by omega)]
/-- One byte of a block turned: the sum is another one. -/
theorem turn_mark {kind n p y : Nat} {B : Nat → Nat} (hk : kind < 256) (hB : ∀ j, j < n → B j < 256) (hp : p < 160) (hy : y < 256) (h0 : y ≠ 0) :
    num4 (fun j => if j = p then sealF kind n B p ^^^ y else sealF kind n B j) 156 ≠ sumF (fun j => if j = p then sealF kind n B p ^^^ y else sealF kind n B j) 156 := by
  have hn := sealF_num kind n B
  have hl := sealF_lt hk hB
  have hx : sealF kind n B p ^^^ y ≠ sealF kind n B p := fun e => h0 (by
    have : sealF kind n B p ^^^ (sealF kind n B p ^^^ y) = 0 := by rw [e, Nat.xor_self]
    rwa [← Nat.xor_assoc, Nat.xor_self, Nat.zero_xor] at this)
  have hxl := xor_lt (hl p) hy
  generalize sealF kind n B = S at *
  generalize S p ^^^ y = z at *
  by_cases h : p < 156
  · have h1 := sumF_turn (F := S) (G := fun j => if j = p then z else S j) h (hl p) (by rw [if_pos rfl]; exact hxl) (by rw [if_pos rfl]; exact fun e => hx e.symm) (fun j _ e => by rw [if_neg e])
    intro e
    apply h1
    rw [← e, ← hn]
    unfold num4
    dsimp only
    rw [if_neg (by omega), if_neg (by omega), if_neg (by omega), if_neg (by omega)]
  · intro e
    rw [sumF_congr (G := S) (fun j hj => if_neg (by omega)), ← hn] at e
    unfold num4 at e
    dsimp only at e
    have l0 := hl 156
    have l1 := hl (156 + 1)
    have l2 := hl (156 + 2)
    have l3 := hl (156 + 3)
    have : p = 156 ∨ p = 156 + 1 ∨ p = 156 + 2 ∨ p = 156 + 3 := by omega
    rcases this with rfl | rfl | rfl | rfl
    · rw [if_pos rfl, if_neg (by omega), if_neg (by omega), if_neg (by omega)] at e; omega
    · rw [if_neg (by omega), if_pos rfl, if_neg (by omega), if_neg (by omega)] at e; omega
    · rw [if_neg (by omega), if_neg (by omega), if_pos rfl, if_neg (by omega)] at e; omega
    · rw [if_neg (by omega), if_neg (by omega), if_neg (by omega), if_pos rfl] at e; omega
attribute [irreducible] headF sealF byteAt num4
end Go.Proofs.YtjgbfghkiahfaaaGreatDoor
