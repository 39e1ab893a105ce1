import Derived.Test.YtcenpoefcaommaaA2
namespace Go.Proofs.Ytcenpoefcaommaa
open Go.RowKit Go.Sort
set_option maxRecDepth 100000
set_option maxHeartbeats 1000000

/-- mark.Sum. -/
theorem msum (A : Option Addr) (n cap : Nat) (F : Nat → Nat) (w : World) (h : Rd w A n F) (hF : ∀ j, j < n → F j < 256) (hn : n ≤ 9223372036854775807) :
    Calls Try.prog 16 #[.slice A n cap] w fun e w' => e = .returned (.int .i64 (sumF F n : Nat)) ∧ w' = w := by
  have HR := Lib.hid h
  have HF := Lib.hid hF
  clear h hF
  go_enter Try.func16, Try.ntmps16
  go_wp2_with fail
  go_loopg [3, 8] n (fun q s3 s8 v => ∃ k : Nat, s3 = .int .i64 (sumF F k : Nat) ∧ s8 = .int .i64 (k : Int) ∧ k ≤ n ∧ q = n - k ∧ v = w)
  case atStart => exact ⟨0, by rw [sumF_zero]; rfl, rfl, by omega, rfl, rfl⟩
  case round =>
    obtain ⟨k, rfl, rfl, hk, rfl, rfl⟩ := hrel
    have hs := sumF_lt F k
    by_cases hlt : k < n
    · have hl : (k : Int) < (n : Int) := by omega
      obtain ⟨g, q, rfl, hg, c1⟩ := HR.out.at hlt
      have HS := Lib.hid (sumF_succ F k)
      have hx := HF.out k hlt
      have hsq := sq_lt hx
      generalize sumF F k = s at *
      generalize F k = x at *
      have e1 : ((x : Int) * (x : Int)) = ((x * x : Nat) : Int) := by push_cast; rfl
      have HE := Lib.hid e1
      have b1 : (x : Int) * (x : Int) ≤ 65025 := by rw [e1]; omega
      have b2 : 0 ≤ (x : Int) * (x : Int) := by rw [e1]; omega
      clear e1
      go_wp2_with fail
      go_roundg (n - (k + 1))
      case measure => omega
      case rel => exact ⟨k + 1, by rw [HS.out, HE.out]; congr 1, by go_num, by omega, rfl, rfl⟩
    · obtain rfl : k = n := by omega
      go_wp2_with fail
      go_ret
      exact ⟨rfl, rfl⟩

/-- Highest byte first. -/
def numF (F : Nat → Nat) : Nat → Nat
  | 0 => 0
  | k + 1 => numF F k * 256 + F k
theorem numF_succ (F : Nat → Nat) (k : Nat) : numF F (k + 1) = numF F k * 256 + F k := rfl
theorem numF_lt {F : Nat → Nat} : ∀ {k : Nat}, (∀ j, j < k → F j < 256) → numF F k < 256 ^ k
  | 0, _ => (by unfold numF; exact Nat.one_pos)
  | k + 1, h => by
    have h1 := numF_lt (k := k) (fun j hj => h j (by omega))
    have h2 := h k (by omega)
    rw [numF_succ, Nat.pow_succ]
    omega
theorem numF_1 (F : Nat → Nat) : numF F 1 = F 0 := by show 0 * 256 + F 0 = F 0; omega
theorem numF_2 (F : Nat → Nat) : numF F 2 = F 0 * 256 + F 1 := by show (0 * 256 + F 0) * 256 + F 1 = _; omega
theorem numF_4 (F : Nat → Nat) : numF F 4 = F 0 * 16777216 + F 1 * 65536 + F 2 * 256 + F 3 := by show (((0 * 256 + F 0) * 256 + F 1) * 256 + F 2) * 256 + F 3 = _; omega
attribute [irreducible] numF

/-- mark.number. -/
theorem mnumber (A : Option Addr) (n cap : Nat) (F : Nat → Nat) (w : World) (h : Rd w A n F) (hF : ∀ j, j < n → F j < 256) (hn : n ≤ 4) :
    Calls Try.prog 19 #[.slice A n cap] w fun e w' => e = .returned (.int .i64 (numF F n : Nat)) ∧ w' = w := by
  have HR := Lib.hid h
  have HF := Lib.hid hF
  clear h hF
  go_enter Try.func19, Try.ntmps19
  go_wp2_with fail
  go_loopg [3, 8] n (fun q s3 s8 v => ∃ k : Nat, s3 = .int .i64 (numF F k : Nat) ∧ s8 = .int .i64 (k : Int) ∧ k ≤ n ∧ q = n - k ∧ v = w)
  case atStart => exact ⟨0, by unfold numF; rfl, rfl, by omega, rfl, rfl⟩
  case round =>
    obtain ⟨k, rfl, rfl, hk, rfl, rfl⟩ := hrel
    by_cases hlt : k < n
    · have hl : (k : Int) < (n : Int) := by omega
      obtain ⟨g, q, rfl, hg, c1⟩ := HR.out.at hlt
      have HS := Lib.hid (numF_succ F k)
      have hx := HF.out k hlt
      have hs : numF F k < 16777216 := by
        have h1 := numF_lt (k := k) (fun j hj => HF.out j (by omega))
        have h2 : (256 : Nat) ^ k ≤ 256 ^ 3 := Nat.pow_le_pow_right (by decide) (by omega)
        omega
      generalize numF F k = s at *
      generalize F k = x at *
      have hor := bits_or_i64 s x (by omega) hx
      go_wp2_with fail
      go_roundg (n - (k + 1))
      case measure => omega
      case rel => exact ⟨k + 1, by rw [HS.out]; congr 1, by go_num, by omega, rfl, rfl⟩
    · obtain rfl : k = n := by omega
      go_wp2_with fail
      go_ret
      exact ⟨rfl, rfl⟩

theorem shr_byte (x m k : Nat) (hk : k < m) : (x : Int) / 2 ^ (8 * k) % 256 = ((byteAt x m (m - 1 - k) : Nat) : Int) := by
  unfold byteAt
  rw [show m - 1 - (m - 1 - k) = k by omega, show (256 : Nat) = 2 ^ 8 from rfl, ← Nat.pow_mul]
  push_cast
  rfl
/-- mark.putNumber: some of a row's bytes are a number's. -/
def putF (F : Nat → Nat) (q m x : Nat) : Nat → Nat := fun j => if q ≤ j ∧ j < q + m then byteAt x m (j - q) else F j
theorem mput (g q m cap N x : Nat) (F G : Nat → Nat) (w : World) (h : Blk8 w g N F) (hq : q + m ≤ N) (hm : m ≤ 4) (hG : ∀ j, j < N → putF F q m x j = G j) :
    Calls Try.prog 18 #[.slice (some ⟨g, q, none⟩) m cap, .int .i64 (x : Int)] w fun e w' => e = .returned (.tuple #[]) ∧ Blk8 w' g N G ∧ w.grownBy w' (some g) := by
  have HR := Lib.hid h
  have hG := Lib.hid hG
  clear h
  go_enter Try.func18, Try.ntmps18
  go_wp2_with fail
  go_loopg [4, 7] m (fun q' s4 s7 v => ∃ k : Nat, s7 = .int .i64 (k : Int) ∧ k ≤ m ∧ q' = m - k ∧ Hid (Blk8 v g N (fun j => if q + m - k ≤ j ∧ j < q + m then byteAt x m (j - q) else F j) ∧ w.grownBy v (some g)))
  case atStart => exact ⟨0, rfl, by omega, rfl, Lib.hid ⟨HR.out.congr (fun j _ => by rw [if_neg (by omega)]), only_refl _ _⟩⟩
  case round =>
    obtain ⟨k, rfl, hk, rfl, HV⟩ := hrel
    by_cases hlt : k < m
    · have hl : (k : Int) < (m : Int) := by omega
      have HE := Lib.hid (shr_byte x m k hlt)
      have c1 := HV.out.1.row8.cell (q + (m - 1 - k)) (by omega)
      have f1 := HV.out.1.row8.free (q + (m - 1 - k))
      go_wp2_with fail
      go_roundg (m - (k + 1))
      case measure => omega
      case rel => exact ⟨k + 1, by go_num, by omega, rfl, Lib.hid ⟨by
        rw [HE.out]
        refine (HV.out.1.put (q := q + (m - 1 - k)) (x := byteAt x m (m - 1 - k)) (by omega)).congr (fun j _ => ?_)
        by_cases e : j = q + (m - 1 - k)
        · subst e; rw [if_pos rfl, if_pos (by omega), Nat.add_sub_cancel_left]
        · rw [if_neg e]
          by_cases h : q + m - k ≤ j ∧ j < q + m
          · rw [if_pos h, if_pos (by omega)]
          · rw [if_neg h, if_neg (by omega)], only_setCell HV.out.2 _ _⟩⟩
    · obtain rfl : k = m := by omega
      go_wp2_with fail
      go_end0
      exact ⟨rfl, HV.out.1.congr (fun j hj => by
        rw [← hG.out j hj]
        unfold putF
        by_cases h : q ≤ j ∧ j < q + k
        · rw [if_pos h, if_pos (by omega)]
        · rw [if_neg h, if_neg (by omega)]), HV.out.2⟩
end Go.Proofs.Ytcenpoefcaommaa
