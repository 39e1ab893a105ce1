import Derived.Test.YtoofgcdilgfclaaU04
import Derived.Test.YtoofgcdilgfclaaU08
namespace Go.Proofs.Ytoofgcdilgfclaa
open Go.RowKit Go.Sort
set_option maxRecDepth 100000
set_option maxHeartbeats 1000000

theorem own_ge' {w : World} {B n s : Nat} {v : Value} {t : TypeId} {xs : List Value} (h : w.ownsRow B t s v n xs) : ∀ k, v.ownBlock = some k → B ≤ k := by
  intro k hk
  rcases h.2 with ⟨rfl, _⟩ | ⟨g, cap', cur, rfl, hb, _⟩
  · simp [Value.ownBlock] at hk
  · simp [Value.ownBlock] at hk; omega
theorem own_some' {w : World} {B k s : Nat} {v : Value} {t : TypeId} {xs : List Value} (h : w.ownsRow B t s v (k + 1) xs) : v ≠ .slice none 0 0 := by
  rcases h.2 with ⟨_, h0⟩ | ⟨g, cap', cur, rfl, _⟩
  · omega
  · intro e; cases e
/-- corbelref7.Big. -/
theorem rbig (x m : Nat) (s : Int) (hs : s = (m : Int)) (w : World) (h1 : 1 ≤ m) (hm : m ≤ 7) : Calls Try.prog 43 #[.int .i64 (x : Int), .int .i64 s] w (FewRet m (byteAt x m) w) := by
  subst hs
  obtain ⟨H, hH⟩ : ∃ H, w.heap.size = H := ⟨_, rfl⟩
  have HH := Lib.hid hH
  clear hH
  go_enter Try.func43, Try.ntmps43
  go_wp2_with fail
  go_loopg [5, 6] m (fun q s5 s6 v => ∃ k : Nat, s6 = .int .i64 ((m : Int) - 1 - (k : Int)) ∧ k ≤ m ∧ q = m - k ∧ Hid (v.ownsRow H 5 1 s5 k (rowL k (byteAt x m)) ∧ Below H w v ∧ (0 < k → s5 ≠ .slice none 0 0)))
  case atStart => exact ⟨0, by simp, by omega, rfl, Lib.hid ⟨⟨rfl, Or.inl ⟨rfl, rfl⟩⟩, by rw [← HH.out]; exact Below.refl _ _, fun h => absurd h (by omega)⟩⟩
  case round =>
    obtain ⟨k, rfl, hk, rfl, HV⟩ := hrel
    by_cases hlt : k < m
    · obtain ⟨r, hr⟩ : ∃ r, r = m - 1 - k := ⟨_, rfl⟩
      have er : (m : Int) - 1 - (k : Int) = (r : Int) := by omega
      have r7 : r < 7 := by omega
      have HE := Lib.hid (shr_byte x m r (by omega))
      rw [show m - 1 - r = k by omega] at HE
      rw [er]
      have HER := Lib.hid er
      have r0 : (0 : Int) ≤ (r : Int) := by omega
      have b1 : Below wr.heap.size wr (wr.alloc (.cells #[.int .u8 ((x : Int) / 2 ^ (8 * r) % 256)] 5)) := (Below.refl _ _).alloc (Nat.le_refl _) _
      have HO := Lib.hid (own_keep HV.out.1 b1)
      have HR : Hid (Rd (wr.alloc (.cells #[.int .u8 ((x : Int) / 2 ^ (8 * r) % 256)] 5)) (some ⟨wr.heap.size, 0, none⟩) 1 (fun _ => byteAt x m k)) := Lib.hid (by rw [HE.out]; exact lit_rd (by omega) rfl)
      have HB : Hid (Below H w (wr.alloc (.cells #[.int .u8 ((x : Int) / 2 ^ (8 * r) % 256)] 5))) := Lib.hid (HV.out.2.1.trans (b1.mono (by rw [← HH.out]; exact HV.out.2.1.size)))
      have HZ : Hid (H ≤ (wr.alloc (.cells #[.int .u8 ((x : Int) / 2 ^ (8 * r) % 256)] 5)).heap.size) := Lib.hid (by rw [← HH.out]; exact HB.out.size)
      have hk7 : k ≤ 7 := by omega
      clear hr er b1
      go_wp2_with (at_builtin; refine append_rd _ rfl (.tmp 13) (.tmp 20) 22 rfl Try.underlying22 H u5 k (byteAt x m) rfl HO.out (some ⟨wr.heap.size, 0, none⟩) 1 1 (fun _ => byteAt x m k) rfl HR.out (by omega) HZ.out ?_; intro v' w' own gr _ hne; have HO' := Lib.hid own; have HG' := Lib.hid gr; have HN' := Lib.hid hne; clear own gr hne)
      go_roundg (m - (k + 1))
      case measure => omega
      case rel => exact ⟨k + 1, by rw [← HER.out]; go_num, by omega, rfl, Lib.hid ⟨own_congr HO'.out (fun j hj => by
        by_cases e : j < k
        · rw [if_pos e]
        · rw [if_neg e, show j = k by omega]), Below.grown HB.out HG'.out HZ.out (own_ge' HV.out.1), fun _ => (own_some' HO'.out)⟩⟩
    · obtain rfl : k = m := by omega
      have hneg : ¬ (0 : Int) ≤ (k : Int) - 1 - (k : Int) := by omega
      go_wp2_with fail
      go_ret
      obtain ⟨g, c, rfl, hg, hgl, hc⟩ := own_some HV.out.1 (HV.out.2.2 (by omega))
      exact ⟨g, c, rfl, by rw [HH.out]; exact HV.out.1, by rw [HH.out]; exact HV.out.2.1, by rw [HH.out]; exact hg, hgl, hc⟩
/-- corbelref7.From. -/
theorem rfrom (A : Option Addr) (n cap : Nat) (F : Nat → Nat) (w : World) (h : Rd w A n F) (hF : ∀ j, j < n → F j < 256) (hn : n ≤ 7) :
    Calls Try.prog 44 #[.slice A n cap] w fun e w' => e = .returned (.int .i64 (numF F n : Nat)) ∧ w' = w := by
  have HR := Lib.hid h
  have HF := Lib.hid hF
  clear h hF
  go_enter Try.func44, Try.ntmps44
  go_wp2_with fail
  go_loopg [3, 4] n (fun q s3 s4 v => ∃ k : Nat, s3 = .int .i64 (numF F k : Nat) ∧ s4 = .int .i64 (k : Int) ∧ k ≤ n ∧ q = n - k ∧ v = w)
  case atStart => exact ⟨0, by unfold numF; rfl, rfl, by omega, rfl, rfl⟩
  case round =>
    obtain ⟨k, rfl, rfl, hk, rfl, rfl⟩ := hrel
    by_cases hlt : k < n
    · have hl : (k : Int) < (n : Int) := by omega
      obtain ⟨g, q, rfl, hg, c1⟩ := HR.out.at hlt
      have HS := Lib.hid (numF_succ F k)
      have hx := HF.out k hlt
      have hs : numF F k < 281474976710656 := by
        have h1 := numF_lt (k := k) (fun j hj => HF.out j (by omega))
        have h2 : (256 : Nat) ^ k ≤ 256 ^ 6 := Nat.pow_le_pow_right (by decide) (by omega)
        omega
      generalize numF F k = s at *
      generalize F k = x at *
      have hor := bits_or_i64 s x (by omega) hx
      go_wp2_with fail
      go_roundg (n - (k + 1))
      case measure => omega
      case rel => exact ⟨k + 1, by rw [HS.out]; congr 1, by go_num, by omega, rfl, rfl⟩
    · obtain rfl : k = n := by omega
      go_wp2_with fail
      go_ret
      exact ⟨rfl, rfl⟩
end Go.Proofs.Ytoofgcdilgfclaa
namespace Go.Proofs.Ytoofgcdilgfclaa
open Go.RowKit Go.Sort
set_option maxRecDepth 100000
set_option maxHeartbeats 1000000

/-- corbelref3.Seal. -/
theorem own_ge8 {w : World} {B g n cap : Nat} {xs : List Value} (h : w.ownsRow B 5 1 (.slice (some ⟨g, 0, none⟩) n cap) n xs) : B ≤ g := by
  obtain ⟨g', cap', e, h1, _⟩ := own_some h (by simp)
  cases e
  exact h1
def RSealRetB (kind n : Nat) (B : Nat → Nat) (w : World) (e : Ending) (w' : World) : Prop :=
  ∃ g cap, e = .returned (.tuple #[.slice (some ⟨g, 0, none⟩) 160 cap, .bool true]) ∧ Blk8 w' g 160 (sealF kind n B) ∧ Below w.heap.size w w' ∧ 160 ≤ cap ∧ w.heap.size ≤ g
def RSealRet (kind n : Nat) (B : Nat → Nat) (w : World) (e : Ending) (w' : World) : Prop :=
  ∃ g cap, e = .returned (.tuple #[.slice (some ⟨g, 0, none⟩) 160 cap, .bool true]) ∧ Rd w' (some ⟨g, 0, none⟩) 160 (sealF kind n B) ∧ Below w.heap.size w w' ∧ 160 ≤ cap
theorem head_cat (kind n : Nat) (B : Nat → Nat) (X : Nat → Nat) (h0 : X 0 = kind) (h1 : X 1 = byteAt n 2 0) (h2 : X 2 = byteAt n 2 1) : ∀ j, j < 3 + n → (if j < 3 then X j else B (j - 3)) = headF kind n B j := by
  intro j hj
  unfold headF
  by_cases e0 : j = 0
  · subst e0; rw [if_pos (by omega), if_pos rfl, h0]
  · rw [if_neg e0]
    by_cases e1 : j = 1
    · subst e1; rw [if_pos (by omega), if_pos rfl, h1]
    · rw [if_neg e1]
      by_cases e2 : j = 2
      · subst e2; rw [if_pos (by omega), if_pos rfl, h2]
      · rw [if_neg e2, if_neg (by omega), if_pos hj]
theorem head_zero {kind n : Nat} (B : Nat → Nat) {m : Nat} (hm : 3 + n ≤ m) : headF kind n B m = 0 := by
  unfold headF
  rw [if_neg (by omega), if_neg (by omega), if_neg (by omega), if_neg (by omega)]
theorem byte4_lit (S : Nat) (h : S < 4294967291) : (#[.int .u8 ((S : Int) / 16777216), .int .u8 ((S : Int) / 65536 % 256), .int .u8 ((S : Int) / 256 % 256), .int .u8 ((S : Int) % 256)] : Array Value).toList = rowL 4 (byteAt S 4) := by
  show _ = [Value.int .u8 ((byteAt S 4 0 : Nat) : Int), Value.int .u8 ((byteAt S 4 1 : Nat) : Int), Value.int .u8 ((byteAt S 4 2 : Nat) : Int), Value.int .u8 ((byteAt S 4 3 : Nat) : Int)]
  have e0 : byteAt S 4 0 = S / 16777216 := by unfold byteAt; show S / 16777216 % 256 = _; omega
  have e1 : byteAt S 4 1 = S / 65536 % 256 := by unfold byteAt; rfl
  have e2 : byteAt S 4 2 = S / 256 % 256 := by unfold byteAt; rfl
  have e3 : byteAt S 4 3 = S % 256 := by unfold byteAt; show S / 1 % 256 = _; omega
  rw [e0, e1, e2, e3]
  rfl
end Go.Proofs.Ytoofgcdilgfclaa
