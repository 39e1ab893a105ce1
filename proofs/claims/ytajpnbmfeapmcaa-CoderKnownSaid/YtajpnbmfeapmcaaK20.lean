import Derived.Test.YtajpnbmfeapmcaaK19
import Derived.Test.YtajpnbmfeapmcaaCl
namespace Go.Proofs.Ytajpnbmfeapmcaa
open Go.RowKit Go.Sort
set_option maxRecDepth 100000
set_option maxHeartbeats 4000000

/-- Pick, as a number of places. -/
theorem rpickN (a : Int) (m : Nat) (hm : 1 ≤ m) (hm2 : m ≤ 1000) : ∃ i : Nat, i < m ∧ (a % (m : Int)) = (i : Int) ∧ ∀ w, Calls Try.prog 19 #[.int .i64 a, .int .i64 (m : Int)] w fun e w' => e = .returned (.int .i64 (i : Int)) ∧ w = w' := by
  have h0 := Int.emod_nonneg a (show (m : Int) ≠ 0 by omega)
  have h1 := Int.emod_lt_of_pos a (show (0 : Int) < (m : Int) by omega)
  refine ⟨(a % (m : Int)).toNat, by omega, by omega, fun w => ?_⟩
  refine (rpick a m (by omega) (by omega) w).mono ?_
  rintro e w' ⟨rfl, rfl⟩
  rw [Int.toNat_of_nonneg (by omega)]
  exact ⟨rfl, rfl⟩
theorem cdecodeK {w : World} (c f o cap0 b cap : Nat) (keep : Nat → Bool) (D : Mx) (S : Nat → Nat) (hc : Cdr w c f o cap0) (h : RawIn w (some ⟨b, 0, none⟩) (someRows keep (enc D))) (hD : Bd 4 32 D) (hk : (((List.range 6).filter keep).take 4).length = 4) (hS : ∀ t, t < 128 → flat D t = S t) :
    Calls Try.prog 13 #[.pointer (some ⟨c, 0, none⟩), .slice (some ⟨b, 0, none⟩) 6 cap] w fun e w' => ∃ g cap', e = .returned (.tuple #[.slice (some ⟨g, 0, none⟩) 128 cap', .bool true]) ∧ Hid (Below w.heap.size w w' ∧ Row8 w' g 128 S ∧ 128 ≤ cap') :=
  cdecodeG c f o cap0 (some ⟨b, 0, none⟩) (someRows keep (enc D)) cap w hc h (someRows_len _ _) (someRows_bytes (enc_bd _ _ _)) (someRows_whole _ hk) S (fun t ht => (someRows_back hD hk t ht).trans (hS t ht))
theorem ccheckT {w : World} (c f o cap0 b cap : Nat) (D : Mx) (hc : Cdr w c f o cap0) (h : RawIn w (some ⟨b, 0, none⟩) (rowsOf 6 32 (enc D))) (hD : Bd 4 32 D) :
    Calls Try.prog 15 #[.pointer (some ⟨c, 0, none⟩), .slice (some ⟨b, 0, none⟩) 6 cap] w fun e w' => e = .returned (.bool true) ∧ Below w.heap.size w w' := by
  have h1 := ccheck c f o cap0 (some ⟨b, 0, none⟩) (rowsOf 6 32 (enc D)) cap w hc h (by rw [rowsOf_len]; omega) (rowsOf_bytes (enc_bd _ _ _)) true ⟨fun _ => check_enc hD, fun _ => rfl⟩
  rw [rowsOf_len] at h1
  exact h1
theorem two_lost : ∀ i, i < 6 → ∀ j, j < 6 → (((List.range 6).filter (fun k => !(k == i) && !(k == j))).take 4).length = 4 := by decide
end Go.Proofs.Ytajpnbmfeapmcaa
