import Derived.Test.YtajpnbmfeapmcaaM4
namespace Go.Proofs.Ytajpnbmfeapmcaa

/-- By what a stripe's four parts are multiplied in each of the six chunks. -/
def gr : Mx := fun i j => if i < 4 then one i j else if i = 4 then 1 else pw j
theorem gr_bd (r c : Nat) : Bd r c gr := fun i _ j _ => by
  unfold gr
  split
  · unfold one; split <;> decide
  · split
    · decide
    · exact pw_lt _
theorem pw1 : pw 1 = 2 := by kernel_rfl
theorem pw2 : pw 2 = 4 := by kernel_rfl
theorem pw3 : pw 3 = 8 := by kernel_rfl

/-- Four places of six. -/
def sel (a b c d : Nat) : Nat → Nat := fun i => if i = 0 then a else if i = 1 then b else if i = 2 then c else d
def four (a b c d : Nat) : Mx := fun i j => gr (sel a b c d i) j
theorem check_four : all 6 (fun a => all 6 (fun b => all 6 (fun c => all 6 (fun d => (!(Nat.blt a b && Nat.blt b c && Nat.blt c d)) || !(Nat.beq (det 4 (four a b c d)) 0))))) = true := by kernel_rfl
theorem four_det {a b c d : Nat} (h1 : a < b) (h2 : b < c) (h3 : c < d) (h4 : d < 6) : det 4 (four a b c d) ≠ 0 := by
  have h := all_of (all_of (all_of (all_of check_four a (by omega)) b (by omega)) c (by omega)) d h4
  have e1 : Nat.blt a b = true := by simpa using h1
  have e2 : Nat.blt b c = true := by simpa using h2
  have e3 : Nat.blt c d = true := by simpa using h3
  rw [e1, e2, e3] at h
  intro e
  rw [e] at h
  exact absurd h (by decide)
theorem four_bd (a b c d n m : Nat) : Bd n m (four a b c d) := fun i _ j hj => gr_bd (sel a b c d i + 1) m _ (Nat.lt_succ_self _) j hj

/-- A stripe's chunks. -/
def enc (D : Mx) : Mx := mm 4 gr D
theorem enc_bd (r c : Nat) (D : Mx) : Bd r c (enc D) := mm_bd _ _ _ _ _
/-- Four chunks of a stripe, wherever they stand, lead back. -/
theorem code_back {a b c d n : Nat} {D X H : Mx} (hD : Bd 4 n D) (hX : Inv 4 (four a b c d) X) (hH : EqM 4 n H (fun i k => enc D (sel a b c d i) k)) : EqM 4 n (mm 4 X H) D := by
  have e1 : EqM 4 n H (mm 4 (four a b c d) D) := hH
  have e2 : EqM 4 n (mm 4 X H) (mm 4 X (mm 4 (four a b c d) D)) := mm_congr (EqM.refl _ _ _) e1
  have e3 : EqM 4 n (mm 4 X (mm 4 (four a b c d) D)) (mm 4 (mm 4 X (four a b c d)) D) := (mm_assoc hX.bx (four_bd a b c d 4 4) hD).symm
  exact ((e2.trans e3).trans (mm_congr hX.left (EqM.refl _ _ _))).trans (one_mm hD)
/-- And are the chunks of what they lead to. -/
theorem code_forth {a b c d n : Nat} {X H : Mx} (hH : Bd 4 n H) (hX : Inv 4 (four a b c d) X) : EqM 4 n (fun i k => enc (mm 4 X H) (sel a b c d i) k) H := by
  have e1 : EqM 4 n (mm 4 (four a b c d) (mm 4 X H)) (mm 4 (mm 4 (four a b c d) X) H) := (mm_assoc (four_bd a b c d 4 4) hX.bx hH).symm
  exact (e1.trans (mm_congr hX.right (EqM.refl _ _ _))).trans (one_mm hH)
/-- A stripe of which four chunks are nothing is nothing. -/
theorem code_zero {a b c d n : Nat} {D : Mx} (h1 : a < b) (h2 : b < c) (h3 : c < d) (h4 : d < 6) (hD : Bd 4 n D) (h : ∀ i, i < 4 → ∀ k, k < n → enc D (sel a b c d i) k = 0) : ∀ j, j < 4 → ∀ k, k < n → D j k = 0 := by
  intro j hj k hk
  by_cases e : D j k = 0
  · exact e
  · exact absurd (det_sing (four_bd a b c d 4 4) ⟨fun j => D j k, fun j hj => hD j hj k hk, ⟨j, hj, e⟩, fun i hi => h i hi k hk⟩) (four_det h1 h2 h3 h4)
/-- The chunks of a sum. -/
theorem enc_add {D E : Mx} {n : Nat} (hD : Bd 4 n D) (hE : Bd 4 n E) (i k : Nat) (hk : k < n) (hi : i < 6) : enc (fun j k => D j k ^^^ E j k) i k = enc D i k ^^^ enc E i k := by
  show sx 4 (fun j => mul (gr i j) (D j k ^^^ E j k)) = _
  have h : ∀ j, j < 4 → mul (gr i j) (D j k ^^^ E j k) = mul (gr i j) (D j k) ^^^ mul (gr i j) (E j k) := fun j hj => mul_xor (gr_bd 6 4 i hi j hj) (hD j hj k hk) (hE j hj k hk)
  rw [sx_congr h]
  exact sx_xor 4 _ _
theorem enc_nothing (i k : Nat) : enc (fun _ _ => 0) i k = 0 := by
  show sx 4 (fun j => mul (gr i j) 0) = 0
  exact sx_none (fun j _ => mul_zero _)
/-- The first four chunks are the parts. -/
theorem enc_part {D : Mx} {n : Nat} (hD : Bd 4 n D) {i k : Nat} (hi : i < 4) (hk : k < n) : enc D i k = D i k := by
  show sx 4 (fun j => mul (gr i j) (D j k)) = _
  rw [sx_one (c := i) hi (fun j hj hne => by
    have : gr i j = 0 := by unfold gr one; rw [if_pos hi, if_neg (fun e => hne e.symm)]
    rw [this, zero_mul])]
  have : gr i i = 1 := by unfold gr one; rw [if_pos hi, if_pos rfl]
  rw [this, mul_comm, mul_one (hD i hi k hk)]
/-- Where one part is turned. -/
theorem enc_turn {D E : Mx} {n p : Nat} (hp : p < 4) (hD : Bd 4 n D) (hE : Bd 4 n E) (hs : ∀ j, j < 4 → j ≠ p → ∀ k, k < n → E j k = D j k) {i k : Nat} (hi : i < 6) (hk : k < n) :
    enc E i k = enc D i k ^^^ mul (gr i p) (D p k ^^^ E p k) := by
  have e : EqM 4 n E (fun j k => D j k ^^^ (if j = p then D p k ^^^ E p k else 0)) := fun j hj k hk => by
    dsimp only
    by_cases h : j = p
    · subst h; rw [if_pos rfl, ← Nat.xor_assoc, Nat.xor_self, Nat.zero_xor]
    · rw [if_neg h, Nat.xor_zero]; exact hs j hj h k hk
  have hF : Bd 4 n (fun j k => if j = p then D p k ^^^ E p k else 0) := fun j _ k hk => by
    dsimp only
    split
    · exact xor_lt (hD p hp k hk) (hE p hp k hk)
    · decide
  have e1 : enc E i k = enc (fun j k => D j k ^^^ (if j = p then D p k ^^^ E p k else 0)) i k := by
    show sx 4 (fun j => mul (gr i j) (E j k)) = sx 4 (fun j => mul (gr i j) (D j k ^^^ if j = p then D p k ^^^ E p k else 0))
    exact sx_congr (fun j hj => by rw [e j hj k hk])
  rw [e1, enc_add hD hF i k hk hi]
  congr 1
  show sx 4 (fun j => mul (gr i j) (if j = p then D p k ^^^ E p k else 0)) = _
  rw [sx_one (c := p) hp (fun j _ hne => by rw [if_neg hne, mul_zero]), if_pos rfl]
/-- Six chunks that are a stripe's: no other one differs in one chunk alone. -/
theorem code_one {D E : Mx} {n p : Nat} (_hp : p < 6) (hD : Bd 4 n D) (hE : Bd 4 n E) (h : ∀ i, i < 6 → i ≠ p → ∀ k, k < n → enc D i k = enc E i k) : EqM 4 n D E := by
  have hx : Bd 4 n (fun j k => D j k ^^^ E j k) := fun j hj k hk => xor_lt (hD j hj k hk) (hE j hj k hk)
  have hz : ∀ i, i < 6 → i ≠ p → ∀ k, k < n → enc (fun j k => D j k ^^^ E j k) i k = 0 := fun i hi hne k hk => by rw [enc_add hD hE i k hk hi, h i hi hne k hk, Nat.xor_self]
  have key : ∀ a b c d, a < b → b < c → c < d → d < 6 → a ≠ p → b ≠ p → c ≠ p → d ≠ p → EqM 4 n D E := fun a b c d h1 h2 h3 h4 p1 p2 p3 p4 j hj k hk => by
    have h0 := code_zero h1 h2 h3 h4 hx (fun i hi k hk => by
      unfold sel
      split
      · exact hz a (by omega) p1 k hk
      · split
        · exact hz b (by omega) p2 k hk
        · split
          · exact hz c (by omega) p3 k hk
          · exact hz d h4 p4 k hk) j hj k hk
    have h0' : D j k ^^^ E j k = 0 := h0
    have h5 : (D j k ^^^ E j k) ^^^ E j k = E j k := by rw [h0', Nat.zero_xor]
    rwa [Nat.xor_assoc, Nat.xor_self, Nat.xor_zero] at h5
  by_cases h0 : p = 0
  · exact key 1 2 3 4 (by omega) (by omega) (by omega) (by omega) (by omega) (by omega) (by omega) (by omega)
  by_cases h1 : p = 1
  · exact key 0 2 3 4 (by omega) (by omega) (by omega) (by omega) (by omega) (by omega) (by omega) (by omega)
  by_cases h2 : p = 2
  · exact key 0 1 3 4 (by omega) (by omega) (by omega) (by omega) (by omega) (by omega) (by omega) (by omega)
  by_cases h3 : p = 3
  · exact key 0 1 2 4 (by omega) (by omega) (by omega) (by omega) (by omega) (by omega) (by omega) (by omega)
  · exact key 0 1 2 3 (by omega) (by omega) (by omega) (by omega) (by omega) (by omega) (by omega) (by omega)
end Go.Proofs.Ytajpnbmfeapmcaa
