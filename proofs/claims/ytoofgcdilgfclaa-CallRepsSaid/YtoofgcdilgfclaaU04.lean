import Derived.Test.YtoofgcdilgfclaaU03
namespace Go.Proofs.Ytoofgcdilgfclaa
set_option maxRecDepth 100000
set_option maxHeartbeats 1000000
/-! Chapter 8, said plainly: a piece's 40 bytes, and back. -/
theorem numF_4' (F : Nat → Nat) : numF F 4 = ((F 0 * 256 + F 1) * 256 + F 2) * 256 + F 3 := by rw [numF_4]; omega
theorem numF_6 (F : Nat → Nat) : numF F 6 = ((((F 0 * 256 + F 1) * 256 + F 2) * 256 + F 3) * 256 + F 4) * 256 + F 5 := by
  rw [numF_succ, numF_succ, ← numF_4']
theorem byte6 (x : Nat) (h : x < 281474976710656) : numF (byteAt x 6) 6 = x := by
  rw [numF_6]
  unfold byteAt
  simp only [Nat.reduceSub, Nat.reducePow]
  omega
theorem byteAt_numF {F : Nat → Nat} (hF : ∀ j, j < 6 → F j < 256) : ∀ j, j < 6 → byteAt (numF F 6) 6 j = F j := by
  have h0 := hF 0 (by omega)
  have h1 := hF 1 (by omega)
  have h2 := hF 2 (by omega)
  have h3 := hF 3 (by omega)
  have h4 := hF 4 (by omega)
  have h5 := hF 5 (by omega)
  rw [numF_6]
  intro j hj
  match j, hj with
  | 0, _ => unfold byteAt; simp only [Nat.reduceSub, Nat.reducePow]; omega
  | 1, _ => unfold byteAt; simp only [Nat.reduceSub, Nat.reducePow]; omega
  | 2, _ => unfold byteAt; simp only [Nat.reduceSub, Nat.reducePow]; omega
  | 3, _ => unfold byteAt; simp only [Nat.reduceSub, Nat.reducePow]; omega
  | 4, _ => unfold byteAt; simp only [Nat.reduceSub, Nat.reducePow]; omega
  | 5, _ => unfold byteAt; simp only [Nat.reduceSub, Nat.reducePow]; omega
/-- A piece, said plainly: its numbers, its data as a function. -/
structure Pc where
  s : Nat
  g : Nat
  i : Nat
  D : Nat → Nat
def Pc.Ok (p : Pc) : Prop := p.s < 40 ∧ 1 ≤ p.g ∧ p.g ≤ 1099511627776 ∧ p.i < 6 ∧ ∀ j, j < 32 → p.D j < 256
def pcF (p : Pc) : Nat → Nat := fun j => if j = 0 then p.s else if j < 7 then byteAt p.g 6 (j - 1) else if j = 7 then p.i else p.D (j - 8)
theorem pcF_lt {p : Pc} (h : p.Ok) : ∀ j, j < 40 → pcF p j < 256 := by
  obtain ⟨h1, h2, h3, h4, h5⟩ := h
  intro j hj
  unfold pcF
  split
  · omega
  · split
    · exact byteAt_lt _ _ _
    · split
      · omega
      · exact h5 _ (by omega)
/-- The piece that 40 bytes say. -/
def pcOf (B : Nat → Nat) : Pc := ⟨B 0, numF (fun j => B (1 + j)) 6, B 7, fun j => B (8 + j)⟩
theorem pcOf_pcF {p : Pc} (h : p.Ok) : (pcOf (pcF p)).s = p.s ∧ (pcOf (pcF p)).g = p.g ∧ (pcOf (pcF p)).i = p.i ∧ ∀ j, (pcOf (pcF p)).D j = p.D j := by
  obtain ⟨h1, h2, h3, h4, h5⟩ := h
  refine ⟨rfl, ?_, rfl, fun j => ?_⟩
  · show numF (fun j => pcF p (1 + j)) 6 = p.g
    have e : numF (fun j => pcF p (1 + j)) 6 = numF (byteAt p.g 6) 6 := by
      rw [numF_6, numF_6]
      rfl
    rw [e]
    exact byte6 p.g (by omega)
  · show pcF p (8 + j) = p.D j
    unfold pcF
    rw [if_neg (by omega), if_neg (by omega), if_neg (by omega), Nat.add_sub_cancel_left]
theorem pcF_pcOf {B : Nat → Nat} (hB : ∀ j, j < 40 → B j < 256) : ∀ j, j < 40 → pcF (pcOf B) j = B j := by
  intro j hj
  unfold pcF pcOf
  dsimp only
  by_cases h0 : j = 0
  · rw [if_pos h0, h0]
  · rw [if_neg h0]
    by_cases h1 : j < 7
    · rw [if_pos h1, byteAt_numF (F := fun j => B (1 + j)) (fun k hk => hB _ (by omega)) (j - 1) (by omega), show 1 + (j - 1) = j by omega]
    · rw [if_neg h1]
      by_cases h2 : j = 7
      · rw [if_pos h2, h2]
      · rw [if_neg h2, show 8 + (j - 8) = j by omega]
theorem pcF_inj {p q : Pc} (hp : p.Ok) (hq : q.Ok) (h : ∀ j, j < 40 → pcF p j = pcF q j) : p.s = q.s ∧ p.g = q.g ∧ p.i = q.i ∧ ∀ j, j < 32 → p.D j = q.D j := by
  have e : ∀ j, j < 40 → pcF p j = pcF q j := h
  obtain ⟨a1, a2, a3, a4⟩ := pcOf_pcF hp
  obtain ⟨b1, b2, b3, b4⟩ := pcOf_pcF hq
  refine ⟨e 0 (by omega), ?_, e 7 (by omega), fun j hj => ?_⟩
  · rw [← a2, ← b2]
    show numF (fun j => pcF p (1 + j)) 6 = numF (fun j => pcF q (1 + j)) 6
    rw [numF_6, numF_6]
    simp only [e 1 (by omega), e 2 (by omega), e 3 (by omega), e 4 (by omega), e 5 (by omega), e 6 (by omega), Nat.reduceAdd]
  · rw [← a4 j, ← b4 j]
    exact e (8 + j) (by omega)
/-- A piece's block. -/
def pcS (p : Pc) : Nat → Nat := sealF 1 40 (pcF p)
theorem pcS_lt {p : Pc} (h : p.Ok) (j : Nat) : pcS p j < 256 := sealF_lt (by decide) (pcF_lt h) j
/-- The piece that a block says, if it does. -/
def rdP (F : Nat → Nat) : Pc := pcOf (fun k => F (3 + k))
def IsPc (F : Nat → Nat) : Prop := OpenOk F ∧ num4 F 156 = sumF F 156 ∧ F 0 = 1 ∧ F 1 * 256 + F 2 = 40 ∧ (rdP F).Ok
/-- Two pieces alike. -/
def Pc.Alike (p q : Pc) : Prop := p.s = q.s ∧ p.g = q.g ∧ p.i = q.i ∧ ∀ j, j < 32 → p.D j = q.D j
theorem Pc.Alike.refl (p : Pc) : p.Alike p := ⟨rfl, rfl, rfl, fun _ _ => rfl⟩
theorem Pc.Alike.symm {p q : Pc} (h : p.Alike q) : q.Alike p := ⟨h.1.symm, h.2.1.symm, h.2.2.1.symm, fun j hj => (h.2.2.2 j hj).symm⟩
theorem Pc.Alike.trans {p q r : Pc} (h : p.Alike q) (k : q.Alike r) : p.Alike r := ⟨h.1.trans k.1, h.2.1.trans k.2.1, h.2.2.1.trans k.2.2.1, fun j hj => (h.2.2.2 j hj).trans (k.2.2.2 j hj)⟩
theorem Pc.Alike.ok {p q : Pc} (h : p.Alike q) (k : p.Ok) : q.Ok := by
  obtain ⟨a, b, c, d⟩ := h
  obtain ⟨k1, k2, k3, k4, k5⟩ := k
  exact ⟨by omega, by omega, by omega, by omega, fun j hj => by rw [← d j hj]; exact k5 j hj⟩
theorem Pc.Alike.pcF {p q : Pc} (h : p.Alike q) : ∀ j, j < 40 → pcF p j = pcF q j := by
  obtain ⟨a, b, c, d⟩ := h
  intro j hj
  unfold Go.Proofs.Ytoofgcdilgfclaa.pcF
  rw [a, b, c]
  split
  · rfl
  · split
    · rfl
    · split
      · rfl
      · exact d _ (by omega)
theorem rdP_pcS {p : Pc} {F : Nat → Nat} (h : p.Ok) (hF : ∀ j, j < 160 → F j = pcS p j) : IsPc F ∧ (rdP F).Alike p := by
  obtain ⟨h1, h2, h3, h4, h5⟩ := openOk_seal (kind := 1) (n := 40) (B := pcF p) (F := F) (by decide) (by decide) hF
  have e : (rdP F).Alike p := by
    obtain ⟨a1, a2, a3, a4⟩ := pcOf_pcF h
    refine ⟨(h5 0 (by omega)).trans a1, ?_, (h5 7 (by omega)).trans a3, fun j hj => ?_⟩
    · refine Eq.trans ?_ a2
      show numF (fun j => F (3 + (1 + j))) 6 = numF (fun j => pcF p (1 + j)) 6
      rw [numF_6, numF_6]
      simp only [h5 (1 + 0) (by omega), h5 (1 + 1) (by omega), h5 (1 + 2) (by omega), h5 (1 + 3) (by omega), h5 (1 + 4) (by omega), h5 (1 + 5) (by omega)]
    · exact (h5 (8 + j) (by omega)).trans (a4 j)
  exact ⟨⟨h1, h2, h3, h4, e.symm.ok h⟩, e⟩
theorem isPc_pcS {F : Nat → Nat} (hF : ∀ j, j < 160 → F j < 256) (h : IsPc F) : ∀ j, j < 160 → F j = pcS (rdP F) j := by
  obtain ⟨⟨_, _, h1⟩, h2, h3, h4, h5⟩ := h
  intro j hj
  rw [← h1 j hj, h3, h4]
  unfold pcS
  refine sealF_congr (fun k hk => ?_) j
  exact (pcF_pcOf (B := fun k => F (3 + k)) (fun k hk => hF _ (by omega)) k hk).symm
theorem IsPc.congr {F G : Nat → Nat} (e : ∀ j, j < 160 → F j = G j) (hF : ∀ j, j < 160 → F j < 256) (h : IsPc F) : IsPc G ∧ (rdP G).Alike (rdP F) :=
  rdP_pcS h.2.2.2.2 (fun j hj => (e j hj).symm.trans (isPc_pcS hF h j hj))
attribute [irreducible] pcF pcS IsPc rdP pcOf
end Go.Proofs.Ytoofgcdilgfclaa
