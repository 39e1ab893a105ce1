import Derived.Test.YtobkmohoepgfmaaGreatDoorV48
namespace Go.Proofs.YtobkmohoepgfmaaGreatDoor
open Go.RowKit Go.Sort
set_option maxRecDepth 100000
set_option maxHeartbeats 1000000

section
variable (E : (Nat → Nat) → Nat → Nat → Nat) (dec : List (Nat × (Nat → Nat)) → Nat → Nat) (D : Nat → Nat)
theorem n_ask : ∀ d, d < 8 → (askI (nT E dec D d) 8).2.2 = []
 | 0, _ => by kernel_rfl
 | 1, _ => by kernel_rfl
 | 2, _ => by kernel_rfl
 | 3, _ => by kernel_rfl
 | 4, _ => by kernel_rfl
 | 5, _ => by kernel_rfl
 | 6, _ => by kernel_rfl
 | 7, _ => by kernel_rfl
theorem n_next : ∀ d, d < 8 → (List.range 40).all (fun i => decide ((nG E dec D d).next i ≤ 1000)) = true
 | 0, _ => by kernel_rfl
 | 1, _ => by kernel_rfl
 | 2, _ => by kernel_rfl
 | 3, _ => by kernel_rfl
 | 4, _ => by kernel_rfl
 | 5, _ => by kernel_rfl
 | 6, _ => by kernel_rfl
 | 7, _ => by kernel_rfl
theorem n_doubt : ∀ d, d < 8 → (nG E dec D d).doubt 3 = false
 | 0, _ => by kernel_rfl
 | 1, _ => by kernel_rfl
 | 2, _ => by kernel_rfl
 | 3, _ => by kernel_rfl
 | 4, _ => by kernel_rfl
 | 5, _ => by kernel_rfl
 | 6, _ => by kernel_rfl
 | 7, _ => by kernel_rfl
def fineB (F : Nat → List Pc) : Bool := (List.range 40).all (fun k => decide (genF [] (F k) = 0) || decide (cntF (chF (F k) (genF [] (F k))) = 6))
theorem n_fine : ∀ d, d < 8 → fineB (gatS (askI (nT E dec D d) 8).1 40).2.2 = true
 | 0, _ => by kernel_rfl
 | 1, _ => by kernel_rfl
 | 2, _ => by kernel_rfl
 | 3, _ => by kernel_rfl
 | 4, _ => by kernel_rfl
 | 5, _ => by kernel_rfl
 | 6, _ => by kernel_rfl
 | 7, _ => by kernel_rfl
end
theorem fine_of {F : Nat → List Pc} (h : fineB F = true) : Fine F := fun k hk => by
 have := List.all_eq_true.1 h k (List.mem_range.2 hk)
 rcases Bool.or_eq_true_iff.1 this with h | h
 ·exact Or.inl (by simpa using h)
 ·exact Or.inr (by simpa using h)
theorem ask_fail {E : (Nat → Nat) → Nat → Nat → Nat} {dec : List (Nat × (Nat → Nat)) → Nat → Nat} {s : Wp} {z : Nat × Nat} (h : (askI s 8).2.1 = some z) : (∀ s1 L, askI s 8 ≠ (s1, none, L)) ∧ opnF E dec s = ((askI s 8).1, .inr (.at_ z.1 z.2)) := by
 refine ⟨fun s1 L q => (by rw [q] at h; cases h), ?_⟩
 unfold opnF
 generalize askI s 8 = r at h ⊢
 obtain ⟨s1, o, L⟩ := r
 dsimp only at h
 subst h
 rfl
theorem needs_pure {D : Nat → Nat} (hD : ∀ j, j < 128 → D j < 256) {d : Nat} (hd : d < 8) : ∃ (eb : Ep) (s1 : Wp) (f : Ep) (D' : Nat → Nat), (okA encK decK).write encK 3 D = (eb, none) ∧ eb.w.Fit 39228 ∧ (∀ s1 L, askI (eb.w.setD d true) 8 ≠ (s1, none, L)) ∧ opnF encK decK (eb.w.setD d true) = (s1, .inr (.at_ d 4)) ∧
  s1.Fit 39252 ∧ opnF encK decK (s1.setD d false) = (f.w, .inl f) ∧ (∀ a L, askI (s1.setD d false) 8 = (a, none, L) → L = []) ∧ (∀ a L b F, askI (s1.setD d false) 8 = (a, none, L) → gatS a 40 = (b, none, F) → Fine F) ∧ f.w.Fit 80000 ∧ (∀ i, f.next i ≤ 1000) ∧ f.gen 3 = 1 ∧
  (f.read encK decK 3).2 = .yes D' ∧ (∀ t, t < 128 → D' t = D t) ∧ (∀ i, i < 40 → (f.read encK decK 3).1.gen i = eb.gen i) ∧ f.doubt 3 = false := by
 have h0 := n_doubt encK decK D d hd
 have h1 := n_first encK decK D
 have h2 := n_down encK decK D d hd
 have h3 := n_again encK decK D d hd
 have h4 := n_gen encK decK D d hd
 have h5 := n_read encK decK D d hd
 have h6 := n_same encK decK D d hd
 have h7 := n_ask encK decK D d hd
 have h8 := n_next encK decK D d hd
 have h9 := n_fine encK decK D d hd
 have hA := okA_facts
 unfold nG at h0 h4 h5 h6 h8
 unfold nT at h0 h3 h4 h5 h6 h7 h8 h9
 unfold nC at h0 h2 h3 h4 h5 h6 h7 h8 h9
 unfold nB at h0 h2 h3 h4 h5 h6 h7 h8 h9
 generalize okA encK decK = a at h0 h1 h2 h3 h4 h5 h6 h7 h8 h9 hA ⊢
 have hB := Ep.fit_write (st := 3) hA.1 hD (fun i j h => encK_all D i j h)
 generalize a.write encK 3 D = x at h0 h1 h2 h3 h4 h5 h6 h7 h8 h9 hB ⊢
 obtain ⟨eb, er⟩ := x
 dsimp only at h0 h1 h2 h3 h4 h5 h6 h7 h8 h9 hB
 subst h1
 have hC : (eb.w.setD d true).Fit 39228 := (hB.mono (by omega)).congr rfl rfl rfl
 obtain ⟨f1, f2⟩ := ask_fail (E := encK) (dec := decK) h2
 have hF := askI_fit hC 8 (Nat.le_refl 8)
 generalize (askI (eb.w.setD d true) 8).1 = s1 at h0 h3 h4 h5 h6 h7 h8 h9 f2 hF
 have hT : (s1.setD d false).Fit 39252 := (hF.mono (by omega)).congr rfl rfl rfl
 generalize hsT : s1.setD d false = sT at h0 h3 h4 h5 h6 h7 h8 h9 hT
 generalize hx : opnF encK decK sT = X at h0 h3 h4 h5 h6 h8
 obtain ⟨s', y⟩ := X
 have hL : ∀ a L, askI sT 8 = (a, none, L) → L = [] := fun a L h => by rw [h] at h7; exact h7
 obtain ⟨a1, a2, a3, a4⟩ := opn_get hx hT hL h3 h8
 refine ⟨eb, s1, getL y, _, rfl, hB.mono (by omega), f1, f2, hF.mono (by omega), ?_, ?_, ?_, a3.mono (by omega), a4, h4, h5, fun t ht => dec_enc hD t ht, fun i hi => ?_, h0⟩
 ·rw [hsT, hx, ← a2]
  exact congrArg (Prod.mk s') a1
 ·rw [hsT]; exact hL
 ·rw [hsT]
  intro a L b F ha hb
  rw [ha] at h9
  dsimp only at h9
  rw [hb] at h9
  exact fine_of h9
 ·have := List.all_eq_true.1 h6 i (List.mem_range.2 hi)
  simpa using this
end Go.Proofs.YtobkmohoepgfmaaGreatDoor
