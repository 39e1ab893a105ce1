import Derived.Test.YtjbicpekpgaokaaP1
namespace Go.Proofs.Ytjbicpekpgaokaa
open Go.RowKit Go.Sort
set_option maxRecDepth 100000
set_option maxHeartbeats 400000

/-- A block that is nothing's, or a piece's. -/
def Pb (F : Nat → Nat) : Prop := F = (fun _ => 0) ∨ ∃ x : Pc, x.Ok ∧ F = pcS x
theorem Pb.lt {F : Nat → Nat} (h : Pb F) (j : Nat) : F j < 256 := by
  rcases h with rfl | ⟨x, hx, rfl⟩
  · show 0 < 256; decide
  · exact pcS_lt hx j
theorem Pb.slot {F : Nat → Nat} (h : Pb F) (k : Nat) : ∃ o, Slot F (k / 2) (k % 2) o := by
  rcases h with rfl | ⟨x, hx, rfl⟩
  · exact ⟨none, Slot.blank⟩
  · by_cases e : x.s = k / 2 ∧ x.g % 2 = k % 2
    · exact ⟨some x, hx, fun _ _ => rfl, e.1, e.2⟩
    · exact ⟨none, Slot.of_far hx (fun _ _ => rfl) e⟩
/-- A disk of such blocks alone. -/
structure PD (d : Disk) : Prop where
  done : ∀ k, Pb (d.done k)
  pend : ∀ x ∈ d.pend, Pb x.2
theorem fold_pb : ∀ (l : List (Nat × Blk)) (D : Nat → Blk), (∀ k, Pb (D k)) → (∀ x ∈ l, Pb x.2) → ∀ k, Pb (l.foldl upd D k)
  | [], _, h, _ => h
  | x :: l, D, h, hl => fold_pb l (upd D x) (fun k => by
      unfold upd
      split
      · exact hl x (by simp)
      · exact h k) (fun y hy => hl y (by simp [hy]))
theorem PD.now {d : Disk} (h : PD d) : ∀ k, Pb (d.now k) := fold_pb d.pend d.done h.done h.pend
theorem PD.blank : PD Disk.blank := ⟨fun _ => Or.inl rfl, fun x hx => by simp [Disk.blank] at hx⟩
theorem PD.write {d : Disk} (h : PD d) {x : Pc} (hx : x.Ok) (k : Nat) : PD (d.write k (pcS x)) := by
  refine ⟨h.done, fun y hy => ?_⟩
  unfold Disk.write at hy
  rw [List.mem_append] at hy
  rcases hy with hy | hy
  · exact h.pend y hy
  · simp at hy
    subst hy
    exact Or.inr ⟨x, hx, rfl⟩
theorem PD.flush {d : Disk} (h : PD d) : PD d.flush := ⟨h.now, fun x hx => by simp [Disk.flush] at hx⟩
theorem kept_mem (f : Nat → Bool) : ∀ (l : List (Nat × Blk)) (i : Nat) (x : Nat × Blk), x ∈ keptAt f i l → x ∈ l
  | [], _, _, h => h
  | y :: l, i, x, h => by
    unfold keptAt at h
    split at h
    · rw [List.mem_cons] at h ⊢
      rcases h with h | h
      · exact Or.inl h
      · exact Or.inr (kept_mem f l (i + 1) x h)
    · exact List.mem_cons_of_mem _ (kept_mem f l (i + 1) x h)
theorem PD.crash {d : Disk} (h : PD d) (f : Nat → Bool) : PD (d.crash f) := ⟨fold_pb _ _ h.done (fun x hx => h.pend x (kept_mem f _ _ x hx)), fun x hx => by simp [Disk.crash] at hx⟩
/-- Such a disk is told in pieces. -/
theorem PD.cd {d : Disk} (h : PD d) : ∃ M, CD d M := by
  have hs : ∀ k, ∃ o, Slot (d.now k) (k / 2) (k % 2) o := fun k => (h.now k).slot k
  exact ⟨fun k => Classical.choose (hs k), fun k j _ => (h.now k).lt j, fun k _ => Classical.choose_spec (hs k)⟩
end Go.Proofs.Ytjbicpekpgaokaa
