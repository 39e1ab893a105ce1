import Derived.Test.YtofmilkjhnkgjaaIn11
import Derived.Test.YtofmilkjhnkgjaaD8
namespace Go.Proofs.Ytofmilkjhnkgjaa
open Go.RowKit Go.Sort
set_option maxRecDepth 100000
set_option maxHeartbeats 2000000

/-- The first logs of a law. -/
def Ts (f : Nat → It) (n : Nat) : List Nt := (List.range n).map (fun k => (k + 1, f k))
theorem Ts_succ (f : Nat → It) (n : Nat) : Ts f (n + 1) = Ts f n ++ [(n + 1, f n)] := by
  unfold Ts
  rw [List.range_succ, List.map_append]
  rfl
theorem Ts_len (f : Nat → It) (n : Nat) : (Ts f n).length = n := by
  unfold Ts
  simp
theorem Ts_mem {f : Nat → It} {n : Nat} {e : Nt} (h : e ∈ Ts f n) : ∃ k, k < n ∧ e = (k + 1, f k) := by
  unfold Ts at h
  rw [List.mem_map] at h
  obtain ⟨k, hk, rfl⟩ := h
  exact ⟨k, List.mem_range.1 hk, rfl⟩
theorem Ts_far {g : Nat} {x : Nat → Int} {n : Nat} {y : It} (h : n ≤ y.s) : ∀ e ∈ Ts (fun k => oneI k g (x k)) n, ¬ e.2.Alike y := by
  intro e he ha
  obtain ⟨k, hk, rfl⟩ := Ts_mem he
  have h1 : k = y.s := ha.1
  omega
theorem Ts_rel : ((Ts (fun k => oneI k 1 (k : Int)) 16).filter (keepsR 3 1)).length = 15 := by kernel_rfl
end Go.Proofs.Ytofmilkjhnkgjaa
