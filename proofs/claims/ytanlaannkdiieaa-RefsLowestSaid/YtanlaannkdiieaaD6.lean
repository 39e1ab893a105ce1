import Derived.Test.YtanlaannkdiieaaD5
namespace Go.Proofs.Ytanlaannkdiieaa
open Go.RowKit Go.Sort
set_option maxRecDepth 100000
set_option maxHeartbeats 1000000

/-- What is kept, of a list of numbers. -/
def keepF (xs : List Int) (j : Nat) : Bool := decide ((j : Int) ∈ xs)
theorem keepF_take {xs : List Int} {i : Nat} {x : Int} (h : xs[i]? = some x) (j : Nat) : keepF (xs.take (i + 1)) j = (if (j : Int) = x then true else keepF (xs.take i) j) := by
  unfold keepF
  rw [List.take_add_one, h]
  by_cases e : (j : Int) = x
  · rw [if_pos e]; simp [e]
  · rw [if_neg e]; simp [e]
theorem kept_take {f : Nat → Bool} {l : List (Nat × Blk)} {i : Nat} {x : Nat × Blk} (h : l[i]? = some x) (D : Nat → Blk) :
    (keptAt f 0 (l.take (i + 1))).foldl upd D = if f i then upd ((keptAt f 0 (l.take i)).foldl upd D) x else (keptAt f 0 (l.take i)).foldl upd D := by
  have hi := (List.getElem?_eq_some_iff.1 h).1
  rw [List.take_add_one, h, keptAt_append, List.length_take, Nat.zero_add, Nat.min_eq_left (by omega)]
  simp only [Option.toList, keptAt]
  split <;> simp [List.foldl_append]
end Go.Proofs.Ytanlaannkdiieaa
