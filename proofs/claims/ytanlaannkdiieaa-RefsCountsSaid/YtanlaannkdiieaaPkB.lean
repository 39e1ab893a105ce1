import Derived.Test.YtanlaannkdiieaaRows
import Derived.WalkKit
import Derived.WalkSpells
import Derived.Lib.Hide
import Derived.Outline
import Derived.Deep.QuietTactic
import Derived.Deep.RegionHeld
import Derived.Deep.RegionWith
import Derived.Deep.RegionLaw
import Derived.Deep.AppendLies
import Derived.Deep.LoopGhost
import Derived.Maps.OwnSet
import Derived.BigRegion
import Derived.BigQuiet
import Derived.Sort.Grow
import Derived.StillTailTactics
namespace Go.Proofs.Ytanlaannkdiieaa.Pk
open Go.RowKit Go.Sort

abbrev It := Int × Int

def cmp1 (x y : Int) : Int := if x < y then -1 else if y < x then 1 else 0
def orv (x y : Int) : Int := if x ≠ 0 then x else y
def cmpIt (x y : It) : Int := orv (cmp1 x.2 y.2) (cmp1 x.1 y.1)

theorem isNaN43 (x : Int) (w : World) : Calls Try.prog 52 #[.int .i64 x] w fun e w' => e = .returned (.bool false) ∧ w' = w := by
  go_enter Try.func52, Try.ntmps52
  go_wp2
  go_ret
  simp

theorem compare32 (x y : Int) (w : World) : Calls Try.prog 51 #[.int .i64 x, .int .i64 y] w fun e w' => e = .returned (.int .i64 (cmp1 x y)) ∧ w' = w := by
  go_enter Try.func51, Try.ntmps51
  unfold cmp1
  go_wp2_with (go_at_call 52; refine (isNaN43 _ _).mono ?_; rintro e w' ⟨rfl, rfl⟩)
  all_goals (go_ret; simp [*])

theorem or31 (b cap : Nat) (x y : Int) (w : World) (h0 : w.cell? ⟨b, 0, none⟩ = some (.int .i64 x)) (h1 : w.cell? ⟨b, 1, none⟩ = some (.int .i64 y)) :
    Calls Try.prog 50 #[.slice (some ⟨b, 0, none⟩) 2 cap] w fun e w' => e = .returned (.int .i64 (orv x y)) ∧ w' = w := by
  unfold orv
  go_enter Try.func50, Try.ntmps50
  go_wp2
  by_cases hx : x = 0
  · subst hx
    refine wp_loop_rounds 3 ?_
    rw [rounds_succ]
    go_wp2
    rw [rounds_succ]
    go_wp2
    · go_ret
      simp_all
    · rw [rounds_succ]
      go_wp2
      go_ret
      simp_all
  · refine wp_loop_rounds 1 ?_
    rw [rounds_succ]
    go_wp2
    · go_ret
      simp_all

set_option maxHeartbeats 1000000 in
theorem compare24 (x y : It) (w : World) :
    Calls Try.prog 49 #[.agg #[.int .i64 x.1, .int .i64 x.2], .agg #[.int .i64 y.1, .int .i64 y.2]] w fun e w' => e = .returned (.int .i64 (cmpIt x y)) ∧ ∃ q os', w' = grow (w.drewN q) os' := by
  obtain ⟨x1, x2⟩ := x
  obtain ⟨y1, y2⟩ := y
  go_enter Try.func49, Try.ntmps49
  go_wp2_with fail
  generalize hwq : (w.alloc (Obj.cells #[Value.int IntKind.i64 x1, Value.int IntKind.i64 x2] 41)).alloc (Obj.cells #[Value.int IntKind.i64 y1, Value.int IntKind.i64 y2] 41) = wq
  have a1 : wq.cell? ⟨w.heap.size, 0, none⟩ = some (.int .i64 x1) := by rw [← hwq]; simp [go_sem]
  have a2 : wq.cell? ⟨w.heap.size, 1, none⟩ = some (.int .i64 x2) := by rw [← hwq]; simp [go_sem]
  have b1 : wq.cell? ⟨w.heap.size + 1, 0, none⟩ = some (.int .i64 y1) := by rw [← hwq]; simp [go_sem]
  have b2 : wq.cell? ⟨w.heap.size + 1, 1, none⟩ = some (.int .i64 y2) := by rw [← hwq]; simp [go_sem]
  first
    | (go_region_held (fun w' => w'.cell? ⟨w.heap.size, 0, none⟩ = some (.int .i64 x1) ∧ w'.cell? ⟨w.heap.size, 1, none⟩ = some (.int .i64 x2) ∧ w'.cell? ⟨w.heap.size + 1, 0, none⟩ = some (.int .i64 y1) ∧ w'.cell? ⟨w.heap.size + 1, 1, none⟩ = some (.int .i64 y2))
        (first | exact ⟨a1, a2, b1, b2⟩ | go_keep)
        ((first | (go_at_call 51; refine (compare32 _ _ _).mono ?_; rintro e w' ⟨rfl, rfl⟩) | (go_at_call 50; refine (or31 wq.heap.size _ (cmp1 x2 y2) (cmp1 x1 y1) _ (by simp [go_sem]) (by simp [go_sem])).mono ?_; rintro e w' ⟨rfl, rfl⟩))))
    | fail
  go_wp2
  go_ret
  clear a1 a2 b1 b2
  refine ⟨rfl, ?_⟩
  rw [← hwq, alloc_eq_grow, alloc_eq_grow, alloc_eq_grow, grow_grow, grow_grow]
  exact ⟨1, _, rfl⟩
end Go.Proofs.Ytanlaannkdiieaa.Pk
