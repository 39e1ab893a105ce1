import Derived.RangeFuncNested
import Derived.RangeFuncBound
import Derived.RangeFuncCalls
import Derived.RangeFuncLeaves
import Derived.RangeFuncBox
import Derived.Shelf.Abstract
import Derived.OwnWalkIn
import Derived.TacticsInMore
import Derived.LoopNIn
import Derived.LoopIn
import Derived.Maps.AppendAt
import Derived.Test.YtelmcchleclklaaGreatV32
namespace Go.Proofs.YtelmcchleclklaaGreat.Kc
open Go.RowKit Go.Shelf
attribute [local go_sem] Oper.semAt_some
set_option maxRecDepth 100000
set_option maxHeartbeats 8000000

def partV (h q k : Nat) : Value := .slice (some ⟨h, q + 32 * k, none⟩) 32 32

theorem chunk1_in (F : Fence) (n : Nat) (h6 : F.fn 183) (hro : F.round = none) (hn : 1 ≤ n) (l Bs Bn n₀ h q cap : Nat) (hcap : 128 ≤ cap) (hbs : Bs < n₀) (hbn : Bn < n₀) (J Jx : List Nat → World → Prop)
  (hJd : ∀ pre W, J pre W → J pre W.drew)
  (hY : ∀ pre x W, J pre W → pre.length < 4 → YieldAt F (n - 1) Tryz.prog l #[partV h q x] W fun e W' =>
   (e = .returned (.bool true) ∧ J (pre ++ [x]) W' ∧ Below n₀ W W') ∨ (e = .returned (.bool false) ∧ Jx (pre ++ [x]) W'))
  (W : World) (hBs : W.cell? ⟨Bs, 0, none⟩ = some (.slice (some ⟨h, q, none⟩) 128 cap)) (hBn : W.cell? ⟨Bn, 0, none⟩ = some (.int .i64 32)) (h0 : J [] W) :
  CallsIn F n Tryz.prog 183 #[.func (.yield l) #[] #[], .pointer (some ⟨Bs, 0, none⟩), .pointer (some ⟨Bn, 0, none⟩)] W fun e W' => (∃ v, e = .returned v) ∧
   ((∃ ys, ys = List.range 4 ∧ J ys W') ∨ (∃ pre, (∃ k, k ≤ 4 ∧ pre = List.range k) ∧ Jx pre W')) := by
 refine callsIn_of_wp Tryz.func183 rfl h6 ?_ hro
 simp only [Tryz.ntmps183, List.size_toArray, List.length_cons, List.length_nil, Nat.reduceAdd, Nat.reduceSub, Array.replicate_succ, Array.replicate_zero, List.push_toArray, List.append_toArray, List.nil_append, List.cons_append]
 gi_wp2
 gi_loopw [4, 5] (fun i _ wr => ∃ k : Nat, ((k = 0 ∧ i = .int .i64 0) ∨ (k = 1 ∧ i = .int .i64 32) ∨ (k = 2 ∧ i = .int .i64 64) ∨ (k = 3 ∧ i = .int .i64 96) ∨ (k = 4 ∧ i = .int .i64 128)) ∧ J (List.range k) wr ∧ Below n₀ W wr)
  (fun i _ _ => 128 - (intOf i).toNat)
 case atStart => exact ⟨0, .inl ⟨rfl, rfl⟩, h0, Below.refl _ _⟩
 case round =>
  obtain ⟨k, hk, hJs, hnx⟩ := hrel
  have c1 : wr.cell? ⟨Bs, 0, none⟩ = some (.slice (some ⟨h, q, none⟩) 128 cap) := (hnx.cell (p := ⟨Bs, 0, none⟩) hbs).trans hBs
  have c2 : wr.cell? ⟨Bn, 0, none⟩ = some (.int .i64 32) := (hnx.cell (p := ⟨Bn, 0, none⟩) hbn).trans hBn
  rcases hk with ⟨rfl, rfl⟩ | ⟨rfl, rfl⟩ | ⟨rfl, rfl⟩ | ⟨rfl, rfl⟩ | ⟨rfl, rfl⟩
  ·obtain ⟨fn, tmps, assign, body, hy, hR⟩ := hY _ 0 _ (hJd _ _ hJs) (by simp)
   simp only [partV, Nat.reduceMul, Nat.add_zero] at hy
   gi_wp2
   gi_region
   all_goals gi_wp2
   all_goals
    refine hR.mono ?_
    rintro e W3 (⟨rfl, hJ3, hk3⟩ | ⟨rfl, hJx3⟩)
    ·have hk4 := hnx.drew.trans hk3
     have c3 : W3.cell? ⟨Bn, 0, none⟩ = some (.int .i64 32) := (hk4.cell (p := ⟨Bn, 0, none⟩) hbn).trans hBn
     gi_wp2
     go_roundw
     case rel => exact ⟨1, .inr (.inl ⟨rfl, rfl⟩), hJ3, hk4⟩
     case measure => simp [intOf]
    ·gi_wp2
     refine bodyPost_ret (results_none rfl _ _ _) rfl ?_
     exact ⟨⟨_, rfl⟩, .inr ⟨List.range 1, ⟨1, by omega, rfl⟩, hJx3⟩⟩
  ·obtain ⟨fn, tmps, assign, body, hy, hR⟩ := hY _ 1 _ (hJd _ _ hJs) (by simp)
   simp only [partV, Nat.reduceMul] at hy
   gi_wp2
   gi_region
   all_goals gi_wp2
   all_goals
    refine hR.mono ?_
    rintro e W3 (⟨rfl, hJ3, hk3⟩ | ⟨rfl, hJx3⟩)
    ·have hk4 := hnx.drew.trans hk3
     have c3 : W3.cell? ⟨Bn, 0, none⟩ = some (.int .i64 32) := (hk4.cell (p := ⟨Bn, 0, none⟩) hbn).trans hBn
     gi_wp2
     go_roundw
     case rel => exact ⟨2, .inr (.inr (.inl ⟨rfl, rfl⟩)), hJ3, hk4⟩
     case measure => simp [intOf]
    ·gi_wp2
     refine bodyPost_ret (results_none rfl _ _ _) rfl ?_
     exact ⟨⟨_, rfl⟩, .inr ⟨List.range 2, ⟨2, by omega, rfl⟩, hJx3⟩⟩
  ·obtain ⟨fn, tmps, assign, body, hy, hR⟩ := hY _ 2 _ (hJd _ _ hJs) (by simp)
   simp only [partV, Nat.reduceMul] at hy
   gi_wp2
   gi_region
   all_goals gi_wp2
   all_goals
    refine hR.mono ?_
    rintro e W3 (⟨rfl, hJ3, hk3⟩ | ⟨rfl, hJx3⟩)
    ·have hk4 := hnx.drew.trans hk3
     have c3 : W3.cell? ⟨Bn, 0, none⟩ = some (.int .i64 32) := (hk4.cell (p := ⟨Bn, 0, none⟩) hbn).trans hBn
     gi_wp2
     go_roundw
     case rel => exact ⟨3, .inr (.inr (.inr (.inl ⟨rfl, rfl⟩))), hJ3, hk4⟩
     case measure => simp [intOf]
    ·gi_wp2
     refine bodyPost_ret (results_none rfl _ _ _) rfl ?_
     exact ⟨⟨_, rfl⟩, .inr ⟨List.range 3, ⟨3, by omega, rfl⟩, hJx3⟩⟩
  ·obtain ⟨fn, tmps, assign, body, hy, hR⟩ := hY _ 3 _ (hJd _ _ hJs) (by simp)
   simp only [partV, Nat.reduceMul] at hy
   gi_wp2
   gi_region
   all_goals gi_wp2
   all_goals
    refine hR.mono ?_
    rintro e W3 (⟨rfl, hJ3, hk3⟩ | ⟨rfl, hJx3⟩)
    ·have hk4 := hnx.drew.trans hk3
     have c3 : W3.cell? ⟨Bn, 0, none⟩ = some (.int .i64 32) := (hk4.cell (p := ⟨Bn, 0, none⟩) hbn).trans hBn
     gi_wp2
     go_roundw
     case rel => exact ⟨4, .inr (.inr (.inr (.inr ⟨rfl, rfl⟩))), hJ3, hk4⟩
     case measure => simp [intOf]
    ·gi_wp2
     refine bodyPost_ret (results_none rfl _ _ _) rfl ?_
     exact ⟨⟨_, rfl⟩, .inr ⟨List.range 4, ⟨4, by omega, rfl⟩, hJx3⟩⟩
  ·gi_wp2
   go_end0
   exact ⟨⟨_, rfl⟩, .inl ⟨_, rfl, hJs⟩⟩
end Go.Proofs.YtelmcchleclklaaGreat.Kc
