import Derived.Test.YtoofgcdilgfclaaV14
namespace Go.Proofs.Ytoofgcdilgfclaa
open Go.RowKit Go.Sort
set_option maxRecDepth 100000
set_option maxHeartbeats 1000000

theorem infoBool : (Try.prog.info? 4).map (fun i => (i.zero, i.size, i.bytes)) = some (some (.bool false), 1, 1) := by kernel_rfl
theorem infoRow : (Try.prog.info? 22).map (fun i => (i.zero, i.size, i.bytes)) = some (some (.slice none 0 0), 1, 24) := by kernel_rfl
/-- 'make([][]byte, n)'. -/
theorem makeR (n : Nat) (hn : n ≤ 1000000) : ∃ zs : Array Value, zs.size = n ∧
    ∀ W : World, Sem.run Try.prog (Instr.makeSlice 87 (.int .i64 (n : Int)) (.int .i64 (n : Int))) W = .ok (.slice (some ⟨W.heap.size, 0, none⟩) n n) (W.alloc (.cells zs 22)) := by
  obtain ⟨i0, hi0, hz0, hz1, hz2⟩ := info_parts infoRow
  refine ⟨madeCells (Value.slice none 0 0).cells (n * i0.size), by rw [hz1]; simp [madeCells], fun W => ?_⟩
  have h := run_make W 87 22 i0 (.slice none 0 0) Try.underlying87 hi0 hz0 .i64 .i64 (n : Int) (n : Int) (by omega) (by omega) (by rw [hz2]; omega) (by omega)
  simpa using h
/-- A block of bools. -/
def BlkB (w : World) (g n : Nat) (f : Nat → Bool) : Prop := ∃ cs : Array Value, w.heap[g]? = some (.cells cs 4 (0, 0)) ∧ n ≤ cs.size ∧ ∀ j, j < n → cs[j]? = some (.bool (f j))
theorem BlkB.keep {w w' : World} {g n : Nat} {f : Nat → Bool} (h : BlkB w g n f) (e : w'.heap[g]? = w.heap[g]?) : BlkB w' g n f := by
  obtain ⟨cs, hb, hc⟩ := h
  exact ⟨cs, e.trans hb, hc⟩
theorem BlkB.lt {w : World} {g n : Nat} {f : Nat → Bool} (h : BlkB w g n f) : g < w.heap.size := by
  obtain ⟨cs, hb, _⟩ := h
  exact heap_lt hb
theorem BlkB.cell {w : World} {g n j : Nat} {f : Nat → Bool} (h : BlkB w g n f) (hj : j < n) : w.cell? ⟨g, j, none⟩ = some (.bool (f j)) := by
  obtain ⟨cs, hb, hs, hc⟩ := h
  exact (cell_of_block hb).trans (hc j hj)
theorem BlkB.free {w : World} {g n : Nat} {f : Nat → Bool} (h : BlkB w g n f) (k : Nat) : w.frozen? ⟨g, k, none⟩ = false := by
  obtain ⟨cs, hb, _⟩ := h
  exact free_of_block hb
theorem BlkB.congr {w : World} {g n : Nat} {f f' : Nat → Bool} (h : BlkB w g n f) (e : ∀ j, j < n → f j = f' j) : BlkB w g n f' := by
  obtain ⟨cs, hb, hs, hc⟩ := h
  exact ⟨cs, hb, hs, fun j hj => by rw [← e j hj]; exact hc j hj⟩
theorem BlkB.put {w : World} {g n q : Nat} {x : Bool} {f : Nat → Bool} (h : BlkB w g n f) (hq : q < n) : BlkB (w.setCell ⟨g, q, none⟩ (.bool x)) g n (fun j => if j = q then x else f j) := by
  obtain ⟨cs, hb, hs, hc⟩ := h
  refine ⟨cs.setIfInBounds q (.bool x), set_block hb q _, by simpa using hs, fun j hj => ?_⟩
  dsimp only
  rw [Array.getElem?_setIfInBounds]
  by_cases e : q = j
  · subst e
    rw [if_pos rfl, if_pos (by omega), if_pos rfl]
  · rw [if_neg e, if_neg (fun h => e h.symm), hc j hj]
/-- copy of a disk's list over the other. -/
theorem copy_arr (w : World) {ops : Array Oper} {rest : List Oper} {o : Oper} {a : Act} {Q : Exit → Act → World → Prop} (hgd : o.guard = none) (d s : Operand)
    (ho : o.op = .call { callee := .builtin .copy, args := #[d, s], argTypes := #[87, 87] })
    (nb db N : Nat) (D : Nat → Blk) (hd : a.eval d = .slice (some ⟨nb, 0, none⟩) N N) (hs : a.eval s = .slice (some ⟨db, 0, none⟩) N N) (h1 : Arr w nb N) (h2 : Slab w db N D)
    (h : ∀ w', Slab w' nb N D → w.grownBy w' (some nb) → w'.heap.size = w.heap.size → wpList Try.prog ops Q rest (a.put o.dst (.int .i64 (N : Int))) w') :
    wpList Try.prog ops Q (o :: rest) a w := by
  obtain ⟨i0, hi0, hz0, hz1, hz2⟩ := info_parts infoRow
  have isz : (Try.prog.info? 22).map (·.size) = some 1 := by rw [hi0]; simp [hz1]
  obtain ⟨cur, hg, hsz⟩ := h1
  obtain ⟨cs, hc, hcs, hr⟩ := h2
  have hl : cs.toList.length = N := by simpa using hcs
  refine wpList_copy_own hgd d s _ _ ho _ Try.underlying87 isz nb 0 N N ⟨db, 0, none⟩ N N hd hs cur _ hg cs.toList (by rw [hl]; exact (Nat.min_self N).symm) (fun j v hv => ?_) (by rw [hl]; omega) (fun v hv => ?_) ?_
  · rw [addr_add, Nat.zero_add, cell_of_block hc]
    simpa using hv
  · obtain ⟨j, hj⟩ := List.getElem?_of_mem hv
    have hjl : j < N := by have := (List.getElem?_eq_some_iff.1 hj).1; omega
    obtain ⟨u, hu, g, cap, rfl, _⟩ := hr j hjl
    have hj' : cs[j]? = some v := by simpa using hj
    rw [hu] at hj'
    cases hj'
    rfl
  · have hW := h (w.setRow nb (cur.toList.take 0 ++ (cs.toList ++ cur.toList.drop (0 + cs.toList.length))).toArray) ⟨_, setRow_heap w nb _ _ 22 _ hg, by simp; omega, fun k hk => by
      obtain ⟨u, hu, hr'⟩ := hr k hk
      refine ⟨u, ?_, hr'.keep (fun g cs' hg' => setRow_other w nb g _ (by rintro rfl; rw [hg] at hg'; cases hg'))⟩
      have : (cur.toList.drop (0 + cs.toList.length)) = [] := by rw [List.drop_eq_nil_iff]; simp; omega
      rw [this]
      simpa using hu⟩
      ⟨rfl, rfl, rfl, by simp [World.setRow], fun i _ hne => setRow_other w nb i _ (fun e => hne (by rw [e]))⟩ (by simp [World.setRow])
    rw [hl] at hW ⊢
    exact hW
end Go.Proofs.Ytoofgcdilgfclaa
