import Derived.Test.YtoofgcdilgfclaaU11
import Derived.Test.YtoofgcdilgfclaaU09
import Derived.Test.YtoofgcdilgfclaaU08
namespace Go.Proofs.Ytoofgcdilgfclaa
open Go.RowKit Go.Sort
set_option maxRecDepth 100000
set_option maxHeartbeats 1000000

section
variable {w w' : World} {b n c : Nat} {no s g : Int} {A : Option Addr}
end
theorem below_putS {B : Nat} {w0 w : World} {b : Nat} (h : Below B w0 w) (hb : B ≤ b) (v0 v1 v2 v3 : Value) : Below B w0 ((((w.setCell ⟨b, 0, none⟩ v0).setCell ⟨b, 1, none⟩ v1).setCell ⟨b, 2, none⟩ v2).setCell ⟨b, 3, none⟩ v3) :=
  (((h.setCell hb _).setCell hb _).setCell hb _).setCell hb _
/-- lay: the block of a slot. -/
def ILayRet (no : Nat) (x : It) (w : World) (e : Ending) (w' : World) : Prop :=
  ∃ g, e = .returned (.tuple #[.slice (some ⟨g, 0, none⟩) 160 160, .int .i64 0]) ∧ Blk8 w' g 160 (itS no x) ∧ Below w.heap.size w w' ∧ w.heap.size ≤ g
/-- read of an intent's block. -/
def IReadRet (no : Nat) (x : It) (w : World) (e : Ending) (w' : World) : Prop := ∃ A c, e = .returned (sv (no : Int) (x.s : Int) (x.g : Int) A 128 c) ∧ DatI w' A x.D ∧ Below w.heap.size w w' ∧ 128 ≤ c
end Go.Proofs.Ytoofgcdilgfclaa
namespace Go.Proofs.Ytoofgcdilgfclaa
open Go.RowKit Go.Sort
set_option maxRecDepth 100000
set_option maxHeartbeats 1000000

end Go.Proofs.Ytoofgcdilgfclaa
namespace Go.Proofs.Ytoofgcdilgfclaa
open Go.RowKit Go.Sort
set_option maxRecDepth 100000
set_option maxHeartbeats 1000000

/-- Read. -/
def DReadRet (F : Blk) (w : World) (e : Ending) (w' : World) : Prop := ∃ g cap, e = .returned (.tuple #[.slice (some ⟨g, 0, none⟩) 160 cap, .bool true]) ∧ Blk8 w' g 160 F ∧ Below w.heap.size w w' ∧ w.heap.size ≤ g ∧ 160 ≤ cap
end Go.Proofs.Ytoofgcdilgfclaa
namespace Go.Proofs.Ytoofgcdilgfclaa
open Go.RowKit Go.Sort
set_option maxRecDepth 100000
set_option maxHeartbeats 1000000

theorem bytes_far {w : World} {b o : Nat} {cs : Array Value} {t : TypeId} {fr : Nat × Nat} {u : Value} (hb : w.heap[b]? = some (.cells cs t fr)) (ht : t ≠ 5) : ∀ (g : Nat) (cs : Array Value), w.heap[g]? = some (Obj.cells cs 5 (0, 0)) → (w.setCell ⟨b, o, none⟩ u).heap[g]? = w.heap[g]? := by
  intro g cs' hg
  refine set_other ?_ o u
  rintro rfl
  rw [hb] at hg
  cases hg
  exact ht rfl
theorem Slab.put {w : World} {b N k : Nat} {D : Nat → Blk} {v : Value} {F : Blk} (h : Slab w b N D) (hk : k < N) (hr : Ref w v F) : Slab (w.setCell ⟨b, k, none⟩ v) b N (upd D (k, F)) := by
  obtain ⟨cs, h1, h2, h3⟩ := h
  have hf := bytes_far (o := k) (u := v) h1 (by decide)
  refine ⟨_, set_block h1 k v, by simpa using h2, fun j hj => ?_⟩
  rw [Array.getElem?_setIfInBounds]
  unfold upd
  by_cases e : k = j
  · subst e
    rw [if_pos rfl, if_pos (by omega), if_pos rfl]
    exact ⟨v, rfl, hr.keep hf⟩
  · rw [if_neg e, if_neg (fun h => e h.symm)]
    obtain ⟨u, hu, hr'⟩ := h3 j hj
    exact ⟨u, hu, hr'.keep hf⟩
/-- A cell of another of a disk's blocks is put. -/
theorem Slab.far {w : World} {b N b' o : Nat} {D : Nat → Blk} {u : Value} {cs : Array Value} {t : TypeId} {fr : Nat × Nat} (h : Slab w b N D) (hb : w.heap[b']? = some (.cells cs t fr)) (ht : t ≠ 5) (hne : b ≠ b') : Slab (w.setCell ⟨b', o, none⟩ u) b N D :=
  h.keep (bytes_far hb ht) (set_other hne o u)
theorem list_snoc {α : Type} {l : List α} {x y : α} {i : Nat} (h : (l ++ [x])[i]? = some y) : (i < l.length ∧ l[i]? = some y) ∨ (i = l.length ∧ x = y) := by
  by_cases hi : i < l.length
  · rw [List.getElem?_append_left hi] at h
    exact Or.inl ⟨hi, h⟩
  · rw [List.getElem?_append_right (by omega)] at h
    obtain ⟨hlt, h2⟩ := List.getElem?_eq_some_iff.1 h
    have hlen : i - l.length = 0 := by simpa using hlt
    exact Or.inr ⟨by omega, by simpa [hlen] using h⟩

end Go.Proofs.Ytoofgcdilgfclaa
namespace Go.Proofs.Ytoofgcdilgfclaa
open Go.RowKit Go.Sort
set_option maxRecDepth 100000
set_option maxHeartbeats 2000000

end Go.Proofs.Ytoofgcdilgfclaa
namespace Go.Proofs.Ytoofgcdilgfclaa
open Go.RowKit Go.Sort
set_option maxRecDepth 100000
set_option maxHeartbeats 1000000

theorem infoBool : (Try.prog.info? 4).map (fun i => (i.zero, i.size, i.bytes)) = some (some (.bool false), 1, 1) := by kernel_rfl
theorem infoRow : (Try.prog.info? 22).map (fun i => (i.zero, i.size, i.bytes)) = some (some (.slice none 0 0), 1, 24) := by kernel_rfl
/-- 'make([][]byte, n)'. -/
theorem makeR (n : Nat) (hn : n ≤ 1000000) : ∃ zs : Array Value, zs.size = n ∧
    ∀ W : World, Sem.run Try.prog (Instr.makeSlice 87 (.int .i64 (n : Int)) (.int .i64 (n : Int))) W = .ok (.slice (some ⟨W.heap.size, 0, none⟩) n n) (W.alloc (.cells zs 22)) := by
  obtain ⟨i0, hi0, hz0, hz1, hz2⟩ := info_parts infoRow
  refine ⟨madeCells (Value.slice none 0 0).cells (n * i0.size), by rw [hz1]; simp [madeCells], fun W => ?_⟩
  have h := run_make W 87 22 i0 (.slice none 0 0) Try.underlying87 hi0 hz0 .i64 .i64 (n : Int) (n : Int) (by omega) (by omega) (by rw [hz2]; omega) (by omega)
  simpa using h
/-- A block of bools. -/
def BlkB (w : World) (g n : Nat) (f : Nat → Bool) : Prop := ∃ cs : Array Value, w.heap[g]? = some (.cells cs 4 (0, 0)) ∧ n ≤ cs.size ∧ ∀ j, j < n → cs[j]? = some (.bool (f j))
theorem BlkB.keep {w w' : World} {g n : Nat} {f : Nat → Bool} (h : BlkB w g n f) (e : w'.heap[g]? = w.heap[g]?) : BlkB w' g n f := by
  obtain ⟨cs, hb, hc⟩ := h
  exact ⟨cs, e.trans hb, hc⟩
theorem BlkB.lt {w : World} {g n : Nat} {f : Nat → Bool} (h : BlkB w g n f) : g < w.heap.size := by
  obtain ⟨cs, hb, _⟩ := h
  exact heap_lt hb
theorem BlkB.cell {w : World} {g n j : Nat} {f : Nat → Bool} (h : BlkB w g n f) (hj : j < n) : w.cell? ⟨g, j, none⟩ = some (.bool (f j)) := by
  obtain ⟨cs, hb, hs, hc⟩ := h
  exact (cell_of_block hb).trans (hc j hj)
theorem BlkB.free {w : World} {g n : Nat} {f : Nat → Bool} (h : BlkB w g n f) (k : Nat) : w.frozen? ⟨g, k, none⟩ = false := by
  obtain ⟨cs, hb, _⟩ := h
  exact free_of_block hb
theorem BlkB.congr {w : World} {g n : Nat} {f f' : Nat → Bool} (h : BlkB w g n f) (e : ∀ j, j < n → f j = f' j) : BlkB w g n f' := by
  obtain ⟨cs, hb, hs, hc⟩ := h
  exact ⟨cs, hb, hs, fun j hj => by rw [← e j hj]; exact hc j hj⟩
theorem BlkB.put {w : World} {g n q : Nat} {x : Bool} {f : Nat → Bool} (h : BlkB w g n f) (hq : q < n) : BlkB (w.setCell ⟨g, q, none⟩ (.bool x)) g n (fun j => if j = q then x else f j) := by
  obtain ⟨cs, hb, hs, hc⟩ := h
  refine ⟨cs.setIfInBounds q (.bool x), set_block hb q _, by simpa using hs, fun j hj => ?_⟩
  dsimp only
  rw [Array.getElem?_setIfInBounds]
  by_cases e : q = j
  · subst e
    rw [if_pos rfl, if_pos (by omega), if_pos rfl]
  · rw [if_neg e, if_neg (fun h => e h.symm), hc j hj]
/-- copy of a disk's list over the other. -/
theorem copy_arr (w : World) {ops : Array Oper} {rest : List Oper} {o : Oper} {a : Act} {Q : Exit → Act → World → Prop} (hgd : o.guard = none) (d s : Operand)
    (ho : o.op = .call { callee := .builtin .copy, args := #[d, s], argTypes := #[87, 87] })
    (nb db N : Nat) (D : Nat → Blk) (hd : a.eval d = .slice (some ⟨nb, 0, none⟩) N N) (hs : a.eval s = .slice (some ⟨db, 0, none⟩) N N) (h1 : Arr w nb N) (h2 : Slab w db N D)
    (h : ∀ w', Slab w' nb N D → w.grownBy w' (some nb) → w'.heap.size = w.heap.size → wpList Try.prog ops Q rest (a.put o.dst (.int .i64 (N : Int))) w') :
    wpList Try.prog ops Q (o :: rest) a w := by
  obtain ⟨i0, hi0, hz0, hz1, hz2⟩ := info_parts infoRow
  have isz : (Try.prog.info? 22).map (·.size) = some 1 := by rw [hi0]; simp [hz1]
  obtain ⟨cur, hg, hsz⟩ := h1
  obtain ⟨cs, hc, hcs, hr⟩ := h2
  have hl : cs.toList.length = N := by simpa using hcs
  refine wpList_copy_own hgd d s _ _ ho _ Try.underlying87 isz nb 0 N N ⟨db, 0, none⟩ N N hd hs cur _ hg cs.toList (by rw [hl]; exact (Nat.min_self N).symm) (fun j v hv => ?_) (by rw [hl]; omega) (fun v hv => ?_) ?_
  · rw [addr_add, Nat.zero_add, cell_of_block hc]
    simpa using hv
  · obtain ⟨j, hj⟩ := List.getElem?_of_mem hv
    have hjl : j < N := by have := (List.getElem?_eq_some_iff.1 hj).1; omega
    obtain ⟨u, hu, g, cap, rfl, _⟩ := hr j hjl
    have hj' : cs[j]? = some v := by simpa using hj
    rw [hu] at hj'
    cases hj'
    rfl
  · have hW := h (w.setRow nb (cur.toList.take 0 ++ (cs.toList ++ cur.toList.drop (0 + cs.toList.length))).toArray) ⟨_, setRow_heap w nb _ _ 22 _ hg, by simp; omega, fun k hk => by
      obtain ⟨u, hu, hr'⟩ := hr k hk
      refine ⟨u, ?_, hr'.keep (fun g cs' hg' => setRow_other w nb g _ (by rintro rfl; rw [hg] at hg'; cases hg'))⟩
      have : (cur.toList.drop (0 + cs.toList.length)) = [] := by rw [List.drop_eq_nil_iff]; simp; omega
      rw [this]
      simpa using hu⟩
      ⟨rfl, rfl, rfl, by simp [World.setRow], fun i _ hne => setRow_other w nb i _ (fun e => hne (by rw [e]))⟩ (by simp [World.setRow])
    rw [hl] at hW ⊢
    exact hW
end Go.Proofs.Ytoofgcdilgfclaa
