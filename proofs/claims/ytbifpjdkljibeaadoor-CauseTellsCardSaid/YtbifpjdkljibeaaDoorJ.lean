import Derived.Test.YtbifpjdkljibeaaDoorI
import Derived.Recover
namespace Go.Proofs.YtbifpjdkljibeaaDoor
open Go.RowKit Go.Extern.Stop Go.Stop Go.Extern Go.Extern.Rtype

/-- The deferred literal of find, where nothing panicked. -/
theorem findIdle (p : Addr) (w : World) :
    CallsD Tryd.prog 35 #[.pointer (some p)] .returning w fun e u' w' => e = .returned (.tuple #[]) ∧ u' = .returning ∧ w' = w := by
  refine callsD_of_wpS Tryd.func35 rfl fun c₀ cs hu => ?_
  apply wpS_seq
  apply wpS_region
  simp [wpOpsS, go_sem, recoverD, hu, Tryd.ntmps35, Exit.thenS]
  refine wpS_cond (t := false) (by simp [Act.eval, Array.replicate]) ?_
  simp only [Bool.false_eq_true, if_false]
  refine wpS_of_wp (wp_skip ?_)
  cases c₀
  simp_all [bodyPostS, results, Tryd.results35]

/-- The deferred literal of holds, where nothing panicked. -/
theorem holdsIdle (p : Addr) (w : World) :
    CallsD Tryd.prog 36 #[.pointer (some p)] .returning w fun e u' w' => e = .returned (.tuple #[]) ∧ u' = .returning ∧ w' = w := by
  refine callsD_of_wpS Tryd.func36 rfl fun c₀ cs hu => ?_
  apply wpS_seq
  apply wpS_region
  simp [wpOpsS, go_sem, recoverD, hu, Tryd.ntmps36, Exit.thenS]
  refine wpS_cond (t := false) (by simp [Act.eval, Array.replicate]) ?_
  simp only [Bool.false_eq_true, if_false]
  refine wpS_of_wp (wp_skip ?_)
  cases c₀
  simp_all [bodyPostS, results, Tryd.results36]

/-- The deferred literal of parts, where nothing panicked. -/
theorem partsIdle (p : Addr) (w : World) :
    CallsD Tryd.prog 46 #[.pointer (some p)] .returning w fun e u' w' => e = .returned (.tuple #[]) ∧ u' = .returning ∧ w' = w := by
  refine callsD_of_wpS Tryd.func46 rfl fun c₀ cs hu => ?_
  apply wpS_seq
  apply wpS_region
  simp [wpOpsS, go_sem, recoverD, hu, Tryd.ntmps46, Exit.thenS]
  refine wpS_cond (t := false) (by simp [Act.eval, Array.replicate]) ?_
  simp only [Bool.false_eq_true, if_false]
  refine wpS_of_wp (wp_skip ?_)
  cases c₀
  simp_all [bodyPostS, results, Tryd.results46]

set_option maxRecDepth 100000 in
set_option maxHeartbeats 1000000 in
theorem find26 (d : Nat) (v : Value) (cs : List Int) (ns : List Nd) (ss : List Int) (w : World) (B c : Nat) (herr : Err w B d v cs ns ss) (hBc : B ≤ c) (hc : w.cell? ⟨c, 0, none⟩ = some (.int .i64 0)) (hcf : w.frozen? ⟨c, 0, none⟩ = false) (hE : ErrType w) :
    Calls Tryd.prog 24 #[v, .iface 67 (.pointer (some ⟨c, 0, none⟩))] w (AsPost c (.int .i64 ·) cs w) := by
  have hcw := cell?_lt hc
  have h0 : 0 < w.heap.size := cell?_lt hE
  have hmf : ∀ (fn : Fn) (first cap : Array Value) (w : World), (Instr.makeFunc fn first cap).run Tryd.prog w = .ok (.func fn first cap) w := fun _ _ _ _ => rfl
  have HE := Lib.hid herr
  have HC := Lib.hid (And.intro hE (And.intro hc hcf))
  clear herr hE hc hcf
  go_enter_defers Tryd.func24, Tryd.ntmps24
  go_wp2_with fail
  refine (As17_26 d _ cs ns ss _ B c (HE.out.below ((Below.refl B w).alloc (by omega) _)) hBc ?_ ?_ ?_).mono ?_
  · rw [World.cell?_alloc_past _ _ _ hcw]; exact HC.out.2.1
  · simp [HC.out.2.2, hcw, go_sem]
  · show World.cell? _ _ = _
    rw [World.cell?_alloc_past _ _ _ h0]; exact HC.out.1
  rintro e w' (⟨hl, rfl, hb⟩ | ⟨n, r, hl, rfl, hb, h2⟩)
  · have hcell : w'.cell? ⟨w.heap.size, 0, none⟩ = some (.bool false) := by rw [hb.cell (p := ⟨w.heap.size, 0, none⟩) (by simp)]; simp [go_sem]
    have hfr : w'.frozen? ⟨w.heap.size, 0, none⟩ = false := by rw [hb.frozen (p := ⟨w.heap.size, 0, none⟩) (by simp)]; simp [go_sem]
    have HL := Lib.hid hl
    have HB := Lib.hid hb
    clear hl hb
    go_wp2_with fail
    refine leaves_cons (f := 35) (args := #[.pointer (some ⟨w.heap.size, 0, none⟩)]) (by simp) (by simp [go_sem]) ?_
    refine (findIdle ⟨w.heap.size, 0, none⟩ _).mono ?_
    rintro e u' w'' ⟨rfl, rfl, rfl⟩
    simp [Leaves, settle, results, Tryd.results24, go_sem, hcell]
    exact .inl ⟨HL.out, rfl, ((Below.refl _ w).alloc (Nat.le_refl _) _).trans ((HB.out.mono (by simp)).setCell (p := ⟨w.heap.size, 0, none⟩) (Nat.le_refl _) _)⟩
  · have hcell : w'.cell? ⟨w.heap.size, 0, none⟩ = some (.bool false) := by rw [hb.cell (p := ⟨w.heap.size, 0, none⟩) (by simp) (by show w.heap.size ≠ c; omega)]; simp [go_sem]
    have hfr : w'.frozen? ⟨w.heap.size, 0, none⟩ = false := by rw [hb.frozen (p := ⟨w.heap.size, 0, none⟩) (by simp) (by show w.heap.size ≠ c; omega)]; simp [go_sem]
    have HL := Lib.hid hl
    have HB := Lib.hid (And.intro hb h2)
    clear hl hb h2
    go_wp2_with fail
    refine leaves_cons (f := 35) (args := #[.pointer (some ⟨w.heap.size, 0, none⟩)]) (by simp) (by simp [go_sem]) ?_
    refine (findIdle ⟨w.heap.size, 0, none⟩ _).mono ?_
    rintro e u' w'' ⟨rfl, rfl, rfl⟩
    simp [Leaves, settle, results, Tryd.results24, go_sem, hcell]
    refine .inr ⟨n, r, HL.out, rfl, ⟨HB.out.1.os, HB.out.1.tape, HB.out.1.output, Nat.le_trans (by simp) (Nat.le_trans HB.out.1.size (by simp [World.setCell])), fun k hk hkc => ?_⟩, ?_⟩
    · rw [Below.heap_setCell _ _ _ _ (by show k ≠ w.heap.size; omega), HB.out.1.block k (by simp; omega) hkc, Below.heap_alloc _ _ _ hk]
    · rw [World.cell?_of_block (w := w') (Below.heap_setCell _ _ _ _ (by show c ≠ w.heap.size; omega))]; exact HB.out.2

set_option maxRecDepth 100000 in
set_option maxHeartbeats 1000000 in
theorem find55 (d : Nat) (v : Value) (cs : List Int) (ns : List Nd) (ss : List Int) (w : World) (B c : Nat) (herr : Err w B d v cs ns ss) (hBc : B ≤ c) (hc : w.cell? ⟨c, 0, none⟩ = some (.pointer none)) (hcf : w.frozen? ⟨c, 0, none⟩ = false) (hE : ErrType w) :
    Calls Tryd.prog 24 #[v, .iface 56 (.pointer (some ⟨c, 0, none⟩))] w (AsPostF c ss w) := by
  have hcw := cell?_lt hc
  have h0 : 0 < w.heap.size := cell?_lt hE
  have hmf : ∀ (fn : Fn) (first cap : Array Value) (w : World), (Instr.makeFunc fn first cap).run Tryd.prog w = .ok (.func fn first cap) w := fun _ _ _ _ => rfl
  have HE := Lib.hid herr
  have HC := Lib.hid (And.intro hE (And.intro hc hcf))
  clear herr hE hc hcf
  go_enter_defers Tryd.func24, Tryd.ntmps24
  go_wp2_with fail
  refine (As17_55 d _ cs ns ss _ B c (HE.out.below ((Below.refl B w).alloc (by omega) _)) hBc ?_ ?_ ?_).mono ?_
  · rw [World.cell?_alloc_past _ _ _ hcw]; exact HC.out.2.1
  · simp [HC.out.2.2, hcw, go_sem]
  · show World.cell? _ _ = _
    rw [World.cell?_alloc_past _ _ _ h0]; exact HC.out.1
  rintro e w' (⟨hl, rfl, hb⟩ | ⟨n, r, hl, rfl, hb, h2⟩)
  · have hcell : w'.cell? ⟨w.heap.size, 0, none⟩ = some (.bool false) := by rw [hb.cell (p := ⟨w.heap.size, 0, none⟩) (by simp)]; simp [go_sem]
    have hfr : w'.frozen? ⟨w.heap.size, 0, none⟩ = false := by rw [hb.frozen (p := ⟨w.heap.size, 0, none⟩) (by simp)]; simp [go_sem]
    have HL := Lib.hid hl
    have HB := Lib.hid hb
    clear hl hb
    go_wp2_with fail
    refine leaves_cons (f := 35) (args := #[.pointer (some ⟨w.heap.size, 0, none⟩)]) (by simp) (by simp [go_sem]) ?_
    refine (findIdle ⟨w.heap.size, 0, none⟩ _).mono ?_
    rintro e u' w'' ⟨rfl, rfl, rfl⟩
    simp [Leaves, settle, results, Tryd.results24, go_sem, hcell]
    exact .inl ⟨HL.out, rfl, ((Below.refl _ w).alloc (Nat.le_refl _) _).trans ((HB.out.mono (by simp)).setCell (p := ⟨w.heap.size, 0, none⟩) (Nat.le_refl _) _)⟩
  · have hcell : w'.cell? ⟨w.heap.size, 0, none⟩ = some (.bool false) := by rw [hb.cell (p := ⟨w.heap.size, 0, none⟩) (by simp) (by show w.heap.size ≠ c; omega)]; simp [go_sem]
    have hfr : w'.frozen? ⟨w.heap.size, 0, none⟩ = false := by rw [hb.frozen (p := ⟨w.heap.size, 0, none⟩) (by simp) (by show w.heap.size ≠ c; omega)]; simp [go_sem]
    have HL := Lib.hid hl
    have HB := Lib.hid (And.intro hb h2)
    clear hl hb h2
    go_wp2_with fail
    refine leaves_cons (f := 35) (args := #[.pointer (some ⟨w.heap.size, 0, none⟩)]) (by simp) (by simp [go_sem]) ?_
    refine (findIdle ⟨w.heap.size, 0, none⟩ _).mono ?_
    rintro e u' w'' ⟨rfl, rfl, rfl⟩
    simp [Leaves, settle, results, Tryd.results24, go_sem, hcell]
    refine .inr ⟨n, r, HL.out, rfl, ⟨HB.out.1.os, HB.out.1.tape, HB.out.1.output, Nat.le_trans (by simp) (Nat.le_trans HB.out.1.size (by simp [World.setCell])), fun k hk hkc => ?_⟩, ?_⟩
    · rw [Below.heap_setCell _ _ _ _ (by show k ≠ w.heap.size; omega), HB.out.1.block k (by simp; omega) hkc, Below.heap_alloc _ _ _ hk]
    · obtain ⟨b, y, hb1, hb2, hb3⟩ := HB.out.2
      exact ⟨b, y, hb1, by rw [World.cell?_of_block (w := w') (Below.heap_setCell _ _ _ _ (by show c ≠ w.heap.size; omega))]; exact hb2, by rw [Below.heap_setCell _ _ _ _ (by show b ≠ w.heap.size; omega)]; exact hb3⟩

end Go.Proofs.YtbifpjdkljibeaaDoor
