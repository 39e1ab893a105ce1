import Derived.Test.YtbifpjdkljibeaaDoorH
import Derived.Recover
namespace Go.Proofs.YtbifpjdkljibeaaDoor
open Go.RowKit Go.Extern.Stop Go.Stop Go.Extern Go.Extern.Rtype

theorem as26_all (d : Nat) : As26 d := by
  induction d using Nat.strongRecOn with
  | _ d ih => exact as26 d ih
theorem as55_all (d : Nat) : As55 d := by
  induction d using Nat.strongRecOn with
  | _ d ih => exact as55 d ih

/-- The variable errors.errorType, as it is laid. -/
def ErrType (w : World) : Prop := w.cell? ⟨0, 0, none⟩ = some (.iface 97 (.agg #[.pointer (some ⟨4, 24, none⟩)]))

set_option maxRecDepth 100000 in
set_option maxHeartbeats 1000000 in
theorem As17_26 (d : Nat) (v : Value) (cs : List Int) (ns : List Nd) (ss : List Int) (w : World) (B c : Nat) (herr : Err w B d v cs ns ss) (hBc : B ≤ c) (hc : w.cell? ⟨c, 0, none⟩ = some (.int .i64 0)) (hcf : w.frozen? ⟨c, 0, none⟩ = false) (hE : ErrType w) :
    Calls Tryd.prog 17 #[v, .iface 67 (.pointer (some ⟨c, 0, none⟩))] w (AsPost c (.int .i64 ·) cs w) := by
  obtain ⟨t, u, rfl⟩ := herr.iface
  have hcw := cell?_lt hc
  have h0 : 0 < w.heap.size := cell?_lt hE
  have q1 := eqlNil
  have q2 := eqlNil20
  have c1 := Tryd.valueOf26
  have c2 := Tryd.type26
  have c3 := Tryd.kindP26
  have c4 := Tryd.elem26
  have c5 := Tryd.kind26
  have c6 := Tryd.impl26
  have m1 := mKind
  have m2 := mElem
  have m3 := mImpl
  have n1 := isNil67
  have e2 : ∀ o1 o2, ((w.alloc o1).alloc o2).cell? ⟨0, 0, none⟩ = some (.iface 97 (.agg #[.pointer (some ⟨4, 24, none⟩)])) := fun o1 o2 => by
    rw [World.cell?_alloc_past _ _ _ (by simp), World.cell?_alloc_past _ _ _ h0]; exact hE
  have HE := Lib.hid herr
  have HC := Lib.hid (And.intro hc hcf)
  clear herr hE hc hcf
  go_enter Tryd.func17, Tryd.ntmps17
  go_wp2_with fail
  refine (as26_all d _ cs ns ss _ B c w.heap.size (HE.out.below (((Below.refl B w).alloc (by omega) _).alloc (by simp; omega) _)) hBc hcw ?_ ?_ ?_).mono ?_
  · rw [World.cell?_alloc_past _ _ _ (by simp; omega), World.cell?_alloc_past _ _ _ hcw]; exact HC.out.1
  · simp [HC.out.2, hcw, go_sem]
  · simp [go_sem]
  rintro e w' (⟨hl, rfl, hb⟩ | ⟨n, r, hl, rfl, hb, h2⟩)
  · have HL := Lib.hid hl
    have HB := Lib.hid hb
    clear hl hb
    go_wp2
    go_ret
    exact .inl ⟨HL.out, rfl, (((Below.refl _ w).alloc (by omega) _).alloc (by simp) _).trans (HB.out.mono (by simp; omega))⟩
  · have HL := Lib.hid hl
    have HB := Lib.hid (And.intro hb h2)
    clear hl hb h2
    go_wp2
    go_ret
    exact .inr ⟨n, r, HL.out, rfl, (But.of (((Below.refl _ w).alloc (Nat.le_refl _) _).alloc (by simp) _)).trans HB.out.1, HB.out.2⟩

set_option maxRecDepth 100000 in
set_option maxHeartbeats 1000000 in
theorem As17_55 (d : Nat) (v : Value) (cs : List Int) (ns : List Nd) (ss : List Int) (w : World) (B c : Nat) (herr : Err w B d v cs ns ss) (hBc : B ≤ c) (hc : w.cell? ⟨c, 0, none⟩ = some (.pointer none)) (hcf : w.frozen? ⟨c, 0, none⟩ = false) (hE : ErrType w) :
    Calls Tryd.prog 17 #[v, .iface 56 (.pointer (some ⟨c, 0, none⟩))] w (AsPostF c ss w) := by
  obtain ⟨t, u, rfl⟩ := herr.iface
  have hcw := cell?_lt hc
  have h0 : 0 < w.heap.size := cell?_lt hE
  have q1 := eqlNil
  have q2 := eqlNil20
  have c1 := Tryd.valueOf55
  have c2 := Tryd.type55
  have c3 := Tryd.kindP55
  have c4 := Tryd.elem55
  have c5 := Tryd.kind55
  have c6 := Tryd.impl55
  have m1 := mKind
  have m2 := mElem
  have m3 := mImpl
  have n1 := isNil56
  have e2 : ∀ o1 o2, ((w.alloc o1).alloc o2).cell? ⟨0, 0, none⟩ = some (.iface 97 (.agg #[.pointer (some ⟨4, 24, none⟩)])) := fun o1 o2 => by
    rw [World.cell?_alloc_past _ _ _ (by simp), World.cell?_alloc_past _ _ _ h0]; exact hE
  have HE := Lib.hid herr
  have HC := Lib.hid (And.intro hc hcf)
  clear herr hE hc hcf
  go_enter Tryd.func17, Tryd.ntmps17
  go_wp2_with fail
  refine (as55_all d _ cs ns ss _ B c w.heap.size (HE.out.below (((Below.refl B w).alloc (by omega) _).alloc (by simp; omega) _)) hBc hcw ?_ ?_ ?_).mono ?_
  · rw [World.cell?_alloc_past _ _ _ (by simp; omega), World.cell?_alloc_past _ _ _ hcw]; exact HC.out.1
  · simp [HC.out.2, hcw, go_sem]
  · simp [go_sem]
  rintro e w' (⟨hl, rfl, hb⟩ | ⟨n, r, hl, rfl, hb, h2⟩)
  · have HL := Lib.hid hl
    have HB := Lib.hid hb
    clear hl hb
    go_wp2
    go_ret
    exact .inl ⟨HL.out, rfl, (((Below.refl _ w).alloc (by omega) _).alloc (by simp) _).trans (HB.out.mono (by simp; omega))⟩
  · have HL := Lib.hid hl
    have HB := Lib.hid (And.intro hb h2)
    clear hl hb h2
    go_wp2
    go_ret
    exact .inr ⟨n, r, HL.out, rfl, (But.of (((Below.refl _ w).alloc (Nat.le_refl _) _).alloc (by simp) _)).trans HB.out.1, HB.out.2⟩

end Go.Proofs.YtbifpjdkljibeaaDoor
