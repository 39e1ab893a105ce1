import Derived.Test.YtbifpjdkljibeaaDoorN3
namespace Go.Proofs.YtbifpjdkljibeaaDoor
open Go.RowKit Go.Extern.Stop Go.Stop Go.Extern Go.Extern.Rtype

/-- An All of nil and of code 1. -/
def Odd (b g : Nat) (w : World) : Prop := w.heap[b]? = some (.cells #[.slice (some ⟨g, 0, none⟩) 2 2] 35 (0, 0)) ∧ w.heap[g]? = some (.cells #[.nilIface, .iface 26 (.int .i64 1)] 24 (0, 0))
theorem Odd.below {b g B : Nat} {w w' : World} (h : Odd b g w) (hb : Below B w w') (h1 : b < B) (h2 : g < B) : Odd b g w' := ⟨by rw [hb.block b h1]; exact h.1, by rw [hb.block g h2]; exact h.2⟩

set_option maxRecDepth 100000 in
set_option maxHeartbeats 1000000 in
theorem as30_odd (b g : Nat) (w : World) (c x : Nat) (ho : Odd b g w) (hbc : b < c) (hgc : g < c) (hcx : c < x) (hc : w.cell? ⟨c, 0, none⟩ = some (.int .i64 0)) (hcf : w.frozen? ⟨c, 0, none⟩ = false) (hx : w.cell? ⟨x, 0, none⟩ = some (.pointer (some ⟨c, 0, none⟩))) :
    Calls Tryd.prog 30 #[.iface 33 (.pointer (some ⟨b, 0, none⟩)), .iface 67 (.pointer (some ⟨c, 0, none⟩)), .agg #[.pointer (some ⟨4, 67, none⟩), .pointer (some ⟨x, 0, none⟩), .int .u64 150], .iface 97 (.agg #[.pointer (some ⟨4, 26, none⟩)])] w (AsPost c (.int .i64 ·) [1] w) := by
  have hcb := cell?_lt hc
  have hxb := cell?_lt hx
  have m4 := mAsg
  have t1 := Tryd.typeOfA
  have t2 := Tryd.asgA26
  have t6 := taAsA
  have t7 := taUnA
  have t8 := taUnsA
  have t9 := mUnA
  have t10 := naUnA
  have q := eqlNil
  have q2 := eqlNilNil
  have HO := Lib.hid ho
  have HC := Lib.hid (And.intro hc (And.intro hcf hx))
  have hbx0 : Below w.heap.size w (w.alloc (.cells #[.pointer (some ⟨4, 67, none⟩), .pointer (some ⟨x, 0, none⟩), .int .u64 150] 72)) := (Below.refl _ _).alloc (Nat.le_refl _) _
  have HB0 := Lib.hid hbx0
  clear ho hc hcf hx hbx0
  go_enter Tryd.func30, Tryd.ntmps30
  go_wp2_with fail
  refine wp_loop_rounds 1 ?_
  rw [rounds_succ]
  go_wp2_with fail
  have hodd := HO.out.below HB0.out (by omega) (by omega)
  have hone : ∀ y ∈ (#[Value.nilIface, .iface 26 (.int .i64 1)] : Array Value).toList.take 2, Value.oneCell' y = true := by
    intro y hy
    simp at hy
    rcases hy with rfl | rfl <;> rfl
  refine (allUnwrap b g 2 2 #[.nilIface, .iface 26 (.int .i64 1)] _ hodd.1 hodd.2 (by omega) (by omega) (by simp) hone).mono ?_
  rintro e w1 ⟨v1, rfl, ho1, hb1, hn⟩
  obtain ⟨g1, cap1, rfl, hg1, hg2, hcap, hmax, hcell⟩ := owns_open ho1 hn
  have hw1 : Below w.heap.size w w1 := HB0.out.trans (hb1.mono (by simp))
  have h0 : w1.cell? ⟨g1, 0, none⟩ = some .nilIface := hcell 0 _ rfl
  have h1 : w1.cell? ⟨g1, 1, none⟩ = some (.iface 26 (.int .i64 1)) := hcell 1 _ rfl
  have kc : w1.cell? ⟨c, 0, none⟩ = some (.int .i64 0) := (hw1.cell (p := ⟨c, 0, none⟩) hcb).trans HC.out.1
  have kf : w1.frozen? ⟨c, 0, none⟩ = false := (hw1.frozen (p := ⟨c, 0, none⟩) hcb).trans HC.out.2.1
  have kx : w1.cell? ⟨x, 0, none⟩ = some (.pointer (some ⟨c, 0, none⟩)) := (hw1.cell (p := ⟨x, 0, none⟩) hxb).trans HC.out.2.2
  have k0 : w1.cell? ⟨w.heap.size, 0, none⟩ = some (.pointer (some ⟨4, 67, none⟩)) := by rw [hb1.cell (p := ⟨w.heap.size, 0, none⟩) (by simp)]; simp [go_sem]
  have k1 : w1.cell? ⟨w.heap.size, 1, none⟩ = some (.pointer (some ⟨x, 0, none⟩)) := by rw [hb1.cell (p := ⟨w.heap.size, 1, none⟩) (by simp)]; simp [go_sem]
  have k2 : w1.cell? ⟨w.heap.size, 2, none⟩ = some (.int .u64 150) := by rw [hb1.cell (p := ⟨w.heap.size, 2, none⟩) (by simp)]; simp [go_sem]
  have HW := Lib.hid hw1
  clear ho1 hn hcell hb1 hw1 hodd hone
  have hlen : ∀ (w : World) (a : Option Addr) (n c : Nat), (Builtin.len_ #[29] 3 #[.slice a n c]).run Tryd.prog w = .ok (.int .i64 n) w := fun _ _ _ _ => by kernel_rfl
  go_wp2
  try rw [hlen]
  go_wp2
  refine wp_loop_rounds 2 ?_
  rw [rounds_succ]
  go_wp2_with fail
  rw [rounds_succ]
  go_wp2_with fail
  refine (as26_all 1 _ _ _ _ _ c c x (errno_err _ _ 1) (Nat.le_refl _) hcx kc kf kx).mono ?_
  rintro e w2 (⟨hl, _, _⟩ | ⟨n, r, hl, rfl, hb2, hc2⟩)
  · cases hl
  · cases hl
    have H2 := Lib.hid (And.intro hb2 hc2)
    clear hb2 hc2
    go_wp2_with fail
    go_ret
    exact .inr ⟨1, [], rfl, rfl, (But.of HW.out).trans H2.out.1, H2.out.2⟩

set_option maxRecDepth 100000 in
set_option maxHeartbeats 1000000 in
theorem As17_odd (b g : Nat) (w : World) (c : Nat) (herr : Odd b g w) (hbc : b < c) (hgc : g < c) (hc : w.cell? ⟨c, 0, none⟩ = some (.int .i64 0)) (hcf : w.frozen? ⟨c, 0, none⟩ = false) (hE : ErrType w) :
    Calls Tryd.prog 17 #[.iface 33 (.pointer (some ⟨b, 0, none⟩)), .iface 67 (.pointer (some ⟨c, 0, none⟩))] w (AsPost c (.int .i64 ·) [1] w) := by
  have hcw := cell?_lt hc
  have h0 : 0 < w.heap.size := cell?_lt hE
  have q1 := eqlNil
  have q2 := eqlNil20
  have c1 := Tryd.valueOf26
  have c2 := Tryd.type26
  have c3 := Tryd.kindP26
  have c4 := Tryd.elem26
  have c5 := Tryd.kind26
  have c6 := Tryd.impl26
  have m1 := mKind
  have m2 := mElem
  have m3 := mImpl
  have n1 := isNil67
  have e2 : ∀ o1 o2, ((w.alloc o1).alloc o2).cell? ⟨0, 0, none⟩ = some (.iface 97 (.agg #[.pointer (some ⟨4, 24, none⟩)])) := fun o1 o2 => by
    rw [World.cell?_alloc_past _ _ _ (by simp), World.cell?_alloc_past _ _ _ h0]; exact hE
  have HE := Lib.hid herr
  have HC := Lib.hid (And.intro hc hcf)
  clear herr hE hc hcf
  go_enter Tryd.func17, Tryd.ntmps17
  go_wp2_with fail
  refine (as30_odd b g _ c w.heap.size (HE.out.below (((Below.refl c w).alloc (by omega) _).alloc (by simp; omega) _) hbc hgc) hbc hgc hcw ?_ ?_ ?_).mono ?_
  · rw [World.cell?_alloc_past _ _ _ (by simp; omega), World.cell?_alloc_past _ _ _ hcw]; exact HC.out.1
  · simp [HC.out.2, hcw, go_sem]
  · simp [go_sem]
  rintro e w' (⟨hl, rfl, hb⟩ | ⟨n, r, hl, rfl, hb, h2⟩)
  · have HL := Lib.hid hl
    have HB := Lib.hid hb
    clear hl hb
    go_wp2
    go_ret
    exact .inl ⟨HL.out, rfl, (((Below.refl _ w).alloc (by omega) _).alloc (by simp) _).trans (HB.out.mono (by simp; omega))⟩
  · have HL := Lib.hid hl
    have HB := Lib.hid (And.intro hb h2)
    clear hl hb h2
    go_wp2
    go_ret
    exact .inr ⟨n, r, HL.out, rfl, (But.of (((Below.refl _ w).alloc (Nat.le_refl _) _).alloc (by simp) _)).trans HB.out.1, HB.out.2⟩

set_option maxRecDepth 100000 in
set_option maxHeartbeats 1000000 in
theorem find_odd (b g : Nat) (w : World) (c : Nat) (herr : Odd b g w) (hbc : b < c) (hgc : g < c) (hc : w.cell? ⟨c, 0, none⟩ = some (.int .i64 0)) (hcf : w.frozen? ⟨c, 0, none⟩ = false) (hE : ErrType w) :
    Calls Tryd.prog 24 #[.iface 33 (.pointer (some ⟨b, 0, none⟩)), .iface 67 (.pointer (some ⟨c, 0, none⟩))] w (AsPost c (.int .i64 ·) [1] w) := by
  have hcw := cell?_lt hc
  have h0 : 0 < w.heap.size := cell?_lt hE
  have hmf : ∀ (fn : Fn) (first cap : Array Value) (w : World), (Instr.makeFunc fn first cap).run Tryd.prog w = .ok (.func fn first cap) w := fun _ _ _ _ => rfl
  have HE := Lib.hid herr
  have HC := Lib.hid (And.intro hE (And.intro hc hcf))
  clear herr hE hc hcf
  go_enter_defers Tryd.func24, Tryd.ntmps24
  go_wp2_with fail
  refine (As17_odd b g _ c (HE.out.below ((Below.refl c w).alloc (by omega) _) hbc hgc) hbc hgc ?_ ?_ ?_).mono ?_
  · rw [World.cell?_alloc_past _ _ _ hcw]; exact HC.out.2.1
  · simp [HC.out.2.2, hcw, go_sem]
  · show World.cell? _ _ = _
    rw [World.cell?_alloc_past _ _ _ h0]; exact HC.out.1
  rintro e w' (⟨hl, rfl, hb⟩ | ⟨n, r, hl, rfl, hb, h2⟩)
  · have hcell : w'.cell? ⟨w.heap.size, 0, none⟩ = some (.bool false) := by rw [hb.cell (p := ⟨w.heap.size, 0, none⟩) (by simp)]; simp [go_sem]
    have hfr : w'.frozen? ⟨w.heap.size, 0, none⟩ = false := by rw [hb.frozen (p := ⟨w.heap.size, 0, none⟩) (by simp)]; simp [go_sem]
    have HL := Lib.hid hl
    have HB := Lib.hid hb
    clear hl hb
    go_wp2_with fail
    refine leaves_cons (f := 35) (args := #[.pointer (some ⟨w.heap.size, 0, none⟩)]) (by simp) (by simp [go_sem]) ?_
    refine (findIdle ⟨w.heap.size, 0, none⟩ _).mono ?_
    rintro e u' w'' ⟨rfl, rfl, rfl⟩
    simp [Leaves, settle, results, Tryd.results24, go_sem, hcell]
    exact .inl ⟨HL.out, rfl, ((Below.refl _ w).alloc (Nat.le_refl _) _).trans ((HB.out.mono (by simp)).setCell (p := ⟨w.heap.size, 0, none⟩) (Nat.le_refl _) _)⟩
  · have hcell : w'.cell? ⟨w.heap.size, 0, none⟩ = some (.bool false) := by rw [hb.cell (p := ⟨w.heap.size, 0, none⟩) (by simp) (by show w.heap.size ≠ c; omega)]; simp [go_sem]
    have hfr : w'.frozen? ⟨w.heap.size, 0, none⟩ = false := by rw [hb.frozen (p := ⟨w.heap.size, 0, none⟩) (by simp) (by show w.heap.size ≠ c; omega)]; simp [go_sem]
    have HL := Lib.hid hl
    have HB := Lib.hid (And.intro hb h2)
    clear hl hb h2
    go_wp2_with fail
    refine leaves_cons (f := 35) (args := #[.pointer (some ⟨w.heap.size, 0, none⟩)]) (by simp) (by simp [go_sem]) ?_
    refine (findIdle ⟨w.heap.size, 0, none⟩ _).mono ?_
    rintro e u' w'' ⟨rfl, rfl, rfl⟩
    simp [Leaves, settle, results, Tryd.results24, go_sem, hcell]
    refine .inr ⟨n, r, HL.out, rfl, ⟨HB.out.1.os, HB.out.1.tape, HB.out.1.output, Nat.le_trans (by simp) (Nat.le_trans HB.out.1.size (by simp [World.setCell])), fun k hk hkc => ?_⟩, ?_⟩
    · rw [Below.heap_setCell _ _ _ _ (by show k ≠ w.heap.size; omega), HB.out.1.block k (by simp; omega) hkc, Below.heap_alloc _ _ _ hk]
    · rw [World.cell?_of_block (w := w') (Below.heap_setCell _ _ _ _ (by show c ≠ w.heap.size; omega))]; exact HB.out.2

set_option maxRecDepth 100000 in
set_option maxHeartbeats 1000000 in
theorem code_odd (b g : Nat) (w : World) (herr : Odd b g w) (hE : ErrType w) :
    Calls Tryd.prog 14 #[.iface 33 (.pointer (some ⟨b, 0, none⟩))] w fun e w' => e = .returned (.int .i64 1) ∧ Below w.heap.size w w' := by
  have hbw := heap_lt herr.1
  have hgw := heap_lt herr.2
  have h0 : 0 < w.heap.size := cell?_lt hE
  have q1 := eqlNil
  have HE := Lib.hid (And.intro herr hE)
  clear herr hE
  go_enter Tryd.func14, Tryd.ntmps14
  go_wp2_with fail
  refine (find_odd b g _ w.heap.size (HE.out.1.below ((Below.refl _ w).alloc (Nat.le_refl _) _) hbw hgw) hbw hgw ?_ ?_ ?_).mono ?_
  · simp [go_sem]
  · simp [go_sem]
  · show World.cell? _ _ = _
    rw [World.cell?_alloc_past _ _ _ h0]; exact HE.out.2
  rintro e w' (⟨hl, rfl, hb⟩ | ⟨n, r, hl, rfl, hb, h2⟩)
  · cases hl
  · cases hl
    have HB := Lib.hid hb
    clear hb
    go_wp2
    go_ret
    exact ⟨rfl, ((Below.refl _ w).alloc (Nat.le_refl _) _).trans (HB.out.below (Nat.le_refl _) (by simp))⟩

end Go.Proofs.YtbifpjdkljibeaaDoor
