import Derived.Test.YtbifpjdkljibeaaDoorN1
import Derived.Test.YtbifpjdkljibeaaDoorN2
import Derived.Test.YtbifpjdkljibeaaDoorK6
import Derived.Test.YtbifpjdkljibeaaDoorT
import Derived.Test.YtbifpjdkljibeaaDoorZ
namespace Go.Proofs.YtbifpjdkljibeaaDoor
open Go.RowKit Go.Extern.Stop Go.Stop Go.Extern Go.Extern.Rtype

theorem as32_all (d : Nat) : As32 d := by
  induction d using Nat.strongRecOn with
  | _ d ih => exact as32 d ih

set_option maxRecDepth 100000 in
set_option maxHeartbeats 1000000 in
theorem As17_32 (d : Nat) (v : Value) (cs : List Int) (ns : List Nd) (ss : List Int) (w : World) (B c : Nat) (herr : Err w B d v cs ns ss) (hBc : B ≤ c) (hc : w.cell? ⟨c, 0, none⟩ = some (.pointer none)) (hcf : w.frozen? ⟨c, 0, none⟩ = false) (hE : ErrType w) :
    Calls Tryd.prog 17 #[v, .iface 40 (.pointer (some ⟨c, 0, none⟩))] w (AsPostN c (nodesOf ns) w) := by
  obtain ⟨t, u, rfl⟩ := herr.iface
  have hcw := cell?_lt hc
  have h0 : 0 < w.heap.size := cell?_lt hE
  have q1 := eqlNil
  have q2 := eqlNil20
  have c1 := Tryd.valueOf32
  have c2 := Tryd.type32
  have c3 := Tryd.kindP32
  have c4 := Tryd.elem32
  have c5 := Tryd.kind32
  have c6 := Tryd.impl32
  have m1 := mKind
  have m2 := mElem
  have m3 := mImpl
  have n1 := isNil40
  have e2 : ∀ o1 o2, ((w.alloc o1).alloc o2).cell? ⟨0, 0, none⟩ = some (.iface 97 (.agg #[.pointer (some ⟨4, 24, none⟩)])) := fun o1 o2 => by
    rw [World.cell?_alloc_past _ _ _ (by simp), World.cell?_alloc_past _ _ _ h0]; exact hE
  have HE := Lib.hid herr
  have HC := Lib.hid (And.intro hc hcf)
  clear herr hE hc hcf
  go_enter Tryd.func17, Tryd.ntmps17
  go_wp2_with fail
  refine (as32_all d _ cs ns ss _ B c w.heap.size (HE.out.below (((Below.refl B w).alloc (by omega) _).alloc (by simp; omega) _)) hBc hcw ?_ ?_ ?_).mono ?_
  · rw [World.cell?_alloc_past _ _ _ (by simp; omega), World.cell?_alloc_past _ _ _ hcw]; exact HC.out.1
  · simp [HC.out.2, hcw, go_sem]
  · simp [go_sem]
  rintro e w' (⟨hl, rfl, hb⟩ | ⟨n, r, hl, rfl, hb, h2⟩)
  · have HL := Lib.hid hl
    have HB := Lib.hid hb
    clear hl hb
    go_wp2
    go_ret
    exact .inl ⟨HL.out, rfl, (((Below.refl _ w).alloc (by omega) _).alloc (by simp) _).trans (HB.out.mono (by simp; omega))⟩
  · have HL := Lib.hid hl
    have HB := Lib.hid (And.intro hb h2)
    clear hl hb h2
    go_wp2
    go_ret
    exact .inr ⟨n, r, HL.out, rfl, (But.of (((Below.refl _ w).alloc (Nat.le_refl _) _).alloc (by simp) _)).trans HB.out.1, HB.out.2⟩

/-- errors.As at a target that holds a *cause.All, where the error itself is one. -/
def AsPostA (b c : Nat) (w : World) (e : Ending) (w' : World) : Prop := e = .returned (.bool true) ∧ But c w w' ∧ w'.cell? ⟨c, 0, none⟩ = some (.pointer (some ⟨b, 0, none⟩))

set_option maxRecDepth 100000 in
set_option maxHeartbeats 1000000 in
theorem as33_root (b : Nat) (w : World) (c x : Nat) (hc : w.cell? ⟨c, 0, none⟩ = some (.pointer none)) (hcf : w.frozen? ⟨c, 0, none⟩ = false) (hx : w.cell? ⟨x, 0, none⟩ = some (.pointer (some ⟨c, 0, none⟩))) :
    Calls Tryd.prog 30 #[.iface 33 (.pointer (some ⟨b, 0, none⟩)), .iface 43 (.pointer (some ⟨c, 0, none⟩)), .agg #[.pointer (some ⟨4, 43, none⟩), .pointer (some ⟨x, 0, none⟩), .int .u64 150], .iface 97 (.agg #[.pointer (some ⟨4, 33, none⟩)])] w (AsPostA b c w) := by
  have hcw := cell?_lt hc
  have hxw := cell?_lt hx
  have m4 := mAsg
  have t1 := Tryd.typeOfA
  have t2 := Tryd.asgA33
  have t3 := velem43
  have t4 := Tryd.valueOfA
  have kc : (w.alloc (.cells #[.pointer (some ⟨4, 43, none⟩), .pointer (some ⟨x, 0, none⟩), .int .u64 150] 72)).cell? ⟨c, 0, none⟩ = some (.pointer none) := by rw [World.cell?_alloc_past _ _ _ hcw]; exact hc
  have t5 := vset33 ⟨c, 0, none⟩ ⟨w.heap.size + 1, 0, none⟩ (some ⟨b, 0, none⟩) (.pointer none) ((w.alloc (.cells #[.pointer (some ⟨4, 43, none⟩), .pointer (some ⟨x, 0, none⟩), .int .u64 150] 72)).alloc (.cells #[.pointer (some ⟨b, 0, none⟩)] 33)) (by simp [go_sem]) (by rw [World.cell?_alloc_past _ _ _ (by simp; omega)]; exact kc) (by simp [hcf, hcw, go_sem])
  go_enter Tryd.func30, Tryd.ntmps30
  go_wp2_with fail
  refine wp_loop_rounds 1 ?_
  rw [rounds_succ]
  go_wp2
  go_ret
  exact ⟨rfl, (But.set c w _).trans (But.of (((Below.refl _ _).alloc (Nat.le_refl _) _).alloc (by simp) _)), by simp [hc, hcw, go_sem]⟩

set_option maxRecDepth 100000 in
set_option maxHeartbeats 1000000 in
theorem As17_33 (b : Nat) (w : World) (c : Nat) (hc : w.cell? ⟨c, 0, none⟩ = some (.pointer none)) (hcf : w.frozen? ⟨c, 0, none⟩ = false) (hE : ErrType w) :
    Calls Tryd.prog 17 #[.iface 33 (.pointer (some ⟨b, 0, none⟩)), .iface 43 (.pointer (some ⟨c, 0, none⟩))] w (AsPostA b c w) := by
  have hcw := cell?_lt hc
  have h0 : 0 < w.heap.size := cell?_lt hE
  have q1 := eqlNil
  have q2 := eqlNil20
  have c1 := Tryd.valueOf33
  have c2 := Tryd.type33
  have c3 := Tryd.kindP33
  have c4 := Tryd.elem33
  have c5 := Tryd.kind33
  have c6 := Tryd.impl33
  have m1 := mKind
  have m2 := mElem
  have m3 := mImpl
  have n1 := isNil43
  have e2 : ∀ o1 o2, ((w.alloc o1).alloc o2).cell? ⟨0, 0, none⟩ = some (.iface 97 (.agg #[.pointer (some ⟨4, 24, none⟩)])) := fun o1 o2 => by
    rw [World.cell?_alloc_past _ _ _ (by simp), World.cell?_alloc_past _ _ _ h0]; exact hE
  have HC := Lib.hid (And.intro hc hcf)
  clear hE hc hcf
  go_enter Tryd.func17, Tryd.ntmps17
  go_wp2_with fail
  refine (as33_root b _ c w.heap.size ?_ ?_ ?_).mono ?_
  · rw [World.cell?_alloc_past _ _ _ (by simp; omega), World.cell?_alloc_past _ _ _ hcw]; exact HC.out.1
  · simp [HC.out.2, hcw, go_sem]
  · simp [go_sem]
  rintro e w' ⟨rfl, hb, h2⟩
  have HB := Lib.hid (And.intro hb h2)
  clear hb h2
  go_wp2
  go_ret
  exact ⟨rfl, (But.of (((Below.refl _ w).alloc (Nat.le_refl _) _).alloc (by simp) _)).trans HB.out.1, HB.out.2⟩


set_option maxRecDepth 100000 in
set_option maxHeartbeats 1000000 in
theorem new12 (s : ByteArray) (w : World) : Calls Tryd.prog 12 #[.string s] w fun e w' => e = .returned (.iface 64 (.pointer (some ⟨w.heap.size, 0, none⟩))) ∧ w' = w.alloc (.cells #[.string s] 66) := by
  go_enter Tryd.func12, Tryd.ntmps12
  go_wp2
  go_ret
  exact ⟨rfl, rfl⟩

set_option maxRecDepth 100000 in
set_option maxHeartbeats 1000000 in
theorem holds_nil (w : World) (m : Int) : Calls Tryd.prog 25 #[.nilIface, .int .i64 m] w fun e w' => e = .returned (.bool false) ∧ Below w.heap.size w w' := by
  have hmf : ∀ (fn : Fn) (first cap : Array Value) (w : World), (Instr.makeFunc fn first cap).run Tryd.prog w = .ok (.func fn first cap) w := fun _ _ _ _ => rfl
  go_enter_defers Tryd.func25, Tryd.ntmps25
  go_wp2_with fail
  refine (is22_nil 26 _ _).mono ?_
  rintro e w' ⟨rfl, rfl⟩
  go_wp2_with fail
  refine leaves_cons (f := 36) (args := #[.pointer (some ⟨w.heap.size, 0, none⟩)]) (by simp) (by simp [go_sem]) ?_
  refine (holdsIdle ⟨w.heap.size, 0, none⟩ _).mono ?_
  rintro e u' w'' ⟨rfl, rfl, rfl⟩
  simp [Leaves, settle, results, Tryd.results25, go_sem]
  exact (Below.refl _ w).alloc (Nat.le_refl _) _

set_option maxRecDepth 100000 in
set_option maxHeartbeats 1000000 in
theorem cis_nil (w : World) (m : Int) : Calls Tryd.prog 15 #[.nilIface, .int .i64 m] w fun e w' => e = .returned (.bool false) ∧ Below w.heap.size w w' := by
  go_enter Tryd.func15, Tryd.ntmps15
  go_wp2_with fail
  refine (holds_nil _ m).mono ?_
  rintro e w' ⟨rfl, hb⟩
  have HB := Lib.hid hb
  clear hb
  go_wp2_with fail
  go_ret
  exact ⟨rfl, HB.out⟩

theorem taUnNil (xT : TypeId) (w : World) : (Instr.typeAssert .nilIface xT 88 true).run Tryd.prog w = .ok (.tuple #[.nilIface, .bool false]) w := by kernel_rfl
theorem taUnsNil (xT : TypeId) (w : World) : (Instr.typeAssert .nilIface xT 104 true).run Tryd.prog w = .ok (.tuple #[.nilIface, .bool false]) w := by kernel_rfl

set_option maxRecDepth 100000 in
set_option maxHeartbeats 1000000 in
theorem parts_nil (w : World) : Calls Tryd.prog 41 #[.nilIface] w (PartsPost [] w) := by
  have hmf : ∀ (fn : Fn) (first cap : Array Value) (w : World), (Instr.makeFunc fn first cap).run Tryd.prog w = .ok (.func fn first cap) w := fun _ _ _ _ => rfl
  have t7 := taUnNil
  have t8 := taUnsNil
  go_enter_defers Tryd.func41, Tryd.ntmps41
  go_wp2_with fail
  refine leaves_cons (f := 46) (args := #[.pointer (some ⟨w.heap.size, 0, none⟩)]) (by simp) (by simp [go_sem]) ?_
  refine (partsIdle ⟨w.heap.size, 0, none⟩ _).mono ?_
  rintro e u' w'' ⟨rfl, rfl, rfl⟩
  simp [Leaves, settle, results, Tryd.results41, go_sem]
  exact ⟨_, rfl, (Below.refl _ w).alloc (Nat.le_refl _) _, .inl ⟨rfl, rfl⟩⟩

set_option maxRecDepth 100000 in
set_option maxHeartbeats 1000000 in
theorem nodes_nil (w : World) : Calls Tryd.prog 18 #[.nilIface] w fun e w' => e = .returned (.slice none 0 0) ∧ Below w.heap.size w w' := by
  have a1 := taN32
  go_enter Tryd.func18, Tryd.ntmps18
  go_wp2_with (go_at_call 31; go_in)
  refine (parts_nil _).mono ?_
  rintro e w1 ⟨v, rfl, hb, ⟨rfl, _⟩ | ⟨g, cap, cur, rfl, _, _, _, _⟩⟩
  · have HB := Lib.hid hb
    clear hb
    go_wp2_with fail
    refine wp_loop_rounds 1 ?_
    rw [rounds_succ]
    go_wp2_with fail
    go_ret
    exact ⟨rfl, HB.out⟩
  · have HB := Lib.hid hb
    clear hb
    go_wp2_with fail
    refine wp_loop_rounds 1 ?_
    rw [rounds_succ]
    go_wp2_with fail
    go_ret
    exact ⟨rfl, HB.out⟩

set_option maxRecDepth 100000 in
set_option maxHeartbeats 1000000 in
theorem onError (d : Nat) (a : Addr) (t : List UInt8) (w : World) (ht : Txt w w.heap.size d (.iface 32 (.pointer (some a))) t) (hlen : t.length ≤ 1000000) :
    Calls Tryd.prog 82 #[.pointer (some a)] w fun e w' => e = .returned (.string ⟨t.toArray⟩) ∧ Below w.heap.size w w' := by
  have HT := Lib.hid ht
  clear ht
  go_enter Tryd.func82, Tryd.ntmps82
  go_wp2_with fail
  refine (text26 d _ t _ HT.out hlen).mono ?_
  rintro e w' ⟨rfl, hb⟩
  have HB := Lib.hid hb
  clear hb
  go_wp2_with fail
  go_ret
  exact ⟨rfl, HB.out⟩

set_option maxRecDepth 100000 in
set_option maxHeartbeats 1000000 in
theorem ofError (d : Nat) (a : Addr) (t : List UInt8) (w : World) (ht : Txt w w.heap.size d (.iface 55 (.pointer (some a))) t) (hlen : t.length ≤ 1000000) :
    Calls Tryd.prog 85 #[.pointer (some a)] w fun e w' => e = .returned (.string ⟨t.toArray⟩) ∧ Below w.heap.size w w' := by
  have HT := Lib.hid ht
  clear ht
  go_enter Tryd.func85, Tryd.ntmps85
  go_wp2_with fail
  refine (text26 d _ t _ HT.out hlen).mono ?_
  rintro e w' ⟨rfl, hb⟩
  have HB := Lib.hid hb
  clear hb
  go_wp2_with fail
  go_ret
  exact ⟨rfl, HB.out⟩

set_option maxRecDepth 100000 in
set_option maxHeartbeats 1000000 in
theorem allError (d : Nat) (a : Addr) (t : List UInt8) (w : World) (ht : Txt w w.heap.size d (.iface 33 (.pointer (some a))) t) (hlen : t.length ≤ 1000000) :
    Calls Tryd.prog 16 #[.pointer (some a)] w fun e w' => e = .returned (.string ⟨t.toArray⟩) ∧ Below w.heap.size w w' := by
  have HT := Lib.hid ht
  clear ht
  go_enter Tryd.func16, Tryd.ntmps16
  go_wp2_with fail
  refine (text26 d _ t _ HT.out hlen).mono ?_
  rintro e w' ⟨rfl, hb⟩
  have HB := Lib.hid hb
  clear hb
  go_wp2_with fail
  go_ret
  exact ⟨rfl, HB.out⟩

end Go.Proofs.YtbifpjdkljibeaaDoor
