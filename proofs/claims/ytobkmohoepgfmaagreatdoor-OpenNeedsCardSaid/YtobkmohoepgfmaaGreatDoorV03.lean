import Derived.Test.YtobkmohoepgfmaaGreatDoorV02
import Derived.Outline
import Derived.Recover
namespace Go.Proofs.YtobkmohoepgfmaaGreatDoor.Tr
open Go.RowKit Go.Extern.Stop Go.Stop Go.Extern Go.Extern.Rtype

end Go.Proofs.YtobkmohoepgfmaaGreatDoor.Tr
namespace Go.Proofs.YtobkmohoepgfmaaGreatDoor.Tr
open Go.RowKit Go.Extern.Stop Go.Stop Go.Extern Go.Extern.Rtype

theorem as26_all (d : Nat) : As26 d := by
 induction d using Nat.strongRecOn with
 | _ d ih => exact as26 d ih
def ErrType (w : World) : Prop := w.cell? ⟨0, 0, none⟩ = some (.iface 245 (.agg #[.pointer (some ⟨1, 27, none⟩)]))

set_option maxRecDepth 100000 in
set_option maxHeartbeats 1000000 in
theorem As17_26 (d : Nat) (v : Value) (cs : List Int) (ns : List Nd) (ss : List Int) (w : World) (B c : Nat) (herr : Err w B d v cs ns ss) (hBc : B ≤ c) (hc : w.cell? ⟨c, 0, none⟩ = some (.int .i64 0)) (hcf : w.frozen? ⟨c, 0, none⟩ = false) (hE : ErrType w) :
  Calls Tryz.prog 70 #[v, .iface 98 (.pointer (some ⟨c, 0, none⟩))] w (AsPost c (.int .i64 ·) cs w) := by
 obtain ⟨t, u, rfl⟩ := herr.iface
 have hcw := cell?_lt hc
 have h0 : 0 < w.heap.size := cell?_lt hE
 have q1 := eqlNil
 have q2 := eqlNil20
 have c1 := Tryz.valueOf26
 have c2 := Tryz.type26
 have c3 := Tryz.kindP26
 have c4 := Tryz.elem26
 have c5 := Tryz.kind26
 have c6 := Tryz.impl26
 have m1 := mKind
 have m2 := mElem
 have m3 := mImpl
 have n1 := isNil67
 have e2 : ∀ o1 o2, ((w.alloc o1).alloc o2).cell? ⟨0, 0, none⟩ = some (.iface 245 (.agg #[.pointer (some ⟨1, 27, none⟩)])) := fun o1 o2 => by
  rw [World.cell?_alloc_past _ _ _ (by simp), World.cell?_alloc_past _ _ _ h0]; exact hE
 have HE := Lib.hid herr
 have HC := Lib.hid (And.intro hc hcf)
 clear herr hE hc hcf
 go_enter Tryz.func70, Tryz.ntmps70
 go_wp2_with fail
 refine (as26_all d _ cs ns ss _ B c w.heap.size (HE.out.below (((Below.refl B w).alloc (by omega) _).alloc (by simp; omega) _)) hBc hcw ?_ ?_ ?_).mono ?_
 ·rw [World.cell?_alloc_past _ _ _ (by simp; omega), World.cell?_alloc_past _ _ _ hcw]; exact HC.out.1
 ·simp [HC.out.2, hcw, go_sem]
 ·simp [go_sem]
 rintro e w' (⟨hl, rfl, hb⟩ | ⟨n, r, hl, rfl, hb, h2⟩)
 ·have HL := Lib.hid hl
  have HB := Lib.hid hb
  clear hl hb
  go_wp2
  go_ret
  exact .inl ⟨HL.out, rfl, (((Below.refl _ w).alloc (by omega) _).alloc (by simp) _).trans (HB.out.mono (by simp; omega))⟩
 ·have HL := Lib.hid hl
  have HB := Lib.hid (And.intro hb h2)
  clear hl hb h2
  go_wp2
  go_ret
  exact .inr ⟨n, r, HL.out, rfl, (But.of (((Below.refl _ w).alloc (Nat.le_refl _) _).alloc (by simp) _)).trans HB.out.1, HB.out.2⟩

end Go.Proofs.YtobkmohoepgfmaaGreatDoor.Tr
namespace Go.Proofs.YtobkmohoepgfmaaGreatDoor.Tr
open Go.RowKit Go.Extern.Stop Go.Stop Go.Extern Go.Extern.Rtype

theorem findIdle (p : Addr) (w : World) :
  CallsD Tryz.prog 69 #[.pointer (some p)] .returning w fun e u' w' => e = .returned (.tuple #[]) ∧ u' = .returning ∧ w' = w := by
 refine callsD_of_wpS Tryz.func69 rfl fun c₀ cs hu => ?_
 apply wpS_seq
 apply wpS_region
 simp [wpOpsS, go_sem, recoverD, hu, Tryz.ntmps69, Exit.thenS]
 refine wpS_cond (t := false) (by simp [Act.eval, Array.replicate]) ?_
 simp only [Bool.false_eq_true, if_false]
 refine wpS_of_wp (wp_skip ?_)
 cases c₀
 simp_all [bodyPostS, results]

theorem holdsIdle (p : Addr) (w : World) :
  CallsD Tryz.prog 188 #[.pointer (some p)] .returning w fun e u' w' => e = .returned (.tuple #[]) ∧ u' = .returning ∧ w' = w := by
 refine callsD_of_wpS Tryz.func188 rfl fun c₀ cs hu => ?_
 apply wpS_seq
 apply wpS_region
 simp [wpOpsS, go_sem, recoverD, hu, Tryz.ntmps188, Exit.thenS]
 refine wpS_cond (t := false) (by simp [Act.eval, Array.replicate]) ?_
 simp only [Bool.false_eq_true, if_false]
 refine wpS_of_wp (wp_skip ?_)
 cases c₀
 simp_all [bodyPostS, results]

theorem partsIdle (p : Addr) (w : World) :
  CallsD Tryz.prog 105 #[.pointer (some p)] .returning w fun e u' w' => e = .returned (.tuple #[]) ∧ u' = .returning ∧ w' = w := by
 refine callsD_of_wpS Tryz.func105 rfl fun c₀ cs hu => ?_
 apply wpS_seq
 apply wpS_region
 simp [wpOpsS, go_sem, recoverD, hu, Tryz.ntmps105, Exit.thenS]
 refine wpS_cond (t := false) (by simp [Act.eval, Array.replicate]) ?_
 simp only [Bool.false_eq_true, if_false]
 refine wpS_of_wp (wp_skip ?_)
 cases c₀
 simp_all [bodyPostS, results]

set_option maxRecDepth 100000 in
set_option maxHeartbeats 1000000 in
theorem find26 (d : Nat) (v : Value) (cs : List Int) (ns : List Nd) (ss : List Int) (w : World) (B c : Nat) (herr : Err w B d v cs ns ss) (hBc : B ≤ c) (hc : w.cell? ⟨c, 0, none⟩ = some (.int .i64 0)) (hcf : w.frozen? ⟨c, 0, none⟩ = false) (hE : ErrType w) :
  Calls Tryz.prog 44 #[v, .iface 98 (.pointer (some ⟨c, 0, none⟩))] w (AsPost c (.int .i64 ·) cs w) := by
 have hcw := cell?_lt hc
 have h0 : 0 < w.heap.size := cell?_lt hE
 have hmf : ∀ (fn : Fn) (first cap : Array Value) (w : World), (Instr.makeFunc fn first cap).run Tryz.prog w = .ok (.func fn first cap) w := fun _ _ _ _ => rfl
 have HE := Lib.hid herr
 have HC := Lib.hid (And.intro hE (And.intro hc hcf))
 clear herr hE hc hcf
 go_enter_defers Tryz.func44, Tryz.ntmps44
 go_wp2_with fail
 refine (As17_26 d _ cs ns ss _ B c (HE.out.below ((Below.refl B w).alloc (by omega) _)) hBc ?_ ?_ ?_).mono ?_
 ·rw [World.cell?_alloc_past _ _ _ hcw]; exact HC.out.2.1
 ·simp [HC.out.2.2, hcw, go_sem]
 ·show World.cell? _ _ = _
  rw [World.cell?_alloc_past _ _ _ h0]; exact HC.out.1
 rintro e w' (⟨hl, rfl, hb⟩ | ⟨n, r, hl, rfl, hb, h2⟩)
 ·have hcell : w'.cell? ⟨w.heap.size, 0, none⟩ = some (.bool false) := by rw [hb.cell (p := ⟨w.heap.size, 0, none⟩) (by simp)]; simp [go_sem]
  have hfr : w'.frozen? ⟨w.heap.size, 0, none⟩ = false := by rw [hb.frozen (p := ⟨w.heap.size, 0, none⟩) (by simp)]; simp [go_sem]
  have HL := Lib.hid hl
  have HB := Lib.hid hb
  clear hl hb
  go_wp2_with fail
  refine leaves_cons (f := 69) (args := #[.pointer (some ⟨w.heap.size, 0, none⟩)]) (by simp) (by simp [go_sem]) ?_
  refine (findIdle ⟨w.heap.size, 0, none⟩ _).mono ?_
  rintro e u' w'' ⟨rfl, rfl, rfl⟩
  simp [Leaves, settle, results, go_sem, hcell]
  exact .inl ⟨HL.out, rfl, ((Below.refl _ w).alloc (Nat.le_refl _) _).trans ((HB.out.mono (by simp)).setCell (p := ⟨w.heap.size, 0, none⟩) (Nat.le_refl _) _)⟩
 ·have hcell : w'.cell? ⟨w.heap.size, 0, none⟩ = some (.bool false) := by rw [hb.cell (p := ⟨w.heap.size, 0, none⟩) (by simp) (by show w.heap.size ≠ c; omega)]; simp [go_sem]
  have hfr : w'.frozen? ⟨w.heap.size, 0, none⟩ = false := by rw [hb.frozen (p := ⟨w.heap.size, 0, none⟩) (by simp) (by show w.heap.size ≠ c; omega)]; simp [go_sem]
  have HL := Lib.hid hl
  have HB := Lib.hid (And.intro hb h2)
  clear hl hb h2
  go_wp2_with fail
  refine leaves_cons (f := 69) (args := #[.pointer (some ⟨w.heap.size, 0, none⟩)]) (by simp) (by simp [go_sem]) ?_
  refine (findIdle ⟨w.heap.size, 0, none⟩ _).mono ?_
  rintro e u' w'' ⟨rfl, rfl, rfl⟩
  simp [Leaves, settle, results, go_sem, hcell]
  refine .inr ⟨n, r, HL.out, rfl, ⟨HB.out.1.os, HB.out.1.tape, HB.out.1.output, Nat.le_trans (by simp) (Nat.le_trans HB.out.1.size (by simp [World.setCell])), fun k hk hkc => ?_⟩, ?_⟩
  ·rw [Below.heap_setCell _ _ _ _ (by show k ≠ w.heap.size; omega), HB.out.1.block k (by simp; omega) hkc, Below.heap_alloc _ _ _ hk]
  ·rw [World.cell?_of_block (w := w') (Below.heap_setCell _ _ _ _ (by show c ≠ w.heap.size; omega))]; exact HB.out.2

end Go.Proofs.YtobkmohoepgfmaaGreatDoor.Tr
namespace Go.Proofs.YtobkmohoepgfmaaGreatDoor.Tr
open Go.RowKit Go.Extern.Stop Go.Stop Go.Extern Go.Extern.Rtype

def codeOf : List Int → Int
 | [] => 8
 | n :: _ => n

set_option maxRecDepth 100000 in
set_option maxHeartbeats 1000000 in
theorem code_any (d : Nat) (v : Value) (cs : List Int) (ns : List Nd) (ss : List Int) (w : World) (herr : Err w w.heap.size d v cs ns ss) (hE : ErrType w) :
  Calls Tryz.prog 19 #[v] w fun e w' => e = .returned (.int .i64 (codeOf cs)) ∧ Below w.heap.size w w' := by
 obtain ⟨t, u, rfl⟩ := herr.iface
 have h0 : 0 < w.heap.size := cell?_lt hE
 have q1 := eqlNil
 have HE := Lib.hid (And.intro herr hE)
 clear herr hE
 go_enter Tryz.func19, Tryz.ntmps19
 go_wp2_with fail
 refine (find26 d _ cs ns ss _ w.heap.size w.heap.size (HE.out.1.below ((Below.refl _ w).alloc (Nat.le_refl _) _)) (Nat.le_refl _) ?_ ?_ ?_).mono ?_
 ·simp [go_sem]
 ·simp [go_sem]
 ·show World.cell? _ _ = _
  rw [World.cell?_alloc_past _ _ _ h0]; exact HE.out.2
 rintro e w' (⟨rfl, rfl, hb⟩ | ⟨n, r, rfl, rfl, hb, h2⟩)
 ·have HB := Lib.hid hb
  clear hb
  go_wp2
  go_ret
  exact ⟨rfl, ((Below.refl _ w).alloc (Nat.le_refl _) _).trans (HB.out.mono (by simp))⟩
 ·have HB := Lib.hid hb
  clear hb
  go_wp2
  go_ret
  exact ⟨rfl, ((Below.refl _ w).alloc (Nat.le_refl _) _).trans (HB.out.below (Nat.le_refl _) (by simp))⟩

end Go.Proofs.YtobkmohoepgfmaaGreatDoor.Tr
namespace Go.Proofs.YtobkmohoepgfmaaGreatDoor.Tr
open Go.RowKit Go.Extern.Stop Go.Stop Go.Extern Go.Extern.Rtype

structure Target (tt : TypeId) : Prop where
 typeOf : ∀ v w, (callFunc 141 #[.iface tt v]).run Tryz.prog w = .ok (.value (.iface 245 (.agg #[.pointer (some ⟨1, tt, none⟩)]))) w
 comp : ∀ w, (callFunc 253 #[.agg #[.pointer (some ⟨1, tt, none⟩)]]).run Tryz.prog w = .ok (.value (.bool true)) w
theorem target26 : Target 46 := ⟨Tryz.typeOfE, Tryz.compE⟩
set_option maxRecDepth 100000 in
set_option maxHeartbeats 1000000 in
theorem is22 (d : Nat) (v : Value) (cs : List Int) (ns : List Nd) (ss : List Int) (w : World) (B : Nat) (F : Value → Bool) (tt : TypeId) (tx : Value) (ht : Target tt) (herr : Err w B d v cs ns ss) (hB : B ≤ w.heap.size) (hq : EqAs F (.iface tt tx) B w ns) :
  Calls Tryz.prog 189 #[v, .iface tt tx] w (IsPost F ns w) := by
 obtain ⟨t, u, rfl⟩ := herr.iface
 have q1 := eqlNil
 have c1 := ht.typeOf
 have c2 := ht.comp
 have m1 := mComp
 have HE := Lib.hid herr
 have HQ := Lib.hid hq
 clear herr hq ht
 go_enter Tryz.func189, Tryz.ntmps189
 go_wp2_with fail
 refine (is34_all d _ cs ns ss _ B F tt tx HE.out hB HQ.out).mono ?_
 rintro e w' ⟨rfl, hb⟩
 have HB := Lib.hid hb
 clear hb
 go_wp2_with fail
 go_ret
 exact ⟨rfl, HB.out⟩

theorem eqlNilL (tt : TypeId) (tx : Value) (w : World) : (binOp .eql 27 .nilIface (.iface tt tx)).run Tryz.prog w = .ok (.bool false) w := by kernel_rfl

set_option maxRecDepth 100000 in
set_option maxHeartbeats 1000000 in
theorem is22_nil (tt : TypeId) (tx : Value) (w : World) :
  Calls Tryz.prog 189 #[.nilIface, .iface tt tx] w fun e w' => e = .returned (.bool false) ∧ w = w' := by
 have q1 := eqlNilNil
 have q2 := eqlNilL
 go_enter Tryz.func189, Tryz.ntmps189
 go_wp2_with fail
 go_ret
 exact ⟨rfl, rfl⟩

theorem Err.parts {w : World} {B : Nat} : ∀ (d : Nat) {v : Value} {cs : List Int} {ns : List Nd} {ss : List Int}, Err w B d v cs ns ss → ∀ x ∈ ns, (∃ n, x.1 = .iface 46 (.int .i64 n)) ∨ (∃ t b c ty, t ≠ 46 ∧ x.1 = .iface t (.pointer (some ⟨b, 0, none⟩)) ∧ b < B ∧ w.heap[b]? = some (.cells c ty (0, 0)) ∧ (t = 150 ∨ t = 136 ∨ t = 139))
 | 0, _, _, _, _, e => e.elim
 | d + 1, _, _, _, _, e => by
  intro x hx
  rcases e with ⟨n, rfl, _, rfl, _⟩ | ⟨b, n, y, ns', rfl, e2, e3, e4, rfl⟩ | ⟨b, n, y, ns', ss', rfl, e2, e3, e4, e5, rfl⟩ | ⟨b, g, m, cap, row, vs, rfl, e2, e3, e4, e5, e6, e7, e7', e8, e9, e10, rfl, e11⟩
  ·rw [List.mem_singleton.1 hx]; exact .inl ⟨n, rfl⟩
  ·rcases List.mem_cons.1 hx with rfl | hx
   ·exact .inr ⟨150, b, _, _, by decide, rfl, e2, e3, by decide⟩
   ·exact Err.parts d e4 x hx
  ·rcases List.mem_cons.1 hx with rfl | hx
   ·exact .inr ⟨139, b, _, _, by decide, rfl, e2, e3, by decide⟩
   ·exact Err.parts d e4 x hx
  ·rcases List.mem_cons.1 hx with rfl | hx
   ·exact .inr ⟨136, b, _, _, by decide, rfl, e2, e4, by decide⟩
   ·obtain ⟨l, hl, hx⟩ := List.mem_flatten.1 hx
    obtain ⟨z, hz, rfl⟩ := List.mem_map.1 hl
    obtain ⟨i, hi⟩ := List.mem_iff_getElem?.1 hz
    exact Err.parts d (e9 i z hi).2 x hx

def isCode (m : Int) : Value → Bool
 | .iface 46 (.int .i64 n) => n == m
 | _ => false

def hasCode (m : Int) (cs : List Int) : Bool := cs.contains m

theorem anyN_code {w : World} {B : Nat} (m : Int) : ∀ (d : Nat) {v : Value} {cs : List Int} {ns : List Nd} {ss : List Int}, Err w B d v cs ns ss → anyN (isCode m) ns = hasCode m cs
 | 0, _, _, _, _, e => e.elim
 | d + 1, _, _, _, _, e => by
  rcases e with ⟨n, rfl, rfl, rfl, _⟩ | ⟨b, n, y, ns', rfl, e2, e3, e4, rfl⟩ | ⟨b, n, y, ns', ss', rfl, e2, e3, e4, e5, rfl⟩ | ⟨b, g, m', cap, row, vs, rfl, e2, e3, e4, e5, e6, e7, e7', e8, e9, rfl, rfl, e11⟩
  ·rw [anyN_cons]; simp only [isCode, anyN, hasCode, List.any_nil, Bool.or_false, List.contains_cons, List.contains_nil]; rw [Bool.eq_iff_iff]; simp only [beq_iff_eq]; exact eq_comm
  ·rw [anyN_cons, anyN_code m d e4]; rfl
  ·rw [anyN_cons, anyN_code m d e4]; rfl
  ·rw [anyN_cons]
   have hf : isCode m (.iface 136 (.pointer (some ⟨b, 0, none⟩))) = false := rfl
   rw [hf, Bool.false_or, Bool.eq_iff_iff]
   unfold anyN hasCode
   simp only [List.any_eq_true, List.contains_iff_mem, List.mem_flatten, List.mem_map]
   constructor
   ·rintro ⟨x, ⟨l, ⟨z, hz, rfl⟩, hx⟩, hF⟩
    obtain ⟨i, hi⟩ := List.mem_iff_getElem?.1 hz
    have := anyN_code m d (e9 i z hi).2
    have h2 : anyN (isCode m) z.2.2.1 = true := List.any_eq_true.2 ⟨x, hx, hF⟩
    rw [this] at h2
    unfold hasCode at h2
    exact ⟨_, ⟨z, hz, rfl⟩, List.contains_iff_mem.1 h2⟩
   ·rintro ⟨l, ⟨z, hz, rfl⟩, hx⟩
    obtain ⟨i, hi⟩ := List.mem_iff_getElem?.1 hz
    have := anyN_code m d (e9 i z hi).2
    unfold hasCode at this
    rw [List.contains_iff_mem.2 hx] at this
    obtain ⟨x, hx, hF⟩ := List.any_eq_true.1 this
    exact ⟨x, ⟨_, ⟨z, hz, rfl⟩, hx⟩, hF⟩

theorem comp26 : (Tryz.prog.info? 46).map (·.comparable) = some true := by kernel_rfl

theorem eqlInts (a b : Int) (w : World) : (binOp .eql 27 (.iface 46 (.int .i64 a)) (.iface 46 (.int .i64 b))).run Tryz.prog w = .ok (.bool (a == b)) w := by
 obtain ⟨i, hi, hcmp⟩ := Option.map_eq_some_iff.1 comp26
 have h : ∀ d : Nat, (Op.equalIn (d + 2) 27 (.iface 46 (.int .i64 a)) (.iface 46 (.int .i64 b))).run Tryz.prog w = .ok (a == b) w := fun d => by
  simp [Op.equalIn, run_underlying Tryz.underlying27, run_underlying Tryz.underlying46, typeInfo, hi, hcmp]
 simp only [binOp]
 simp [Op.equal, Op.maxDepth, h 9998]

theorem eqAs_code {w : World} {B d : Nat} {v : Value} {cs : List Int} {ns : List Nd} {ss : List Int} (m : Int) (e : Err w B d v cs ns ss) : EqAs (isCode m) (.iface 46 (.int .i64 m)) B w ns := by
 intro w' _ x hx
 rcases e.parts d x hx with ⟨n, hn⟩ | ⟨t, b, c, ty, hne, hv, _⟩
 ·rw [hn]; exact eqlInts n m w'
 ·rw [hv, run_eql_iface_types t 46 _ _ Tryz.underlying27 hne w']
  have : isCode m (.iface t (.pointer (some ⟨b, 0, none⟩))) = false := by unfold isCode; split <;> simp_all
  rw [this]

set_option maxRecDepth 100000 in
set_option maxHeartbeats 1000000 in
theorem holds25 (d : Nat) (v : Value) (cs : List Int) (ns : List Nd) (ss : List Int) (w : World) (m : Int) (herr : Err w w.heap.size d v cs ns ss) :
  Calls Tryz.prog 165 #[v, .int .i64 m] w fun e w' => e = .returned (.bool (hasCode m cs)) ∧ Below w.heap.size w w' := by
 have hmf : ∀ (fn : Fn) (first cap : Array Value) (w : World), (Instr.makeFunc fn first cap).run Tryz.prog w = .ok (.func fn first cap) w := fun _ _ _ _ => rfl
 have HE := Lib.hid herr
 clear herr
 go_enter_defers Tryz.func165, Tryz.ntmps165
 go_wp2_with fail
 have hE' := HE.out.below ((Below.refl _ w).alloc (Nat.le_refl _) (.cells #[.bool false] 4))
 refine (is22 d _ cs ns ss _ w.heap.size (isCode m) 46 _ target26 hE' (by simp) (eqAs_code m hE')).mono ?_
 rintro e w' ⟨rfl, hb⟩
 rw [anyN_code m d hE']
 clear hE'
 have hcell : w'.cell? ⟨w.heap.size, 0, none⟩ = some (.bool false) := by rw [hb.cell (p := ⟨w.heap.size, 0, none⟩) (by simp)]; simp [go_sem]
 have hfr : w'.frozen? ⟨w.heap.size, 0, none⟩ = false := by rw [hb.frozen (p := ⟨w.heap.size, 0, none⟩) (by simp)]; simp [go_sem]
 have HB := Lib.hid hb
 clear hb
 go_wp2_with fail
 refine leaves_cons (f := 188) (args := #[.pointer (some ⟨w.heap.size, 0, none⟩)]) (by simp) (by simp [go_sem]) ?_
 refine (holdsIdle ⟨w.heap.size, 0, none⟩ _).mono ?_
 rintro e u' w'' ⟨rfl, rfl, rfl⟩
 simp [Leaves, settle, results, go_sem, hcell]
 exact ((Below.refl _ w).alloc (Nat.le_refl _) _).trans ((HB.out.mono (by simp)).setCell (p := ⟨w.heap.size, 0, none⟩) (Nat.le_refl _) _)

set_option maxRecDepth 100000 in
set_option maxHeartbeats 1000000 in
theorem cis_any (d : Nat) (v : Value) (cs : List Int) (ns : List Nd) (ss : List Int) (w : World) (m : Int) (herr : Err w w.heap.size d v cs ns ss) :
  Calls Tryz.prog 134 #[v, .int .i64 m] w fun e w' => e = .returned (.bool (hasCode m cs)) ∧ Below w.heap.size w w' := by
 have HE := Lib.hid herr
 clear herr
 go_enter Tryz.func134, Tryz.ntmps134
 go_wp2_with fail
 refine (holds25 d _ cs ns ss _ m HE.out).mono ?_
 rintro e w' ⟨rfl, hb⟩
 have HB := Lib.hid hb
 clear hb
 go_wp2_with fail
 go_ret
 exact ⟨rfl, HB.out⟩

end Go.Proofs.YtobkmohoepgfmaaGreatDoor.Tr
namespace Go.Proofs.YtobkmohoepgfmaaGreatDoor.Tr
open Go.RowKit Go.Extern.Stop Go.Stop Go.Extern Go.Extern.Rtype

def PartsPost (xs : List Value) (w : World) (e : Ending) (w' : World) : Prop :=
 ∃ v, e = .returned v ∧ Below w.heap.size w w' ∧ ((v = .slice none 0 0 ∧ xs = []) ∨
  ∃ g cap cur, v = .slice (some ⟨g, 0, none⟩) xs.length cap ∧ w.heap.size ≤ g ∧ w'.heap[g]? = some (.cells cur 27 (0, 0)) ∧ xs.length ≤ cap ∧ ∀ (i : Nat) (y : Value), xs[i]? = some y → cur[i]? = some y)

theorem heap_new (w : World) (o : Obj) : (w.alloc o).heap[w.heap.size]? = some o := by
 show (w.heap.push o)[w.heap.size]? = _
 rw [Array.getElem?_push, if_pos rfl]
theorem heap_new2 (w : World) (o1 o2 : Obj) : ((w.alloc o1).alloc o2).heap[w.heap.size + 1]? = some o2 := by
 have h : w.heap.size + 1 = (w.alloc o1).heap.size := by simp
 rw [h]; exact heap_new _ _

set_option maxRecDepth 100000 in
set_option maxHeartbeats 1000000 in
theorem partsE (u : Value) (w : World) : Calls Tryz.prog 71 #[.iface 46 (u)] w (PartsPost [] w) := by
 have hmf : ∀ (fn : Fn) (first cap : Array Value) (w : World), (Instr.makeFunc fn first cap).run Tryz.prog w = .ok (.func fn first cap) w := fun _ _ _ _ => rfl
 have t7 := taUnE
 have t8 := taUnsE
 go_enter_defers Tryz.func71, Tryz.ntmps71
 go_wp2_with fail
 refine leaves_cons (f := 105) (args := #[.pointer (some ⟨w.heap.size, 0, none⟩)]) (by simp) (by simp [go_sem]) ?_
 refine (partsIdle ⟨w.heap.size, 0, none⟩ _).mono ?_
 rintro e u' w'' ⟨rfl, rfl, rfl⟩
 simp [Leaves, settle, results, go_sem]
 exact ⟨_, rfl, (Below.refl _ w).alloc (Nat.le_refl _) _, .inl ⟨rfl, rfl⟩⟩

set_option maxRecDepth 100000 in
set_option maxHeartbeats 1000000 in
theorem partsN (b : Nat) (n : Value) (ty : TypeId) (y : Value) (w : World) (hb : b < w.heap.size) (h : w.heap[b]? = some (.cells #[n, .iface ty y] 153 (0, 0))) : Calls Tryz.prog 71 #[.iface 150 (.pointer (some ⟨b, 0, none⟩))] w (PartsPost [.iface ty y] w) := by
 have hmf : ∀ (fn : Fn) (first cap : Array Value) (w : World), (Instr.makeFunc fn first cap).run Tryz.prog w = .ok (.func fn first cap) w := fun _ _ _ _ => rfl
 have t7 := taUnN
 have t9 := mUnN
 have t10 := naUnN
 have H := Lib.hid (And.intro h hb)
 clear h hb
 go_enter_defers Tryz.func71, Tryz.ntmps71
 go_wp2_with (go_at_call 246; refine (onUnwrap b n (.iface ty y) _ (by rw [Below.heap_alloc _ _ _ H.out.2]; exact H.out.1)).mono ?_; rintro e w' ⟨rfl, rfl⟩)
 refine leaves_cons (f := 105) (args := #[.pointer (some ⟨w.heap.size, 0, none⟩)]) (by simp) (by simp [go_sem]) ?_
 refine (partsIdle ⟨w.heap.size, 0, none⟩ _).mono ?_
 rintro e u' w'' ⟨rfl, rfl, rfl⟩
 simp [Leaves, settle, results, go_sem]
 exact ⟨_, rfl, ((Below.refl _ w).alloc (Nat.le_refl _) _).alloc (by simp) _, .inr ⟨w.heap.size + 1, 1, #[.iface ty y], rfl, by omega, heap_new2 _ _ _, Nat.le_refl _, fun i z hz => by simpa using hz⟩⟩

set_option maxRecDepth 100000 in
set_option maxHeartbeats 1000000 in
theorem partsF (b : Nat) (n : Value) (ty : TypeId) (y : Value) (w : World) (hb : b < w.heap.size) (h : w.heap[b]? = some (.cells #[n, .iface ty y] 141 (0, 0))) : Calls Tryz.prog 71 #[.iface 139 (.pointer (some ⟨b, 0, none⟩))] w (PartsPost [.iface ty y] w) := by
 have hmf : ∀ (fn : Fn) (first cap : Array Value) (w : World), (Instr.makeFunc fn first cap).run Tryz.prog w = .ok (.func fn first cap) w := fun _ _ _ _ => rfl
 have t7 := taUnF
 have t9 := mUnF
 have t10 := naUnF
 have H := Lib.hid (And.intro h hb)
 clear h hb
 go_enter_defers Tryz.func71, Tryz.ntmps71
 go_wp2_with (go_at_call 244; refine (ofUnwrap b n (.iface ty y) _ (by rw [Below.heap_alloc _ _ _ H.out.2]; exact H.out.1)).mono ?_; rintro e w' ⟨rfl, rfl⟩)
 refine leaves_cons (f := 105) (args := #[.pointer (some ⟨w.heap.size, 0, none⟩)]) (by simp) (by simp [go_sem]) ?_
 refine (partsIdle ⟨w.heap.size, 0, none⟩ _).mono ?_
 rintro e u' w'' ⟨rfl, rfl, rfl⟩
 simp [Leaves, settle, results, go_sem]
 exact ⟨_, rfl, ((Below.refl _ w).alloc (Nat.le_refl _) _).alloc (by simp) _, .inr ⟨w.heap.size + 1, 1, #[.iface ty y], rfl, by omega, heap_new2 _ _ _, Nat.le_refl _, fun i z hz => by simpa using hz⟩⟩

set_option maxRecDepth 100000 in
set_option maxHeartbeats 1000000 in
theorem partsA (b g m cap : Nat) (row : Array Value) (w : World) (hb : b < w.heap.size) (hgl : g < w.heap.size) (h : w.heap[b]? = some (.cells #[.slice (some ⟨g, 0, none⟩) m cap] 138 (0, 0))) (hg : w.heap[g]? = some (.cells row 27 (0, 0)))
  (hm : m ≤ 1000) (h0 : 0 < m) (hr : m ≤ row.size) (h1 : ∀ x ∈ row.toList.take m, Value.oneCell' x = true) :
  Calls Tryz.prog 71 #[.iface 136 (.pointer (some ⟨b, 0, none⟩))] w (PartsPost (row.toList.take m) w) := by
 have hmf : ∀ (fn : Fn) (first cap : Array Value) (w : World), (Instr.makeFunc fn first cap).run Tryz.prog w = .ok (.func fn first cap) w := fun _ _ _ _ => rfl
 have t7 := taUnA
 have t8 := taUnsA
 have t9 := mUnA
 have t10 := naUnA
 have H := Lib.hid (And.intro h (And.intro hg (And.intro hb hgl)))
 have HO := Lib.hid h1
 clear h hg hb hgl h1
 go_enter_defers Tryz.func71, Tryz.ntmps71
 go_wp2_with fail
 refine (allUnwrap b g m cap row _ (by rw [Below.heap_alloc _ _ _ H.out.2.2.1]; exact H.out.1) (by rw [Below.heap_alloc _ _ _ H.out.2.2.2]; exact H.out.2.1) hm h0 hr HO.out).mono ?_
 rintro e w1 ⟨v1, rfl, ho, hb1, hn⟩
 obtain ⟨hlen, ho | ⟨g1, cap1, cur, rfl, hg1, hh, hc1, hc2, hc3, hc4⟩⟩ := ho
 ·exact absurd ho.1 hn
 have hcell : w1.cell? ⟨w.heap.size, 0, none⟩ = some (.slice none 0 0) := by rw [hb1.cell (p := ⟨w.heap.size, 0, none⟩) (by simp)]; simp [go_sem]
 have hfr : w1.frozen? ⟨w.heap.size, 0, none⟩ = false := by rw [hb1.frozen (p := ⟨w.heap.size, 0, none⟩) (by simp)]; simp [go_sem]
 have HB := Lib.hid (And.intro hb1 (And.intro hg1 (And.intro hh (And.intro hc1 (And.intro hc4 hlen)))))
 clear hb1 hn hh hc1 hc2 hc3 hc4 hlen hg1
 go_wp2_with fail
 refine leaves_cons (f := 105) (args := #[.pointer (some ⟨w.heap.size, 0, none⟩)]) (by simp) (by simp [go_sem]) ?_
 refine (partsIdle ⟨w.heap.size, 0, none⟩ _).mono ?_
 rintro e u' w'' ⟨rfl, rfl, rfl⟩
 simp [Leaves, settle, results, go_sem, hcell]
 obtain ⟨hb1, hg1, hh, hc1, hc4, hlen⟩ := HB.out
 have hg1' : w.heap.size + 1 ≤ g1 := by simpa using hg1
 have hlm : (row.toList.take m).length = m := by simpa using hlen
 refine ⟨_, rfl, ((Below.refl _ w).alloc (Nat.le_refl _) _).trans ((hb1.mono (by simp)).setCell (p := ⟨w.heap.size, 0, none⟩) (Nat.le_refl _) _), .inr ⟨g1, cap1, cur, by rw [hlm], by omega, ?_, by rw [hlm]; exact hc1, fun i y hy => ?_⟩⟩
 ·rw [Below.heap_setCell _ _ _ _ (by show g1 ≠ w.heap.size; omega)]; exact hh
 ·rw [← hc4, List.getElem?_take] at hy
  split at hy
  ·simpa using hy
  ·cases hy

end Go.Proofs.YtobkmohoepgfmaaGreatDoor.Tr
namespace Go.Proofs.YtobkmohoepgfmaaGreatDoor.Tr
open Go.RowKit Go.Extern.Stop Go.Stop Go.Extern Go.Extern.Rtype

def nodesOf (ns : List Nd) : List Int := ns.filterMap (·.2)
theorem nodesOf_flat {α : Type} (f : α → List Nd) (l : List α) : nodesOf (l.map f).flatten = (l.map fun z => nodesOf (f z)).flatten := by
 unfold nodesOf
 induction l with
 | nil => rfl
 | cons a l ih => simp only [List.map_cons, List.flatten_cons, List.filterMap_append, ih]

theorem tree_kids {w : World} {B d : Nat} {v : Value} {cs : List Int} {ns : List Nd} {ss : List Int} (e : Err w B (d + 1) v cs ns ss) :
  ∃ (zs : List (Value × List Nd)) (pre : List Int), (∀ w', Below B w w' → B ≤ w'.heap.size → Calls Tryz.prog 71 #[v] w' (PartsPost (zs.map (·.1)) w')) ∧ (∀ (i : Nat) (z : Value × List Nd), zs[i]? = some z → ∃ cs ss, Err w B d z.1 cs z.2 ss) ∧
   nodesOf ns = pre ++ (zs.map fun z => nodesOf z.2).flatten ∧ zs.length ≤ 1000 ∧
   ((∃ b n y, v = .iface 150 (.pointer (some ⟨b, 0, none⟩)) ∧ pre = [n] ∧ b < B ∧ w.heap[b]? = some (.cells #[.int .i64 n, y] 153 (0, 0))) ∨ (pre = [] ∧ ∃ t u, v = .iface t u ∧ t ≠ 150)) := by
 rcases e with ⟨n, rfl, _, rfl, _⟩ | ⟨b, n, y, ns', rfl, e2, e3, e4, rfl⟩ | ⟨b, n, y, ns', ss', rfl, e2, e3, e4, e5, rfl⟩ | ⟨b, g, m, cap, row, vs, rfl, e2, e3, e4, e5, e6, e7, e7', e8, e9, e10, rfl, e11⟩
 ·exact ⟨[], [], fun w' _ _ => partsE _ w', fun i z hz => by simp at hz, rfl, by simp, .inr ⟨rfl, _, _, rfl, by decide⟩⟩
 ·obtain ⟨ty, y', rfl⟩ := e4.iface
  refine ⟨[(.iface ty y', ns')], [n], fun w' hb hs => partsN b _ ty y' w' (by omega) (by rw [hb.block b e2]; exact e3), fun i z hz => ?_, by simp [nodesOf], by simp, .inl ⟨b, n, _, rfl, rfl, e2, e3⟩⟩
  cases i with
  | zero => cases hz; exact ⟨_, _, e4⟩
  | succ i => simp at hz
 ·obtain ⟨ty, y', rfl⟩ := e4.iface
  refine ⟨[(.iface ty y', ns')], [], fun w' hb hs => partsF b _ ty y' w' (by omega) (by rw [hb.block b e2]; exact e3), fun i z hz => ?_, by simp [nodesOf], by simp, .inr ⟨rfl, _, _, rfl, by decide⟩⟩
  cases i with
  | zero => cases hz; exact ⟨_, _, e4⟩
  | succ i => simp at hz
 ·have hrow := take_row row m vs e8 (fun i x hx => (e9 i x hx).1)
  have hsz : m ≤ row.size := by
   have := congrArg List.length hrow
   simp at this; omega
  have hone : ∀ y ∈ row.toList.take m, Value.oneCell' y = true := by
   intro y hy
   rw [hrow] at hy
   obtain ⟨z, hz, rfl⟩ := List.mem_map.1 hy
   obtain ⟨i, hi⟩ := List.mem_iff_getElem?.1 hz
   obtain ⟨t, u, hu⟩ := (e9 i z hi).2.iface
   rw [hu]; rfl
  refine ⟨vs.map fun z => (z.1, z.2.2.1), [], fun w' hb hs => ?_, fun i z hz => ?_, ?_, by simpa using by omega, .inr ⟨rfl, _, _, rfl, by decide⟩⟩
  ·have := partsA b g m cap row w' (by omega) (by omega) (by rw [hb.block b e2]; exact e4) (by rw [hb.block g e3]; exact e5) e7 e7' hsz hone
   rw [hrow] at this
   simpa [List.map_map, Function.comp_def] using this
  ·rw [List.getElem?_map] at hz
   cases hv : vs[i]? with
   | none => rw [hv] at hz; cases hz
   | some x => rw [hv] at hz; cases hz; exact ⟨_, _, (e9 i x hv).2⟩
  ·show nodesOf ((_, none) :: (vs.map (·.2.2.1)).flatten) = _
   have : nodesOf ((Value.iface 136 (.pointer (some ⟨b, 0, none⟩)), none) :: (vs.map (·.2.2.1)).flatten) = nodesOf (vs.map (·.2.2.1)).flatten := rfl
   rw [this, nodesOf_flat, List.map_map]; rfl

structure Rest (w w' : World) : Prop where
 size : w.heap.size ≤ w'.heap.size
 block : ∀ (k : Nat) (c : Array Value) (t : TypeId) (f : Nat × Nat), w.heap[k]? = some (Obj.cells c t f) → t ≠ 3 → w'.heap[k]? = some (Obj.cells c t f)
theorem Rest.refl (w : World) : Rest w w := ⟨Nat.le_refl _, fun _ _ _ _ h _ => h⟩
theorem Rest.trans {a b c : World} (h : Rest a b) (k : Rest b c) : Rest a c := ⟨Nat.le_trans h.size k.size, fun i x t f hi ht => k.block i x t f (h.block i x t f hi ht) ht⟩
theorem Rest.of {w w' : World} (h : Below w.heap.size w w') : Rest w w' := ⟨h.size, fun k c t f hk _ => by
 have hlt : k < w.heap.size := by
  by_cases hk' : k < w.heap.size
  ·exact hk'
  ·rw [Array.getElem?_eq_none (by omega)] at hk; cases hk
 rw [h.block k hlt]; exact hk⟩

def GPost (base : Nat) (ys : List Int) (w : World) (e : Ending) (w' : World) : Prop :=
 ∃ v, e = .returned v ∧ w'.ownsRow base 3 1 v ys.length (ys.map (Value.int .i64)) ∧ Below base w w' ∧ Rest w w'

def Gather31 (d : Nat) : Prop := ∀ l xs v cs ns ss w B base, Err w B d v cs ns ss → B ≤ base → base ≤ w.heap.size → w.ownsRow base 3 1 l xs.length (xs.map (Value.int .i64)) → xs.length + (nodesOf ns).length ≤ 100000 →
 Calls Tryz.prog 45 #[l, v] w (GPost base (xs ++ nodesOf ns) w)

theorem taOnN (v : Value) (xT : TypeId) (w : World) : (Instr.typeAssert (.iface 150 v) xT 150 true).run Tryz.prog w = .ok (.tuple #[v, .bool true]) w := by kernel_rfl
theorem taOnO (t : TypeId) (ht : t ≠ 150) (v : Value) (xT : TypeId) (w : World) : (Instr.typeAssert (.iface t v) xT 150 true).run Tryz.prog w = .ok (.tuple #[.pointer none, .bool false]) w := by
 have hz : (zeroValue 150).run Tryz.prog w = .ok (.pointer none) w := by kernel_rfl
 simp [Instr.typeAssert, run_underlying Tryz.underlying150, ht, hz]

end Go.Proofs.YtobkmohoepgfmaaGreatDoor.Tr
