import Derived.Test.YtbifpjdkljibeaaDoorL
import Derived.Test.YtbifpjdkljibeaaDoorK
namespace Go.Proofs.YtbifpjdkljibeaaDoor
open Go.RowKit Go.Extern.Stop Go.Stop Go.Extern Go.Extern.Rtype

/-- What reflectlite tells of a target's type. -/
structure Target (tt : TypeId) : Prop where
  typeOf : ∀ v w, (callFunc 33 #[.iface tt v]).run Tryd.prog w = .ok (.value (.iface 97 (.agg #[.pointer (some ⟨4, tt, none⟩)]))) w
  comp : ∀ w, (callFunc 94 #[.agg #[.pointer (some ⟨4, tt, none⟩)]]).run Tryd.prog w = .ok (.value (.bool true)) w
theorem target26 : Target 26 := ⟨Tryd.typeOfE, Tryd.compE⟩
theorem target32 : Target 32 := ⟨Tryd.typeOfN, Tryd.compN⟩
theorem target55 : Target 55 := ⟨Tryd.typeOfF, Tryd.compF⟩
theorem target33 : Target 33 := ⟨Tryd.typeOfA, Tryd.compA⟩
theorem target64 : Target 64 := ⟨Tryd.typeOfS, Tryd.compS⟩

set_option maxRecDepth 100000 in
set_option maxHeartbeats 1000000 in
theorem is22 (d : Nat) (v : Value) (cs : List Int) (ns : List Nd) (ss : List Int) (w : World) (B : Nat) (F : Value → Bool) (tt : TypeId) (tx : Value) (ht : Target tt) (herr : Err w B d v cs ns ss) (hB : B ≤ w.heap.size) (hq : EqAs F (.iface tt tx) B w ns) :
    Calls Tryd.prog 22 #[v, .iface tt tx] w (IsPost F ns w) := by
  obtain ⟨t, u, rfl⟩ := herr.iface
  have q1 := eqlNil
  have c1 := ht.typeOf
  have c2 := ht.comp
  have m1 := mComp
  have HE := Lib.hid herr
  have HQ := Lib.hid hq
  clear herr hq ht
  go_enter Tryd.func22, Tryd.ntmps22
  go_wp2_with fail
  refine (is34_all d _ cs ns ss _ B F tt tx HE.out hB HQ.out).mono ?_
  rintro e w' ⟨rfl, hb⟩
  have HB := Lib.hid hb
  clear hb
  go_wp2_with fail
  go_ret
  exact ⟨rfl, HB.out⟩

theorem eqlNilL (tt : TypeId) (tx : Value) (w : World) : (binOp .eql 24 .nilIface (.iface tt tx)).run Tryd.prog w = .ok (.bool false) w := by kernel_rfl

set_option maxRecDepth 100000 in
set_option maxHeartbeats 1000000 in
theorem is22_nil (tt : TypeId) (tx : Value) (w : World) :
    Calls Tryd.prog 22 #[.nilIface, .iface tt tx] w fun e w' => e = .returned (.bool false) ∧ w = w' := by
  have q1 := eqlNilNil
  have q2 := eqlNilL
  go_enter Tryd.func22, Tryd.ntmps22
  go_wp2_with fail
  go_ret
  exact ⟨rfl, rfl⟩

/-- The parts of a tree. -/
theorem Err.parts {w : World} {B : Nat} : ∀ (d : Nat) {v : Value} {cs : List Int} {ns : List Nd} {ss : List Int}, Err w B d v cs ns ss → ∀ x ∈ ns, (∃ n, x.1 = .iface 26 (.int .i64 n)) ∨ (∃ t b c ty, t ≠ 26 ∧ x.1 = .iface t (.pointer (some ⟨b, 0, none⟩)) ∧ b < B ∧ w.heap[b]? = some (.cells c ty (0, 0)) ∧ (t = 32 ∨ t = 33 ∨ t = 55 ∨ t = 64))
  | 0, _, _, _, _, e => e.elim
  | d + 1, _, _, _, _, e => by
    intro x hx
    rcases e with ⟨n, rfl, _, rfl, _⟩ | ⟨b, s, rfl, e2, e3, _, rfl, _⟩ | ⟨b, n, y, ns', rfl, e2, e3, e4, rfl⟩ | ⟨b, n, y, ns', ss', rfl, e2, e3, e4, e5, rfl⟩ | ⟨b, g, m, cap, row, vs, rfl, e2, e3, e4, e5, e6, e7, e7', e8, e9, e10, rfl, e11⟩
    · rw [List.mem_singleton.1 hx]; exact .inl ⟨n, rfl⟩
    · rw [List.mem_singleton.1 hx]; exact .inr ⟨64, b, _, _, by decide, rfl, e2, e3, by decide⟩
    · rcases List.mem_cons.1 hx with rfl | hx
      · exact .inr ⟨32, b, _, _, by decide, rfl, e2, e3, by decide⟩
      · exact Err.parts d e4 x hx
    · rcases List.mem_cons.1 hx with rfl | hx
      · exact .inr ⟨55, b, _, _, by decide, rfl, e2, e3, by decide⟩
      · exact Err.parts d e4 x hx
    · rcases List.mem_cons.1 hx with rfl | hx
      · exact .inr ⟨33, b, _, _, by decide, rfl, e2, e4, by decide⟩
      · obtain ⟨l, hl, hx⟩ := List.mem_flatten.1 hx
        obtain ⟨z, hz, rfl⟩ := List.mem_map.1 hl
        obtain ⟨i, hi⟩ := List.mem_iff_getElem?.1 hz
        exact Err.parts d (e9 i z hi).2 x hx

/-- Is a value this code? -/
def isCode (m : Int) : Value → Bool
  | .iface 26 (.int .i64 n) => n == m
  | _ => false

def hasCode (m : Int) (cs : List Int) : Bool := cs.contains m

theorem anyN_code {w : World} {B : Nat} (m : Int) : ∀ (d : Nat) {v : Value} {cs : List Int} {ns : List Nd} {ss : List Int}, Err w B d v cs ns ss → anyN (isCode m) ns = hasCode m cs
  | 0, _, _, _, _, e => e.elim
  | d + 1, _, _, _, _, e => by
    rcases e with ⟨n, rfl, rfl, rfl, _⟩ | ⟨b, s, rfl, e2, e3, rfl, rfl, _⟩ | ⟨b, n, y, ns', rfl, e2, e3, e4, rfl⟩ | ⟨b, n, y, ns', ss', rfl, e2, e3, e4, e5, rfl⟩ | ⟨b, g, m', cap, row, vs, rfl, e2, e3, e4, e5, e6, e7, e7', e8, e9, rfl, rfl, e11⟩
    · rw [anyN_cons]; simp only [isCode, anyN, hasCode, List.any_nil, Bool.or_false, List.contains_cons, List.contains_nil]; rw [Bool.eq_iff_iff]; simp only [beq_iff_eq]; exact eq_comm
    · rfl
    · rw [anyN_cons, anyN_code m d e4]; rfl
    · rw [anyN_cons, anyN_code m d e4]; rfl
    · rw [anyN_cons]
      have hf : isCode m (.iface 33 (.pointer (some ⟨b, 0, none⟩))) = false := rfl
      rw [hf, Bool.false_or, Bool.eq_iff_iff]
      unfold anyN hasCode
      simp only [List.any_eq_true, List.contains_iff_mem, List.mem_flatten, List.mem_map]
      constructor
      · rintro ⟨x, ⟨l, ⟨z, hz, rfl⟩, hx⟩, hF⟩
        obtain ⟨i, hi⟩ := List.mem_iff_getElem?.1 hz
        have := anyN_code m d (e9 i z hi).2
        have h2 : anyN (isCode m) z.2.2.1 = true := List.any_eq_true.2 ⟨x, hx, hF⟩
        rw [this] at h2
        unfold hasCode at h2
        exact ⟨_, ⟨z, hz, rfl⟩, List.contains_iff_mem.1 h2⟩
      · rintro ⟨l, ⟨z, hz, rfl⟩, hx⟩
        obtain ⟨i, hi⟩ := List.mem_iff_getElem?.1 hz
        have := anyN_code m d (e9 i z hi).2
        unfold hasCode at this
        rw [List.contains_iff_mem.2 hx] at this
        obtain ⟨x, hx, hF⟩ := List.any_eq_true.1 this
        exact ⟨x, ⟨_, ⟨z, hz, rfl⟩, hx⟩, hF⟩

theorem comp26 : (Tryd.prog.info? 26).map (·.comparable) = some true := by kernel_rfl

theorem eqlInts (a b : Int) (w : World) : (binOp .eql 24 (.iface 26 (.int .i64 a)) (.iface 26 (.int .i64 b))).run Tryd.prog w = .ok (.bool (a == b)) w := by
  obtain ⟨i, hi, hcmp⟩ := Option.map_eq_some_iff.1 comp26
  have h : ∀ d : Nat, (Op.equalIn (d + 2) 24 (.iface 26 (.int .i64 a)) (.iface 26 (.int .i64 b))).run Tryd.prog w = .ok (a == b) w := fun d => by
    simp [Op.equalIn, run_underlying Tryd.underlying24, run_underlying Tryd.underlying26, typeInfo, hi, hcmp]
  simp only [binOp]
  simp [Op.equal, Op.maxDepth, h 9998]

theorem eqAs_code {w : World} {B d : Nat} {v : Value} {cs : List Int} {ns : List Nd} {ss : List Int} (m : Int) (e : Err w B d v cs ns ss) : EqAs (isCode m) (.iface 26 (.int .i64 m)) B w ns := by
  intro w' _ x hx
  rcases e.parts d x hx with ⟨n, hn⟩ | ⟨t, b, c, ty, hne, hv, _⟩
  · rw [hn]; exact eqlInts n m w'
  · rw [hv, run_eql_iface_types t 26 _ _ Tryd.underlying24 hne w']
    have : isCode m (.iface t (.pointer (some ⟨b, 0, none⟩))) = false := by unfold isCode; split <;> simp_all
    rw [this]

set_option maxRecDepth 100000 in
set_option maxHeartbeats 1000000 in
theorem holds25 (d : Nat) (v : Value) (cs : List Int) (ns : List Nd) (ss : List Int) (w : World) (m : Int) (herr : Err w w.heap.size d v cs ns ss) :
    Calls Tryd.prog 25 #[v, .int .i64 m] w fun e w' => e = .returned (.bool (hasCode m cs)) ∧ Below w.heap.size w w' := by
  have hmf : ∀ (fn : Fn) (first cap : Array Value) (w : World), (Instr.makeFunc fn first cap).run Tryd.prog w = .ok (.func fn first cap) w := fun _ _ _ _ => rfl
  have HE := Lib.hid herr
  clear herr
  go_enter_defers Tryd.func25, Tryd.ntmps25
  go_wp2_with fail
  have hE' := HE.out.below ((Below.refl _ w).alloc (Nat.le_refl _) (.cells #[.bool false] 4))
  refine (is22 d _ cs ns ss _ w.heap.size (isCode m) 26 _ target26 hE' (by simp) (eqAs_code m hE')).mono ?_
  rintro e w' ⟨rfl, hb⟩
  rw [anyN_code m d hE']
  clear hE'
  have hcell : w'.cell? ⟨w.heap.size, 0, none⟩ = some (.bool false) := by rw [hb.cell (p := ⟨w.heap.size, 0, none⟩) (by simp)]; simp [go_sem]
  have hfr : w'.frozen? ⟨w.heap.size, 0, none⟩ = false := by rw [hb.frozen (p := ⟨w.heap.size, 0, none⟩) (by simp)]; simp [go_sem]
  have HB := Lib.hid hb
  clear hb
  go_wp2_with fail
  refine leaves_cons (f := 36) (args := #[.pointer (some ⟨w.heap.size, 0, none⟩)]) (by simp) (by simp [go_sem]) ?_
  refine (holdsIdle ⟨w.heap.size, 0, none⟩ _).mono ?_
  rintro e u' w'' ⟨rfl, rfl, rfl⟩
  simp [Leaves, settle, results, Tryd.results25, go_sem, hcell]
  exact ((Below.refl _ w).alloc (Nat.le_refl _) _).trans ((HB.out.mono (by simp)).setCell (p := ⟨w.heap.size, 0, none⟩) (Nat.le_refl _) _)

set_option maxRecDepth 100000 in
set_option maxHeartbeats 1000000 in
theorem cis_any (d : Nat) (v : Value) (cs : List Int) (ns : List Nd) (ss : List Int) (w : World) (m : Int) (herr : Err w w.heap.size d v cs ns ss) :
    Calls Tryd.prog 15 #[v, .int .i64 m] w fun e w' => e = .returned (.bool (hasCode m cs)) ∧ Below w.heap.size w w' := by
  have HE := Lib.hid herr
  clear herr
  go_enter Tryd.func15, Tryd.ntmps15
  go_wp2_with fail
  refine (holds25 d _ cs ns ss _ m HE.out).mono ?_
  rintro e w' ⟨rfl, hb⟩
  have HB := Lib.hid hb
  clear hb
  go_wp2_with fail
  go_ret
  exact ⟨rfl, HB.out⟩

end Go.Proofs.YtbifpjdkljibeaaDoor
