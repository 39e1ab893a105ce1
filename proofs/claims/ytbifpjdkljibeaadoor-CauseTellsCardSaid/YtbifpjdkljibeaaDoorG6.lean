import Derived.Test.YtbifpjdkljibeaaDoorG3
import Derived.Test.YtbifpjdkljibeaaDoorZ1
import Derived.LaidEql
namespace Go.Proofs.YtbifpjdkljibeaaDoor
open Go.RowKit Go.Extern.Stop Go.Stop Go.Extern Go.Extern.Rtype

theorem Fits.tree {w : World} {A : Nat → Prop} {d : Nat} {k : GK} (h : Fits w A d k) : Err w w.heap.size d k.v k.cs k.ns k.st := h.err.err

/-- A tree's value is one of five. -/
theorem Err.value {w : World} {B d : Nat} {v : Value} {cs : List Int} {ns : List Nd} {ss : List Int} (e : Err w B d v cs ns ss) :
    (∃ n, v = .iface 26 (.int .i64 n)) ∨ ∃ tp b cb tb, (tp = 32 ∨ tp = 33 ∨ tp = 55 ∨ tp = 64) ∧ v = .iface tp (.pointer (some ⟨b, 0, none⟩)) ∧ b < B ∧ w.heap[b]? = some (.cells cb tb (0, 0)) := by
  cases d with
  | zero => exact e.elim
  | succ d =>
    rcases e with ⟨n, rfl, _⟩ | ⟨b, s, rfl, e2, e3, _⟩ | ⟨b, n, x, ns', rfl, e2, e3, _⟩ | ⟨b, n, x, ns', ss', rfl, e2, e3, _⟩ | ⟨b, g, m, cap, row, vs, rfl, e2, e3, e4, _⟩
    · exact .inl ⟨n, rfl⟩
    · exact .inr ⟨64, b, _, _, by decide, rfl, e2, e3⟩
    · exact .inr ⟨32, b, _, _, by decide, rfl, e2, e3⟩
    · exact .inr ⟨55, b, _, _, by decide, rfl, e2, e3⟩
    · exact .inr ⟨33, b, _, _, by decide, rfl, e2, e4⟩

/-- The root is among the parts. -/
theorem Err.root {w : World} {B d : Nat} {v : Value} {cs : List Int} {ns : List Nd} {ss : List Int} (e : Err w B d v cs ns ss) : ∃ o, (v, o) ∈ ns := by
  cases d with
  | zero => exact e.elim
  | succ d =>
    rcases e with ⟨n, rfl, _, rfl, _⟩ | ⟨b, s, rfl, e2, e3, _, rfl, _⟩ | ⟨b, n, x, ns', rfl, e2, e3, e4, rfl⟩ | ⟨b, n, x, ns', ss', rfl, e2, e3, e4, e5, rfl⟩ | ⟨b, g, m, cap, row, vs, rfl, e2, e3, e4, e5, e6, e7, e7', e8, e9, e10, rfl, e11⟩ <;> exact ⟨_, List.mem_cons_self⟩

theorem ptrT_any {tp : Nat} (h : tp = 32 ∨ tp = 33 ∨ tp = 55 ∨ tp = 64) : PtrT tp ∧ Target tp ∧ tp ≠ 26 := by
  rcases h with rfl | rfl | rfl | rfl
  · exact ⟨ptrT32, target32, by decide⟩
  · exact ⟨ptrT33, target33, by decide⟩
  · exact ⟨ptrT55, target55, by decide⟩
  · exact ⟨ptrT64, target64, by decide⟩

/-- errors.Is finds each part. -/
theorem is_part (d : Nat) (v : Value) (cs : List Int) (ns : List Nd) (ss : List Int) (w : World) (herr : Err w w.heap.size d v cs ns ss) (d' : Nat) (u : Value) (cs' : List Int) (ns' : List Nd) (ss' : List Int) (hu : Err w w.heap.size d' u cs' ns' ss') (hm : ∃ o, (u, o) ∈ ns) :
    Calls Tryd.prog 22 #[v, u] w fun e w' => e = .returned (.bool true) ∧ Below w.heap.size w w' := by
  rcases hu.value with ⟨n, rfl⟩ | ⟨tp, b, cb, tb, ht, rfl, hb, hh⟩
  · exact is_found d v cs ns ss w herr _ n (.inl rfl) hm
  · obtain ⟨h1, h2, h3⟩ := ptrT_any ht
    refine (is22 d v cs ns ss w w.heap.size (isPtr tp b) tp _ h2 herr (Nat.le_refl _) (eqAs_ptr tp b h1 h3 hb cb tb hh herr)).mono ?_
    rintro e w' ⟨he, hb⟩
    rw [anyN_mem _ _ _ hm (by simp [isPtr])] at he
    exact ⟨he, hb⟩

/-- A tree's value is itself. -/
theorem eqlSelf {w : World} {B d : Nat} {v : Value} {cs : List Int} {ns : List Nd} {ss : List Int} (e : Err w B d v cs ns ss) (w' : World) : (binOp .eql 24 v v).run Tryd.prog w' = .ok (.bool true) w' := by
  rcases e.value with ⟨n, rfl⟩ | ⟨tp, b, cb, tb, ht, rfl, _⟩
  · have := eqlInts n n w'
    rw [this]; simp
  · exact (ptrT_any ht).1.same _ w'

set_option maxRecDepth 100000 in
set_option maxHeartbeats 1000000 in
theorem unwrapN (b : Nat) (n x : Value) (w : World) (h : w.heap[b]? = some (.cells #[n, x] 42 (0, 0))) : Calls Tryd.prog 23 #[.iface 32 (.pointer (some ⟨b, 0, none⟩))] w fun e w' => e = .returned x ∧ w = w' := by
  have a1 := taUnN
  have m1 := mUnN
  have m2 := naUnN
  have HB := Lib.hid h
  clear h
  go_enter Tryd.func23, Tryd.ntmps23
  go_wp2_with fail
  refine (onUnwrap b n x _ HB.out).mono ?_
  rintro e w' ⟨rfl, rfl⟩
  go_wp2_with fail
  go_ret
  exact ⟨rfl, rfl⟩

set_option maxRecDepth 100000 in
set_option maxHeartbeats 1000000 in
theorem unwrapF (b : Nat) (n x : Value) (w : World) (h : w.heap[b]? = some (.cells #[n, x] 58 (0, 0))) : Calls Tryd.prog 23 #[.iface 55 (.pointer (some ⟨b, 0, none⟩))] w fun e w' => e = .returned x ∧ w = w' := by
  have a1 := taUnF
  have m1 := mUnF
  have m2 := naUnF
  have HB := Lib.hid h
  clear h
  go_enter Tryd.func23, Tryd.ntmps23
  go_wp2_with fail
  refine (ofUnwrap b n x _ HB.out).mono ?_
  rintro e w' ⟨rfl, rfl⟩
  go_wp2_with fail
  go_ret
  exact ⟨rfl, rfl⟩

theorem neq_ptr {tp te : TypeId} (hp : Tryd.prog.underlying tp = some (.pointer te)) (hc : (Tryd.prog.info? tp).map (·.comparable) = some true) (hs : (Tryd.prog.info? te).map (fun j => j.size != 0) = some true) (a : Addr) (w : World) :
    (binOp .neq 24 (.iface tp (.pointer (some a))) (.iface tp (.pointer (some a)))).run Tryd.prog w = .ok (.bool false) w := by
  obtain ⟨i, hi, hcmp⟩ := Option.map_eq_some_iff.1 hc
  obtain ⟨j, hj, _⟩ := Option.map_eq_some_iff.1 hs
  simp only [binOp]
  simp [Op.equal, Op.maxDepth, run_equalIn_iface_ptr_same (P := Tryd.prog) w 9998 a Tryd.underlying24 hp hi hcmp hj]

theorem neqInts (a : Int) (w : World) : (binOp .neq 24 (.iface 26 (.int .i64 a)) (.iface 26 (.int .i64 a))).run Tryd.prog w = .ok (.bool false) w := by
  obtain ⟨i, hi, hcmp⟩ := Option.map_eq_some_iff.1 comp26
  have h : ∀ d : Nat, (Op.equalIn (d + 2) 24 (.iface 26 (.int .i64 a)) (.iface 26 (.int .i64 a))).run Tryd.prog w = .ok true w := fun d => by
    simp [Op.equalIn, run_underlying Tryd.underlying24, run_underlying Tryd.underlying26, typeInfo, hi, hcmp]
  simp only [binOp]
  simp [Op.equal, Op.maxDepth, h 9998]

theorem neqSelf {w : World} {B d : Nat} {v : Value} {cs : List Int} {ns : List Nd} {ss : List Int} (e : Err w B d v cs ns ss) (w' : World) : (binOp .neq 24 v v).run Tryd.prog w' = .ok (.bool false) w' := by
  rcases e.value with ⟨n, rfl⟩ | ⟨tp, b, cb, tb, ht, rfl, _⟩
  · exact neqInts n w'
  · rcases ht with rfl | rfl | rfl | rfl
    · exact neq_ptr Tryd.underlying32 (by kernel_rfl) (by kernel_rfl) _ w'
    · exact neq_ptr Tryd.underlying33 (by kernel_rfl) (by kernel_rfl) _ w'
    · exact neq_ptr Tryd.underlying55 (by kernel_rfl) (by kernel_rfl) _ w'
    · exact neq_ptr Tryd.underlying64 (by kernel_rfl) (by kernel_rfl) _ w'

theorem Raws.below {w w' : World} {a : Option Addr} {xs : List (Int × Int)} (h : Raws w a xs) (hb : Below w.heap.size w w') : Raws w' a xs := by
  intro i x hx
  obtain ⟨g, o, e, hg, k1, k2⟩ := h i x hx
  exact ⟨g, o, e, Nat.lt_of_lt_of_le hg hb.size, by rw [hb.cell (p := ⟨g, o + i * 2, none⟩) hg]; exact k1, by rw [hb.cell (p := ⟨g, o + i * 2 + 1, none⟩) hg]; exact k2⟩

theorem Err.next {w w' : World} {d : Nat} {v : Value} {cs : List Int} {ns : List Nd} {ss : List Int} (e : Err w w.heap.size d v cs ns ss) (hb : Below w.heap.size w w') : Err w' w'.heap.size d v cs ns ss := (Err.below hb d e).mono hb.size

theorem made_row (w : World) (cs : Array Value) (h : cs.size ≤ 1000) : (w.alloc (.cells cs 24)).ownsRow w.heap.size 24 1 (.slice (some ⟨w.heap.size, 0, none⟩) cs.size cs.size) cs.size cs.toList :=
  ⟨by simp, .inr ⟨w.heap.size, cs.size, cs, rfl, Nat.le_refl _, heap_new _ _, Nat.le_refl _, by unfold maxLen; omega, by simp, by rw [Nat.mul_one]; exact List.take_of_length_le (by simp)⟩⟩

theorem codeOf_twice (cs : List Int) : codeOf (cs ++ cs) = codeOf cs := by
  cases cs with
  | nil => rfl
  | cons c cs => rfl

end Go.Proofs.YtbifpjdkljibeaaDoor
