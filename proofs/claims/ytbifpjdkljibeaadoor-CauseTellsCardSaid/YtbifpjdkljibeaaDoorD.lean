import Derived.Test.YtbifpjdkljibeaaDoorC
import Derived.Deep.RegionWith
import Derived.Outline
namespace Go.Proofs.YtbifpjdkljibeaaDoor
open Go.RowKit Go.Extern.Stop Go.Stop Go.Extern Go.Extern.Rtype

theorem eqlNil (t : TypeId) (v : Value) (w : World) : (binOp .eql 24 (.iface t v) .nilIface).run Tryd.prog w = .ok (.bool false) w := by kernel_rfl
theorem neqNil (t : TypeId) (v : Value) (w : World) : (binOp .neq 24 (.iface t v) .nilIface).run Tryd.prog w = .ok (.bool true) w := by kernel_rfl
theorem eqlNil20 (t : TypeId) (v : Value) (w : World) : (binOp .eql 20 (.iface t v) .nilIface).run Tryd.prog w = .ok (.bool false) w := by kernel_rfl
theorem eqlNilNil (w : World) : (binOp .eql 24 .nilIface .nilIface).run Tryd.prog w = .ok (.bool true) w := by kernel_rfl
theorem neqNilNil (w : World) : (binOp .neq 24 .nilIface .nilIface).run Tryd.prog w = .ok (.bool false) w := by kernel_rfl

theorem cell?_lt {w : World} {b o : Nat} {v : Value} (h : w.cell? ⟨b, o, none⟩ = some v) : b < w.heap.size := by
  unfold World.cell? at h
  by_cases hb : b < w.heap.size
  · exact hb
  · simp [Array.getElem?_eq_none (Nat.le_of_not_lt hb)] at h
theorem mKind (x : Addr) (w : World) : (method 262 97 (.agg #[.pointer (some x)]) "Kind").run Tryd.prog w = .ok (78, .pointer (some x)) w := by kernel_rfl
theorem mElem (x : Addr) (w : World) : (method 262 97 (.agg #[.pointer (some x)]) "Elem").run Tryd.prog w = .ok (95, .agg #[.pointer (some x)]) w := by kernel_rfl
theorem mImpl (x : Addr) (w : World) : (method 262 97 (.agg #[.pointer (some x)]) "Implements").run Tryd.prog w = .ok (96, .agg #[.pointer (some x)]) w := by kernel_rfl
theorem mAsg (x : Addr) (w : World) : (method 262 97 (.agg #[.pointer (some x)]) "AssignableTo").run Tryd.prog w = .ok (93, .agg #[.pointer (some x)]) w := by kernel_rfl
theorem mComp (x : Addr) (w : World) : (method 262 97 (.agg #[.pointer (some x)]) "Comparable").run Tryd.prog w = .ok (94, .agg #[.pointer (some x)]) w := by kernel_rfl

theorem taAsE (v : Value) (xT : TypeId) (w : World) : (Instr.typeAssert (.iface 26 v) xT 101 true).run Tryd.prog w = .ok (.tuple #[.nilIface, .bool false]) w := run_typeAssert_lacksB Tryd.underlying101 (by kernel_rfl) (by kernel_rfl) v xT w
theorem taUnE (v : Value) (xT : TypeId) (w : World) : (Instr.typeAssert (.iface 26 v) xT 88 true).run Tryd.prog w = .ok (.tuple #[.nilIface, .bool false]) w := run_typeAssert_lacksB Tryd.underlying88 (by kernel_rfl) (by kernel_rfl) v xT w
theorem taUnsE (v : Value) (xT : TypeId) (w : World) : (Instr.typeAssert (.iface 26 v) xT 104 true).run Tryd.prog w = .ok (.tuple #[.nilIface, .bool false]) w := run_typeAssert_lacksB Tryd.underlying104 (by kernel_rfl) (by kernel_rfl) v xT w
theorem taIsE (v : Value) (xT : TypeId) (w : World) : (Instr.typeAssert (.iface 26 v) xT 108 true).run Tryd.prog w = .ok (.tuple #[.nilIface, .bool false]) w := run_typeAssert_lacksB Tryd.underlying108 (by kernel_rfl) (by kernel_rfl) v xT w
theorem taAsN (v : Value) (xT : TypeId) (w : World) : (Instr.typeAssert (.iface 32 v) xT 101 true).run Tryd.prog w = .ok (.tuple #[.nilIface, .bool false]) w := run_typeAssert_lacksB Tryd.underlying101 (by kernel_rfl) (by kernel_rfl) v xT w
theorem taUnN (v : Value) (xT : TypeId) (w : World) : (Instr.typeAssert (.iface 32 v) xT 88 true).run Tryd.prog w = .ok (.tuple #[.iface 32 v, .bool true]) w := run_typeAssert_hasB Tryd.underlying88 (by kernel_rfl) v xT w
theorem taUnsN (v : Value) (xT : TypeId) (w : World) : (Instr.typeAssert (.iface 32 v) xT 104 true).run Tryd.prog w = .ok (.tuple #[.nilIface, .bool false]) w := run_typeAssert_lacksB Tryd.underlying104 (by kernel_rfl) (by kernel_rfl) v xT w
theorem taIsN (v : Value) (xT : TypeId) (w : World) : (Instr.typeAssert (.iface 32 v) xT 108 true).run Tryd.prog w = .ok (.tuple #[.nilIface, .bool false]) w := run_typeAssert_lacksB Tryd.underlying108 (by kernel_rfl) (by kernel_rfl) v xT w
theorem taAsF (v : Value) (xT : TypeId) (w : World) : (Instr.typeAssert (.iface 55 v) xT 101 true).run Tryd.prog w = .ok (.tuple #[.nilIface, .bool false]) w := run_typeAssert_lacksB Tryd.underlying101 (by kernel_rfl) (by kernel_rfl) v xT w
theorem taUnF (v : Value) (xT : TypeId) (w : World) : (Instr.typeAssert (.iface 55 v) xT 88 true).run Tryd.prog w = .ok (.tuple #[.iface 55 v, .bool true]) w := run_typeAssert_hasB Tryd.underlying88 (by kernel_rfl) v xT w
theorem taUnsF (v : Value) (xT : TypeId) (w : World) : (Instr.typeAssert (.iface 55 v) xT 104 true).run Tryd.prog w = .ok (.tuple #[.nilIface, .bool false]) w := run_typeAssert_lacksB Tryd.underlying104 (by kernel_rfl) (by kernel_rfl) v xT w
theorem taIsF (v : Value) (xT : TypeId) (w : World) : (Instr.typeAssert (.iface 55 v) xT 108 true).run Tryd.prog w = .ok (.tuple #[.nilIface, .bool false]) w := run_typeAssert_lacksB Tryd.underlying108 (by kernel_rfl) (by kernel_rfl) v xT w
theorem taAsA (v : Value) (xT : TypeId) (w : World) : (Instr.typeAssert (.iface 33 v) xT 101 true).run Tryd.prog w = .ok (.tuple #[.nilIface, .bool false]) w := run_typeAssert_lacksB Tryd.underlying101 (by kernel_rfl) (by kernel_rfl) v xT w
theorem taUnA (v : Value) (xT : TypeId) (w : World) : (Instr.typeAssert (.iface 33 v) xT 88 true).run Tryd.prog w = .ok (.tuple #[.nilIface, .bool false]) w := run_typeAssert_lacksB Tryd.underlying88 (by kernel_rfl) (by kernel_rfl) v xT w
theorem taUnsA (v : Value) (xT : TypeId) (w : World) : (Instr.typeAssert (.iface 33 v) xT 104 true).run Tryd.prog w = .ok (.tuple #[.iface 33 v, .bool true]) w := run_typeAssert_hasB Tryd.underlying104 (by kernel_rfl) v xT w
theorem taIsA (v : Value) (xT : TypeId) (w : World) : (Instr.typeAssert (.iface 33 v) xT 108 true).run Tryd.prog w = .ok (.tuple #[.nilIface, .bool false]) w := run_typeAssert_lacksB Tryd.underlying108 (by kernel_rfl) (by kernel_rfl) v xT w
theorem taAsS (v : Value) (xT : TypeId) (w : World) : (Instr.typeAssert (.iface 64 v) xT 101 true).run Tryd.prog w = .ok (.tuple #[.nilIface, .bool false]) w := run_typeAssert_lacksB Tryd.underlying101 (by kernel_rfl) (by kernel_rfl) v xT w
theorem taUnS (v : Value) (xT : TypeId) (w : World) : (Instr.typeAssert (.iface 64 v) xT 88 true).run Tryd.prog w = .ok (.tuple #[.nilIface, .bool false]) w := run_typeAssert_lacksB Tryd.underlying88 (by kernel_rfl) (by kernel_rfl) v xT w
theorem taUnsS (v : Value) (xT : TypeId) (w : World) : (Instr.typeAssert (.iface 64 v) xT 104 true).run Tryd.prog w = .ok (.tuple #[.nilIface, .bool false]) w := run_typeAssert_lacksB Tryd.underlying104 (by kernel_rfl) (by kernel_rfl) v xT w
theorem taIsS (v : Value) (xT : TypeId) (w : World) : (Instr.typeAssert (.iface 64 v) xT 108 true).run Tryd.prog w = .ok (.tuple #[.nilIface, .bool false]) w := run_typeAssert_lacksB Tryd.underlying108 (by kernel_rfl) (by kernel_rfl) v xT w
theorem mUnN (a : Addr) (w : World) : (method 262 32 (.pointer (some a)) "Unwrap").run Tryd.prog w = .ok (83, .pointer (some a)) w := by kernel_rfl
theorem naUnN (a : Addr) (w : World) : (nilAhead 262 32 (.pointer (some a)) "Unwrap").run Tryd.prog w = .ok (some false) w := by kernel_rfl
theorem mUnF (a : Addr) (w : World) : (method 262 55 (.pointer (some a)) "Unwrap").run Tryd.prog w = .ok (86, .pointer (some a)) w := by kernel_rfl
theorem naUnF (a : Addr) (w : World) : (nilAhead 262 55 (.pointer (some a)) "Unwrap").run Tryd.prog w = .ok (some false) w := by kernel_rfl
theorem mUnA (a : Addr) (w : World) : (method 262 33 (.pointer (some a)) "Unwrap").run Tryd.prog w = .ok (84, .pointer (some a)) w := by kernel_rfl
theorem naUnA (a : Addr) (w : World) : (nilAhead 262 33 (.pointer (some a)) "Unwrap").run Tryd.prog w = .ok (some false) w := by kernel_rfl
end Go.Proofs.YtbifpjdkljibeaaDoor
