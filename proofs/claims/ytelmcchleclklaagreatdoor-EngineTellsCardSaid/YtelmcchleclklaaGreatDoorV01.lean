import Derived.Test.YtelmcchleclklaaGreatDoorRows
import Derived.WalkKit
import Derived.WalkSpells
import Derived.WalkLawsBesides
import Derived.LaidEql
import Derived.Stop.Asserts
import Derived.RowKitTokens
import Derived.Deep.RegionWith
import Derived.Outline
namespace Go.Proofs.YtelmcchleclklaaGreatDoor.Tr
open Go.RowKit Go.Extern.Stop Go.Stop Go.Extern Go.Extern.Rtype

theorem Tryz.cf33 (args : Array Value) (w : World) : (callFunc 172 args).run Tryz.prog w = ((ReflectliteType.typeOf args).run Tryz.prog w).andThen fun v w' => .ok (.value v) w' :=
 run_callFunc_extern (e := ReflectliteType.typeOf) Tryz.func172 (by kernel_rfl) (by kernel_rfl) (by kernel_rfl) (by kernel_rfl) args w
theorem Tryz.cf93 (args : Array Value) (w : World) : (callFunc 348 args).run Tryz.prog w = (((ReflectliteType.relation "AssignableTo" ReflectliteType.assignableTo) args).run Tryz.prog w).andThen fun v w' => .ok (.value v) w' :=
 run_callFunc_extern (e := (ReflectliteType.relation "AssignableTo" ReflectliteType.assignableTo)) Tryz.func348 (by kernel_rfl) (by kernel_rfl) (by kernel_rfl) (by kernel_rfl) args w
theorem Tryz.cf96 (args : Array Value) (w : World) : (callFunc 351 args).run Tryz.prog w = (((ReflectliteType.relation "Implements" ReflectliteType.implements_) args).run Tryz.prog w).andThen fun v w' => .ok (.value v) w' :=
 run_callFunc_extern (e := (ReflectliteType.relation "Implements" ReflectliteType.implements_)) Tryz.func351 (by kernel_rfl) (by kernel_rfl) (by kernel_rfl) (by kernel_rfl) args w
theorem Tryz.cf95 (args : Array Value) (w : World) : (callFunc 350 args).run Tryz.prog w = (((ReflectliteType.method ReflectliteType.elem) args).run Tryz.prog w).andThen fun v w' => .ok (.value v) w' :=
 run_callFunc_extern (e := (ReflectliteType.method ReflectliteType.elem)) Tryz.func350 (by kernel_rfl) (by kernel_rfl) (by kernel_rfl) (by kernel_rfl) args w
theorem Tryz.cf27 (args : Array Value) (w : World) : (callFunc 166 args).run Tryz.prog w = (((fun args => ReflectliteValue.unpack (args.getD 0 (.tuple #[]))) args).run Tryz.prog w).andThen fun v w' => .ok (.value v) w' :=
 run_callFunc_extern (e := (fun args => ReflectliteValue.unpack (args.getD 0 (.tuple #[])))) Tryz.func166 (by kernel_rfl) (by kernel_rfl) (by kernel_rfl) (by kernel_rfl) args w
theorem Tryz.cf28 (args : Array Value) (w : World) : (callFunc 167 args).run Tryz.prog w = (((ReflectliteValue.methodAny (ReflectliteValue.valueError "reflectlite.Value.Type" 0) fun t _ _ _ => ReflectliteType.toType t) args).run Tryz.prog w).andThen fun v w' => .ok (.value v) w' :=
 run_callFunc_extern (e := (ReflectliteValue.methodAny (ReflectliteValue.valueError "reflectlite.Value.Type" 0) fun t _ _ _ => ReflectliteType.toType t)) Tryz.func167 (by kernel_rfl) (by kernel_rfl) (by kernel_rfl) (by kernel_rfl) args w
theorem Tryz.cf29 (args : Array Value) (w : World) : (callFunc 168 args).run Tryz.prog w = (((ReflectliteValue.method (ReflectliteValue.valueError "reflectlite.Value.IsNil" 0) ReflectliteValue.isNil) args).run Tryz.prog w).andThen fun v w' => .ok (.value v) w' :=
 run_callFunc_extern (e := (ReflectliteValue.method (ReflectliteValue.valueError "reflectlite.Value.IsNil" 0) ReflectliteValue.isNil)) Tryz.func168 (by kernel_rfl) (by kernel_rfl) (by kernel_rfl) (by kernel_rfl) args w
theorem Tryz.cf39 (args : Array Value) (w : World) : (callFunc 215 args).run Tryz.prog w = (((ReflectliteValue.method (ReflectliteValue.valueError "reflectlite.Value.Elem" 0) ReflectliteValue.elem) args).run Tryz.prog w).andThen fun v w' => .ok (.value v) w' :=
 run_callFunc_extern (e := (ReflectliteValue.method (ReflectliteValue.valueError "reflectlite.Value.Elem" 0) ReflectliteValue.elem)) Tryz.func215 (by kernel_rfl) (by kernel_rfl) (by kernel_rfl) (by kernel_rfl) args w
theorem Tryz.cf40 (args : Array Value) (w : World) : (callFunc 216 args).run Tryz.prog w = ((ReflectliteValue.set args).run Tryz.prog w).andThen fun v w' => .ok (.value v) w' :=
 run_callFunc_extern (e := ReflectliteValue.set) Tryz.func216 (by kernel_rfl) (by kernel_rfl) (by kernel_rfl) (by kernel_rfl) args w
theorem Tryz.cf94 (args : Array Value) (w : World) : (callFunc 349 args).run Tryz.prog w = (((ReflectliteType.method fun t => do noPackHeld "Comparable" t; pure (.bool (← typeInfo t).comparable)) args).run Tryz.prog w).andThen fun v w' => .ok (.value v) w' :=
 run_callFunc_extern (e := (ReflectliteType.method fun t => do noPackHeld "Comparable" t; pure (.bool (← typeInfo t).comparable))) Tryz.func349 (by kernel_rfl) (by kernel_rfl) (by kernel_rfl) (by kernel_rfl) args w
theorem Tryz.cf78 (args : Array Value) (w : World) : (callFunc 326 args).run Tryz.prog w = (((ReflectliteType.abiMethod fun t => do pure (.int .u8 (← kind t))) args).run Tryz.prog w).andThen fun v w' => .ok (.value v) w' :=
 run_callFunc_extern (e := (ReflectliteType.abiMethod fun t => do pure (.int .u8 (← kind t)))) Tryz.func326 (by kernel_rfl) (by kernel_rfl) (by kernel_rfl) (by kernel_rfl) args w
theorem Tryz.typeOfE (v : Value) (w : World) : (callFunc 172 #[.iface 41 v]).run Tryz.prog w = .ok (.value (.iface 330 (.agg #[(.pointer (some ⟨1, 41, none⟩))]))) w := by
 rw [Tryz.cf33]; exact congrArg (fun r : Result Value => r.andThen fun v w' => Result.ok (Next.value v) w') (show (ReflectliteType.typeOf #[.iface 41 v]).run Tryz.prog w = .ok (.iface 330 (.agg #[(.pointer (some ⟨1, 41, none⟩))])) w from by kernel_rfl)
theorem Tryz.asgE26 (w : World) : (callFunc 348 #[.agg #[(.pointer (some ⟨1, 41, none⟩))], (.iface 330 (.agg #[(.pointer (some ⟨1, 41, none⟩))]))]).run Tryz.prog w = .ok (.value (.bool true)) w := by
 rw [Tryz.cf93]; exact congrArg (fun r : Result Value => r.andThen fun v w' => Result.ok (Next.value v) w') (show ((ReflectliteType.relation "AssignableTo" ReflectliteType.assignableTo) #[.agg #[(.pointer (some ⟨1, 41, none⟩))], (.iface 330 (.agg #[(.pointer (some ⟨1, 41, none⟩))]))]).run Tryz.prog w = .ok (.bool true) w from by kernel_rfl)
theorem Tryz.asgE55 (w : World) : (callFunc 348 #[.agg #[(.pointer (some ⟨1, 41, none⟩))], (.iface 330 (.agg #[(.pointer (some ⟨1, 121, none⟩))]))]).run Tryz.prog w = .ok (.value (.bool false)) w := by
 rw [Tryz.cf93]; exact congrArg (fun r : Result Value => r.andThen fun v w' => Result.ok (Next.value v) w') (show ((ReflectliteType.relation "AssignableTo" ReflectliteType.assignableTo) #[.agg #[(.pointer (some ⟨1, 41, none⟩))], (.iface 330 (.agg #[(.pointer (some ⟨1, 121, none⟩))]))]).run Tryz.prog w = .ok (.bool false) w from by kernel_rfl)
theorem Tryz.compE (w : World) : (callFunc 349 #[.agg #[(.pointer (some ⟨1, 41, none⟩))]]).run Tryz.prog w = .ok (.value (.bool true)) w := by
 rw [Tryz.cf94]; exact congrArg (fun r : Result Value => r.andThen fun v w' => Result.ok (Next.value v) w') (show ((ReflectliteType.method fun t => do noPackHeld "Comparable" t; pure (.bool (← typeInfo t).comparable)) #[.agg #[(.pointer (some ⟨1, 41, none⟩))]]).run Tryz.prog w = .ok (.bool true) w from by kernel_rfl)
theorem Tryz.typeOfN (v : Value) (w : World) : (callFunc 172 #[.iface 192 v]).run Tryz.prog w = .ok (.value (.iface 330 (.agg #[(.pointer (some ⟨1, 192, none⟩))]))) w := by
 rw [Tryz.cf33]; exact congrArg (fun r : Result Value => r.andThen fun v w' => Result.ok (Next.value v) w') (show (ReflectliteType.typeOf #[.iface 192 v]).run Tryz.prog w = .ok (.iface 330 (.agg #[(.pointer (some ⟨1, 192, none⟩))])) w from by kernel_rfl)
theorem Tryz.asgN26 (w : World) : (callFunc 348 #[.agg #[(.pointer (some ⟨1, 192, none⟩))], (.iface 330 (.agg #[(.pointer (some ⟨1, 41, none⟩))]))]).run Tryz.prog w = .ok (.value (.bool false)) w := by
 rw [Tryz.cf93]; exact congrArg (fun r : Result Value => r.andThen fun v w' => Result.ok (Next.value v) w') (show ((ReflectliteType.relation "AssignableTo" ReflectliteType.assignableTo) #[.agg #[(.pointer (some ⟨1, 192, none⟩))], (.iface 330 (.agg #[(.pointer (some ⟨1, 41, none⟩))]))]).run Tryz.prog w = .ok (.bool false) w from by kernel_rfl)
theorem Tryz.asgN55 (w : World) : (callFunc 348 #[.agg #[(.pointer (some ⟨1, 192, none⟩))], (.iface 330 (.agg #[(.pointer (some ⟨1, 121, none⟩))]))]).run Tryz.prog w = .ok (.value (.bool false)) w := by
 rw [Tryz.cf93]; exact congrArg (fun r : Result Value => r.andThen fun v w' => Result.ok (Next.value v) w') (show ((ReflectliteType.relation "AssignableTo" ReflectliteType.assignableTo) #[.agg #[(.pointer (some ⟨1, 192, none⟩))], (.iface 330 (.agg #[(.pointer (some ⟨1, 121, none⟩))]))]).run Tryz.prog w = .ok (.bool false) w from by kernel_rfl)
theorem Tryz.typeOfF (v : Value) (w : World) : (callFunc 172 #[.iface 121 v]).run Tryz.prog w = .ok (.value (.iface 330 (.agg #[(.pointer (some ⟨1, 121, none⟩))]))) w := by
 rw [Tryz.cf33]; exact congrArg (fun r : Result Value => r.andThen fun v w' => Result.ok (Next.value v) w') (show (ReflectliteType.typeOf #[.iface 121 v]).run Tryz.prog w = .ok (.iface 330 (.agg #[(.pointer (some ⟨1, 121, none⟩))])) w from by kernel_rfl)
theorem Tryz.asgF26 (w : World) : (callFunc 348 #[.agg #[(.pointer (some ⟨1, 121, none⟩))], (.iface 330 (.agg #[(.pointer (some ⟨1, 41, none⟩))]))]).run Tryz.prog w = .ok (.value (.bool false)) w := by
 rw [Tryz.cf93]; exact congrArg (fun r : Result Value => r.andThen fun v w' => Result.ok (Next.value v) w') (show ((ReflectliteType.relation "AssignableTo" ReflectliteType.assignableTo) #[.agg #[(.pointer (some ⟨1, 121, none⟩))], (.iface 330 (.agg #[(.pointer (some ⟨1, 41, none⟩))]))]).run Tryz.prog w = .ok (.bool false) w from by kernel_rfl)
theorem Tryz.asgF55 (w : World) : (callFunc 348 #[.agg #[(.pointer (some ⟨1, 121, none⟩))], (.iface 330 (.agg #[(.pointer (some ⟨1, 121, none⟩))]))]).run Tryz.prog w = .ok (.value (.bool true)) w := by
 rw [Tryz.cf93]; exact congrArg (fun r : Result Value => r.andThen fun v w' => Result.ok (Next.value v) w') (show ((ReflectliteType.relation "AssignableTo" ReflectliteType.assignableTo) #[.agg #[(.pointer (some ⟨1, 121, none⟩))], (.iface 330 (.agg #[(.pointer (some ⟨1, 121, none⟩))]))]).run Tryz.prog w = .ok (.bool true) w from by kernel_rfl)
theorem Tryz.typeOfA (v : Value) (w : World) : (callFunc 172 #[.iface 227 v]).run Tryz.prog w = .ok (.value (.iface 330 (.agg #[(.pointer (some ⟨1, 227, none⟩))]))) w := by
 rw [Tryz.cf33]; exact congrArg (fun r : Result Value => r.andThen fun v w' => Result.ok (Next.value v) w') (show (ReflectliteType.typeOf #[.iface 227 v]).run Tryz.prog w = .ok (.iface 330 (.agg #[(.pointer (some ⟨1, 227, none⟩))])) w from by kernel_rfl)
theorem Tryz.asgA26 (w : World) : (callFunc 348 #[.agg #[(.pointer (some ⟨1, 227, none⟩))], (.iface 330 (.agg #[(.pointer (some ⟨1, 41, none⟩))]))]).run Tryz.prog w = .ok (.value (.bool false)) w := by
 rw [Tryz.cf93]; exact congrArg (fun r : Result Value => r.andThen fun v w' => Result.ok (Next.value v) w') (show ((ReflectliteType.relation "AssignableTo" ReflectliteType.assignableTo) #[.agg #[(.pointer (some ⟨1, 227, none⟩))], (.iface 330 (.agg #[(.pointer (some ⟨1, 41, none⟩))]))]).run Tryz.prog w = .ok (.bool false) w from by kernel_rfl)
theorem Tryz.asgA55 (w : World) : (callFunc 348 #[.agg #[(.pointer (some ⟨1, 227, none⟩))], (.iface 330 (.agg #[(.pointer (some ⟨1, 121, none⟩))]))]).run Tryz.prog w = .ok (.value (.bool false)) w := by
 rw [Tryz.cf93]; exact congrArg (fun r : Result Value => r.andThen fun v w' => Result.ok (Next.value v) w') (show ((ReflectliteType.relation "AssignableTo" ReflectliteType.assignableTo) #[.agg #[(.pointer (some ⟨1, 227, none⟩))], (.iface 330 (.agg #[(.pointer (some ⟨1, 121, none⟩))]))]).run Tryz.prog w = .ok (.bool false) w from by kernel_rfl)
theorem Tryz.valueOf26 (v : Option Addr) (w : World) : (callFunc 166 #[.iface 128 (.pointer v)]).run Tryz.prog w = .ok (.value (.agg #[(.pointer (some ⟨1, 128, none⟩)), .pointer (some ⟨w.heap.size, 0, none⟩), .int .u64 150])) (w.alloc (.cells #[.pointer v] 128)) := by
 rw [Tryz.cf27]; exact congrArg (fun r : Result Value => r.andThen fun v w' => Result.ok (Next.value v) w') (show (ReflectliteValue.unpack (.iface 128 (.pointer v))).run Tryz.prog w = .ok (.agg #[(.pointer (some ⟨1, 128, none⟩)), .pointer (some ⟨w.heap.size, 0, none⟩), .int .u64 150]) (w.alloc (.cells #[.pointer v] 128)) from by kernel_rfl)
theorem Tryz.type26 (x : Addr) (w : World) : (callFunc 167 #[.agg #[(.pointer (some ⟨1, 128, none⟩)), .pointer (some x), .int .u64 150]]).run Tryz.prog w = .ok (.value (.iface 330 (.agg #[(.pointer (some ⟨1, 128, none⟩))]))) w := by
 rw [Tryz.cf28]; exact congrArg (fun r : Result Value => r.andThen fun v w' => Result.ok (Next.value v) w') (show ((ReflectliteValue.methodAny (ReflectliteValue.valueError "reflectlite.Value.Type" 0) fun t _ _ _ => ReflectliteType.toType t) #[.agg #[(.pointer (some ⟨1, 128, none⟩)), .pointer (some x), .int .u64 150]]).run Tryz.prog w = .ok (.iface 330 (.agg #[(.pointer (some ⟨1, 128, none⟩))])) w from by kernel_rfl)
theorem Tryz.elem26 (w : World) : (callFunc 350 #[.agg #[(.pointer (some ⟨1, 128, none⟩))]]).run Tryz.prog w = .ok (.value (.iface 330 (.agg #[(.pointer (some ⟨1, 41, none⟩))]))) w := by
 rw [Tryz.cf95]; exact congrArg (fun r : Result Value => r.andThen fun v w' => Result.ok (Next.value v) w') (show ((ReflectliteType.method ReflectliteType.elem) #[.agg #[(.pointer (some ⟨1, 128, none⟩))]]).run Tryz.prog w = .ok (.iface 330 (.agg #[(.pointer (some ⟨1, 41, none⟩))])) w from by kernel_rfl)
theorem Tryz.impl26 (w : World) : (callFunc 351 #[.agg #[(.pointer (some ⟨1, 41, none⟩))], (.iface 330 (.agg #[(.pointer (some ⟨1, 27, none⟩))]))]).run Tryz.prog w = .ok (.value (.bool true)) w := by
 rw [Tryz.cf96]; exact congrArg (fun r : Result Value => r.andThen fun v w' => Result.ok (Next.value v) w') (show ((ReflectliteType.relation "Implements" ReflectliteType.implements_) #[.agg #[(.pointer (some ⟨1, 41, none⟩))], (.iface 330 (.agg #[(.pointer (some ⟨1, 27, none⟩))]))]).run Tryz.prog w = .ok (.bool true) w from by kernel_rfl)
theorem Tryz.kindP26 (w : World) : (callFunc 326 #[(.pointer (some ⟨1, 128, none⟩))]).run Tryz.prog w = .ok (.value (.int .u8 22)) w := by
 rw [Tryz.cf78]; exact congrArg (fun r : Result Value => r.andThen fun v w' => Result.ok (Next.value v) w') (show ((ReflectliteType.abiMethod fun t => do pure (.int .u8 (← kind t))) #[(.pointer (some ⟨1, 128, none⟩))]).run Tryz.prog w = .ok (.int .u8 22) w from by kernel_rfl)
theorem Tryz.kind26 (w : World) : (callFunc 326 #[(.pointer (some ⟨1, 41, none⟩))]).run Tryz.prog w = .ok (.value (.int .u8 2)) w := by
 rw [Tryz.cf78]; exact congrArg (fun r : Result Value => r.andThen fun v w' => Result.ok (Next.value v) w') (show ((ReflectliteType.abiMethod fun t => do pure (.int .u8 (← kind t))) #[(.pointer (some ⟨1, 41, none⟩))]).run Tryz.prog w = .ok (.int .u8 2) w from by kernel_rfl)
theorem Tryz.valueOf55 (v : Option Addr) (w : World) : (callFunc 166 #[.iface 123 (.pointer v)]).run Tryz.prog w = .ok (.value (.agg #[(.pointer (some ⟨1, 123, none⟩)), .pointer (some ⟨w.heap.size, 0, none⟩), .int .u64 150])) (w.alloc (.cells #[.pointer v] 123)) := by
 rw [Tryz.cf27]; exact congrArg (fun r : Result Value => r.andThen fun v w' => Result.ok (Next.value v) w') (show (ReflectliteValue.unpack (.iface 123 (.pointer v))).run Tryz.prog w = .ok (.agg #[(.pointer (some ⟨1, 123, none⟩)), .pointer (some ⟨w.heap.size, 0, none⟩), .int .u64 150]) (w.alloc (.cells #[.pointer v] 123)) from by kernel_rfl)
theorem Tryz.type55 (x : Addr) (w : World) : (callFunc 167 #[.agg #[(.pointer (some ⟨1, 123, none⟩)), .pointer (some x), .int .u64 150]]).run Tryz.prog w = .ok (.value (.iface 330 (.agg #[(.pointer (some ⟨1, 123, none⟩))]))) w := by
 rw [Tryz.cf28]; exact congrArg (fun r : Result Value => r.andThen fun v w' => Result.ok (Next.value v) w') (show ((ReflectliteValue.methodAny (ReflectliteValue.valueError "reflectlite.Value.Type" 0) fun t _ _ _ => ReflectliteType.toType t) #[.agg #[(.pointer (some ⟨1, 123, none⟩)), .pointer (some x), .int .u64 150]]).run Tryz.prog w = .ok (.iface 330 (.agg #[(.pointer (some ⟨1, 123, none⟩))])) w from by kernel_rfl)
theorem Tryz.elem55 (w : World) : (callFunc 350 #[.agg #[(.pointer (some ⟨1, 123, none⟩))]]).run Tryz.prog w = .ok (.value (.iface 330 (.agg #[(.pointer (some ⟨1, 121, none⟩))]))) w := by
 rw [Tryz.cf95]; exact congrArg (fun r : Result Value => r.andThen fun v w' => Result.ok (Next.value v) w') (show ((ReflectliteType.method ReflectliteType.elem) #[.agg #[(.pointer (some ⟨1, 123, none⟩))]]).run Tryz.prog w = .ok (.iface 330 (.agg #[(.pointer (some ⟨1, 121, none⟩))])) w from by kernel_rfl)
theorem Tryz.impl55 (w : World) : (callFunc 351 #[.agg #[(.pointer (some ⟨1, 121, none⟩))], (.iface 330 (.agg #[(.pointer (some ⟨1, 27, none⟩))]))]).run Tryz.prog w = .ok (.value (.bool true)) w := by
 rw [Tryz.cf96]; exact congrArg (fun r : Result Value => r.andThen fun v w' => Result.ok (Next.value v) w') (show ((ReflectliteType.relation "Implements" ReflectliteType.implements_) #[.agg #[(.pointer (some ⟨1, 121, none⟩))], (.iface 330 (.agg #[(.pointer (some ⟨1, 27, none⟩))]))]).run Tryz.prog w = .ok (.bool true) w from by kernel_rfl)
theorem Tryz.kindP55 (w : World) : (callFunc 326 #[(.pointer (some ⟨1, 123, none⟩))]).run Tryz.prog w = .ok (.value (.int .u8 22)) w := by
 rw [Tryz.cf78]; exact congrArg (fun r : Result Value => r.andThen fun v w' => Result.ok (Next.value v) w') (show ((ReflectliteType.abiMethod fun t => do pure (.int .u8 (← kind t))) #[(.pointer (some ⟨1, 123, none⟩))]).run Tryz.prog w = .ok (.int .u8 22) w from by kernel_rfl)
theorem Tryz.kind55 (w : World) : (callFunc 326 #[(.pointer (some ⟨1, 121, none⟩))]).run Tryz.prog w = .ok (.value (.int .u8 22)) w := by
 rw [Tryz.cf78]; exact congrArg (fun r : Result Value => r.andThen fun v w' => Result.ok (Next.value v) w') (show ((ReflectliteType.abiMethod fun t => do pure (.int .u8 (← kind t))) #[(.pointer (some ⟨1, 121, none⟩))]).run Tryz.prog w = .ok (.int .u8 22) w from by kernel_rfl)
theorem Tryz.valueOfE (n : Int) (w : World) : (callFunc 166 #[.iface 41 (.int .i64 n)]).run Tryz.prog w = .ok (.value (.agg #[(.pointer (some ⟨1, 41, none⟩)), .pointer (some ⟨w.heap.size, 0, none⟩), .int .u64 130])) (w.alloc (.cells #[.int .i64 n] 41)) := by
 rw [Tryz.cf27]; exact congrArg (fun r : Result Value => r.andThen fun v w' => Result.ok (Next.value v) w') (show (ReflectliteValue.unpack (.iface 41 (.int .i64 n))).run Tryz.prog w = .ok (.agg #[(.pointer (some ⟨1, 41, none⟩)), .pointer (some ⟨w.heap.size, 0, none⟩), .int .u64 130]) (w.alloc (.cells #[.int .i64 n] 41)) from by kernel_rfl)
theorem Tryz.valueOfF (v : Option Addr) (w : World) : (callFunc 166 #[.iface 121 (.pointer v)]).run Tryz.prog w = .ok (.value (.agg #[(.pointer (some ⟨1, 121, none⟩)), .pointer (some ⟨w.heap.size, 0, none⟩), .int .u64 150])) (w.alloc (.cells #[.pointer v] 121)) := by
 rw [Tryz.cf27]; exact congrArg (fun r : Result Value => r.andThen fun v w' => Result.ok (Next.value v) w') (show (ReflectliteValue.unpack (.iface 121 (.pointer v))).run Tryz.prog w = .ok (.agg #[(.pointer (some ⟨1, 121, none⟩)), .pointer (some ⟨w.heap.size, 0, none⟩), .int .u64 150]) (w.alloc (.cells #[.pointer v] 121)) from by kernel_rfl)
end Go.Proofs.YtelmcchleclklaaGreatDoor.Tr
namespace Go.Proofs.YtelmcchleclklaaGreatDoor.Tr
open Go.RowKit Go.Extern.Stop Go.Stop Go.Extern Go.Extern.Rtype

theorem rl_parts (h : Value) (a : Addr) (k : Int) (hk : (k == 0) = false) : ReflectliteValue.partsAny (.agg #[h, .pointer (some a), .int .u64 k]) = (do pure (some (← ofHandle h, a, k.toNat))) := by
 cases k with
 | ofNat n => cases n with
  | zero => cases hk
  | succ n => rfl
 | negSucc n => rfl
theorem rl_method (z : Sem Value) (f : TypeId → Addr → Nat → Nat → Sem Value) (v : Value) :
  ReflectliteValue.method z f #[v] = (do match ← ReflectliteValue.parts v with | none => z | some (t, a, fl) => f t a fl (fl % 32)) := rfl
theorem rl_set (v x : Value) : ReflectliteValue.set #[v, x] = (do
  let (some (dst, a, fl), some (src, b, _)) := (← ReflectliteValue.parts v, ← ReflectliteValue.parts x)
   | unsupported (.noEntry "extern/(internal/reflectlite.Value).Set.zeroValue")
  if fl / ReflectliteValue.flagAddr % 2 == 0 then unsupported (.noEntry "extern/(internal/reflectlite.Value).Set.unaddressable")
  let val ← loadVar src b
  if ← directlyAssignable dst src then storeVar dst a val
  else if ← implements dst src then
   if (← kind src) == 20 then
    match val with
    | .nilIface => unsupported (.noEntry "extern/reflectlite: a nil value of one interface type handed on as a value of another")
    | _ => storeVar dst a val
   else storeVar dst a (.iface src val)
  else panicString ("reflectlite.Set: value of type " ++ (← spelt src) ++ " is not assignable to type " ++ (← spelt dst))
  pure (.tuple #[])) := rfl

section
variable {P : Program}
theorem rl_noPack (what : String) (t : TypeId) (hpk : P.packed t = false) (w : World) : (noPack what t).run P w = .ok () w := by
 simp [noPack, hpk, Result.andThen]
theorem run_partsG (t : TypeId) (a : Addr) (k : Int) (hk : (k == 0) = false) (hpk : P.packed t = false) (w : World) :
  (ReflectliteValue.parts (.agg #[typeHandle P t, .pointer (some a), .int .u64 k])).run P w = .ok (some (t, a, k.toNat)) w := by
 unfold ReflectliteValue.parts
 rw [rl_parts _ _ _ hk]
 simp [ofHandle, handleType, typeHandle, rl_noPack _ t hpk, Result.andThen]
theorem run_isNilG (t : TypeId) (x p : Addr) (k : Int) (hk : (k == 0) = false) (hkind : k.toNat % 32 = 22) (hpk : P.packed t = false) (w : World) (hl : (loadVar t x).run P w = .ok (.pointer (some p)) w) :
  (ReflectliteValue.method (ReflectliteValue.valueError "reflectlite.Value.IsNil" 0) ReflectliteValue.isNil #[.agg #[typeHandle P t, .pointer (some x), .int .u64 k]]).run P w = .ok (.bool false) w := by
 rw [rl_method]
 simp only [Sem.run_bind, run_partsG t x k hk hpk w, Result.andThen]
 simp [ReflectliteValue.isNil, hl, Result.andThen, hkind]
theorem run_elemG (t e : TypeId) (x p : Addr) (k : Int) (m : Nat) (hk : (k == 0) = false) (hkind : k.toNat % 32 = 22) (hpk : P.packed t = false) (w : World) (hl : (loadVar t x).run P w = .ok (.pointer (some p)) w)
  (he : ∀ w, (elem? t).run P w = .ok (some e) w) (hke : ∀ w, (kind e).run P w = .ok m w) :
  (ReflectliteValue.method (ReflectliteValue.valueError "reflectlite.Value.Elem" 0) ReflectliteValue.elem #[.agg #[typeHandle P t, .pointer (some x), .int .u64 k]]).run P w = .ok (.agg #[typeHandle P e, .pointer (some p), .int .u64 (m + 384)]) w := by
 rw [rl_method]
 simp only [Sem.run_bind, run_partsG t x k hk hpk w, Result.andThen]
 simp [ReflectliteValue.elem, hl, he, hke, Result.andThen, hkind, ReflectliteValue.mk, handle, ReflectliteValue.flagIndir, ReflectliteValue.flagAddr, Int.add_assoc]
theorem run_setG (t : TypeId) (x y : Addr) (k j : Int) (v : Value) (hk : (k == 0) = false) (hj : (j == 0) = false) (hflag : k.toNat / 256 % 2 = 1) (hpk : P.packed t = false) (w : World) (hl : (loadVar t y).run P w = .ok v w)
  (hs : (storeVar t x v).run P w = .ok () (w.setCell x v)) :
  (ReflectliteValue.set #[.agg #[typeHandle P t, .pointer (some x), .int .u64 k], .agg #[typeHandle P t, .pointer (some y), .int .u64 j]]).run P w = .ok (.tuple #[]) (w.setCell x v) := by
 rw [rl_set]
 simp only [Sem.run_bind, run_partsG t x k hk hpk w, run_partsG t y j hj hpk w, Result.andThen]
 simp [hl, hs, hflag, Result.andThen, directlyAssignable, ReflectliteValue.flagAddr]
end

theorem packed67 : Tryz.prog.packed 128 = false := by kernel_rfl
theorem packed56 : Tryz.prog.packed 123 = false := by kernel_rfl
theorem packed26 : Tryz.prog.packed 41 = false := by kernel_rfl
theorem packed55 : Tryz.prog.packed 121 = false := by kernel_rfl
theorem load67 (x : Addr) (v : Value) (w : World) (hx : w.cell? x = some v) : (loadVar 128 x).run Tryz.prog w = .ok v w := by
 simp [loadVar, isAgg, underlying, Tryz.underlying128, hx]
theorem load56 (x : Addr) (v : Value) (w : World) (hx : w.cell? x = some v) : (loadVar 123 x).run Tryz.prog w = .ok v w := by
 simp [loadVar, isAgg, underlying, Tryz.underlying123, hx]
theorem load26 (x : Addr) (v : Value) (w : World) (hx : w.cell? x = some v) : (loadVar 41 x).run Tryz.prog w = .ok v w := by
 simp [loadVar, isAgg, underlying, Tryz.underlying41, hx]
theorem load55 (x : Addr) (v : Value) (w : World) (hx : w.cell? x = some v) : (loadVar 121 x).run Tryz.prog w = .ok v w := by
 simp [loadVar, isAgg, underlying, Tryz.underlying121, hx]

theorem size26 : (Tryz.prog.info? 41).map (·.size) = some 1 := by kernel_rfl
theorem size55 : (Tryz.prog.info? 121).map (·.size) = some 1 := by kernel_rfl
section
variable {P : Program}
theorem store1G (t : TypeId) (hs : (P.info? t).map (·.size) = some 1) (x : Addr) (old v : Value) (h1 : (∃ k n, v = .int k n) ∨ ∃ p, v = .pointer p) (w : World) (hx : w.cell? x = some old) (hf : w.frozen? x = false) : (storeVar t x v).run P w = .ok () (w.setCell x v) := by
 obtain ⟨i, hi, hsz⟩ := Option.map_eq_some_iff.1 hs
 rcases h1 with ⟨k, n, rfl⟩ | ⟨p, rfl⟩ <;> simp [storeVar, sizeOf, typeInfo, hi, hsz, storeCells, hx, hf, go_sem]
end
theorem isNil67 (x p : Addr) (w : World) (hx : w.cell? x = some (.pointer (some p))) :
  (callFunc 168 #[.agg #[.pointer (some ⟨1, 128, none⟩), .pointer (some x), .int .u64 150]]).run Tryz.prog w = .ok (.value (.bool false)) w := by
 rw [Tryz.cf29]; exact congrArg (fun r : Result Value => r.andThen fun v w' => Result.ok (Next.value v) w') (run_isNilG 128 x p 150 (by decide) (by decide) packed67 w (load67 x _ w hx))
theorem velem67 (x p : Addr) (w : World) (hx : w.cell? x = some (.pointer (some p))) :
  (callFunc 215 #[.agg #[.pointer (some ⟨1, 128, none⟩), .pointer (some x), .int .u64 150]]).run Tryz.prog w = .ok (.value (.agg #[.pointer (some ⟨1, 41, none⟩), .pointer (some p), .int .u64 386])) w := by
 rw [Tryz.cf39]; exact congrArg (fun r : Result Value => r.andThen fun v w' => Result.ok (Next.value v) w') (run_elemG 128 41 x p 150 2 (by decide) (by decide) packed67 w (load67 x _ w hx) (fun _ => by kernel_rfl) (fun _ => by kernel_rfl))
theorem vset26 (x y : Addr) (n : Int) (old : Value) (w : World) (hy : w.cell? y = some (.int .i64 n)) (hx : w.cell? x = some old) (hf : w.frozen? x = false) :
  (callFunc 216 #[.agg #[.pointer (some ⟨1, 41, none⟩), .pointer (some x), .int .u64 386], .agg #[.pointer (some ⟨1, 41, none⟩), .pointer (some y), .int .u64 130]]).run Tryz.prog w = .ok (.value (.tuple #[])) (w.setCell x (.int .i64 n)) := by
 rw [Tryz.cf40]; exact congrArg (fun r : Result Value => r.andThen fun v w' => Result.ok (Next.value v) w') (run_setG 41 x y 386 130 (.int .i64 n) (by decide) (by decide) (by decide) packed26 w (load26 y _ w hy) (store1G 41 size26 x old (.int .i64 n) (.inl ⟨_, _, rfl⟩) w hx hf))
theorem isNil56 (x p : Addr) (w : World) (hx : w.cell? x = some (.pointer (some p))) :
  (callFunc 168 #[.agg #[.pointer (some ⟨1, 123, none⟩), .pointer (some x), .int .u64 150]]).run Tryz.prog w = .ok (.value (.bool false)) w := by
 rw [Tryz.cf29]; exact congrArg (fun r : Result Value => r.andThen fun v w' => Result.ok (Next.value v) w') (run_isNilG 123 x p 150 (by decide) (by decide) packed56 w (load56 x _ w hx))
theorem velem56 (x p : Addr) (w : World) (hx : w.cell? x = some (.pointer (some p))) :
  (callFunc 215 #[.agg #[.pointer (some ⟨1, 123, none⟩), .pointer (some x), .int .u64 150]]).run Tryz.prog w = .ok (.value (.agg #[.pointer (some ⟨1, 121, none⟩), .pointer (some p), .int .u64 406])) w := by
 rw [Tryz.cf39]; exact congrArg (fun r : Result Value => r.andThen fun v w' => Result.ok (Next.value v) w') (run_elemG 123 121 x p 150 22 (by decide) (by decide) packed56 w (load56 x _ w hx) (fun _ => by kernel_rfl) (fun _ => by kernel_rfl))
theorem vset55 (x y : Addr) (n : Option Addr) (old : Value) (w : World) (hy : w.cell? y = some (.pointer n)) (hx : w.cell? x = some old) (hf : w.frozen? x = false) :
  (callFunc 216 #[.agg #[.pointer (some ⟨1, 121, none⟩), .pointer (some x), .int .u64 406], .agg #[.pointer (some ⟨1, 121, none⟩), .pointer (some y), .int .u64 150]]).run Tryz.prog w = .ok (.value (.tuple #[])) (w.setCell x (.pointer n)) := by
 rw [Tryz.cf40]; exact congrArg (fun r : Result Value => r.andThen fun v w' => Result.ok (Next.value v) w') (run_setG 121 x y 406 150 (.pointer n) (by decide) (by decide) (by decide) packed55 w (load55 y _ w hy) (store1G 121 size55 x old (.pointer n) (.inr ⟨_, rfl⟩) w hx hf))
end Go.Proofs.YtelmcchleclklaaGreatDoor.Tr
namespace Go.Proofs.YtelmcchleclklaaGreatDoor.Tr
open Go.RowKit Go.Extern.Stop Go.Stop Go.Extern Go.Extern.Rtype

theorem eqlNil (t : TypeId) (v : Value) (w : World) : (binOp .eql 27 (.iface t v) .nilIface).run Tryz.prog w = .ok (.bool false) w := by kernel_rfl
theorem neqNil (t : TypeId) (v : Value) (w : World) : (binOp .neq 27 (.iface t v) .nilIface).run Tryz.prog w = .ok (.bool true) w := by kernel_rfl
theorem eqlNil20 (t : TypeId) (v : Value) (w : World) : (binOp .eql 20 (.iface t v) .nilIface).run Tryz.prog w = .ok (.bool false) w := by kernel_rfl
theorem eqlNilNil (w : World) : (binOp .eql 27 .nilIface .nilIface).run Tryz.prog w = .ok (.bool true) w := by kernel_rfl
theorem neqNilNil (w : World) : (binOp .neq 27 .nilIface .nilIface).run Tryz.prog w = .ok (.bool false) w := by kernel_rfl

theorem cell?_lt {w : World} {b o : Nat} {v : Value} (h : w.cell? ⟨b, o, none⟩ = some v) : b < w.heap.size := by
 unfold World.cell? at h
 by_cases hb : b < w.heap.size
 ·exact hb
 ·simp [Array.getElem?_eq_none (Nat.le_of_not_lt hb)] at h
theorem mKind (x : Addr) (w : World) : (method 535 330 (.agg #[.pointer (some x)]) "Kind").run Tryz.prog w = .ok (326, .pointer (some x)) w := by kernel_rfl
theorem mElem (x : Addr) (w : World) : (method 535 330 (.agg #[.pointer (some x)]) "Elem").run Tryz.prog w = .ok (350, .agg #[.pointer (some x)]) w := by kernel_rfl
theorem mImpl (x : Addr) (w : World) : (method 535 330 (.agg #[.pointer (some x)]) "Implements").run Tryz.prog w = .ok (351, .agg #[.pointer (some x)]) w := by kernel_rfl
theorem mAsg (x : Addr) (w : World) : (method 535 330 (.agg #[.pointer (some x)]) "AssignableTo").run Tryz.prog w = .ok (348, .agg #[.pointer (some x)]) w := by kernel_rfl
theorem mComp (x : Addr) (w : World) : (method 535 330 (.agg #[.pointer (some x)]) "Comparable").run Tryz.prog w = .ok (349, .agg #[.pointer (some x)]) w := by kernel_rfl

theorem taAsE (v : Value) (xT : TypeId) (w : World) : (Instr.typeAssert (.iface 41 v) xT 334 true).run Tryz.prog w = .ok (.tuple #[.nilIface, .bool false]) w := run_typeAssert_lacksB Tryz.underlying334 (by kernel_rfl) (by kernel_rfl) v xT w
theorem taUnE (v : Value) (xT : TypeId) (w : World) : (Instr.typeAssert (.iface 41 v) xT 277 true).run Tryz.prog w = .ok (.tuple #[.nilIface, .bool false]) w := run_typeAssert_lacksB Tryz.underlying277 (by kernel_rfl) (by kernel_rfl) v xT w
theorem taUnsE (v : Value) (xT : TypeId) (w : World) : (Instr.typeAssert (.iface 41 v) xT 279 true).run Tryz.prog w = .ok (.tuple #[.nilIface, .bool false]) w := run_typeAssert_lacksB Tryz.underlying279 (by kernel_rfl) (by kernel_rfl) v xT w
theorem taIsE (v : Value) (xT : TypeId) (w : World) : (Instr.typeAssert (.iface 41 v) xT 337 true).run Tryz.prog w = .ok (.tuple #[.nilIface, .bool false]) w := run_typeAssert_lacksB Tryz.underlying337 (by kernel_rfl) (by kernel_rfl) v xT w
theorem taAsN (v : Value) (xT : TypeId) (w : World) : (Instr.typeAssert (.iface 192 v) xT 334 true).run Tryz.prog w = .ok (.tuple #[.nilIface, .bool false]) w := run_typeAssert_lacksB Tryz.underlying334 (by kernel_rfl) (by kernel_rfl) v xT w
theorem taUnN (v : Value) (xT : TypeId) (w : World) : (Instr.typeAssert (.iface 192 v) xT 277 true).run Tryz.prog w = .ok (.tuple #[.iface 192 v, .bool true]) w := run_typeAssert_hasB Tryz.underlying277 (by kernel_rfl) v xT w
theorem taIsN (v : Value) (xT : TypeId) (w : World) : (Instr.typeAssert (.iface 192 v) xT 337 true).run Tryz.prog w = .ok (.tuple #[.nilIface, .bool false]) w := run_typeAssert_lacksB Tryz.underlying337 (by kernel_rfl) (by kernel_rfl) v xT w
theorem taAsF (v : Value) (xT : TypeId) (w : World) : (Instr.typeAssert (.iface 121 v) xT 334 true).run Tryz.prog w = .ok (.tuple #[.nilIface, .bool false]) w := run_typeAssert_lacksB Tryz.underlying334 (by kernel_rfl) (by kernel_rfl) v xT w
theorem taUnF (v : Value) (xT : TypeId) (w : World) : (Instr.typeAssert (.iface 121 v) xT 277 true).run Tryz.prog w = .ok (.tuple #[.iface 121 v, .bool true]) w := run_typeAssert_hasB Tryz.underlying277 (by kernel_rfl) v xT w
theorem taIsF (v : Value) (xT : TypeId) (w : World) : (Instr.typeAssert (.iface 121 v) xT 337 true).run Tryz.prog w = .ok (.tuple #[.nilIface, .bool false]) w := run_typeAssert_lacksB Tryz.underlying337 (by kernel_rfl) (by kernel_rfl) v xT w
theorem taAsA (v : Value) (xT : TypeId) (w : World) : (Instr.typeAssert (.iface 227 v) xT 334 true).run Tryz.prog w = .ok (.tuple #[.nilIface, .bool false]) w := run_typeAssert_lacksB Tryz.underlying334 (by kernel_rfl) (by kernel_rfl) v xT w
theorem taUnA (v : Value) (xT : TypeId) (w : World) : (Instr.typeAssert (.iface 227 v) xT 277 true).run Tryz.prog w = .ok (.tuple #[.nilIface, .bool false]) w := run_typeAssert_lacksB Tryz.underlying277 (by kernel_rfl) (by kernel_rfl) v xT w
theorem taUnsA (v : Value) (xT : TypeId) (w : World) : (Instr.typeAssert (.iface 227 v) xT 279 true).run Tryz.prog w = .ok (.tuple #[.iface 227 v, .bool true]) w := run_typeAssert_hasB Tryz.underlying279 (by kernel_rfl) v xT w
theorem taIsA (v : Value) (xT : TypeId) (w : World) : (Instr.typeAssert (.iface 227 v) xT 337 true).run Tryz.prog w = .ok (.tuple #[.nilIface, .bool false]) w := run_typeAssert_lacksB Tryz.underlying337 (by kernel_rfl) (by kernel_rfl) v xT w
theorem mUnN (a : Addr) (w : World) : (method 535 192 (.pointer (some a)) "Unwrap").run Tryz.prog w = .ok (337, .pointer (some a)) w := by kernel_rfl
theorem naUnN (a : Addr) (w : World) : (nilAhead 535 192 (.pointer (some a)) "Unwrap").run Tryz.prog w = .ok (some false) w := by kernel_rfl
theorem mUnF (a : Addr) (w : World) : (method 535 121 (.pointer (some a)) "Unwrap").run Tryz.prog w = .ok (332, .pointer (some a)) w := by kernel_rfl
theorem naUnF (a : Addr) (w : World) : (nilAhead 535 121 (.pointer (some a)) "Unwrap").run Tryz.prog w = .ok (some false) w := by kernel_rfl
theorem mUnA (a : Addr) (w : World) : (method 535 227 (.pointer (some a)) "Unwrap").run Tryz.prog w = .ok (342, .pointer (some a)) w := by kernel_rfl
theorem naUnA (a : Addr) (w : World) : (nilAhead 535 227 (.pointer (some a)) "Unwrap").run Tryz.prog w = .ok (some false) w := by kernel_rfl
end Go.Proofs.YtelmcchleclklaaGreatDoor.Tr
