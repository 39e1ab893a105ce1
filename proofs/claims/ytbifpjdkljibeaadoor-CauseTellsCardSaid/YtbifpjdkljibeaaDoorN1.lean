import Derived.Test.YtbifpjdkljibeaaDoorC
namespace Go.Proofs.YtbifpjdkljibeaaDoor
open Go.RowKit Go.Extern.Stop Go.Stop Go.Extern Go.Extern.Rtype

theorem Tryd.asgA33 (w : World) : (callFunc 93 #[.agg #[(.pointer (some ⟨4, 33, none⟩))], (.iface 97 (.agg #[(.pointer (some ⟨4, 33, none⟩))]))]).run Tryd.prog w = .ok (.value (.bool true)) w := by
  rw [Tryd.cf93]; exact congrArg (fun r : Result Value => r.andThen fun v w' => Result.ok (Next.value v) w') (show ((ReflectliteType.relation "AssignableTo" ReflectliteType.assignableTo) #[.agg #[(.pointer (some ⟨4, 33, none⟩))], (.iface 97 (.agg #[(.pointer (some ⟨4, 33, none⟩))]))]).run Tryd.prog w = .ok (.bool true) w from by kernel_rfl)
theorem Tryd.valueOf33 (v : Option Addr) (w : World) : (callFunc 27 #[.iface 43 (.pointer v)]).run Tryd.prog w = .ok (.value (.agg #[(.pointer (some ⟨4, 43, none⟩)), .pointer (some ⟨w.heap.size, 0, none⟩), .int .u64 150])) (w.alloc (.cells #[.pointer v] 43)) := by
  rw [Tryd.cf27]; exact congrArg (fun r : Result Value => r.andThen fun v w' => Result.ok (Next.value v) w') (show (ReflectliteValue.unpack (.iface 43 (.pointer v))).run Tryd.prog w = .ok (.agg #[(.pointer (some ⟨4, 43, none⟩)), .pointer (some ⟨w.heap.size, 0, none⟩), .int .u64 150]) (w.alloc (.cells #[.pointer v] 43)) from by kernel_rfl)
theorem Tryd.type33 (x : Addr) (w : World) : (callFunc 28 #[.agg #[(.pointer (some ⟨4, 43, none⟩)), .pointer (some x), .int .u64 150]]).run Tryd.prog w = .ok (.value (.iface 97 (.agg #[(.pointer (some ⟨4, 43, none⟩))]))) w := by
  rw [Tryd.cf28]; exact congrArg (fun r : Result Value => r.andThen fun v w' => Result.ok (Next.value v) w') (show ((ReflectliteValue.methodAny (ReflectliteValue.valueError "reflectlite.Value.Type" 0) fun t _ _ _ => ReflectliteType.toType t) #[.agg #[(.pointer (some ⟨4, 43, none⟩)), .pointer (some x), .int .u64 150]]).run Tryd.prog w = .ok (.iface 97 (.agg #[(.pointer (some ⟨4, 43, none⟩))])) w from by kernel_rfl)
theorem Tryd.elem33 (w : World) : (callFunc 95 #[.agg #[(.pointer (some ⟨4, 43, none⟩))]]).run Tryd.prog w = .ok (.value (.iface 97 (.agg #[(.pointer (some ⟨4, 33, none⟩))]))) w := by
  rw [Tryd.cf95]; exact congrArg (fun r : Result Value => r.andThen fun v w' => Result.ok (Next.value v) w') (show ((ReflectliteType.method ReflectliteType.elem) #[.agg #[(.pointer (some ⟨4, 43, none⟩))]]).run Tryd.prog w = .ok (.iface 97 (.agg #[(.pointer (some ⟨4, 33, none⟩))])) w from by kernel_rfl)
theorem Tryd.impl33 (w : World) : (callFunc 96 #[.agg #[(.pointer (some ⟨4, 33, none⟩))], (.iface 97 (.agg #[(.pointer (some ⟨4, 24, none⟩))]))]).run Tryd.prog w = .ok (.value (.bool true)) w := by
  rw [Tryd.cf96]; exact congrArg (fun r : Result Value => r.andThen fun v w' => Result.ok (Next.value v) w') (show ((ReflectliteType.relation "Implements" ReflectliteType.implements_) #[.agg #[(.pointer (some ⟨4, 33, none⟩))], (.iface 97 (.agg #[(.pointer (some ⟨4, 24, none⟩))]))]).run Tryd.prog w = .ok (.bool true) w from by kernel_rfl)
theorem Tryd.kindP33 (w : World) : (callFunc 78 #[(.pointer (some ⟨4, 43, none⟩))]).run Tryd.prog w = .ok (.value (.int .u8 22)) w := by
  rw [Tryd.cf78]; exact congrArg (fun r : Result Value => r.andThen fun v w' => Result.ok (Next.value v) w') (show ((ReflectliteType.abiMethod fun t => do pure (.int .u8 (← kind t))) #[(.pointer (some ⟨4, 43, none⟩))]).run Tryd.prog w = .ok (.int .u8 22) w from by kernel_rfl)
theorem Tryd.kind33 (w : World) : (callFunc 78 #[(.pointer (some ⟨4, 33, none⟩))]).run Tryd.prog w = .ok (.value (.int .u8 22)) w := by
  rw [Tryd.cf78]; exact congrArg (fun r : Result Value => r.andThen fun v w' => Result.ok (Next.value v) w') (show ((ReflectliteType.abiMethod fun t => do pure (.int .u8 (← kind t))) #[(.pointer (some ⟨4, 33, none⟩))]).run Tryd.prog w = .ok (.int .u8 22) w from by kernel_rfl)
theorem Tryd.valueOfA (v : Option Addr) (w : World) : (callFunc 27 #[.iface 33 (.pointer v)]).run Tryd.prog w = .ok (.value (.agg #[(.pointer (some ⟨4, 33, none⟩)), .pointer (some ⟨w.heap.size, 0, none⟩), .int .u64 150])) (w.alloc (.cells #[.pointer v] 33)) := by
  rw [Tryd.cf27]; exact congrArg (fun r : Result Value => r.andThen fun v w' => Result.ok (Next.value v) w') (show (ReflectliteValue.unpack (.iface 33 (.pointer v))).run Tryd.prog w = .ok (.agg #[(.pointer (some ⟨4, 33, none⟩)), .pointer (some ⟨w.heap.size, 0, none⟩), .int .u64 150]) (w.alloc (.cells #[.pointer v] 33)) from by kernel_rfl)
theorem packed43 : Tryd.prog.packed 43 = false := by kernel_rfl
theorem packed33 : Tryd.prog.packed 33 = false := by kernel_rfl
theorem size33 : (Tryd.prog.info? 33).map (·.size) = some 1 := by kernel_rfl
theorem load43 (x : Addr) (v : Value) (w : World) (hx : w.cell? x = some v) : (loadVar 43 x).run Tryd.prog w = .ok v w := by
  simp [loadVar, isAgg, underlying, Tryd.underlying43, hx]
theorem load33 (x : Addr) (v : Value) (w : World) (hx : w.cell? x = some v) : (loadVar 33 x).run Tryd.prog w = .ok v w := by
  simp [loadVar, isAgg, underlying, Tryd.underlying33, hx]
theorem isNil43 (x p : Addr) (w : World) (hx : w.cell? x = some (.pointer (some p))) :
    (callFunc 29 #[.agg #[.pointer (some ⟨4, 43, none⟩), .pointer (some x), .int .u64 150]]).run Tryd.prog w = .ok (.value (.bool false)) w := by
  rw [Tryd.cf29]; exact congrArg (fun r : Result Value => r.andThen fun v w' => Result.ok (Next.value v) w') (run_isNilG 43 x p 150 (by decide) (by decide) packed43 w (load43 x _ w hx))
theorem velem43 (x p : Addr) (w : World) (hx : w.cell? x = some (.pointer (some p))) :
    (callFunc 39 #[.agg #[.pointer (some ⟨4, 43, none⟩), .pointer (some x), .int .u64 150]]).run Tryd.prog w = .ok (.value (.agg #[.pointer (some ⟨4, 33, none⟩), .pointer (some p), .int .u64 406])) w := by
  rw [Tryd.cf39]; exact congrArg (fun r : Result Value => r.andThen fun v w' => Result.ok (Next.value v) w') (run_elemG 43 33 x p 150 22 (by decide) (by decide) packed43 w (load43 x _ w hx) (fun _ => by kernel_rfl) (fun _ => by kernel_rfl))
theorem vset33 (x y : Addr) (n : Option Addr) (old : Value) (w : World) (hy : w.cell? y = some (.pointer n)) (hx : w.cell? x = some old) (hf : w.frozen? x = false) :
    (callFunc 40 #[.agg #[.pointer (some ⟨4, 33, none⟩), .pointer (some x), .int .u64 406], .agg #[.pointer (some ⟨4, 33, none⟩), .pointer (some y), .int .u64 150]]).run Tryd.prog w = .ok (.value (.tuple #[])) (w.setCell x (.pointer n)) := by
  rw [Tryd.cf40]; exact congrArg (fun r : Result Value => r.andThen fun v w' => Result.ok (Next.value v) w') (run_setG 33 x y 406 150 (.pointer n) (by decide) (by decide) (by decide) packed33 w (load33 y _ w hy) (store1G 33 size33 x old (.pointer n) (.inr ⟨_, rfl⟩) w hx hf))

end Go.Proofs.YtbifpjdkljibeaaDoor
