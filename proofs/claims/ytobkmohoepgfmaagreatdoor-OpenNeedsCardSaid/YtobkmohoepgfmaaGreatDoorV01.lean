import Derived.Test.YtobkmohoepgfmaaGreatDoorRows
import Derived.WalkKit
import Derived.WalkSpells
import Derived.WalkLawsBesides
import Derived.LaidEql
import Derived.Stop.Asserts
import Derived.RowKitTokens
import Derived.Deep.RegionWith
import Derived.Outline
import Derived.Deep.LoopGhost
namespace Go.Proofs.YtobkmohoepgfmaaGreatDoor.Tr
open Go.RowKit Go.Extern.Stop Go.Stop Go.Extern Go.Extern.Rtype

theorem Tryz.cf33 (args : Array Value) (w : World) : (callFunc 141 args).run Tryz.prog w = ((ReflectliteType.typeOf args).run Tryz.prog w).andThen fun v w' => .ok (.value v) w' :=
 run_callFunc_extern (e := ReflectliteType.typeOf) Tryz.func141 (by kernel_rfl) (by kernel_rfl) (by kernel_rfl) (by kernel_rfl) args w
theorem Tryz.cf93 (args : Array Value) (w : World) : (callFunc 252 args).run Tryz.prog w = (((ReflectliteType.relation "AssignableTo" ReflectliteType.assignableTo) args).run Tryz.prog w).andThen fun v w' => .ok (.value v) w' :=
 run_callFunc_extern (e := (ReflectliteType.relation "AssignableTo" ReflectliteType.assignableTo)) Tryz.func252 (by kernel_rfl) (by kernel_rfl) (by kernel_rfl) (by kernel_rfl) args w
theorem Tryz.cf96 (args : Array Value) (w : World) : (callFunc 255 args).run Tryz.prog w = (((ReflectliteType.relation "Implements" ReflectliteType.implements_) args).run Tryz.prog w).andThen fun v w' => .ok (.value v) w' :=
 run_callFunc_extern (e := (ReflectliteType.relation "Implements" ReflectliteType.implements_)) Tryz.func255 (by kernel_rfl) (by kernel_rfl) (by kernel_rfl) (by kernel_rfl) args w
theorem Tryz.cf95 (args : Array Value) (w : World) : (callFunc 254 args).run Tryz.prog w = (((ReflectliteType.method ReflectliteType.elem) args).run Tryz.prog w).andThen fun v w' => .ok (.value v) w' :=
 run_callFunc_extern (e := (ReflectliteType.method ReflectliteType.elem)) Tryz.func254 (by kernel_rfl) (by kernel_rfl) (by kernel_rfl) (by kernel_rfl) args w
theorem Tryz.cf27 (args : Array Value) (w : World) : (callFunc 101 args).run Tryz.prog w = (((fun args => ReflectliteValue.unpack (args.getD 0 (.tuple #[]))) args).run Tryz.prog w).andThen fun v w' => .ok (.value v) w' :=
 run_callFunc_extern (e := (fun args => ReflectliteValue.unpack (args.getD 0 (.tuple #[])))) Tryz.func101 (by kernel_rfl) (by kernel_rfl) (by kernel_rfl) (by kernel_rfl) args w
theorem Tryz.cf28 (args : Array Value) (w : World) : (callFunc 102 args).run Tryz.prog w = (((ReflectliteValue.methodAny (ReflectliteValue.valueError "reflectlite.Value.Type" 0) fun t _ _ _ => ReflectliteType.toType t) args).run Tryz.prog w).andThen fun v w' => .ok (.value v) w' :=
 run_callFunc_extern (e := (ReflectliteValue.methodAny (ReflectliteValue.valueError "reflectlite.Value.Type" 0) fun t _ _ _ => ReflectliteType.toType t)) Tryz.func102 (by kernel_rfl) (by kernel_rfl) (by kernel_rfl) (by kernel_rfl) args w
theorem Tryz.cf29 (args : Array Value) (w : World) : (callFunc 103 args).run Tryz.prog w = (((ReflectliteValue.method (ReflectliteValue.valueError "reflectlite.Value.IsNil" 0) ReflectliteValue.isNil) args).run Tryz.prog w).andThen fun v w' => .ok (.value v) w' :=
 run_callFunc_extern (e := (ReflectliteValue.method (ReflectliteValue.valueError "reflectlite.Value.IsNil" 0) ReflectliteValue.isNil)) Tryz.func103 (by kernel_rfl) (by kernel_rfl) (by kernel_rfl) (by kernel_rfl) args w
theorem Tryz.cf39 (args : Array Value) (w : World) : (callFunc 142 args).run Tryz.prog w = (((ReflectliteValue.method (ReflectliteValue.valueError "reflectlite.Value.Elem" 0) ReflectliteValue.elem) args).run Tryz.prog w).andThen fun v w' => .ok (.value v) w' :=
 run_callFunc_extern (e := (ReflectliteValue.method (ReflectliteValue.valueError "reflectlite.Value.Elem" 0) ReflectliteValue.elem)) Tryz.func142 (by kernel_rfl) (by kernel_rfl) (by kernel_rfl) (by kernel_rfl) args w
theorem Tryz.cf40 (args : Array Value) (w : World) : (callFunc 143 args).run Tryz.prog w = ((ReflectliteValue.set args).run Tryz.prog w).andThen fun v w' => .ok (.value v) w' :=
 run_callFunc_extern (e := ReflectliteValue.set) Tryz.func143 (by kernel_rfl) (by kernel_rfl) (by kernel_rfl) (by kernel_rfl) args w
theorem Tryz.cf94 (args : Array Value) (w : World) : (callFunc 253 args).run Tryz.prog w = (((ReflectliteType.method fun t => do noPackHeld "Comparable" t; pure (.bool (← typeInfo t).comparable)) args).run Tryz.prog w).andThen fun v w' => .ok (.value v) w' :=
 run_callFunc_extern (e := (ReflectliteType.method fun t => do noPackHeld "Comparable" t; pure (.bool (← typeInfo t).comparable))) Tryz.func253 (by kernel_rfl) (by kernel_rfl) (by kernel_rfl) (by kernel_rfl) args w
theorem Tryz.cf78 (args : Array Value) (w : World) : (callFunc 230 args).run Tryz.prog w = (((ReflectliteType.abiMethod fun t => do pure (.int .u8 (← kind t))) args).run Tryz.prog w).andThen fun v w' => .ok (.value v) w' :=
 run_callFunc_extern (e := (ReflectliteType.abiMethod fun t => do pure (.int .u8 (← kind t)))) Tryz.func230 (by kernel_rfl) (by kernel_rfl) (by kernel_rfl) (by kernel_rfl) args w
theorem Tryz.typeOfE (v : Value) (w : World) : (callFunc 141 #[.iface 46 v]).run Tryz.prog w = .ok (.value (.iface 245 (.agg #[(.pointer (some ⟨1, 46, none⟩))]))) w := by
 rw [Tryz.cf33]; exact congrArg (fun r : Result Value => r.andThen fun v w' => Result.ok (Next.value v) w') (show (ReflectliteType.typeOf #[.iface 46 v]).run Tryz.prog w = .ok (.iface 245 (.agg #[(.pointer (some ⟨1, 46, none⟩))])) w from by kernel_rfl)
theorem Tryz.asgE26 (w : World) : (callFunc 252 #[.agg #[(.pointer (some ⟨1, 46, none⟩))], (.iface 245 (.agg #[(.pointer (some ⟨1, 46, none⟩))]))]).run Tryz.prog w = .ok (.value (.bool true)) w := by
 rw [Tryz.cf93]; exact congrArg (fun r : Result Value => r.andThen fun v w' => Result.ok (Next.value v) w') (show ((ReflectliteType.relation "AssignableTo" ReflectliteType.assignableTo) #[.agg #[(.pointer (some ⟨1, 46, none⟩))], (.iface 245 (.agg #[(.pointer (some ⟨1, 46, none⟩))]))]).run Tryz.prog w = .ok (.bool true) w from by kernel_rfl)
theorem Tryz.compE (w : World) : (callFunc 253 #[.agg #[(.pointer (some ⟨1, 46, none⟩))]]).run Tryz.prog w = .ok (.value (.bool true)) w := by
 rw [Tryz.cf94]; exact congrArg (fun r : Result Value => r.andThen fun v w' => Result.ok (Next.value v) w') (show ((ReflectliteType.method fun t => do noPackHeld "Comparable" t; pure (.bool (← typeInfo t).comparable)) #[.agg #[(.pointer (some ⟨1, 46, none⟩))]]).run Tryz.prog w = .ok (.bool true) w from by kernel_rfl)
theorem Tryz.typeOfN (v : Value) (w : World) : (callFunc 141 #[.iface 150 v]).run Tryz.prog w = .ok (.value (.iface 245 (.agg #[(.pointer (some ⟨1, 150, none⟩))]))) w := by
 rw [Tryz.cf33]; exact congrArg (fun r : Result Value => r.andThen fun v w' => Result.ok (Next.value v) w') (show (ReflectliteType.typeOf #[.iface 150 v]).run Tryz.prog w = .ok (.iface 245 (.agg #[(.pointer (some ⟨1, 150, none⟩))])) w from by kernel_rfl)
theorem Tryz.asgN26 (w : World) : (callFunc 252 #[.agg #[(.pointer (some ⟨1, 150, none⟩))], (.iface 245 (.agg #[(.pointer (some ⟨1, 46, none⟩))]))]).run Tryz.prog w = .ok (.value (.bool false)) w := by
 rw [Tryz.cf93]; exact congrArg (fun r : Result Value => r.andThen fun v w' => Result.ok (Next.value v) w') (show ((ReflectliteType.relation "AssignableTo" ReflectliteType.assignableTo) #[.agg #[(.pointer (some ⟨1, 150, none⟩))], (.iface 245 (.agg #[(.pointer (some ⟨1, 46, none⟩))]))]).run Tryz.prog w = .ok (.bool false) w from by kernel_rfl)
theorem Tryz.typeOfF (v : Value) (w : World) : (callFunc 141 #[.iface 139 v]).run Tryz.prog w = .ok (.value (.iface 245 (.agg #[(.pointer (some ⟨1, 139, none⟩))]))) w := by
 rw [Tryz.cf33]; exact congrArg (fun r : Result Value => r.andThen fun v w' => Result.ok (Next.value v) w') (show (ReflectliteType.typeOf #[.iface 139 v]).run Tryz.prog w = .ok (.iface 245 (.agg #[(.pointer (some ⟨1, 139, none⟩))])) w from by kernel_rfl)
theorem Tryz.asgF26 (w : World) : (callFunc 252 #[.agg #[(.pointer (some ⟨1, 139, none⟩))], (.iface 245 (.agg #[(.pointer (some ⟨1, 46, none⟩))]))]).run Tryz.prog w = .ok (.value (.bool false)) w := by
 rw [Tryz.cf93]; exact congrArg (fun r : Result Value => r.andThen fun v w' => Result.ok (Next.value v) w') (show ((ReflectliteType.relation "AssignableTo" ReflectliteType.assignableTo) #[.agg #[(.pointer (some ⟨1, 139, none⟩))], (.iface 245 (.agg #[(.pointer (some ⟨1, 46, none⟩))]))]).run Tryz.prog w = .ok (.bool false) w from by kernel_rfl)
theorem Tryz.typeOfA (v : Value) (w : World) : (callFunc 141 #[.iface 136 v]).run Tryz.prog w = .ok (.value (.iface 245 (.agg #[(.pointer (some ⟨1, 136, none⟩))]))) w := by
 rw [Tryz.cf33]; exact congrArg (fun r : Result Value => r.andThen fun v w' => Result.ok (Next.value v) w') (show (ReflectliteType.typeOf #[.iface 136 v]).run Tryz.prog w = .ok (.iface 245 (.agg #[(.pointer (some ⟨1, 136, none⟩))])) w from by kernel_rfl)
theorem Tryz.asgA26 (w : World) : (callFunc 252 #[.agg #[(.pointer (some ⟨1, 136, none⟩))], (.iface 245 (.agg #[(.pointer (some ⟨1, 46, none⟩))]))]).run Tryz.prog w = .ok (.value (.bool false)) w := by
 rw [Tryz.cf93]; exact congrArg (fun r : Result Value => r.andThen fun v w' => Result.ok (Next.value v) w') (show ((ReflectliteType.relation "AssignableTo" ReflectliteType.assignableTo) #[.agg #[(.pointer (some ⟨1, 136, none⟩))], (.iface 245 (.agg #[(.pointer (some ⟨1, 46, none⟩))]))]).run Tryz.prog w = .ok (.bool false) w from by kernel_rfl)
theorem Tryz.valueOf26 (v : Option Addr) (w : World) : (callFunc 101 #[.iface 98 (.pointer v)]).run Tryz.prog w = .ok (.value (.agg #[(.pointer (some ⟨1, 98, none⟩)), .pointer (some ⟨w.heap.size, 0, none⟩), .int .u64 150])) (w.alloc (.cells #[.pointer v] 98)) := by
 rw [Tryz.cf27]; exact congrArg (fun r : Result Value => r.andThen fun v w' => Result.ok (Next.value v) w') (show (ReflectliteValue.unpack (.iface 98 (.pointer v))).run Tryz.prog w = .ok (.agg #[(.pointer (some ⟨1, 98, none⟩)), .pointer (some ⟨w.heap.size, 0, none⟩), .int .u64 150]) (w.alloc (.cells #[.pointer v] 98)) from by kernel_rfl)
theorem Tryz.type26 (x : Addr) (w : World) : (callFunc 102 #[.agg #[(.pointer (some ⟨1, 98, none⟩)), .pointer (some x), .int .u64 150]]).run Tryz.prog w = .ok (.value (.iface 245 (.agg #[(.pointer (some ⟨1, 98, none⟩))]))) w := by
 rw [Tryz.cf28]; exact congrArg (fun r : Result Value => r.andThen fun v w' => Result.ok (Next.value v) w') (show ((ReflectliteValue.methodAny (ReflectliteValue.valueError "reflectlite.Value.Type" 0) fun t _ _ _ => ReflectliteType.toType t) #[.agg #[(.pointer (some ⟨1, 98, none⟩)), .pointer (some x), .int .u64 150]]).run Tryz.prog w = .ok (.iface 245 (.agg #[(.pointer (some ⟨1, 98, none⟩))])) w from by kernel_rfl)
theorem Tryz.elem26 (w : World) : (callFunc 254 #[.agg #[(.pointer (some ⟨1, 98, none⟩))]]).run Tryz.prog w = .ok (.value (.iface 245 (.agg #[(.pointer (some ⟨1, 46, none⟩))]))) w := by
 rw [Tryz.cf95]; exact congrArg (fun r : Result Value => r.andThen fun v w' => Result.ok (Next.value v) w') (show ((ReflectliteType.method ReflectliteType.elem) #[.agg #[(.pointer (some ⟨1, 98, none⟩))]]).run Tryz.prog w = .ok (.iface 245 (.agg #[(.pointer (some ⟨1, 46, none⟩))])) w from by kernel_rfl)
theorem Tryz.impl26 (w : World) : (callFunc 255 #[.agg #[(.pointer (some ⟨1, 46, none⟩))], (.iface 245 (.agg #[(.pointer (some ⟨1, 27, none⟩))]))]).run Tryz.prog w = .ok (.value (.bool true)) w := by
 rw [Tryz.cf96]; exact congrArg (fun r : Result Value => r.andThen fun v w' => Result.ok (Next.value v) w') (show ((ReflectliteType.relation "Implements" ReflectliteType.implements_) #[.agg #[(.pointer (some ⟨1, 46, none⟩))], (.iface 245 (.agg #[(.pointer (some ⟨1, 27, none⟩))]))]).run Tryz.prog w = .ok (.bool true) w from by kernel_rfl)
theorem Tryz.kindP26 (w : World) : (callFunc 230 #[(.pointer (some ⟨1, 98, none⟩))]).run Tryz.prog w = .ok (.value (.int .u8 22)) w := by
 rw [Tryz.cf78]; exact congrArg (fun r : Result Value => r.andThen fun v w' => Result.ok (Next.value v) w') (show ((ReflectliteType.abiMethod fun t => do pure (.int .u8 (← kind t))) #[(.pointer (some ⟨1, 98, none⟩))]).run Tryz.prog w = .ok (.int .u8 22) w from by kernel_rfl)
theorem Tryz.kind26 (w : World) : (callFunc 230 #[(.pointer (some ⟨1, 46, none⟩))]).run Tryz.prog w = .ok (.value (.int .u8 2)) w := by
 rw [Tryz.cf78]; exact congrArg (fun r : Result Value => r.andThen fun v w' => Result.ok (Next.value v) w') (show ((ReflectliteType.abiMethod fun t => do pure (.int .u8 (← kind t))) #[(.pointer (some ⟨1, 46, none⟩))]).run Tryz.prog w = .ok (.int .u8 2) w from by kernel_rfl)
theorem Tryz.valueOfE (n : Int) (w : World) : (callFunc 101 #[.iface 46 (.int .i64 n)]).run Tryz.prog w = .ok (.value (.agg #[(.pointer (some ⟨1, 46, none⟩)), .pointer (some ⟨w.heap.size, 0, none⟩), .int .u64 130])) (w.alloc (.cells #[.int .i64 n] 46)) := by
 rw [Tryz.cf27]; exact congrArg (fun r : Result Value => r.andThen fun v w' => Result.ok (Next.value v) w') (show (ReflectliteValue.unpack (.iface 46 (.int .i64 n))).run Tryz.prog w = .ok (.agg #[(.pointer (some ⟨1, 46, none⟩)), .pointer (some ⟨w.heap.size, 0, none⟩), .int .u64 130]) (w.alloc (.cells #[.int .i64 n] 46)) from by kernel_rfl)
end Go.Proofs.YtobkmohoepgfmaaGreatDoor.Tr
namespace Go.Proofs.YtobkmohoepgfmaaGreatDoor.Tr
open Go.RowKit Go.Extern.Stop Go.Stop Go.Extern Go.Extern.Rtype

theorem rl_parts (h : Value) (a : Addr) (k : Int) (hk : (k == 0) = false) : ReflectliteValue.partsAny (.agg #[h, .pointer (some a), .int .u64 k]) = (do pure (some (← ofHandle h, a, k.toNat))) := by
 cases k with
 | ofNat n => cases n with
  | zero => cases hk
  | succ n => rfl
 | negSucc n => rfl
theorem rl_method (z : Sem Value) (f : TypeId → Addr → Nat → Nat → Sem Value) (v : Value) :
  ReflectliteValue.method z f #[v] = (do match ← ReflectliteValue.parts v with | none => z | some (t, a, fl) => f t a fl (fl % 32)) := rfl
theorem rl_set (v x : Value) : ReflectliteValue.set #[v, x] = (do
  let (some (dst, a, fl), some (src, b, _)) := (← ReflectliteValue.parts v, ← ReflectliteValue.parts x)
   | unsupported (.noEntry "extern/(internal/reflectlite.Value).Set.zeroValue")
  if fl / ReflectliteValue.flagAddr % 2 == 0 then unsupported (.noEntry "extern/(internal/reflectlite.Value).Set.unaddressable")
  let val ← loadVar src b
  if ← directlyAssignable dst src then storeVar dst a val
  else if ← implements dst src then
   if (← kind src) == 20 then
    match val with
    | .nilIface => unsupported (.noEntry "extern/reflectlite: a nil value of one interface type handed on as a value of another")
    | _ => storeVar dst a val
   else storeVar dst a (.iface src val)
  else panicString ("reflectlite.Set: value of type " ++ (← spelt src) ++ " is not assignable to type " ++ (← spelt dst))
  pure (.tuple #[])) := rfl

section
variable {P : Program}
theorem rl_noPack (what : String) (t : TypeId) (hpk : P.packed t = false) (w : World) : (noPack what t).run P w = .ok () w := by
 simp [noPack, hpk, Result.andThen]
theorem run_partsG (t : TypeId) (a : Addr) (k : Int) (hk : (k == 0) = false) (hpk : P.packed t = false) (w : World) :
  (ReflectliteValue.parts (.agg #[typeHandle P t, .pointer (some a), .int .u64 k])).run P w = .ok (some (t, a, k.toNat)) w := by
 unfold ReflectliteValue.parts
 rw [rl_parts _ _ _ hk]
 simp [ofHandle, handleType, typeHandle, rl_noPack _ t hpk, Result.andThen]
theorem run_isNilG (t : TypeId) (x p : Addr) (k : Int) (hk : (k == 0) = false) (hkind : k.toNat % 32 = 22) (hpk : P.packed t = false) (w : World) (hl : (loadVar t x).run P w = .ok (.pointer (some p)) w) :
  (ReflectliteValue.method (ReflectliteValue.valueError "reflectlite.Value.IsNil" 0) ReflectliteValue.isNil #[.agg #[typeHandle P t, .pointer (some x), .int .u64 k]]).run P w = .ok (.bool false) w := by
 rw [rl_method]
 simp only [Sem.run_bind, run_partsG t x k hk hpk w, Result.andThen]
 simp [ReflectliteValue.isNil, hl, Result.andThen, hkind]
theorem run_elemG (t e : TypeId) (x p : Addr) (k : Int) (m : Nat) (hk : (k == 0) = false) (hkind : k.toNat % 32 = 22) (hpk : P.packed t = false) (w : World) (hl : (loadVar t x).run P w = .ok (.pointer (some p)) w)
  (he : ∀ w, (elem? t).run P w = .ok (some e) w) (hke : ∀ w, (kind e).run P w = .ok m w) :
  (ReflectliteValue.method (ReflectliteValue.valueError "reflectlite.Value.Elem" 0) ReflectliteValue.elem #[.agg #[typeHandle P t, .pointer (some x), .int .u64 k]]).run P w = .ok (.agg #[typeHandle P e, .pointer (some p), .int .u64 (m + 384)]) w := by
 rw [rl_method]
 simp only [Sem.run_bind, run_partsG t x k hk hpk w, Result.andThen]
 simp [ReflectliteValue.elem, hl, he, hke, Result.andThen, hkind, ReflectliteValue.mk, handle, ReflectliteValue.flagIndir, ReflectliteValue.flagAddr, Int.add_assoc]
theorem run_setG (t : TypeId) (x y : Addr) (k j : Int) (v : Value) (hk : (k == 0) = false) (hj : (j == 0) = false) (hflag : k.toNat / 256 % 2 = 1) (hpk : P.packed t = false) (w : World) (hl : (loadVar t y).run P w = .ok v w)
  (hs : (storeVar t x v).run P w = .ok () (w.setCell x v)) :
  (ReflectliteValue.set #[.agg #[typeHandle P t, .pointer (some x), .int .u64 k], .agg #[typeHandle P t, .pointer (some y), .int .u64 j]]).run P w = .ok (.tuple #[]) (w.setCell x v) := by
 rw [rl_set]
 simp only [Sem.run_bind, run_partsG t x k hk hpk w, run_partsG t y j hj hpk w, Result.andThen]
 simp [hl, hs, hflag, Result.andThen, directlyAssignable, ReflectliteValue.flagAddr]
end

theorem packed67 : Tryz.prog.packed 98 = false := by kernel_rfl
theorem packed26 : Tryz.prog.packed 46 = false := by kernel_rfl
theorem load67 (x : Addr) (v : Value) (w : World) (hx : w.cell? x = some v) : (loadVar 98 x).run Tryz.prog w = .ok v w := by
 simp [loadVar, isAgg, underlying, Tryz.underlying98, hx]
theorem load26 (x : Addr) (v : Value) (w : World) (hx : w.cell? x = some v) : (loadVar 46 x).run Tryz.prog w = .ok v w := by
 simp [loadVar, isAgg, underlying, Tryz.underlying46, hx]
theorem size26 : (Tryz.prog.info? 46).map (·.size) = some 1 := by kernel_rfl
section
variable {P : Program}
theorem store1G (t : TypeId) (hs : (P.info? t).map (·.size) = some 1) (x : Addr) (old v : Value) (h1 : (∃ k n, v = .int k n) ∨ ∃ p, v = .pointer p) (w : World) (hx : w.cell? x = some old) (hf : w.frozen? x = false) : (storeVar t x v).run P w = .ok () (w.setCell x v) := by
 obtain ⟨i, hi, hsz⟩ := Option.map_eq_some_iff.1 hs
 rcases h1 with ⟨k, n, rfl⟩ | ⟨p, rfl⟩ <;> simp [storeVar, sizeOf, typeInfo, hi, hsz, storeCells, hx, hf, go_sem]
end
theorem isNil67 (x p : Addr) (w : World) (hx : w.cell? x = some (.pointer (some p))) :
  (callFunc 103 #[.agg #[.pointer (some ⟨1, 98, none⟩), .pointer (some x), .int .u64 150]]).run Tryz.prog w = .ok (.value (.bool false)) w := by
 rw [Tryz.cf29]; exact congrArg (fun r : Result Value => r.andThen fun v w' => Result.ok (Next.value v) w') (run_isNilG 98 x p 150 (by decide) (by decide) packed67 w (load67 x _ w hx))
theorem velem67 (x p : Addr) (w : World) (hx : w.cell? x = some (.pointer (some p))) :
  (callFunc 142 #[.agg #[.pointer (some ⟨1, 98, none⟩), .pointer (some x), .int .u64 150]]).run Tryz.prog w = .ok (.value (.agg #[.pointer (some ⟨1, 46, none⟩), .pointer (some p), .int .u64 386])) w := by
 rw [Tryz.cf39]; exact congrArg (fun r : Result Value => r.andThen fun v w' => Result.ok (Next.value v) w') (run_elemG 98 46 x p 150 2 (by decide) (by decide) packed67 w (load67 x _ w hx) (fun _ => by kernel_rfl) (fun _ => by kernel_rfl))
theorem vset26 (x y : Addr) (n : Int) (old : Value) (w : World) (hy : w.cell? y = some (.int .i64 n)) (hx : w.cell? x = some old) (hf : w.frozen? x = false) :
  (callFunc 143 #[.agg #[.pointer (some ⟨1, 46, none⟩), .pointer (some x), .int .u64 386], .agg #[.pointer (some ⟨1, 46, none⟩), .pointer (some y), .int .u64 130]]).run Tryz.prog w = .ok (.value (.tuple #[])) (w.setCell x (.int .i64 n)) := by
 rw [Tryz.cf40]; exact congrArg (fun r : Result Value => r.andThen fun v w' => Result.ok (Next.value v) w') (run_setG 46 x y 386 130 (.int .i64 n) (by decide) (by decide) (by decide) packed26 w (load26 y _ w hy) (store1G 46 size26 x old (.int .i64 n) (.inl ⟨_, _, rfl⟩) w hx hf))
end Go.Proofs.YtobkmohoepgfmaaGreatDoor.Tr
namespace Go.Proofs.YtobkmohoepgfmaaGreatDoor.Tr
open Go.RowKit Go.Extern.Stop Go.Stop Go.Extern Go.Extern.Rtype

theorem eqlNil (t : TypeId) (v : Value) (w : World) : (binOp .eql 27 (.iface t v) .nilIface).run Tryz.prog w = .ok (.bool false) w := by kernel_rfl
theorem neqNil (t : TypeId) (v : Value) (w : World) : (binOp .neq 27 (.iface t v) .nilIface).run Tryz.prog w = .ok (.bool true) w := by kernel_rfl
theorem eqlNil20 (t : TypeId) (v : Value) (w : World) : (binOp .eql 20 (.iface t v) .nilIface).run Tryz.prog w = .ok (.bool false) w := by kernel_rfl
theorem eqlNilNil (w : World) : (binOp .eql 27 .nilIface .nilIface).run Tryz.prog w = .ok (.bool true) w := by kernel_rfl
theorem neqNilNil (w : World) : (binOp .neq 27 .nilIface .nilIface).run Tryz.prog w = .ok (.bool false) w := by kernel_rfl

theorem cell?_lt {w : World} {b o : Nat} {v : Value} (h : w.cell? ⟨b, o, none⟩ = some v) : b < w.heap.size := by
 unfold World.cell? at h
 by_cases hb : b < w.heap.size
 ·exact hb
 ·simp [Array.getElem?_eq_none (Nat.le_of_not_lt hb)] at h
theorem mKind (x : Addr) (w : World) : (method 443 245 (.agg #[.pointer (some x)]) "Kind").run Tryz.prog w = .ok (230, .pointer (some x)) w := by kernel_rfl
theorem mElem (x : Addr) (w : World) : (method 443 245 (.agg #[.pointer (some x)]) "Elem").run Tryz.prog w = .ok (254, .agg #[.pointer (some x)]) w := by kernel_rfl
theorem mImpl (x : Addr) (w : World) : (method 443 245 (.agg #[.pointer (some x)]) "Implements").run Tryz.prog w = .ok (255, .agg #[.pointer (some x)]) w := by kernel_rfl
theorem mAsg (x : Addr) (w : World) : (method 443 245 (.agg #[.pointer (some x)]) "AssignableTo").run Tryz.prog w = .ok (252, .agg #[.pointer (some x)]) w := by kernel_rfl
theorem mComp (x : Addr) (w : World) : (method 443 245 (.agg #[.pointer (some x)]) "Comparable").run Tryz.prog w = .ok (253, .agg #[.pointer (some x)]) w := by kernel_rfl

theorem taUnE (v : Value) (xT : TypeId) (w : World) : (Instr.typeAssert (.iface 46 v) xT 208 true).run Tryz.prog w = .ok (.tuple #[.nilIface, .bool false]) w := run_typeAssert_lacksB Tryz.underlying208 (by kernel_rfl) (by kernel_rfl) v xT w
theorem taUnsE (v : Value) (xT : TypeId) (w : World) : (Instr.typeAssert (.iface 46 v) xT 210 true).run Tryz.prog w = .ok (.tuple #[.nilIface, .bool false]) w := run_typeAssert_lacksB Tryz.underlying210 (by kernel_rfl) (by kernel_rfl) v xT w
theorem taIsE (v : Value) (xT : TypeId) (w : World) : (Instr.typeAssert (.iface 46 v) xT 303 true).run Tryz.prog w = .ok (.tuple #[.nilIface, .bool false]) w := run_typeAssert_lacksB Tryz.underlying303 (by kernel_rfl) (by kernel_rfl) v xT w
theorem taAsN (v : Value) (xT : TypeId) (w : World) : (Instr.typeAssert (.iface 150 v) xT 250 true).run Tryz.prog w = .ok (.tuple #[.nilIface, .bool false]) w := run_typeAssert_lacksB Tryz.underlying250 (by kernel_rfl) (by kernel_rfl) v xT w
theorem taUnN (v : Value) (xT : TypeId) (w : World) : (Instr.typeAssert (.iface 150 v) xT 208 true).run Tryz.prog w = .ok (.tuple #[.iface 150 v, .bool true]) w := run_typeAssert_hasB Tryz.underlying208 (by kernel_rfl) v xT w
theorem taIsN (v : Value) (xT : TypeId) (w : World) : (Instr.typeAssert (.iface 150 v) xT 303 true).run Tryz.prog w = .ok (.tuple #[.nilIface, .bool false]) w := run_typeAssert_lacksB Tryz.underlying303 (by kernel_rfl) (by kernel_rfl) v xT w
theorem taAsF (v : Value) (xT : TypeId) (w : World) : (Instr.typeAssert (.iface 139 v) xT 250 true).run Tryz.prog w = .ok (.tuple #[.nilIface, .bool false]) w := run_typeAssert_lacksB Tryz.underlying250 (by kernel_rfl) (by kernel_rfl) v xT w
theorem taUnF (v : Value) (xT : TypeId) (w : World) : (Instr.typeAssert (.iface 139 v) xT 208 true).run Tryz.prog w = .ok (.tuple #[.iface 139 v, .bool true]) w := run_typeAssert_hasB Tryz.underlying208 (by kernel_rfl) v xT w
theorem taIsF (v : Value) (xT : TypeId) (w : World) : (Instr.typeAssert (.iface 139 v) xT 303 true).run Tryz.prog w = .ok (.tuple #[.nilIface, .bool false]) w := run_typeAssert_lacksB Tryz.underlying303 (by kernel_rfl) (by kernel_rfl) v xT w
theorem taAsA (v : Value) (xT : TypeId) (w : World) : (Instr.typeAssert (.iface 136 v) xT 250 true).run Tryz.prog w = .ok (.tuple #[.nilIface, .bool false]) w := run_typeAssert_lacksB Tryz.underlying250 (by kernel_rfl) (by kernel_rfl) v xT w
theorem taUnA (v : Value) (xT : TypeId) (w : World) : (Instr.typeAssert (.iface 136 v) xT 208 true).run Tryz.prog w = .ok (.tuple #[.nilIface, .bool false]) w := run_typeAssert_lacksB Tryz.underlying208 (by kernel_rfl) (by kernel_rfl) v xT w
theorem taUnsA (v : Value) (xT : TypeId) (w : World) : (Instr.typeAssert (.iface 136 v) xT 210 true).run Tryz.prog w = .ok (.tuple #[.iface 136 v, .bool true]) w := run_typeAssert_hasB Tryz.underlying210 (by kernel_rfl) v xT w
theorem taIsA (v : Value) (xT : TypeId) (w : World) : (Instr.typeAssert (.iface 136 v) xT 303 true).run Tryz.prog w = .ok (.tuple #[.nilIface, .bool false]) w := run_typeAssert_lacksB Tryz.underlying303 (by kernel_rfl) (by kernel_rfl) v xT w
theorem mUnN (a : Addr) (w : World) : (method 443 150 (.pointer (some a)) "Unwrap").run Tryz.prog w = .ok (246, .pointer (some a)) w := by kernel_rfl
theorem naUnN (a : Addr) (w : World) : (nilAhead 443 150 (.pointer (some a)) "Unwrap").run Tryz.prog w = .ok (some false) w := by kernel_rfl
theorem mUnF (a : Addr) (w : World) : (method 443 139 (.pointer (some a)) "Unwrap").run Tryz.prog w = .ok (244, .pointer (some a)) w := by kernel_rfl
theorem naUnF (a : Addr) (w : World) : (nilAhead 443 139 (.pointer (some a)) "Unwrap").run Tryz.prog w = .ok (some false) w := by kernel_rfl
theorem mUnA (a : Addr) (w : World) : (method 443 136 (.pointer (some a)) "Unwrap").run Tryz.prog w = .ok (242, .pointer (some a)) w := by kernel_rfl
theorem naUnA (a : Addr) (w : World) : (nilAhead 443 136 (.pointer (some a)) "Unwrap").run Tryz.prog w = .ok (some false) w := by kernel_rfl
end Go.Proofs.YtobkmohoepgfmaaGreatDoor.Tr
namespace Go.Proofs.YtobkmohoepgfmaaGreatDoor.Tr
open Go.RowKit

abbrev Nd := Value × Option Int

def Err (w : World) (B : Nat) : Nat → Value → List Int → List Nd → List Int → Prop
 | 0, _, _, _, _ => False
 | d + 1, v, cs, ns, ss =>
  (∃ n, v = .iface 46 (.int .i64 n) ∧ cs = [n] ∧ ns = [(v, none)] ∧ ss = []) ∨
  (∃ b n x ns', v = .iface 150 (.pointer (some ⟨b, 0, none⟩)) ∧ b < B ∧ w.heap[b]? = some (.cells #[.int .i64 n, x] 153 (0, 0)) ∧ Err w B d x cs ns' ss ∧ ns = (v, some n) :: ns') ∨
  (∃ b n x ns' ss', v = .iface 139 (.pointer (some ⟨b, 0, none⟩)) ∧ b < B ∧ w.heap[b]? = some (.cells #[.int .i64 n, x] 141 (0, 0)) ∧ Err w B d x cs ns' ss' ∧ ss = n :: ss' ∧ ns = (v, none) :: ns') ∨
  (∃ b g m cap row, ∃ vs : List (Value × List Int × List Nd × List Int), v = .iface 136 (.pointer (some ⟨b, 0, none⟩)) ∧ b < B ∧ g < B ∧ w.heap[b]? = some (.cells #[.slice (some ⟨g, 0, none⟩) m cap] 138 (0, 0)) ∧
   w.heap[g]? = some (.cells row 27 (0, 0)) ∧ m ≤ cap ∧ m ≤ 1000 ∧ 0 < m ∧ vs.length = m ∧ (∀ (i : Nat) (x : Value × List Int × List Nd × List Int), vs[i]? = some x → row[i]? = some x.1 ∧ Err w B d x.1 x.2.1 x.2.2.1 x.2.2.2) ∧
   cs = (vs.map (·.2.1)).flatten ∧ ns = (v, none) :: (vs.map (·.2.2.1)).flatten ∧ ss = (vs.map (·.2.2.2)).flatten)

theorem Err.below {w w' : World} {B : Nat} (h : Below B w w') : ∀ (d : Nat) {v : Value} {cs : List Int} {ns : List Nd} {ss : List Int}, Err w B d v cs ns ss → Err w' B d v cs ns ss
 | 0, _, _, _, _, e => e.elim
 | d + 1, _, _, _, _, e => by
  rcases e with e | ⟨b, n, x, ns', e1, e2, e3, e4, e5⟩ | ⟨b, n, x, ns', ss', e1, e2, e3, e4, e5⟩ | ⟨b, g, m, cap, row, vs, e1, e2, e3, e4, e5, e6, e7, e7', e8, e9, e10⟩
  ·exact .inl e
  ·exact .inr (.inl ⟨b, n, x, ns', e1, e2, by rw [h.block b e2]; exact e3, Err.below h d e4, e5⟩)
  ·exact .inr (.inr (.inl ⟨b, n, x, ns', ss', e1, e2, by rw [h.block b e2]; exact e3, Err.below h d e4, e5⟩))
  ·exact .inr (.inr (.inr ⟨b, g, m, cap, row, vs, e1, e2, e3, by rw [h.block b e2]; exact e4, by rw [h.block g e3]; exact e5, e6, e7, e7', e8, fun i x hx => ⟨(e9 i x hx).1, Err.below h d (e9 i x hx).2⟩, e10⟩))

theorem Err.mono {w : World} {B B' : Nat} (h : B ≤ B') : ∀ (d : Nat) {v : Value} {cs : List Int} {ns : List Nd} {ss : List Int}, Err w B d v cs ns ss → Err w B' d v cs ns ss
 | 0, _, _, _, _, e => e.elim
 | d + 1, _, _, _, _, e => by
  rcases e with e | ⟨b, n, x, ns', e1, e2, e3, e4, e5⟩ | ⟨b, n, x, ns', ss', e1, e2, e3, e4, e5⟩ | ⟨b, g, m, cap, row, vs, e1, e2, e3, e4, e5, e6, e7, e7', e8, e9, e10⟩
  ·exact .inl e
  ·exact .inr (.inl ⟨b, n, x, ns', e1, by omega, e3, Err.mono h d e4, e5⟩)
  ·exact .inr (.inr (.inl ⟨b, n, x, ns', ss', e1, by omega, e3, Err.mono h d e4, e5⟩))
  ·exact .inr (.inr (.inr ⟨b, g, m, cap, row, vs, e1, by omega, by omega, e4, e5, e6, e7, e7', e8, fun i x hx => ⟨(e9 i x hx).1, Err.mono h d (e9 i x hx).2⟩, e10⟩))

theorem Err.deeper {w : World} {B : Nat} : ∀ (d : Nat) {v : Value} {cs : List Int} {ns : List Nd} {ss : List Int}, Err w B d v cs ns ss → Err w B (d + 1) v cs ns ss
 | 0, _, _, _, _, e => e.elim
 | d + 1, _, _, _, _, e => by
  rcases e with e | ⟨b, n, x, ns', e1, e2, e3, e4, e5⟩ | ⟨b, n, x, ns', ss', e1, e2, e3, e4, e5⟩ | ⟨b, g, m, cap, row, vs, e1, e2, e3, e4, e5, e6, e7, e7', e8, e9, e10⟩
  ·exact .inl e
  ·exact .inr (.inl ⟨b, n, x, ns', e1, e2, e3, Err.deeper d e4, e5⟩)
  ·exact .inr (.inr (.inl ⟨b, n, x, ns', ss', e1, e2, e3, Err.deeper d e4, e5⟩))
  ·exact .inr (.inr (.inr ⟨b, g, m, cap, row, vs, e1, e2, e3, e4, e5, e6, e7, e7', e8, fun i x hx => ⟨(e9 i x hx).1, Err.deeper d (e9 i x hx).2⟩, e10⟩))

theorem Err.deep {w : World} {B d d' : Nat} (h : d ≤ d') {v : Value} {cs : List Int} {ns : List Nd} {ss : List Int} (e : Err w B d v cs ns ss) : Err w B d' v cs ns ss := by
 obtain ⟨k, rfl⟩ := Nat.exists_eq_add_of_le h
 induction k with
 | zero => exact e
 | succ k ih => exact Err.deeper _ (ih (by omega))

theorem Err.iface {w : World} {B d : Nat} {v : Value} {cs : List Int} {ns : List Nd} {ss : List Int} (e : Err w B d v cs ns ss) : ∃ t x, v = .iface t x := by
 cases d with
 | zero => exact e.elim
 | succ d => rcases e with ⟨n, rfl, _⟩ | ⟨b, n, x, ns', rfl, _⟩ | ⟨b, n, x, ns', ss', rfl, _⟩ | ⟨b, g, m, cap, row, vs, rfl, _⟩ <;> exact ⟨_, _, rfl⟩

set_option maxHeartbeats 400000 in
theorem onUnwrap (b : Nat) (n x : Value) (w : World) (h : w.heap[b]? = some (.cells #[n, x] 153 (0, 0))) :
  Calls Tryz.prog 246 #[.pointer (some ⟨b, 0, none⟩)] w fun e w' => e = .returned x ∧ w = w' := by
 have hc : w.cell? ⟨b, 1, none⟩ = some x := by simp [World.cell?, h]
 clear h
 go_enter Tryz.func246, Tryz.ntmps246
 go_wp2
 go_ret
 exact ⟨rfl, rfl⟩

set_option maxHeartbeats 400000 in
theorem ofUnwrap (b : Nat) (n x : Value) (w : World) (h : w.heap[b]? = some (.cells #[n, x] 141 (0, 0))) :
  Calls Tryz.prog 244 #[.pointer (some ⟨b, 0, none⟩)] w fun e w' => e = .returned x ∧ w = w' := by
 have hc : w.cell? ⟨b, 1, none⟩ = some x := by simp [World.cell?, h]
 clear h
 go_enter Tryz.func244, Tryz.ntmps244
 go_wp2
 go_ret
 exact ⟨rfl, rfl⟩

end Go.Proofs.YtobkmohoepgfmaaGreatDoor.Tr
