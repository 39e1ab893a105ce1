import Derived.Test.YtjgbfghkiahfaaaGreatDoorV01
import Derived.WalkLawsBesides
import Derived.LaidEql
import Derived.Stop.Asserts
import Derived.RowKitTokens
import Derived.Recover
namespace Go.Proofs.YtjgbfghkiahfaaaGreatDoor
open Go.RowKit Go.Extern.Stop Go.Stop Go.Extern Go.Extern.Rtype
set_option maxRecDepth 100000
set_option maxHeartbeats 1000000

theorem we_cfTypeOf (args : Array Value) (w : World) : (callFunc 95 args).run Tryz.prog w = ((ReflectliteType.typeOf args).run Tryz.prog w).andThen fun v w' => .ok (.value v) w' :=
  run_callFunc_extern (e := ReflectliteType.typeOf) Tryz.func95 (by kernel_rfl) (by kernel_rfl) (by kernel_rfl) (by kernel_rfl) args w
theorem we_cfAsg (args : Array Value) (w : World) : (callFunc 156 args).run Tryz.prog w = (((ReflectliteType.relation "AssignableTo" ReflectliteType.assignableTo) args).run Tryz.prog w).andThen fun v w' => .ok (.value v) w' :=
  run_callFunc_extern (e := (ReflectliteType.relation "AssignableTo" ReflectliteType.assignableTo)) Tryz.func156 (by kernel_rfl) (by kernel_rfl) (by kernel_rfl) (by kernel_rfl) args w
theorem we_cfImpl (args : Array Value) (w : World) : (callFunc 159 args).run Tryz.prog w = (((ReflectliteType.relation "Implements" ReflectliteType.implements_) args).run Tryz.prog w).andThen fun v w' => .ok (.value v) w' :=
  run_callFunc_extern (e := (ReflectliteType.relation "Implements" ReflectliteType.implements_)) Tryz.func159 (by kernel_rfl) (by kernel_rfl) (by kernel_rfl) (by kernel_rfl) args w
theorem we_cfTElem (args : Array Value) (w : World) : (callFunc 158 args).run Tryz.prog w = (((ReflectliteType.method ReflectliteType.elem) args).run Tryz.prog w).andThen fun v w' => .ok (.value v) w' :=
  run_callFunc_extern (e := (ReflectliteType.method ReflectliteType.elem)) Tryz.func158 (by kernel_rfl) (by kernel_rfl) (by kernel_rfl) (by kernel_rfl) args w
theorem we_cfValueOf (args : Array Value) (w : World) : (callFunc 78 args).run Tryz.prog w = (((fun args => ReflectliteValue.unpack (args.getD 0 (.tuple #[]))) args).run Tryz.prog w).andThen fun v w' => .ok (.value v) w' :=
  run_callFunc_extern (e := (fun args => ReflectliteValue.unpack (args.getD 0 (.tuple #[])))) Tryz.func78 (by kernel_rfl) (by kernel_rfl) (by kernel_rfl) (by kernel_rfl) args w
theorem we_cfVType (args : Array Value) (w : World) : (callFunc 79 args).run Tryz.prog w = (((ReflectliteValue.methodAny (ReflectliteValue.valueError "reflectlite.Value.Type" 0) fun t _ _ _ => ReflectliteType.toType t) args).run Tryz.prog w).andThen fun v w' => .ok (.value v) w' :=
  run_callFunc_extern (e := (ReflectliteValue.methodAny (ReflectliteValue.valueError "reflectlite.Value.Type" 0) fun t _ _ _ => ReflectliteType.toType t)) Tryz.func79 (by kernel_rfl) (by kernel_rfl) (by kernel_rfl) (by kernel_rfl) args w
theorem we_cfIsNil (args : Array Value) (w : World) : (callFunc 80 args).run Tryz.prog w = (((ReflectliteValue.method (ReflectliteValue.valueError "reflectlite.Value.IsNil" 0) ReflectliteValue.isNil) args).run Tryz.prog w).andThen fun v w' => .ok (.value v) w' :=
  run_callFunc_extern (e := (ReflectliteValue.method (ReflectliteValue.valueError "reflectlite.Value.IsNil" 0) ReflectliteValue.isNil)) Tryz.func80 (by kernel_rfl) (by kernel_rfl) (by kernel_rfl) (by kernel_rfl) args w
theorem we_cfVElem (args : Array Value) (w : World) : (callFunc 96 args).run Tryz.prog w = (((ReflectliteValue.method (ReflectliteValue.valueError "reflectlite.Value.Elem" 0) ReflectliteValue.elem) args).run Tryz.prog w).andThen fun v w' => .ok (.value v) w' :=
  run_callFunc_extern (e := (ReflectliteValue.method (ReflectliteValue.valueError "reflectlite.Value.Elem" 0) ReflectliteValue.elem)) Tryz.func96 (by kernel_rfl) (by kernel_rfl) (by kernel_rfl) (by kernel_rfl) args w
theorem we_cfSet (args : Array Value) (w : World) : (callFunc 97 args).run Tryz.prog w = ((ReflectliteValue.set args).run Tryz.prog w).andThen fun v w' => .ok (.value v) w' :=
  run_callFunc_extern (e := ReflectliteValue.set) Tryz.func97 (by kernel_rfl) (by kernel_rfl) (by kernel_rfl) (by kernel_rfl) args w
theorem we_cfKind (args : Array Value) (w : World) : (callFunc 144 args).run Tryz.prog w = (((ReflectliteType.abiMethod fun t => do pure (.int .u8 (← kind t))) args).run Tryz.prog w).andThen fun v w' => .ok (.value v) w' :=
  run_callFunc_extern (e := (ReflectliteType.abiMethod fun t => do pure (.int .u8 (← kind t)))) Tryz.func144 (by kernel_rfl) (by kernel_rfl) (by kernel_rfl) (by kernel_rfl) args w
theorem we_typeOfE (v : Value) (w : World) : (callFunc 95 #[.iface 27 v]).run Tryz.prog w = .ok (.value (.iface 151 (.agg #[(.pointer (some ⟨1, 27, none⟩))]))) w := by
  rw [we_cfTypeOf]; exact congrArg (fun r : Result Value => r.andThen fun v w' => Result.ok (Next.value v) w') (show (ReflectliteType.typeOf #[.iface 27 v]).run Tryz.prog w = .ok (.iface 151 (.agg #[(.pointer (some ⟨1, 27, none⟩))])) w from by kernel_rfl)
theorem we_asgE (w : World) : (callFunc 156 #[.agg #[(.pointer (some ⟨1, 27, none⟩))], (.iface 151 (.agg #[(.pointer (some ⟨1, 27, none⟩))]))]).run Tryz.prog w = .ok (.value (.bool true)) w := by
  rw [we_cfAsg]; exact congrArg (fun r : Result Value => r.andThen fun v w' => Result.ok (Next.value v) w') (show ((ReflectliteType.relation "AssignableTo" ReflectliteType.assignableTo) #[.agg #[(.pointer (some ⟨1, 27, none⟩))], (.iface 151 (.agg #[(.pointer (some ⟨1, 27, none⟩))]))]).run Tryz.prog w = .ok (.bool true) w from by kernel_rfl)
theorem we_typeOfN (v : Value) (w : World) : (callFunc 95 #[.iface 99 v]).run Tryz.prog w = .ok (.value (.iface 151 (.agg #[(.pointer (some ⟨1, 99, none⟩))]))) w := by
  rw [we_cfTypeOf]; exact congrArg (fun r : Result Value => r.andThen fun v w' => Result.ok (Next.value v) w') (show (ReflectliteType.typeOf #[.iface 99 v]).run Tryz.prog w = .ok (.iface 151 (.agg #[(.pointer (some ⟨1, 99, none⟩))])) w from by kernel_rfl)
theorem we_asgN (w : World) : (callFunc 156 #[.agg #[(.pointer (some ⟨1, 99, none⟩))], (.iface 151 (.agg #[(.pointer (some ⟨1, 27, none⟩))]))]).run Tryz.prog w = .ok (.value (.bool false)) w := by
  rw [we_cfAsg]; exact congrArg (fun r : Result Value => r.andThen fun v w' => Result.ok (Next.value v) w') (show ((ReflectliteType.relation "AssignableTo" ReflectliteType.assignableTo) #[.agg #[(.pointer (some ⟨1, 99, none⟩))], (.iface 151 (.agg #[(.pointer (some ⟨1, 27, none⟩))]))]).run Tryz.prog w = .ok (.bool false) w from by kernel_rfl)
theorem we_valueOfP (v : Option Addr) (w : World) : (callFunc 78 #[.iface 87 (.pointer v)]).run Tryz.prog w = .ok (.value (.agg #[(.pointer (some ⟨1, 87, none⟩)), .pointer (some ⟨w.heap.size, 0, none⟩), .int .u64 150])) (w.alloc (.cells #[.pointer v] 87)) := by
  rw [we_cfValueOf]; exact congrArg (fun r : Result Value => r.andThen fun v w' => Result.ok (Next.value v) w') (show (ReflectliteValue.unpack (.iface 87 (.pointer v))).run Tryz.prog w = .ok (.agg #[(.pointer (some ⟨1, 87, none⟩)), .pointer (some ⟨w.heap.size, 0, none⟩), .int .u64 150]) (w.alloc (.cells #[.pointer v] 87)) from by kernel_rfl)
theorem we_typeP (x : Addr) (w : World) : (callFunc 79 #[.agg #[(.pointer (some ⟨1, 87, none⟩)), .pointer (some x), .int .u64 150]]).run Tryz.prog w = .ok (.value (.iface 151 (.agg #[(.pointer (some ⟨1, 87, none⟩))]))) w := by
  rw [we_cfVType]; exact congrArg (fun r : Result Value => r.andThen fun v w' => Result.ok (Next.value v) w') (show ((ReflectliteValue.methodAny (ReflectliteValue.valueError "reflectlite.Value.Type" 0) fun t _ _ _ => ReflectliteType.toType t) #[.agg #[(.pointer (some ⟨1, 87, none⟩)), .pointer (some x), .int .u64 150]]).run Tryz.prog w = .ok (.iface 151 (.agg #[(.pointer (some ⟨1, 87, none⟩))])) w from by kernel_rfl)
theorem we_elemP (w : World) : (callFunc 158 #[.agg #[(.pointer (some ⟨1, 87, none⟩))]]).run Tryz.prog w = .ok (.value (.iface 151 (.agg #[(.pointer (some ⟨1, 27, none⟩))]))) w := by
  rw [we_cfTElem]; exact congrArg (fun r : Result Value => r.andThen fun v w' => Result.ok (Next.value v) w') (show ((ReflectliteType.method ReflectliteType.elem) #[.agg #[(.pointer (some ⟨1, 87, none⟩))]]).run Tryz.prog w = .ok (.iface 151 (.agg #[(.pointer (some ⟨1, 27, none⟩))])) w from by kernel_rfl)
theorem we_implE (w : World) : (callFunc 159 #[.agg #[(.pointer (some ⟨1, 27, none⟩))], (.iface 151 (.agg #[(.pointer (some ⟨1, 33, none⟩))]))]).run Tryz.prog w = .ok (.value (.bool true)) w := by
  rw [we_cfImpl]; exact congrArg (fun r : Result Value => r.andThen fun v w' => Result.ok (Next.value v) w') (show ((ReflectliteType.relation "Implements" ReflectliteType.implements_) #[.agg #[(.pointer (some ⟨1, 27, none⟩))], (.iface 151 (.agg #[(.pointer (some ⟨1, 33, none⟩))]))]).run Tryz.prog w = .ok (.bool true) w from by kernel_rfl)
theorem we_kindP (w : World) : (callFunc 144 #[(.pointer (some ⟨1, 87, none⟩))]).run Tryz.prog w = .ok (.value (.int .u8 22)) w := by
  rw [we_cfKind]; exact congrArg (fun r : Result Value => r.andThen fun v w' => Result.ok (Next.value v) w') (show ((ReflectliteType.abiMethod fun t => do pure (.int .u8 (← kind t))) #[(.pointer (some ⟨1, 87, none⟩))]).run Tryz.prog w = .ok (.int .u8 22) w from by kernel_rfl)
theorem we_kindE (w : World) : (callFunc 144 #[(.pointer (some ⟨1, 27, none⟩))]).run Tryz.prog w = .ok (.value (.int .u8 2)) w := by
  rw [we_cfKind]; exact congrArg (fun r : Result Value => r.andThen fun v w' => Result.ok (Next.value v) w') (show ((ReflectliteType.abiMethod fun t => do pure (.int .u8 (← kind t))) #[(.pointer (some ⟨1, 27, none⟩))]).run Tryz.prog w = .ok (.int .u8 2) w from by kernel_rfl)
theorem we_valueOfE (n : Int) (w : World) : (callFunc 78 #[.iface 27 (.int .i64 n)]).run Tryz.prog w = .ok (.value (.agg #[(.pointer (some ⟨1, 27, none⟩)), .pointer (some ⟨w.heap.size, 0, none⟩), .int .u64 130])) (w.alloc (.cells #[.int .i64 n] 27)) := by
  rw [we_cfValueOf]; exact congrArg (fun r : Result Value => r.andThen fun v w' => Result.ok (Next.value v) w') (show (ReflectliteValue.unpack (.iface 27 (.int .i64 n))).run Tryz.prog w = .ok (.agg #[(.pointer (some ⟨1, 27, none⟩)), .pointer (some ⟨w.heap.size, 0, none⟩), .int .u64 130]) (w.alloc (.cells #[.int .i64 n] 27)) from by kernel_rfl)
theorem we_rl_parts (h : Value) (a : Addr) (k : Int) (hk : (k == 0) = false) : ReflectliteValue.partsAny (.agg #[h, .pointer (some a), .int .u64 k]) = (do pure (some (← ofHandle h, a, k.toNat))) := by
  cases k with
  | ofNat n => cases n with
    | zero => cases hk
    | succ n => rfl
  | negSucc n => rfl
theorem we_rl_method (z : Sem Value) (f : TypeId → Addr → Nat → Nat → Sem Value) (v : Value) :
    ReflectliteValue.method z f #[v] = (do match ← ReflectliteValue.parts v with | none => z | some (t, a, fl) => f t a fl (fl % 32)) := rfl
theorem we_rl_set (v x : Value) : ReflectliteValue.set #[v, x] = (do
    let (some (dst, a, fl), some (src, b, _)) := (← ReflectliteValue.parts v, ← ReflectliteValue.parts x)
      | unsupported (.noEntry "extern/(internal/reflectlite.Value).Set.zeroValue")
    if fl / ReflectliteValue.flagAddr % 2 == 0 then unsupported (.noEntry "extern/(internal/reflectlite.Value).Set.unaddressable")
    let val ← loadVar src b
    if ← directlyAssignable dst src then storeVar dst a val
    else if ← implements dst src then
      if (← kind src) == 20 then
        match val with
        | .nilIface => unsupported (.noEntry "extern/reflectlite: a nil value of one interface type handed on as a value of another")
        | _ => storeVar dst a val
      else storeVar dst a (.iface src val)
    else panicString ("reflectlite.Set: value of type " ++ (← spelt src) ++ " is not assignable to type " ++ (← spelt dst))
    pure (.tuple #[])) := rfl

section
variable {P : Program}
theorem we_rl_noPack (what : String) (t : TypeId) (hpk : P.packed t = false) (w : World) : (noPack what t).run P w = .ok () w := by
  simp [noPack, hpk, Result.andThen]
theorem we_partsG (t : TypeId) (a : Addr) (k : Int) (hk : (k == 0) = false) (hpk : P.packed t = false) (w : World) :
    (ReflectliteValue.parts (.agg #[typeHandle P t, .pointer (some a), .int .u64 k])).run P w = .ok (some (t, a, k.toNat)) w := by
  unfold ReflectliteValue.parts
  rw [we_rl_parts _ _ _ hk]
  simp [ofHandle, handleType, typeHandle, we_rl_noPack _ t hpk, Result.andThen]
theorem we_isNilG (t : TypeId) (x p : Addr) (k : Int) (hk : (k == 0) = false) (hkind : k.toNat % 32 = 22) (hpk : P.packed t = false) (w : World) (hl : (loadVar t x).run P w = .ok (.pointer (some p)) w) :
    (ReflectliteValue.method (ReflectliteValue.valueError "reflectlite.Value.IsNil" 0) ReflectliteValue.isNil #[.agg #[typeHandle P t, .pointer (some x), .int .u64 k]]).run P w = .ok (.bool false) w := by
  rw [we_rl_method]
  simp only [Sem.run_bind, we_partsG t x k hk hpk w, Result.andThen]
  simp [ReflectliteValue.isNil, hl, Result.andThen, hkind]
theorem we_elemG (t e : TypeId) (x p : Addr) (k : Int) (m : Nat) (hk : (k == 0) = false) (hkind : k.toNat % 32 = 22) (hpk : P.packed t = false) (w : World) (hl : (loadVar t x).run P w = .ok (.pointer (some p)) w)
    (he : ∀ w, (elem? t).run P w = .ok (some e) w) (hke : ∀ w, (kind e).run P w = .ok m w) :
    (ReflectliteValue.method (ReflectliteValue.valueError "reflectlite.Value.Elem" 0) ReflectliteValue.elem #[.agg #[typeHandle P t, .pointer (some x), .int .u64 k]]).run P w = .ok (.agg #[typeHandle P e, .pointer (some p), .int .u64 (m + 384)]) w := by
  rw [we_rl_method]
  simp only [Sem.run_bind, we_partsG t x k hk hpk w, Result.andThen]
  simp [ReflectliteValue.elem, hl, he, hke, Result.andThen, hkind, ReflectliteValue.mk, handle, ReflectliteValue.flagIndir, ReflectliteValue.flagAddr, Int.add_assoc]
theorem we_setG (t : TypeId) (x y : Addr) (k j : Int) (v : Value) (hk : (k == 0) = false) (hj : (j == 0) = false) (hflag : k.toNat / 256 % 2 = 1) (hpk : P.packed t = false) (w : World) (hl : (loadVar t y).run P w = .ok v w)
    (hs : (storeVar t x v).run P w = .ok () (w.setCell x v)) :
    (ReflectliteValue.set #[.agg #[typeHandle P t, .pointer (some x), .int .u64 k], .agg #[typeHandle P t, .pointer (some y), .int .u64 j]]).run P w = .ok (.tuple #[]) (w.setCell x v) := by
  rw [we_rl_set]
  simp only [Sem.run_bind, we_partsG t x k hk hpk w, we_partsG t y j hj hpk w, Result.andThen]
  simp [hl, hs, hflag, Result.andThen, directlyAssignable, ReflectliteValue.flagAddr]
end

theorem we_packedP : Tryz.prog.packed 87 = false := by kernel_rfl
theorem we_packedE : Tryz.prog.packed 27 = false := by kernel_rfl
theorem we_loadP (x : Addr) (v : Value) (w : World) (hx : w.cell? x = some v) : (loadVar 87 x).run Tryz.prog w = .ok v w := by
  simp [loadVar, isAgg, underlying, Tryz.underlying87, hx]
theorem we_loadE (x : Addr) (v : Value) (w : World) (hx : w.cell? x = some v) : (loadVar 27 x).run Tryz.prog w = .ok v w := by
  simp [loadVar, isAgg, underlying, Tryz.underlying27, hx]
theorem we_sizeE : (Tryz.prog.info? 27).map (·.size) = some 1 := by kernel_rfl
section
variable {P : Program}
theorem we_store1G (t : TypeId) (hs : (P.info? t).map (·.size) = some 1) (x : Addr) (old v : Value) (h1 : (∃ k n, v = .int k n) ∨ ∃ p, v = .pointer p) (w : World) (hx : w.cell? x = some old) (hf : w.frozen? x = false) : (storeVar t x v).run P w = .ok () (w.setCell x v) := by
  obtain ⟨i, hi, hsz⟩ := Option.map_eq_some_iff.1 hs
  rcases h1 with ⟨k, n, rfl⟩ | ⟨p, rfl⟩ <;> simp [storeVar, sizeOf, typeInfo, hi, hsz, storeCells, hx, hf, go_sem]
end
theorem we_isNilP (x p : Addr) (w : World) (hx : w.cell? x = some (.pointer (some p))) :
    (callFunc 80 #[.agg #[(.pointer (some ⟨1, 87, none⟩)), .pointer (some x), .int .u64 150]]).run Tryz.prog w = .ok (.value (.bool false)) w := by
  rw [we_cfIsNil]; exact congrArg (fun r : Result Value => r.andThen fun v w' => Result.ok (Next.value v) w') (we_isNilG 87 x p 150 (by decide) (by decide) we_packedP w (we_loadP x _ w hx))
theorem we_velemP (x p : Addr) (w : World) (hx : w.cell? x = some (.pointer (some p))) :
    (callFunc 96 #[.agg #[(.pointer (some ⟨1, 87, none⟩)), .pointer (some x), .int .u64 150]]).run Tryz.prog w = .ok (.value (.agg #[(.pointer (some ⟨1, 27, none⟩)), .pointer (some p), .int .u64 386])) w := by
  rw [we_cfVElem]; exact congrArg (fun r : Result Value => r.andThen fun v w' => Result.ok (Next.value v) w') (we_elemG 87 27 x p 150 2 (by decide) (by decide) we_packedP w (we_loadP x _ w hx) (fun _ => by kernel_rfl) (fun _ => by kernel_rfl))
theorem we_vsetE (x y : Addr) (n : Int) (old : Value) (w : World) (hy : w.cell? y = some (.int .i64 n)) (hx : w.cell? x = some old) (hf : w.frozen? x = false) :
    (callFunc 97 #[.agg #[(.pointer (some ⟨1, 27, none⟩)), .pointer (some x), .int .u64 386], .agg #[(.pointer (some ⟨1, 27, none⟩)), .pointer (some y), .int .u64 130]]).run Tryz.prog w = .ok (.value (.tuple #[])) (w.setCell x (.int .i64 n)) := by
  rw [we_cfSet]; exact congrArg (fun r : Result Value => r.andThen fun v w' => Result.ok (Next.value v) w') (we_setG 27 x y 386 130 (.int .i64 n) (by decide) (by decide) (by decide) we_packedE w (we_loadE y _ w hy) (we_store1G 27 we_sizeE x old (.int .i64 n) (.inl ⟨_, _, rfl⟩) w hx hf))
theorem we_eqlNil (t : TypeId) (v : Value) (w : World) : (binOp .eql 33 (.iface t v) .nilIface).run Tryz.prog w = .ok (.bool false) w := by kernel_rfl
theorem we_neqNil (t : TypeId) (v : Value) (w : World) : (binOp .neq 33 (.iface t v) .nilIface).run Tryz.prog w = .ok (.bool true) w := by kernel_rfl
theorem we_eqlNilAny (t : TypeId) (v : Value) (w : World) : (binOp .eql 20 (.iface t v) .nilIface).run Tryz.prog w = .ok (.bool false) w := by kernel_rfl
theorem we_eqlNilNil (w : World) : (binOp .eql 33 .nilIface .nilIface).run Tryz.prog w = .ok (.bool true) w := by kernel_rfl
theorem we_neqNilNil (w : World) : (binOp .neq 33 .nilIface .nilIface).run Tryz.prog w = .ok (.bool false) w := by kernel_rfl
theorem we_mKind (x : Addr) (w : World) : (method 320 151 (.agg #[.pointer (some x)]) "Kind").run Tryz.prog w = .ok (144, .pointer (some x)) w := by kernel_rfl
theorem we_mElem (x : Addr) (w : World) : (method 320 151 (.agg #[.pointer (some x)]) "Elem").run Tryz.prog w = .ok (158, .agg #[.pointer (some x)]) w := by kernel_rfl
theorem we_mImpl (x : Addr) (w : World) : (method 320 151 (.agg #[.pointer (some x)]) "Implements").run Tryz.prog w = .ok (159, .agg #[.pointer (some x)]) w := by kernel_rfl
theorem we_mAsg (x : Addr) (w : World) : (method 320 151 (.agg #[.pointer (some x)]) "AssignableTo").run Tryz.prog w = .ok (156, .agg #[.pointer (some x)]) w := by kernel_rfl
theorem we_taAsN (v : Value) (xT : TypeId) (w : World) : (Instr.typeAssert (.iface 99 v) xT 156 true).run Tryz.prog w = .ok (.tuple #[.nilIface, .bool false]) w := run_typeAssert_lacksB Tryz.underlying156 (by kernel_rfl) (by kernel_rfl) v xT w
theorem we_taUnN (v : Value) (xT : TypeId) (w : World) : (Instr.typeAssert (.iface 99 v) xT 135 true).run Tryz.prog w = .ok (.tuple #[.iface 99 v, .bool true]) w := run_typeAssert_hasB Tryz.underlying135 (by kernel_rfl) v xT w
theorem we_taUnE (v : Value) (xT : TypeId) (w : World) : (Instr.typeAssert (.iface 27 v) xT 135 true).run Tryz.prog w = .ok (.tuple #[.nilIface, .bool false]) w := run_typeAssert_lacksB Tryz.underlying135 (by kernel_rfl) (by kernel_rfl) v xT w
theorem we_taUnsE (v : Value) (xT : TypeId) (w : World) : (Instr.typeAssert (.iface 27 v) xT 137 true).run Tryz.prog w = .ok (.tuple #[.nilIface, .bool false]) w := run_typeAssert_lacksB Tryz.underlying137 (by kernel_rfl) (by kernel_rfl) v xT w
theorem we_mUnN (a : Addr) (w : World) : (method 320 99 (.pointer (some a)) "Unwrap").run Tryz.prog w = .ok (151, .pointer (some a)) w := by kernel_rfl
theorem we_naUnN (a : Addr) (w : World) : (nilAhead 320 99 (.pointer (some a)) "Unwrap").run Tryz.prog w = .ok (some false) w := by kernel_rfl
theorem we_taOnN (v : Value) (xT : TypeId) (w : World) : (Instr.typeAssert (.iface 99 v) xT 99 true).run Tryz.prog w = .ok (.tuple #[v, .bool true]) w := by kernel_rfl
theorem we_taOnE (v : Value) (xT : TypeId) (w : World) : (Instr.typeAssert (.iface 27 v) xT 99 true).run Tryz.prog w = .ok (.tuple #[.pointer none, .bool false]) w := by
  have hz : (zeroValue 99).run Tryz.prog w = .ok (.pointer none) w := by kernel_rfl
  simp [Instr.typeAssert, run_underlying Tryz.underlying99, hz]
end Go.Proofs.YtjgbfghkiahfaaaGreatDoor
