import Derived.Test.YtbifpjdkljibeaaDoorB
namespace Go.Proofs.YtbifpjdkljibeaaDoor
open Go.RowKit Go.Extern.Stop Go.Stop Go.Extern Go.Extern.Rtype

theorem rl_parts (h : Value) (a : Addr) (k : Int) (hk : (k == 0) = false) : ReflectliteValue.partsAny (.agg #[h, .pointer (some a), .int .u64 k]) = (do pure (some (← ofHandle h, a, k.toNat))) := by
  cases k with
  | ofNat n => cases n with
    | zero => cases hk
    | succ n => rfl
  | negSucc n => rfl
theorem rl_method (z : Sem Value) (f : TypeId → Addr → Nat → Nat → Sem Value) (v : Value) :
    ReflectliteValue.method z f #[v] = (do match ← ReflectliteValue.parts v with | none => z | some (t, a, fl) => f t a fl (fl % 32)) := rfl
theorem rl_set (v x : Value) : ReflectliteValue.set #[v, x] = (do
    let (some (dst, a, fl), some (src, b, _)) := (← ReflectliteValue.parts v, ← ReflectliteValue.parts x)
      | unsupported (.noEntry "extern/(internal/reflectlite.Value).Set.zeroValue")
    if fl / ReflectliteValue.flagAddr % 2 == 0 then unsupported (.noEntry "extern/(internal/reflectlite.Value).Set.unaddressable")
    let val ← loadVar src b
    if ← directlyAssignable dst src then storeVar dst a val
    else if ← implements dst src then
      if (← kind src) == 20 then
        match val with
        | .nilIface => unsupported (.noEntry "extern/reflectlite: a nil value of one interface type handed on as a value of another")
        | _ => storeVar dst a val
      else storeVar dst a (.iface src val)
    else panicString ("reflectlite.Set: value of type " ++ (← spelt src) ++ " is not assignable to type " ++ (← spelt dst))
    pure (.tuple #[])) := rfl

section
variable {P : Program}
theorem rl_noPack (what : String) (t : TypeId) (hpk : P.packed t = false) (w : World) : (noPack what t).run P w = .ok () w := by
  simp [noPack, hpk, Result.andThen]
theorem run_partsG (t : TypeId) (a : Addr) (k : Int) (hk : (k == 0) = false) (hpk : P.packed t = false) (w : World) :
    (ReflectliteValue.parts (.agg #[typeHandle P t, .pointer (some a), .int .u64 k])).run P w = .ok (some (t, a, k.toNat)) w := by
  unfold ReflectliteValue.parts
  rw [rl_parts _ _ _ hk]
  simp [ofHandle, handleType, typeHandle, rl_noPack _ t hpk, Result.andThen]
theorem run_isNilG (t : TypeId) (x p : Addr) (k : Int) (hk : (k == 0) = false) (hkind : k.toNat % 32 = 22) (hpk : P.packed t = false) (w : World) (hl : (loadVar t x).run P w = .ok (.pointer (some p)) w) :
    (ReflectliteValue.method (ReflectliteValue.valueError "reflectlite.Value.IsNil" 0) ReflectliteValue.isNil #[.agg #[typeHandle P t, .pointer (some x), .int .u64 k]]).run P w = .ok (.bool false) w := by
  rw [rl_method]
  simp only [Sem.run_bind, run_partsG t x k hk hpk w, Result.andThen]
  simp [ReflectliteValue.isNil, hl, Result.andThen, hkind]
theorem run_elemG (t e : TypeId) (x p : Addr) (k : Int) (m : Nat) (hk : (k == 0) = false) (hkind : k.toNat % 32 = 22) (hpk : P.packed t = false) (w : World) (hl : (loadVar t x).run P w = .ok (.pointer (some p)) w)
    (he : ∀ w, (elem? t).run P w = .ok (some e) w) (hke : ∀ w, (kind e).run P w = .ok m w) :
    (ReflectliteValue.method (ReflectliteValue.valueError "reflectlite.Value.Elem" 0) ReflectliteValue.elem #[.agg #[typeHandle P t, .pointer (some x), .int .u64 k]]).run P w = .ok (.agg #[typeHandle P e, .pointer (some p), .int .u64 (m + 384)]) w := by
  rw [rl_method]
  simp only [Sem.run_bind, run_partsG t x k hk hpk w, Result.andThen]
  simp [ReflectliteValue.elem, hl, he, hke, Result.andThen, hkind, ReflectliteValue.mk, handle, ReflectliteValue.flagIndir, ReflectliteValue.flagAddr, Int.add_assoc]
theorem run_setG (t : TypeId) (x y : Addr) (k j : Int) (v : Value) (hk : (k == 0) = false) (hj : (j == 0) = false) (hflag : k.toNat / 256 % 2 = 1) (hpk : P.packed t = false) (w : World) (hl : (loadVar t y).run P w = .ok v w)
    (hs : (storeVar t x v).run P w = .ok () (w.setCell x v)) :
    (ReflectliteValue.set #[.agg #[typeHandle P t, .pointer (some x), .int .u64 k], .agg #[typeHandle P t, .pointer (some y), .int .u64 j]]).run P w = .ok (.tuple #[]) (w.setCell x v) := by
  rw [rl_set]
  simp only [Sem.run_bind, run_partsG t x k hk hpk w, run_partsG t y j hj hpk w, Result.andThen]
  simp [hl, hs, hflag, Result.andThen, directlyAssignable, ReflectliteValue.flagAddr]
end

theorem packed67 : Tryd.prog.packed 67 = false := by kernel_rfl
theorem packed56 : Tryd.prog.packed 56 = false := by kernel_rfl
theorem packed40 : Tryd.prog.packed 40 = false := by kernel_rfl
theorem packed26 : Tryd.prog.packed 26 = false := by kernel_rfl
theorem packed55 : Tryd.prog.packed 55 = false := by kernel_rfl
theorem packed32 : Tryd.prog.packed 32 = false := by kernel_rfl

theorem load67 (x : Addr) (v : Value) (w : World) (hx : w.cell? x = some v) : (loadVar 67 x).run Tryd.prog w = .ok v w := by
  simp [loadVar, isAgg, underlying, Tryd.underlying67, hx]
theorem load56 (x : Addr) (v : Value) (w : World) (hx : w.cell? x = some v) : (loadVar 56 x).run Tryd.prog w = .ok v w := by
  simp [loadVar, isAgg, underlying, Tryd.underlying56, hx]
theorem load26 (x : Addr) (v : Value) (w : World) (hx : w.cell? x = some v) : (loadVar 26 x).run Tryd.prog w = .ok v w := by
  simp [loadVar, isAgg, underlying, Tryd.underlying26, hx]
theorem load55 (x : Addr) (v : Value) (w : World) (hx : w.cell? x = some v) : (loadVar 55 x).run Tryd.prog w = .ok v w := by
  simp [loadVar, isAgg, underlying, Tryd.underlying55, hx]

theorem size26 : (Tryd.prog.info? 26).map (·.size) = some 1 := by kernel_rfl
theorem size55 : (Tryd.prog.info? 55).map (·.size) = some 1 := by kernel_rfl
theorem size32 : (Tryd.prog.info? 32).map (·.size) = some 1 := by kernel_rfl
theorem load40 (x : Addr) (v : Value) (w : World) (hx : w.cell? x = some v) : (loadVar 40 x).run Tryd.prog w = .ok v w := by
  simp [loadVar, isAgg, underlying, Tryd.underlying40, hx]
theorem load32 (x : Addr) (v : Value) (w : World) (hx : w.cell? x = some v) : (loadVar 32 x).run Tryd.prog w = .ok v w := by
  simp [loadVar, isAgg, underlying, Tryd.underlying32, hx]
section
variable {P : Program}
theorem store1G (t : TypeId) (hs : (P.info? t).map (·.size) = some 1) (x : Addr) (old v : Value) (h1 : (∃ k n, v = .int k n) ∨ ∃ p, v = .pointer p) (w : World) (hx : w.cell? x = some old) (hf : w.frozen? x = false) : (storeVar t x v).run P w = .ok () (w.setCell x v) := by
  obtain ⟨i, hi, hsz⟩ := Option.map_eq_some_iff.1 hs
  rcases h1 with ⟨k, n, rfl⟩ | ⟨p, rfl⟩ <;> simp [storeVar, sizeOf, typeInfo, hi, hsz, storeCells, hx, hf, go_sem]
end
theorem isNil67 (x p : Addr) (w : World) (hx : w.cell? x = some (.pointer (some p))) :
    (callFunc 29 #[.agg #[.pointer (some ⟨4, 67, none⟩), .pointer (some x), .int .u64 150]]).run Tryd.prog w = .ok (.value (.bool false)) w := by
  rw [Tryd.cf29]; exact congrArg (fun r : Result Value => r.andThen fun v w' => Result.ok (Next.value v) w') (run_isNilG 67 x p 150 (by decide) (by decide) packed67 w (load67 x _ w hx))
theorem velem67 (x p : Addr) (w : World) (hx : w.cell? x = some (.pointer (some p))) :
    (callFunc 39 #[.agg #[.pointer (some ⟨4, 67, none⟩), .pointer (some x), .int .u64 150]]).run Tryd.prog w = .ok (.value (.agg #[.pointer (some ⟨4, 26, none⟩), .pointer (some p), .int .u64 386])) w := by
  rw [Tryd.cf39]; exact congrArg (fun r : Result Value => r.andThen fun v w' => Result.ok (Next.value v) w') (run_elemG 67 26 x p 150 2 (by decide) (by decide) packed67 w (load67 x _ w hx) (fun _ => by kernel_rfl) (fun _ => by kernel_rfl))
theorem vset26 (x y : Addr) (n : Int) (old : Value) (w : World) (hy : w.cell? y = some (.int .i64 n)) (hx : w.cell? x = some old) (hf : w.frozen? x = false) :
    (callFunc 40 #[.agg #[.pointer (some ⟨4, 26, none⟩), .pointer (some x), .int .u64 386], .agg #[.pointer (some ⟨4, 26, none⟩), .pointer (some y), .int .u64 130]]).run Tryd.prog w = .ok (.value (.tuple #[])) (w.setCell x (.int .i64 n)) := by
  rw [Tryd.cf40]; exact congrArg (fun r : Result Value => r.andThen fun v w' => Result.ok (Next.value v) w') (run_setG 26 x y 386 130 (.int .i64 n) (by decide) (by decide) (by decide) packed26 w (load26 y _ w hy) (store1G 26 size26 x old (.int .i64 n) (.inl ⟨_, _, rfl⟩) w hx hf))
theorem isNil56 (x p : Addr) (w : World) (hx : w.cell? x = some (.pointer (some p))) :
    (callFunc 29 #[.agg #[.pointer (some ⟨4, 56, none⟩), .pointer (some x), .int .u64 150]]).run Tryd.prog w = .ok (.value (.bool false)) w := by
  rw [Tryd.cf29]; exact congrArg (fun r : Result Value => r.andThen fun v w' => Result.ok (Next.value v) w') (run_isNilG 56 x p 150 (by decide) (by decide) packed56 w (load56 x _ w hx))
theorem velem56 (x p : Addr) (w : World) (hx : w.cell? x = some (.pointer (some p))) :
    (callFunc 39 #[.agg #[.pointer (some ⟨4, 56, none⟩), .pointer (some x), .int .u64 150]]).run Tryd.prog w = .ok (.value (.agg #[.pointer (some ⟨4, 55, none⟩), .pointer (some p), .int .u64 406])) w := by
  rw [Tryd.cf39]; exact congrArg (fun r : Result Value => r.andThen fun v w' => Result.ok (Next.value v) w') (run_elemG 56 55 x p 150 22 (by decide) (by decide) packed56 w (load56 x _ w hx) (fun _ => by kernel_rfl) (fun _ => by kernel_rfl))
theorem vset55 (x y : Addr) (n : Option Addr) (old : Value) (w : World) (hy : w.cell? y = some (.pointer n)) (hx : w.cell? x = some old) (hf : w.frozen? x = false) :
    (callFunc 40 #[.agg #[.pointer (some ⟨4, 55, none⟩), .pointer (some x), .int .u64 406], .agg #[.pointer (some ⟨4, 55, none⟩), .pointer (some y), .int .u64 150]]).run Tryd.prog w = .ok (.value (.tuple #[])) (w.setCell x (.pointer n)) := by
  rw [Tryd.cf40]; exact congrArg (fun r : Result Value => r.andThen fun v w' => Result.ok (Next.value v) w') (run_setG 55 x y 406 150 (.pointer n) (by decide) (by decide) (by decide) packed55 w (load55 y _ w hy) (store1G 55 size55 x old (.pointer n) (.inr ⟨_, rfl⟩) w hx hf))
theorem isNil40 (x p : Addr) (w : World) (hx : w.cell? x = some (.pointer (some p))) :
    (callFunc 29 #[.agg #[.pointer (some ⟨4, 40, none⟩), .pointer (some x), .int .u64 150]]).run Tryd.prog w = .ok (.value (.bool false)) w := by
  rw [Tryd.cf29]; exact congrArg (fun r : Result Value => r.andThen fun v w' => Result.ok (Next.value v) w') (run_isNilG 40 x p 150 (by decide) (by decide) packed40 w (load40 x _ w hx))
theorem velem40 (x p : Addr) (w : World) (hx : w.cell? x = some (.pointer (some p))) :
    (callFunc 39 #[.agg #[.pointer (some ⟨4, 40, none⟩), .pointer (some x), .int .u64 150]]).run Tryd.prog w = .ok (.value (.agg #[.pointer (some ⟨4, 32, none⟩), .pointer (some p), .int .u64 406])) w := by
  rw [Tryd.cf39]; exact congrArg (fun r : Result Value => r.andThen fun v w' => Result.ok (Next.value v) w') (run_elemG 40 32 x p 150 22 (by decide) (by decide) packed40 w (load40 x _ w hx) (fun _ => by kernel_rfl) (fun _ => by kernel_rfl))
theorem vset32 (x y : Addr) (n : Option Addr) (old : Value) (w : World) (hy : w.cell? y = some (.pointer n)) (hx : w.cell? x = some old) (hf : w.frozen? x = false) :
    (callFunc 40 #[.agg #[.pointer (some ⟨4, 32, none⟩), .pointer (some x), .int .u64 406], .agg #[.pointer (some ⟨4, 32, none⟩), .pointer (some y), .int .u64 150]]).run Tryd.prog w = .ok (.value (.tuple #[])) (w.setCell x (.pointer n)) := by
  rw [Tryd.cf40]; exact congrArg (fun r : Result Value => r.andThen fun v w' => Result.ok (Next.value v) w') (run_setG 32 x y 406 150 (.pointer n) (by decide) (by decide) (by decide) packed32 w (load32 y _ w hy) (store1G 32 size32 x old (.pointer n) (.inr ⟨_, rfl⟩) w hx hf))

end Go.Proofs.YtbifpjdkljibeaaDoor
