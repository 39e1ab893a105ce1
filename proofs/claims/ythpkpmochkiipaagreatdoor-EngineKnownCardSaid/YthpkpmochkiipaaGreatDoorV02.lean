import Derived.Test.YthpkpmochkiipaaGreatDoorV01
import Derived.Deep.RegionWith
import Derived.Outline
import Derived.Deep.LoopGhost
import Derived.Lib.Hide
namespace Go.Proofs.YthpkpmochkiipaaGreatDoor.Tr
open Go.RowKit Go.Extern.Stop Go.Stop Go.Extern Go.Extern.Rtype

theorem rl_parts (h : Value) (a : Addr) (k : Int) (hk : (k == 0) = false) : ReflectliteValue.partsAny (.agg #[h, .pointer (some a), .int .u64 k]) = (do pure (some (← ofHandle h, a, k.toNat))) := by
  cases k with
  | ofNat n => cases n with
    | zero => cases hk
    | succ n => rfl
  | negSucc n => rfl
theorem rl_method (z : Sem Value) (f : TypeId → Addr → Nat → Nat → Sem Value) (v : Value) :
    ReflectliteValue.method z f #[v] = (do match ← ReflectliteValue.parts v with | none => z | some (t, a, fl) => f t a fl (fl % 32)) := rfl
theorem rl_set (v x : Value) : ReflectliteValue.set #[v, x] = (do
    let (some (dst, a, fl), some (src, b, _)) := (← ReflectliteValue.parts v, ← ReflectliteValue.parts x)
      | unsupported (.noEntry "extern/(internal/reflectlite.Value).Set.zeroValue")
    if fl / ReflectliteValue.flagAddr % 2 == 0 then unsupported (.noEntry "extern/(internal/reflectlite.Value).Set.unaddressable")
    let val ← loadVar src b
    if ← directlyAssignable dst src then storeVar dst a val
    else if ← implements dst src then
      if (← kind src) == 20 then
        match val with
        | .nilIface => unsupported (.noEntry "extern/reflectlite: a nil value of one interface type handed on as a value of another")
        | _ => storeVar dst a val
      else storeVar dst a (.iface src val)
    else panicString ("reflectlite.Set: value of type " ++ (← spelt src) ++ " is not assignable to type " ++ (← spelt dst))
    pure (.tuple #[])) := rfl

section
variable {P : Program}
theorem rl_noPack (what : String) (t : TypeId) (hpk : P.packed t = false) (w : World) : (noPack what t).run P w = .ok () w := by
  simp [noPack, hpk, Result.andThen]
theorem run_partsG (t : TypeId) (a : Addr) (k : Int) (hk : (k == 0) = false) (hpk : P.packed t = false) (w : World) :
    (ReflectliteValue.parts (.agg #[typeHandle P t, .pointer (some a), .int .u64 k])).run P w = .ok (some (t, a, k.toNat)) w := by
  unfold ReflectliteValue.parts
  rw [rl_parts _ _ _ hk]
  simp [ofHandle, handleType, typeHandle, rl_noPack _ t hpk, Result.andThen]
theorem run_isNilG (t : TypeId) (x p : Addr) (k : Int) (hk : (k == 0) = false) (hkind : k.toNat % 32 = 22) (hpk : P.packed t = false) (w : World) (hl : (loadVar t x).run P w = .ok (.pointer (some p)) w) :
    (ReflectliteValue.method (ReflectliteValue.valueError "reflectlite.Value.IsNil" 0) ReflectliteValue.isNil #[.agg #[typeHandle P t, .pointer (some x), .int .u64 k]]).run P w = .ok (.bool false) w := by
  rw [rl_method]
  simp only [Sem.run_bind, run_partsG t x k hk hpk w, Result.andThen]
  simp [ReflectliteValue.isNil, hl, Result.andThen, hkind]
theorem run_elemG (t e : TypeId) (x p : Addr) (k : Int) (m : Nat) (hk : (k == 0) = false) (hkind : k.toNat % 32 = 22) (hpk : P.packed t = false) (w : World) (hl : (loadVar t x).run P w = .ok (.pointer (some p)) w)
    (he : ∀ w, (elem? t).run P w = .ok (some e) w) (hke : ∀ w, (kind e).run P w = .ok m w) :
    (ReflectliteValue.method (ReflectliteValue.valueError "reflectlite.Value.Elem" 0) ReflectliteValue.elem #[.agg #[typeHandle P t, .pointer (some x), .int .u64 k]]).run P w = .ok (.agg #[typeHandle P e, .pointer (some p), .int .u64 (m + 384)]) w := by
  rw [rl_method]
  simp only [Sem.run_bind, run_partsG t x k hk hpk w, Result.andThen]
  simp [ReflectliteValue.elem, hl, he, hke, Result.andThen, hkind, ReflectliteValue.mk, handle, ReflectliteValue.flagIndir, ReflectliteValue.flagAddr, Int.add_assoc]
theorem run_setG (t : TypeId) (x y : Addr) (k j : Int) (v : Value) (hk : (k == 0) = false) (hj : (j == 0) = false) (hflag : k.toNat / 256 % 2 = 1) (hpk : P.packed t = false) (w : World) (hl : (loadVar t y).run P w = .ok v w)
    (hs : (storeVar t x v).run P w = .ok () (w.setCell x v)) :
    (ReflectliteValue.set #[.agg #[typeHandle P t, .pointer (some x), .int .u64 k], .agg #[typeHandle P t, .pointer (some y), .int .u64 j]]).run P w = .ok (.tuple #[]) (w.setCell x v) := by
  rw [rl_set]
  simp only [Sem.run_bind, run_partsG t x k hk hpk w, run_partsG t y j hj hpk w, Result.andThen]
  simp [hl, hs, hflag, Result.andThen, directlyAssignable, ReflectliteValue.flagAddr]
end

theorem packed67 : Tryz.prog.packed 95 = false := by kernel_rfl
theorem packed56 : Tryz.prog.packed 90 = false := by kernel_rfl
theorem packed26 : Tryz.prog.packed 41 = false := by kernel_rfl
theorem packed55 : Tryz.prog.packed 88 = false := by kernel_rfl
theorem load67 (x : Addr) (v : Value) (w : World) (hx : w.cell? x = some v) : (loadVar 95 x).run Tryz.prog w = .ok v w := by
  simp [loadVar, isAgg, underlying, Tryz.underlying95, hx]
theorem load56 (x : Addr) (v : Value) (w : World) (hx : w.cell? x = some v) : (loadVar 90 x).run Tryz.prog w = .ok v w := by
  simp [loadVar, isAgg, underlying, Tryz.underlying90, hx]
theorem load26 (x : Addr) (v : Value) (w : World) (hx : w.cell? x = some v) : (loadVar 41 x).run Tryz.prog w = .ok v w := by
  simp [loadVar, isAgg, underlying, Tryz.underlying41, hx]
theorem load55 (x : Addr) (v : Value) (w : World) (hx : w.cell? x = some v) : (loadVar 88 x).run Tryz.prog w = .ok v w := by
  simp [loadVar, isAgg, underlying, Tryz.underlying88, hx]

theorem size26 : (Tryz.prog.info? 41).map (·.size) = some 1 := by kernel_rfl
theorem size55 : (Tryz.prog.info? 88).map (·.size) = some 1 := by kernel_rfl
section
variable {P : Program}
theorem store1G (t : TypeId) (hs : (P.info? t).map (·.size) = some 1) (x : Addr) (old v : Value) (h1 : (∃ k n, v = .int k n) ∨ ∃ p, v = .pointer p) (w : World) (hx : w.cell? x = some old) (hf : w.frozen? x = false) : (storeVar t x v).run P w = .ok () (w.setCell x v) := by
  obtain ⟨i, hi, hsz⟩ := Option.map_eq_some_iff.1 hs
  rcases h1 with ⟨k, n, rfl⟩ | ⟨p, rfl⟩ <;> simp [storeVar, sizeOf, typeInfo, hi, hsz, storeCells, hx, hf, go_sem]
end
theorem isNil67 (x p : Addr) (w : World) (hx : w.cell? x = some (.pointer (some p))) :
    (callFunc 117 #[.agg #[.pointer (some ⟨1, 95, none⟩), .pointer (some x), .int .u64 150]]).run Tryz.prog w = .ok (.value (.bool false)) w := by
  rw [Tryz.cf29]; exact congrArg (fun r : Result Value => r.andThen fun v w' => Result.ok (Next.value v) w') (run_isNilG 95 x p 150 (by decide) (by decide) packed67 w (load67 x _ w hx))
theorem velem67 (x p : Addr) (w : World) (hx : w.cell? x = some (.pointer (some p))) :
    (callFunc 150 #[.agg #[.pointer (some ⟨1, 95, none⟩), .pointer (some x), .int .u64 150]]).run Tryz.prog w = .ok (.value (.agg #[.pointer (some ⟨1, 41, none⟩), .pointer (some p), .int .u64 386])) w := by
  rw [Tryz.cf39]; exact congrArg (fun r : Result Value => r.andThen fun v w' => Result.ok (Next.value v) w') (run_elemG 95 41 x p 150 2 (by decide) (by decide) packed67 w (load67 x _ w hx) (fun _ => by kernel_rfl) (fun _ => by kernel_rfl))
theorem vset26 (x y : Addr) (n : Int) (old : Value) (w : World) (hy : w.cell? y = some (.int .i64 n)) (hx : w.cell? x = some old) (hf : w.frozen? x = false) :
    (callFunc 151 #[.agg #[.pointer (some ⟨1, 41, none⟩), .pointer (some x), .int .u64 386], .agg #[.pointer (some ⟨1, 41, none⟩), .pointer (some y), .int .u64 130]]).run Tryz.prog w = .ok (.value (.tuple #[])) (w.setCell x (.int .i64 n)) := by
  rw [Tryz.cf40]; exact congrArg (fun r : Result Value => r.andThen fun v w' => Result.ok (Next.value v) w') (run_setG 41 x y 386 130 (.int .i64 n) (by decide) (by decide) (by decide) packed26 w (load26 y _ w hy) (store1G 41 size26 x old (.int .i64 n) (.inl ⟨_, _, rfl⟩) w hx hf))
theorem isNil56 (x p : Addr) (w : World) (hx : w.cell? x = some (.pointer (some p))) :
    (callFunc 117 #[.agg #[.pointer (some ⟨1, 90, none⟩), .pointer (some x), .int .u64 150]]).run Tryz.prog w = .ok (.value (.bool false)) w := by
  rw [Tryz.cf29]; exact congrArg (fun r : Result Value => r.andThen fun v w' => Result.ok (Next.value v) w') (run_isNilG 90 x p 150 (by decide) (by decide) packed56 w (load56 x _ w hx))
theorem velem56 (x p : Addr) (w : World) (hx : w.cell? x = some (.pointer (some p))) :
    (callFunc 150 #[.agg #[.pointer (some ⟨1, 90, none⟩), .pointer (some x), .int .u64 150]]).run Tryz.prog w = .ok (.value (.agg #[.pointer (some ⟨1, 88, none⟩), .pointer (some p), .int .u64 406])) w := by
  rw [Tryz.cf39]; exact congrArg (fun r : Result Value => r.andThen fun v w' => Result.ok (Next.value v) w') (run_elemG 90 88 x p 150 22 (by decide) (by decide) packed56 w (load56 x _ w hx) (fun _ => by kernel_rfl) (fun _ => by kernel_rfl))
theorem vset55 (x y : Addr) (n : Option Addr) (old : Value) (w : World) (hy : w.cell? y = some (.pointer n)) (hx : w.cell? x = some old) (hf : w.frozen? x = false) :
    (callFunc 151 #[.agg #[.pointer (some ⟨1, 88, none⟩), .pointer (some x), .int .u64 406], .agg #[.pointer (some ⟨1, 88, none⟩), .pointer (some y), .int .u64 150]]).run Tryz.prog w = .ok (.value (.tuple #[])) (w.setCell x (.pointer n)) := by
  rw [Tryz.cf40]; exact congrArg (fun r : Result Value => r.andThen fun v w' => Result.ok (Next.value v) w') (run_setG 88 x y 406 150 (.pointer n) (by decide) (by decide) (by decide) packed55 w (load55 y _ w hy) (store1G 88 size55 x old (.pointer n) (.inr ⟨_, rfl⟩) w hx hf))
end Go.Proofs.YthpkpmochkiipaaGreatDoor.Tr
namespace Go.Proofs.YthpkpmochkiipaaGreatDoor.Tr
open Go.RowKit Go.Extern.Stop Go.Stop Go.Extern Go.Extern.Rtype

theorem eqlNil (t : TypeId) (v : Value) (w : World) : (binOp .eql 27 (.iface t v) .nilIface).run Tryz.prog w = .ok (.bool false) w := by kernel_rfl
theorem neqNil (t : TypeId) (v : Value) (w : World) : (binOp .neq 27 (.iface t v) .nilIface).run Tryz.prog w = .ok (.bool true) w := by kernel_rfl
theorem eqlNil20 (t : TypeId) (v : Value) (w : World) : (binOp .eql 20 (.iface t v) .nilIface).run Tryz.prog w = .ok (.bool false) w := by kernel_rfl
theorem eqlNilNil (w : World) : (binOp .eql 27 .nilIface .nilIface).run Tryz.prog w = .ok (.bool true) w := by kernel_rfl
theorem neqNilNil (w : World) : (binOp .neq 27 .nilIface .nilIface).run Tryz.prog w = .ok (.bool false) w := by kernel_rfl

theorem cell?_lt {w : World} {b o : Nat} {v : Value} (h : w.cell? ⟨b, o, none⟩ = some v) : b < w.heap.size := by
  unfold World.cell? at h
  by_cases hb : b < w.heap.size
  · exact hb
  · simp [Array.getElem?_eq_none (Nat.le_of_not_lt hb)] at h
theorem mKind (x : Addr) (w : World) : (method 466 244 (.agg #[.pointer (some x)]) "Kind").run Tryz.prog w = .ok (276, .pointer (some x)) w := by kernel_rfl
theorem mElem (x : Addr) (w : World) : (method 466 244 (.agg #[.pointer (some x)]) "Elem").run Tryz.prog w = .ok (294, .agg #[.pointer (some x)]) w := by kernel_rfl
theorem mImpl (x : Addr) (w : World) : (method 466 244 (.agg #[.pointer (some x)]) "Implements").run Tryz.prog w = .ok (295, .agg #[.pointer (some x)]) w := by kernel_rfl
theorem mAsg (x : Addr) (w : World) : (method 466 244 (.agg #[.pointer (some x)]) "AssignableTo").run Tryz.prog w = .ok (292, .agg #[.pointer (some x)]) w := by kernel_rfl
theorem mComp (x : Addr) (w : World) : (method 466 244 (.agg #[.pointer (some x)]) "Comparable").run Tryz.prog w = .ok (293, .agg #[.pointer (some x)]) w := by kernel_rfl

theorem taAsE (v : Value) (xT : TypeId) (w : World) : (Instr.typeAssert (.iface 41 v) xT 248 true).run Tryz.prog w = .ok (.tuple #[.nilIface, .bool false]) w := run_typeAssert_lacksB Tryz.underlying248 (by kernel_rfl) (by kernel_rfl) v xT w
theorem taUnE (v : Value) (xT : TypeId) (w : World) : (Instr.typeAssert (.iface 41 v) xT 202 true).run Tryz.prog w = .ok (.tuple #[.nilIface, .bool false]) w := run_typeAssert_lacksB Tryz.underlying202 (by kernel_rfl) (by kernel_rfl) v xT w
theorem taUnsE (v : Value) (xT : TypeId) (w : World) : (Instr.typeAssert (.iface 41 v) xT 204 true).run Tryz.prog w = .ok (.tuple #[.nilIface, .bool false]) w := run_typeAssert_lacksB Tryz.underlying204 (by kernel_rfl) (by kernel_rfl) v xT w
theorem taIsE (v : Value) (xT : TypeId) (w : World) : (Instr.typeAssert (.iface 41 v) xT 267 true).run Tryz.prog w = .ok (.tuple #[.nilIface, .bool false]) w := run_typeAssert_lacksB Tryz.underlying267 (by kernel_rfl) (by kernel_rfl) v xT w
theorem taAsN (v : Value) (xT : TypeId) (w : World) : (Instr.typeAssert (.iface 137 v) xT 248 true).run Tryz.prog w = .ok (.tuple #[.nilIface, .bool false]) w := run_typeAssert_lacksB Tryz.underlying248 (by kernel_rfl) (by kernel_rfl) v xT w
theorem taUnN (v : Value) (xT : TypeId) (w : World) : (Instr.typeAssert (.iface 137 v) xT 202 true).run Tryz.prog w = .ok (.tuple #[.iface 137 v, .bool true]) w := run_typeAssert_hasB Tryz.underlying202 (by kernel_rfl) v xT w
theorem taIsN (v : Value) (xT : TypeId) (w : World) : (Instr.typeAssert (.iface 137 v) xT 267 true).run Tryz.prog w = .ok (.tuple #[.nilIface, .bool false]) w := run_typeAssert_lacksB Tryz.underlying267 (by kernel_rfl) (by kernel_rfl) v xT w
theorem taAsF (v : Value) (xT : TypeId) (w : World) : (Instr.typeAssert (.iface 88 v) xT 248 true).run Tryz.prog w = .ok (.tuple #[.nilIface, .bool false]) w := run_typeAssert_lacksB Tryz.underlying248 (by kernel_rfl) (by kernel_rfl) v xT w
theorem taUnF (v : Value) (xT : TypeId) (w : World) : (Instr.typeAssert (.iface 88 v) xT 202 true).run Tryz.prog w = .ok (.tuple #[.iface 88 v, .bool true]) w := run_typeAssert_hasB Tryz.underlying202 (by kernel_rfl) v xT w
theorem taIsF (v : Value) (xT : TypeId) (w : World) : (Instr.typeAssert (.iface 88 v) xT 267 true).run Tryz.prog w = .ok (.tuple #[.nilIface, .bool false]) w := run_typeAssert_lacksB Tryz.underlying267 (by kernel_rfl) (by kernel_rfl) v xT w
theorem taAsA (v : Value) (xT : TypeId) (w : World) : (Instr.typeAssert (.iface 182 v) xT 248 true).run Tryz.prog w = .ok (.tuple #[.nilIface, .bool false]) w := run_typeAssert_lacksB Tryz.underlying248 (by kernel_rfl) (by kernel_rfl) v xT w
theorem taUnA (v : Value) (xT : TypeId) (w : World) : (Instr.typeAssert (.iface 182 v) xT 202 true).run Tryz.prog w = .ok (.tuple #[.nilIface, .bool false]) w := run_typeAssert_lacksB Tryz.underlying202 (by kernel_rfl) (by kernel_rfl) v xT w
theorem taUnsA (v : Value) (xT : TypeId) (w : World) : (Instr.typeAssert (.iface 182 v) xT 204 true).run Tryz.prog w = .ok (.tuple #[.iface 182 v, .bool true]) w := run_typeAssert_hasB Tryz.underlying204 (by kernel_rfl) v xT w
theorem taIsA (v : Value) (xT : TypeId) (w : World) : (Instr.typeAssert (.iface 182 v) xT 267 true).run Tryz.prog w = .ok (.tuple #[.nilIface, .bool false]) w := run_typeAssert_lacksB Tryz.underlying267 (by kernel_rfl) (by kernel_rfl) v xT w
theorem mUnN (a : Addr) (w : World) : (method 466 137 (.pointer (some a)) "Unwrap").run Tryz.prog w = .ok (284, .pointer (some a)) w := by kernel_rfl
theorem naUnN (a : Addr) (w : World) : (nilAhead 466 137 (.pointer (some a)) "Unwrap").run Tryz.prog w = .ok (some false) w := by kernel_rfl
theorem mUnF (a : Addr) (w : World) : (method 466 88 (.pointer (some a)) "Unwrap").run Tryz.prog w = .ok (282, .pointer (some a)) w := by kernel_rfl
theorem naUnF (a : Addr) (w : World) : (nilAhead 466 88 (.pointer (some a)) "Unwrap").run Tryz.prog w = .ok (some false) w := by kernel_rfl
theorem mUnA (a : Addr) (w : World) : (method 466 182 (.pointer (some a)) "Unwrap").run Tryz.prog w = .ok (287, .pointer (some a)) w := by kernel_rfl
theorem naUnA (a : Addr) (w : World) : (nilAhead 466 182 (.pointer (some a)) "Unwrap").run Tryz.prog w = .ok (some false) w := by kernel_rfl
end Go.Proofs.YthpkpmochkiipaaGreatDoor.Tr
namespace Go.Proofs.YthpkpmochkiipaaGreatDoor.Tr
open Go.RowKit

abbrev Nd := Value × Option Int

def Err (w : World) (B : Nat) : Nat → Value → List Int → List Nd → List Int → Prop
  | 0, _, _, _, _ => False
  | d + 1, v, cs, ns, ss =>
    (∃ n, v = .iface 41 (.int .i64 n) ∧ cs = [n] ∧ ns = [(v, none)] ∧ ss = []) ∨
    (∃ b n x ns', v = .iface 137 (.pointer (some ⟨b, 0, none⟩)) ∧ b < B ∧ w.heap[b]? = some (.cells #[.int .i64 n, x] 140 (0, 0)) ∧ Err w B d x cs ns' ss ∧ ns = (v, some n) :: ns') ∨
    (∃ b n x ns' ss', v = .iface 88 (.pointer (some ⟨b, 0, none⟩)) ∧ b < B ∧ w.heap[b]? = some (.cells #[.int .i64 n, x] 92 (0, 0)) ∧ Err w B d x cs ns' ss' ∧ ss = n :: ss' ∧ ns = (v, none) :: ns') ∨
    (∃ b g m cap row, ∃ vs : List (Value × List Int × List Nd × List Int), v = .iface 182 (.pointer (some ⟨b, 0, none⟩)) ∧ b < B ∧ g < B ∧ w.heap[b]? = some (.cells #[.slice (some ⟨g, 0, none⟩) m cap] 184 (0, 0)) ∧
      w.heap[g]? = some (.cells row 27 (0, 0)) ∧ m ≤ cap ∧ m ≤ 1000 ∧ 0 < m ∧ vs.length = m ∧ (∀ (i : Nat) (x : Value × List Int × List Nd × List Int), vs[i]? = some x → row[i]? = some x.1 ∧ Err w B d x.1 x.2.1 x.2.2.1 x.2.2.2) ∧
      cs = (vs.map (·.2.1)).flatten ∧ ns = (v, none) :: (vs.map (·.2.2.1)).flatten ∧ ss = (vs.map (·.2.2.2)).flatten)

theorem Err.below {w w' : World} {B : Nat} (h : Below B w w') : ∀ (d : Nat) {v : Value} {cs : List Int} {ns : List Nd} {ss : List Int}, Err w B d v cs ns ss → Err w' B d v cs ns ss
  | 0, _, _, _, _, e => e.elim
  | d + 1, _, _, _, _, e => by
    rcases e with e | ⟨b, n, x, ns', e1, e2, e3, e4, e5⟩ | ⟨b, n, x, ns', ss', e1, e2, e3, e4, e5⟩ | ⟨b, g, m, cap, row, vs, e1, e2, e3, e4, e5, e6, e7, e7', e8, e9, e10⟩
    · exact .inl e
    · exact .inr (.inl ⟨b, n, x, ns', e1, e2, by rw [h.block b e2]; exact e3, Err.below h d e4, e5⟩)
    · exact .inr (.inr (.inl ⟨b, n, x, ns', ss', e1, e2, by rw [h.block b e2]; exact e3, Err.below h d e4, e5⟩))
    · exact .inr (.inr (.inr ⟨b, g, m, cap, row, vs, e1, e2, e3, by rw [h.block b e2]; exact e4, by rw [h.block g e3]; exact e5, e6, e7, e7', e8, fun i x hx => ⟨(e9 i x hx).1, Err.below h d (e9 i x hx).2⟩, e10⟩))

theorem Err.mono {w : World} {B B' : Nat} (h : B ≤ B') : ∀ (d : Nat) {v : Value} {cs : List Int} {ns : List Nd} {ss : List Int}, Err w B d v cs ns ss → Err w B' d v cs ns ss
  | 0, _, _, _, _, e => e.elim
  | d + 1, _, _, _, _, e => by
    rcases e with e | ⟨b, n, x, ns', e1, e2, e3, e4, e5⟩ | ⟨b, n, x, ns', ss', e1, e2, e3, e4, e5⟩ | ⟨b, g, m, cap, row, vs, e1, e2, e3, e4, e5, e6, e7, e7', e8, e9, e10⟩
    · exact .inl e
    · exact .inr (.inl ⟨b, n, x, ns', e1, by omega, e3, Err.mono h d e4, e5⟩)
    · exact .inr (.inr (.inl ⟨b, n, x, ns', ss', e1, by omega, e3, Err.mono h d e4, e5⟩))
    · exact .inr (.inr (.inr ⟨b, g, m, cap, row, vs, e1, by omega, by omega, e4, e5, e6, e7, e7', e8, fun i x hx => ⟨(e9 i x hx).1, Err.mono h d (e9 i x hx).2⟩, e10⟩))

theorem Err.deeper {w : World} {B : Nat} : ∀ (d : Nat) {v : Value} {cs : List Int} {ns : List Nd} {ss : List Int}, Err w B d v cs ns ss → Err w B (d + 1) v cs ns ss
  | 0, _, _, _, _, e => e.elim
  | d + 1, _, _, _, _, e => by
    rcases e with e | ⟨b, n, x, ns', e1, e2, e3, e4, e5⟩ | ⟨b, n, x, ns', ss', e1, e2, e3, e4, e5⟩ | ⟨b, g, m, cap, row, vs, e1, e2, e3, e4, e5, e6, e7, e7', e8, e9, e10⟩
    · exact .inl e
    · exact .inr (.inl ⟨b, n, x, ns', e1, e2, e3, Err.deeper d e4, e5⟩)
    · exact .inr (.inr (.inl ⟨b, n, x, ns', ss', e1, e2, e3, Err.deeper d e4, e5⟩))
    · exact .inr (.inr (.inr ⟨b, g, m, cap, row, vs, e1, e2, e3, e4, e5, e6, e7, e7', e8, fun i x hx => ⟨(e9 i x hx).1, Err.deeper d (e9 i x hx).2⟩, e10⟩))

theorem Err.deep {w : World} {B d d' : Nat} (h : d ≤ d') {v : Value} {cs : List Int} {ns : List Nd} {ss : List Int} (e : Err w B d v cs ns ss) : Err w B d' v cs ns ss := by
  obtain ⟨k, rfl⟩ := Nat.exists_eq_add_of_le h
  induction k with
  | zero => exact e
  | succ k ih => exact Err.deeper _ (ih (by omega))

theorem Err.iface {w : World} {B d : Nat} {v : Value} {cs : List Int} {ns : List Nd} {ss : List Int} (e : Err w B d v cs ns ss) : ∃ t x, v = .iface t x := by
  cases d with
  | zero => exact e.elim
  | succ d => rcases e with ⟨n, rfl, _⟩ | ⟨b, n, x, ns', rfl, _⟩ | ⟨b, n, x, ns', ss', rfl, _⟩ | ⟨b, g, m, cap, row, vs, rfl, _⟩ <;> exact ⟨_, _, rfl⟩

set_option maxHeartbeats 400000 in
theorem onUnwrap (b : Nat) (n x : Value) (w : World) (h : w.heap[b]? = some (.cells #[n, x] 140 (0, 0))) :
    Calls Tryz.prog 284 #[.pointer (some ⟨b, 0, none⟩)] w fun e w' => e = .returned x ∧ w = w' := by
  have hc : w.cell? ⟨b, 1, none⟩ = some x := by simp [World.cell?, h]
  clear h
  go_enter Tryz.func284, Tryz.ntmps284
  go_wp2
  go_ret
  exact ⟨rfl, rfl⟩

set_option maxHeartbeats 400000 in
theorem ofUnwrap (b : Nat) (n x : Value) (w : World) (h : w.heap[b]? = some (.cells #[n, x] 92 (0, 0))) :
    Calls Tryz.prog 282 #[.pointer (some ⟨b, 0, none⟩)] w fun e w' => e = .returned x ∧ w = w' := by
  have hc : w.cell? ⟨b, 1, none⟩ = some x := by simp [World.cell?, h]
  clear h
  go_enter Tryz.func282, Tryz.ntmps282
  go_wp2
  go_ret
  exact ⟨rfl, rfl⟩

end Go.Proofs.YthpkpmochkiipaaGreatDoor.Tr
namespace Go.Proofs.YthpkpmochkiipaaGreatDoor.Tr
open Go.RowKit

theorem info24 : (Tryz.prog.info? 27).map (fun i => (i.zero, i.size, i.bytes)) = some (some .nilIface, 1, 16) := by kernel_rfl

theorem cell_add {w : World} {g j : Nat} {row : Array Value} {t : TypeId} {fr : Nat × Nat} {u : Value} (hg : w.heap[g]? = some (.cells row t fr)) (hj : row[j]? = some u) : w.cell? ((⟨g, 0, none⟩ : Addr).add j) = some u := by
  by_cases h0 : j = 0
  · subst h0; simp [World.cell?, Addr.add, hg, hj]
  · simp [World.cell?, Addr.add, hg, hj, h0]

set_option maxHeartbeats 400000 in
theorem allUnwrap (b g m cap : Nat) (row : Array Value) (w : World) (h : w.heap[b]? = some (.cells #[.slice (some ⟨g, 0, none⟩) m cap] 184 (0, 0))) (hg : w.heap[g]? = some (.cells row 27 (0, 0)))
    (hm : m ≤ 1000) (h0 : 0 < m) (hr : m ≤ row.size) (h1 : ∀ x ∈ row.toList.take m, Value.oneCell' x = true) :
    Calls Tryz.prog 287 #[.pointer (some ⟨b, 0, none⟩)] w fun e w' => ∃ v, e = .returned v ∧ w'.ownsRow w.heap.size 27 1 v m (row.toList.take m) ∧ Below w.heap.size w w' ∧ v ≠ .slice none 0 0 := by
  have hc : w.cell? ⟨b, 0, none⟩ = some (.slice (some ⟨g, 0, none⟩) m cap) := by simp [World.cell?, h]
  obtain ⟨i0, hi, hz0, hz1, hz2⟩ := info_parts info24
  have HG := Lib.hid hg
  have H1 := Lib.hid h1
  clear h hg h1
  go_enter Tryz.func287, Tryz.ntmps287
  go_wp2_with (at_builtin; refine wpList_append_own _ rfl _ _ 129 rfl w.heap.size 27 i0 .nilIface 1 16 Tryz.underlying129 hi hz0 hz1 hz2 rfl (by decide) _ _ _ rfl (World.ownsRow_nil _ _ _ _) ⟨g, 0, none⟩ m cap (row.toList.take m) rfl ?c1 ?c2 ?c3 ?c4 ?c5 ?c6 ?_)
  case c1 => simp; omega
  case c2 =>
    intro j u hj
    have hg := HG.out
    rw [List.getElem?_take] at hj
    split at hj
    · exact cell_add hg (by simpa using hj)
    · cases hj
  case c3 => exact H1.out
  case c4 => unfold maxLen; omega
  case c5 => omega
  case c6 => exact Nat.le_refl _
  intro v' w' hown hgrow hnil
  have HO := Lib.hid hown
  have HW := Lib.hid hgrow
  have HN := Lib.hid hnil
  clear hown hgrow hnil
  go_wp2
  go_ret
  refine ⟨v', rfl, ?_, (Below.refl _ _).grown HW.out (Nat.le_refl _) (fun k hk => by cases hk), fun e => ?_⟩
  · exact HO.out
  · have := HN.out.1 e; omega

theorem take_row {α : Type} (row : Array Value) (m : Nat) (vs : List (Value × α)) (hl : vs.length = m) (h : ∀ (i : Nat) (x : Value × α), vs[i]? = some x → row[i]? = some x.1) : row.toList.take m = vs.map (·.1) := by
  apply List.ext_getElem?
  intro i
  rw [List.getElem?_take, List.getElem?_map]
  by_cases hi : i < m
  · rw [if_pos hi]
    have hv : i < vs.length := by omega
    have := h i vs[i] (List.getElem?_eq_getElem hv)
    rw [List.getElem?_eq_getElem hv]
    simpa using this
  · rw [if_neg hi, List.getElem?_eq_none (by omega)]; rfl

theorem owns_open {w : World} {base m : Nat} {t : TypeId} {v : Value} {xs : List Value} (h : w.ownsRow base t 1 v m xs) (hn : v ≠ .slice none 0 0) :
    ∃ g cap, v = .slice (some ⟨g, 0, none⟩) m cap ∧ base ≤ g ∧ g < w.heap.size ∧ m ≤ cap ∧ cap ≤ maxLen ∧ ∀ i y, xs[i]? = some y → w.cell? ⟨g, i, none⟩ = some y := by
  obtain ⟨_, h | ⟨g, cap, cur, rfl, hb, hg, h1, h2, h3, h4⟩⟩ := h
  · exact absurd h.1 hn
  · refine ⟨g, cap, rfl, hb, ?_, h1, h2, fun i y hy => ?_⟩
    · by_cases hlt : g < w.heap.size
      · exact hlt
      · rw [Array.getElem?_eq_none (by omega)] at hg; cases hg
    · rw [← h4, List.getElem?_take] at hy
      split at hy
      · simp only [Array.getElem?_toList] at hy
        simp [World.cell?, hg, hy]
      · cases hy

theorem flat_none {α : Type} (f : α → List Int) : ∀ (l : List α), (∀ (j : Nat) (z : α), l[j]? = some z → f z = []) → (l.map f).flatten = []
  | [], _ => rfl
  | a :: l, h => by
    have h0 := h 0 a rfl
    have := flat_none f l (fun j z hz => h (j + 1) z (by simpa using hz))
    simp [h0, this]

theorem flat_first {α : Type} (f : α → List Int) (n : Int) (r : List Int) : ∀ (l : List α) (i : Nat) (z : α), l[i]? = some z → (∀ (j : Nat) (z : α), j < i → l[j]? = some z → f z = []) → f z = n :: r → ∃ r', (l.map f).flatten = n :: r'
  | [], i, z, h, _, _ => by cases h
  | a :: l, 0, z, h, _, hz => by
    cases h
    exact ⟨r ++ (l.map f).flatten, by simp [hz]⟩
  | a :: l, i + 1, z, h, hn, hz => by
    have h0 := hn 0 a (by omega) rfl
    obtain ⟨r', hr⟩ := flat_first f n r l i z (by simpa using h) (fun j z hj hz => hn (j + 1) z (by omega) (by simpa using hz)) hz
    exact ⟨r', by simp [h0, hr]⟩

structure But (c : Nat) (w w' : World) : Prop where
  os : w'.os = w.os
  tape : w'.tape = w.tape
  output : w'.output = w.output
  size : w.heap.size ≤ w'.heap.size
  block : ∀ k, k < w.heap.size → k ≠ c → w'.heap[k]? = w.heap[k]?

theorem But.of {c : Nat} {w w' : World} (h : Below w.heap.size w w') : But c w w' := ⟨h.os, h.tape, h.output, h.size, fun k hk _ => h.block k hk⟩
theorem But.trans {c : Nat} {a b d : World} (h : But c a b) (k : But c b d) : But c a d :=
  ⟨k.os.trans h.os, k.tape.trans h.tape, k.output.trans h.output, Nat.le_trans h.size k.size, fun i hi hc => (k.block i (Nat.lt_of_lt_of_le hi h.size) hc).trans (h.block i hi hc)⟩
theorem But.set (c : Nat) (w : World) (v : Value) : But c w (w.setCell ⟨c, 0, none⟩ v) :=
  ⟨rfl, rfl, rfl, by simp [World.setCell], fun k _ hk => Below.heap_setCell _ _ _ _ hk⟩
theorem But.below {c B : Nat} {w w' : World} (h : But c w w') (h1 : B ≤ c) (h2 : B ≤ w.heap.size) : Below B w w' :=
  ⟨h.os, h.tape, h.output, h.size, fun k hk => h.block k (by omega) (by omega)⟩
theorem But.cell {c : Nat} {w w' : World} (h : But c w w') {p : Addr} (hp : p.block < w.heap.size) (hc : p.block ≠ c) : w'.cell? p = w.cell? p := World.cell?_of_block (w := w) (h.block p.block hp hc)
theorem But.frozen {c : Nat} {w w' : World} (h : But c w w') {p : Addr} (hp : p.block < w.heap.size) (hc : p.block ≠ c) : w'.frozen? p = w.frozen? p := World.frozen?_of_block (w := w) (h.block p.block hp hc)

end Go.Proofs.YthpkpmochkiipaaGreatDoor.Tr
