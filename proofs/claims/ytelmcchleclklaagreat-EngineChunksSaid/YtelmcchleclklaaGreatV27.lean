import Derived.Test.YtelmcchleclklaaGreatV26
import Derived.Test.YtelmcchleclklaaGreatRows
import Derived.WalkKit
import Derived.WalkSpells
import Derived.WalkLawsBesides
import Derived.LaidEql
import Derived.Stop.Asserts
import Derived.RowKitTokens
import Derived.Deep.RegionWith
import Derived.Outline
import Derived.Deep.LoopGhost
import Derived.Lib.Hide
namespace Go.Proofs.YtelmcchleclklaaGreat
open Go.RowKit Go.Sort
set_option maxRecDepth 100000
set_option maxHeartbeats 1000000

theorem Wp.leads_F (s : Wp) (n : Nat) : (s.leads n).1.F = s.F := by
 unfold Wp.leads
 repeat' split
 all_goals rfl
theorem Wp.send_F (s : Wp) (n : Nat) (q : Rq) : (s.send n q).1.F = s.F.tail := by
 unfold Wp.send Wp.sendF
 repeat' split
 all_goals rfl
theorem Wp.tries_F (n : Nat) (q : Rq) : ∀ (k : Nat) (s : Wp), (s.tries k n q).1.F.length ≤ s.F.length
 | 0, _ => Nat.le_refl _
 | k + 1, s => by
  have h1 := Wp.leads_F s n
  unfold Wp.tries
  split
  ·next s1 e => rw [e] at h1; exact Nat.le_of_eq (congrArg List.length h1)
  ·next s1 e =>
   rw [e] at h1
   have h2 := Wp.send_F s1 n q
   split
   ·next s2 e2 =>
    rw [e2] at h2
    have h3 := Wp.tries_F n q k s2
    have h4 : s2.F = s1.F.tail := h2
    have h5 : s1.F = s.F := h1
    rw [h4, h5, List.length_tail] at h3
    omega
   ·next s2 x e2 =>
    rw [e2] at h2
    have h4 : s2.F = s1.F.tail := h2
    have h5 : s1.F = s.F := h1
    split
    ·show s2.F.length ≤ _
     rw [h4, h5, List.length_tail]
     omega
    ·show s2.F.length ≤ _
     rw [h4, h5, List.length_tail]
     omega
theorem Wp.call_F (s : Wp) (n : Nat) (q : Rq) : (s.call n q).1.F.length ≤ s.F.length := Wp.tries_F n q 3 s
theorem Wp.done_F (s : Wp) (n : Nat) (q : Rq) : (s.done n q).1.F.length ≤ s.F.length := by
 have h1 := Wp.call_F s n q
 unfold Wp.done
 split
 ·next s1 c e => rw [e] at h1; exact h1
 ·next s1 y e =>
  rw [e] at h1
  have h2 := Wp.call_F s1 n qFl
  split
  ·next s2 c e2 => rw [e2] at h2; exact Nat.le_trans h2 h1
  ·next s2 z e2 => rw [e2] at h2; exact Nat.le_trans h2 h1
theorem Wp.rels_F (n : Nat) : ∀ (l : List It) (s : Wp), (s.rels n l).F.length ≤ s.F.length
 | [], _ => Nat.le_refl _
 | x :: l, s => Nat.le_trans (Wp.rels_F n l (s.call n (qRl x.s x.g)).1) (Wp.call_F s n _)
theorem Ep.sweep_F (e : Ep) (s : Wp) (n : Nat) : (e.sweep s n).F.length ≤ s.F.length := by
 have h1 := Wp.call_F s n qIn
 unfold Ep.sweep
 split
 ·next s1 c e1 => rw [e1] at h1; exact h1
 ·next s1 y e1 => rw [e1] at h1; exact Nat.le_trans (Wp.rels_F _ _ _) h1
theorem Ep.logs_F (e : Ep) (s : Wp) (n : Nat) (q : Rq) : (e.logs s n q).1.F.length ≤ s.F.length := by
 have h1 := Wp.done_F s n q
 unfold Ep.logs
 split
 ·exact Nat.le_trans (Wp.done_F _ _ _) (Nat.le_trans (Ep.sweep_F _ _ _) h1)
 ·exact h1
theorem Ep.askN_F (e : Ep) (q : Rq) (st : Nat) : ∀ m, (e.askN q st m).1.F.length ≤ e.w.F.length
 | 0 => by rw [Ep.askN_zero]; exact Nat.le_refl _
 | m + 1 => by
  have ih := Ep.askN_F e q st m
  have h := Nat.le_trans (Ep.logs_F e (e.askN q st m).1 (logN st m) q) ih
  rw [Ep.askN_succ]
  split
  ·exact ih
  ·split
   ·exact h
   ·exact h
theorem Wp.puts_F (s : Wp) (st g : Nat) (C : Nat → Nat → Nat) : ∀ m, (s.puts st g C m).1.F.length ≤ s.F.length
 | 0 => by rw [Wp.puts_zero]; exact Nat.le_refl _
 | m + 1 => by rw [Wp.puts_succ]; exact Nat.le_trans (Wp.done_F _ _ _) (Wp.puts_F s st g C m)
theorem Wp.relAll_F (s : Wp) (st g : Nat) : ∀ m, (s.relAll st g m).F.length ≤ s.F.length
 | 0 => by rw [Wp.relAll_zero]; exact Nat.le_refl _
 | m + 1 => by rw [Wp.relAll_succ]; exact Nat.le_trans (Wp.call_F _ _ _) (Wp.relAll_F s st g m)
theorem Ep.fin_F (e : Ep) (st : Nat) (C : Nat → Nat → Nat) : (e.fin st C).w.F.length ≤ e.w.F.length := by
 have h := Wp.puts_F e.w st (e.gen st) C 6
 unfold Ep.fin
 dsimp only
 split
 ·exact Nat.le_trans (Wp.relAll_F _ _ _ _) h
 ·exact h
theorem Ep.write_F (E : (Nat → Nat) → Nat → Nat → Nat) (e : Ep) (st : Nat) (D : Nat → Nat) : (e.write E st D).1.w.F.length ≤ e.w.F.length := by
 have h := Ep.askN_F (e.up st) (qLg st (e.next st) D) st 8
 have h0 : (e.up st).w = e.w := rfl
 rw [h0] at h
 have hc : ((e.up st).carry E st (e.next st) D).1.w.F.length ≤ e.w.F.length := by
  unfold Ep.carry
  dsimp only
  split
  ·exact h
  ·exact Nat.le_trans (Ep.fin_F _ _ _) h
 unfold Ep.write
 dsimp only
 split
 ·exact hc
 ·exact hc
end Go.Proofs.YtelmcchleclklaaGreat
namespace Go.Proofs.YtelmcchleclklaaGreat.Tr
open Go.RowKit Go.Extern.Stop Go.Stop Go.Extern Go.Extern.Rtype

theorem Tryz.cf33 (args : Array Value) (w : World) : (callFunc 213 args).run Tryz.prog w = ((ReflectliteType.typeOf args).run Tryz.prog w).andThen fun v w' => .ok (.value v) w' :=
 run_callFunc_extern (e := ReflectliteType.typeOf) Tryz.func213 (by kernel_rfl) (by kernel_rfl) (by kernel_rfl) (by kernel_rfl) args w
theorem Tryz.cf94 (args : Array Value) (w : World) : (callFunc 249 args).run Tryz.prog w = (((ReflectliteType.method fun t => do noPackHeld "Comparable" t; pure (.bool (← typeInfo t).comparable)) args).run Tryz.prog w).andThen fun v w' => .ok (.value v) w' :=
 run_callFunc_extern (e := (ReflectliteType.method fun t => do noPackHeld "Comparable" t; pure (.bool (← typeInfo t).comparable))) Tryz.func249 (by kernel_rfl) (by kernel_rfl) (by kernel_rfl) (by kernel_rfl) args w
theorem Tryz.typeOfE (v : Value) (w : World) : (callFunc 213 #[.iface 43 v]).run Tryz.prog w = .ok (.value (.iface 295 (.agg #[(.pointer (some ⟨0, 43, none⟩))]))) w := by
 rw [Tryz.cf33]; exact congrArg (fun r : Result Value => r.andThen fun v w' => Result.ok (Next.value v) w') (show (ReflectliteType.typeOf #[.iface 43 v]).run Tryz.prog w = .ok (.iface 295 (.agg #[(.pointer (some ⟨0, 43, none⟩))])) w from by kernel_rfl)
theorem Tryz.compE (w : World) : (callFunc 249 #[.agg #[(.pointer (some ⟨0, 43, none⟩))]]).run Tryz.prog w = .ok (.value (.bool true)) w := by
 rw [Tryz.cf94]; exact congrArg (fun r : Result Value => r.andThen fun v w' => Result.ok (Next.value v) w') (show ((ReflectliteType.method fun t => do noPackHeld "Comparable" t; pure (.bool (← typeInfo t).comparable)) #[.agg #[(.pointer (some ⟨0, 43, none⟩))]]).run Tryz.prog w = .ok (.bool true) w from by kernel_rfl)
end Go.Proofs.YtelmcchleclklaaGreat.Tr
namespace Go.Proofs.YtelmcchleclklaaGreat.Tr
open Go.RowKit Go.Extern.Stop Go.Stop Go.Extern Go.Extern.Rtype

section
variable {P : Program}
end

section
variable {P : Program}
end
end Go.Proofs.YtelmcchleclklaaGreat.Tr
namespace Go.Proofs.YtelmcchleclklaaGreat.Tr
open Go.RowKit Go.Extern.Stop Go.Stop Go.Extern Go.Extern.Rtype

theorem eqlNil (t : TypeId) (v : Value) (w : World) : (binOp .eql 36 (.iface t v) .nilIface).run Tryz.prog w = .ok (.bool false) w := by kernel_rfl
theorem neqNil (t : TypeId) (v : Value) (w : World) : (binOp .neq 36 (.iface t v) .nilIface).run Tryz.prog w = .ok (.bool true) w := by kernel_rfl
theorem eqlNilNil (w : World) : (binOp .eql 36 .nilIface .nilIface).run Tryz.prog w = .ok (.bool true) w := by kernel_rfl
theorem neqNilNil (w : World) : (binOp .neq 36 .nilIface .nilIface).run Tryz.prog w = .ok (.bool false) w := by kernel_rfl

theorem mComp (x : Addr) (w : World) : (method 437 295 (.agg #[.pointer (some x)]) "Comparable").run Tryz.prog w = .ok (249, .agg #[.pointer (some x)]) w := by kernel_rfl

theorem taUnE (v : Value) (xT : TypeId) (w : World) : (Instr.typeAssert (.iface 43 v) xT 300 true).run Tryz.prog w = .ok (.tuple #[.nilIface, .bool false]) w := run_typeAssert_lacksB Tryz.underlying300 (by kernel_rfl) (by kernel_rfl) v xT w
theorem taUnsE (v : Value) (xT : TypeId) (w : World) : (Instr.typeAssert (.iface 43 v) xT 302 true).run Tryz.prog w = .ok (.tuple #[.nilIface, .bool false]) w := run_typeAssert_lacksB Tryz.underlying302 (by kernel_rfl) (by kernel_rfl) v xT w
theorem taIsE (v : Value) (xT : TypeId) (w : World) : (Instr.typeAssert (.iface 43 v) xT 297 true).run Tryz.prog w = .ok (.tuple #[.nilIface, .bool false]) w := run_typeAssert_lacksB Tryz.underlying297 (by kernel_rfl) (by kernel_rfl) v xT w
theorem taUnN (v : Value) (xT : TypeId) (w : World) : (Instr.typeAssert (.iface 241 v) xT 300 true).run Tryz.prog w = .ok (.tuple #[.iface 241 v, .bool true]) w := run_typeAssert_hasB Tryz.underlying300 (by kernel_rfl) v xT w
theorem taIsN (v : Value) (xT : TypeId) (w : World) : (Instr.typeAssert (.iface 241 v) xT 297 true).run Tryz.prog w = .ok (.tuple #[.nilIface, .bool false]) w := run_typeAssert_lacksB Tryz.underlying297 (by kernel_rfl) (by kernel_rfl) v xT w
theorem taUnF (v : Value) (xT : TypeId) (w : World) : (Instr.typeAssert (.iface 133 v) xT 300 true).run Tryz.prog w = .ok (.tuple #[.iface 133 v, .bool true]) w := run_typeAssert_hasB Tryz.underlying300 (by kernel_rfl) v xT w
theorem taIsF (v : Value) (xT : TypeId) (w : World) : (Instr.typeAssert (.iface 133 v) xT 297 true).run Tryz.prog w = .ok (.tuple #[.nilIface, .bool false]) w := run_typeAssert_lacksB Tryz.underlying297 (by kernel_rfl) (by kernel_rfl) v xT w
theorem taUnA (v : Value) (xT : TypeId) (w : World) : (Instr.typeAssert (.iface 174 v) xT 300 true).run Tryz.prog w = .ok (.tuple #[.nilIface, .bool false]) w := run_typeAssert_lacksB Tryz.underlying300 (by kernel_rfl) (by kernel_rfl) v xT w
theorem taUnsA (v : Value) (xT : TypeId) (w : World) : (Instr.typeAssert (.iface 174 v) xT 302 true).run Tryz.prog w = .ok (.tuple #[.iface 174 v, .bool true]) w := run_typeAssert_hasB Tryz.underlying302 (by kernel_rfl) v xT w
theorem taIsA (v : Value) (xT : TypeId) (w : World) : (Instr.typeAssert (.iface 174 v) xT 297 true).run Tryz.prog w = .ok (.tuple #[.nilIface, .bool false]) w := run_typeAssert_lacksB Tryz.underlying297 (by kernel_rfl) (by kernel_rfl) v xT w
theorem mUnN (a : Addr) (w : World) : (method 437 241 (.pointer (some a)) "Unwrap").run Tryz.prog w = .ok (245, .pointer (some a)) w := by kernel_rfl
theorem naUnN (a : Addr) (w : World) : (nilAhead 437 241 (.pointer (some a)) "Unwrap").run Tryz.prog w = .ok (some false) w := by kernel_rfl
theorem mUnF (a : Addr) (w : World) : (method 437 133 (.pointer (some a)) "Unwrap").run Tryz.prog w = .ok (238, .pointer (some a)) w := by kernel_rfl
theorem naUnF (a : Addr) (w : World) : (nilAhead 437 133 (.pointer (some a)) "Unwrap").run Tryz.prog w = .ok (some false) w := by kernel_rfl
theorem mUnA (a : Addr) (w : World) : (method 437 174 (.pointer (some a)) "Unwrap").run Tryz.prog w = .ok (243, .pointer (some a)) w := by kernel_rfl
theorem naUnA (a : Addr) (w : World) : (nilAhead 437 174 (.pointer (some a)) "Unwrap").run Tryz.prog w = .ok (some false) w := by kernel_rfl
end Go.Proofs.YtelmcchleclklaaGreat.Tr
namespace Go.Proofs.YtelmcchleclklaaGreat.Tr
open Go.RowKit

abbrev Nd := Value × Option Int

def Err (w : World) (B : Nat) : Nat → Value → List Int → List Nd → List Int → Prop
 | 0, _, _, _, _ => False
 | d + 1, v, cs, ns, ss =>
  (∃ n, v = .iface 43 (.int .i64 n) ∧ cs = [n] ∧ ns = [(v, none)] ∧ ss = []) ∨
  (∃ b n x ns', v = .iface 241 (.pointer (some ⟨b, 0, none⟩)) ∧ b < B ∧ w.heap[b]? = some (.cells #[.int .i64 n, x] 243 (0, 0)) ∧ Err w B d x cs ns' ss ∧ ns = (v, some n) :: ns') ∨
  (∃ b n x ns' ss', v = .iface 133 (.pointer (some ⟨b, 0, none⟩)) ∧ b < B ∧ w.heap[b]? = some (.cells #[.int .i64 n, x] 135 (0, 0)) ∧ Err w B d x cs ns' ss' ∧ ss = n :: ss' ∧ ns = (v, none) :: ns') ∨
  (∃ b g m cap row, ∃ vs : List (Value × List Int × List Nd × List Int), v = .iface 174 (.pointer (some ⟨b, 0, none⟩)) ∧ b < B ∧ g < B ∧ w.heap[b]? = some (.cells #[.slice (some ⟨g, 0, none⟩) m cap] 176 (0, 0)) ∧
   w.heap[g]? = some (.cells row 36 (0, 0)) ∧ m ≤ cap ∧ m ≤ 1000 ∧ 0 < m ∧ vs.length = m ∧ (∀ (i : Nat) (x : Value × List Int × List Nd × List Int), vs[i]? = some x → row[i]? = some x.1 ∧ Err w B d x.1 x.2.1 x.2.2.1 x.2.2.2) ∧
   cs = (vs.map (·.2.1)).flatten ∧ ns = (v, none) :: (vs.map (·.2.2.1)).flatten ∧ ss = (vs.map (·.2.2.2)).flatten)

theorem Err.below {w w' : World} {B : Nat} (h : Below B w w') : ∀ (d : Nat) {v : Value} {cs : List Int} {ns : List Nd} {ss : List Int}, Err w B d v cs ns ss → Err w' B d v cs ns ss
 | 0, _, _, _, _, e => e.elim
 | d + 1, _, _, _, _, e => by
  rcases e with e | ⟨b, n, x, ns', e1, e2, e3, e4, e5⟩ | ⟨b, n, x, ns', ss', e1, e2, e3, e4, e5⟩ | ⟨b, g, m, cap, row, vs, e1, e2, e3, e4, e5, e6, e7, e7', e8, e9, e10⟩
  ·exact .inl e
  ·exact .inr (.inl ⟨b, n, x, ns', e1, e2, by rw [h.block b e2]; exact e3, Err.below h d e4, e5⟩)
  ·exact .inr (.inr (.inl ⟨b, n, x, ns', ss', e1, e2, by rw [h.block b e2]; exact e3, Err.below h d e4, e5⟩))
  ·exact .inr (.inr (.inr ⟨b, g, m, cap, row, vs, e1, e2, e3, by rw [h.block b e2]; exact e4, by rw [h.block g e3]; exact e5, e6, e7, e7', e8, fun i x hx => ⟨(e9 i x hx).1, Err.below h d (e9 i x hx).2⟩, e10⟩))

theorem Err.mono {w : World} {B B' : Nat} (h : B ≤ B') : ∀ (d : Nat) {v : Value} {cs : List Int} {ns : List Nd} {ss : List Int}, Err w B d v cs ns ss → Err w B' d v cs ns ss
 | 0, _, _, _, _, e => e.elim
 | d + 1, _, _, _, _, e => by
  rcases e with e | ⟨b, n, x, ns', e1, e2, e3, e4, e5⟩ | ⟨b, n, x, ns', ss', e1, e2, e3, e4, e5⟩ | ⟨b, g, m, cap, row, vs, e1, e2, e3, e4, e5, e6, e7, e7', e8, e9, e10⟩
  ·exact .inl e
  ·exact .inr (.inl ⟨b, n, x, ns', e1, by omega, e3, Err.mono h d e4, e5⟩)
  ·exact .inr (.inr (.inl ⟨b, n, x, ns', ss', e1, by omega, e3, Err.mono h d e4, e5⟩))
  ·exact .inr (.inr (.inr ⟨b, g, m, cap, row, vs, e1, by omega, by omega, e4, e5, e6, e7, e7', e8, fun i x hx => ⟨(e9 i x hx).1, Err.mono h d (e9 i x hx).2⟩, e10⟩))

theorem Err.deeper {w : World} {B : Nat} : ∀ (d : Nat) {v : Value} {cs : List Int} {ns : List Nd} {ss : List Int}, Err w B d v cs ns ss → Err w B (d + 1) v cs ns ss
 | 0, _, _, _, _, e => e.elim
 | d + 1, _, _, _, _, e => by
  rcases e with e | ⟨b, n, x, ns', e1, e2, e3, e4, e5⟩ | ⟨b, n, x, ns', ss', e1, e2, e3, e4, e5⟩ | ⟨b, g, m, cap, row, vs, e1, e2, e3, e4, e5, e6, e7, e7', e8, e9, e10⟩
  ·exact .inl e
  ·exact .inr (.inl ⟨b, n, x, ns', e1, e2, e3, Err.deeper d e4, e5⟩)
  ·exact .inr (.inr (.inl ⟨b, n, x, ns', ss', e1, e2, e3, Err.deeper d e4, e5⟩))
  ·exact .inr (.inr (.inr ⟨b, g, m, cap, row, vs, e1, e2, e3, e4, e5, e6, e7, e7', e8, fun i x hx => ⟨(e9 i x hx).1, Err.deeper d (e9 i x hx).2⟩, e10⟩))

theorem Err.deep {w : World} {B d d' : Nat} (h : d ≤ d') {v : Value} {cs : List Int} {ns : List Nd} {ss : List Int} (e : Err w B d v cs ns ss) : Err w B d' v cs ns ss := by
 obtain ⟨k, rfl⟩ := Nat.exists_eq_add_of_le h
 induction k with
 | zero => exact e
 | succ k ih => exact Err.deeper _ (ih (by omega))

theorem Err.iface {w : World} {B d : Nat} {v : Value} {cs : List Int} {ns : List Nd} {ss : List Int} (e : Err w B d v cs ns ss) : ∃ t x, v = .iface t x := by
 cases d with
 | zero => exact e.elim
 | succ d => rcases e with ⟨n, rfl, _⟩ | ⟨b, n, x, ns', rfl, _⟩ | ⟨b, n, x, ns', ss', rfl, _⟩ | ⟨b, g, m, cap, row, vs, rfl, _⟩ <;> exact ⟨_, _, rfl⟩

set_option maxHeartbeats 400000 in
theorem onUnwrap (b : Nat) (n x : Value) (w : World) (h : w.heap[b]? = some (.cells #[n, x] 243 (0, 0))) :
  Calls Tryz.prog 245 #[.pointer (some ⟨b, 0, none⟩)] w fun e w' => e = .returned x ∧ w = w' := by
 have hc : w.cell? ⟨b, 1, none⟩ = some x := by simp [World.cell?, h]
 clear h
 go_enter Tryz.func245, Tryz.ntmps245
 go_wp2
 go_ret
 exact ⟨rfl, rfl⟩

set_option maxHeartbeats 400000 in
theorem ofUnwrap (b : Nat) (n x : Value) (w : World) (h : w.heap[b]? = some (.cells #[n, x] 135 (0, 0))) :
  Calls Tryz.prog 238 #[.pointer (some ⟨b, 0, none⟩)] w fun e w' => e = .returned x ∧ w = w' := by
 have hc : w.cell? ⟨b, 1, none⟩ = some x := by simp [World.cell?, h]
 clear h
 go_enter Tryz.func238, Tryz.ntmps238
 go_wp2
 go_ret
 exact ⟨rfl, rfl⟩

end Go.Proofs.YtelmcchleclklaaGreat.Tr
namespace Go.Proofs.YtelmcchleclklaaGreat.Tr
open Go.RowKit

theorem info24 : (Tryz.prog.info? 36).map (fun i => (i.zero, i.size, i.bytes)) = some (some .nilIface, 1, 16) := by kernel_rfl

theorem cell_add {w : World} {g j : Nat} {row : Array Value} {t : TypeId} {fr : Nat × Nat} {u : Value} (hg : w.heap[g]? = some (.cells row t fr)) (hj : row[j]? = some u) : w.cell? ((⟨g, 0, none⟩ : Addr).add j) = some u := by
 by_cases h0 : j = 0
 ·subst h0; simp [World.cell?, Addr.add, hg, hj]
 ·simp [World.cell?, Addr.add, hg, hj, h0]

set_option maxHeartbeats 400000 in
theorem allUnwrap (b g m cap : Nat) (row : Array Value) (w : World) (h : w.heap[b]? = some (.cells #[.slice (some ⟨g, 0, none⟩) m cap] 176 (0, 0))) (hg : w.heap[g]? = some (.cells row 36 (0, 0)))
  (hm : m ≤ 1000) (h0 : 0 < m) (hr : m ≤ row.size) (h1 : ∀ x ∈ row.toList.take m, Value.oneCell' x = true) :
  Calls Tryz.prog 243 #[.pointer (some ⟨b, 0, none⟩)] w fun e w' => ∃ v, e = .returned v ∧ w'.ownsRow w.heap.size 36 1 v m (row.toList.take m) ∧ Below w.heap.size w w' ∧ v ≠ .slice none 0 0 := by
 have hc : w.cell? ⟨b, 0, none⟩ = some (.slice (some ⟨g, 0, none⟩) m cap) := by simp [World.cell?, h]
 obtain ⟨i0, hi, hz0, hz1, hz2⟩ := info_parts info24
 have HG := Lib.hid hg
 have H1 := Lib.hid h1
 clear h hg h1
 go_enter Tryz.func243, Tryz.ntmps243
 go_wp2_with (at_builtin; refine wpList_append_own _ rfl _ _ 128 rfl w.heap.size 36 i0 .nilIface 1 16 Tryz.underlying128 hi hz0 hz1 hz2 rfl (by decide) _ _ _ rfl (World.ownsRow_nil _ _ _ _) ⟨g, 0, none⟩ m cap (row.toList.take m) rfl ?c1 ?c2 ?c3 ?c4 ?c5 ?c6 ?_)
 case c1 => simp; omega
 case c2 =>
  intro j u hj
  have hg := HG.out
  rw [List.getElem?_take] at hj
  split at hj
  ·exact cell_add hg (by simpa using hj)
  ·cases hj
 case c3 => exact H1.out
 case c4 => unfold maxLen; omega
 case c5 => omega
 case c6 => exact Nat.le_refl _
 intro v' w' hown hgrow hnil
 have HO := Lib.hid hown
 have HW := Lib.hid hgrow
 have HN := Lib.hid hnil
 clear hown hgrow hnil
 go_wp2
 go_ret
 refine ⟨v', rfl, ?_, (Below.refl _ _).grown HW.out (Nat.le_refl _) (fun k hk => by cases hk), fun e => ?_⟩
 ·exact HO.out
 ·have := HN.out.1 e; omega

theorem take_row {α : Type} (row : Array Value) (m : Nat) (vs : List (Value × α)) (hl : vs.length = m) (h : ∀ (i : Nat) (x : Value × α), vs[i]? = some x → row[i]? = some x.1) : row.toList.take m = vs.map (·.1) := by
 apply List.ext_getElem?
 intro i
 rw [List.getElem?_take, List.getElem?_map]
 by_cases hi : i < m
 ·rw [if_pos hi]
  have hv : i < vs.length := by omega
  have := h i vs[i] (List.getElem?_eq_getElem hv)
  rw [List.getElem?_eq_getElem hv]
  simpa using this
 ·rw [if_neg hi, List.getElem?_eq_none (by omega)]; rfl

theorem owns_open {w : World} {base m : Nat} {t : TypeId} {v : Value} {xs : List Value} (h : w.ownsRow base t 1 v m xs) (hn : v ≠ .slice none 0 0) :
  ∃ g cap, v = .slice (some ⟨g, 0, none⟩) m cap ∧ base ≤ g ∧ g < w.heap.size ∧ m ≤ cap ∧ cap ≤ maxLen ∧ ∀ i y, xs[i]? = some y → w.cell? ⟨g, i, none⟩ = some y := by
 obtain ⟨_, h | ⟨g, cap, cur, rfl, hb, hg, h1, h2, h3, h4⟩⟩ := h
 ·exact absurd h.1 hn
 ·refine ⟨g, cap, rfl, hb, ?_, h1, h2, fun i y hy => ?_⟩
  ·by_cases hlt : g < w.heap.size
   ·exact hlt
   ·rw [Array.getElem?_eq_none (by omega)] at hg; cases hg
  ·rw [← h4, List.getElem?_take] at hy
   split at hy
   ·simp only [Array.getElem?_toList] at hy
    simp [World.cell?, hg, hy]
   ·cases hy

end Go.Proofs.YtelmcchleclklaaGreat.Tr
namespace Go.Proofs.YtelmcchleclklaaGreat.Tr
open Go.RowKit Go.Extern.Stop Go.Stop Go.Extern Go.Extern.Rtype

def anyN (F : Value → Bool) (ns : List Nd) : Bool := ns.any fun x => F x.1
theorem anyN_cons (F : Value → Bool) (v : Value) (o : Option Int) (ns : List Nd) : anyN F ((v, o) :: ns) = (F v || anyN F ns) := rfl
theorem anyN_flat {α : Type} (F : Value → Bool) (f : α → List Nd) : ∀ (l : List α), (∀ (j : Nat) (z : α), l[j]? = some z → anyN F (f z) = false) → anyN F (l.map f).flatten = false
 | [], _ => rfl
 | a :: l, h => by
  have h0 := h 0 a rfl
  have := anyN_flat F f l (fun j z hz => h (j + 1) z (by simpa using hz))
  unfold anyN at *
  simp only [List.map_cons, List.flatten_cons, List.any_append, h0, this, Bool.or_self]
theorem anyN_hit {α : Type} (F : Value → Bool) (f : α → List Nd) (l : List α) (i : Nat) (z : α) (h : l[i]? = some z) (hz : anyN F (f z) = true) : anyN F (l.map f).flatten = true := by
 unfold anyN at *
 rw [List.any_eq_true] at hz ⊢
 obtain ⟨x, hx, hF⟩ := hz
 exact ⟨x, List.mem_flatten.2 ⟨f z, List.mem_map.2 ⟨z, List.mem_of_getElem? h, rfl⟩, hx⟩, hF⟩
theorem mem_flat {α : Type} (f : α → List Nd) (l : List α) (i : Nat) (z : α) (h : l[i]? = some z) (x : Nd) (hx : x ∈ f z) : x ∈ (l.map f).flatten :=
 List.mem_flatten.2 ⟨f z, List.mem_map.2 ⟨z, List.mem_of_getElem? h, rfl⟩, hx⟩

def EqAs (F : Value → Bool) (tv : Value) (B : Nat) (w : World) (ns : List Nd) : Prop := ∀ w', Below B w w' → ∀ x ∈ ns, (binOp .eql 36 x.1 tv).run Tryz.prog w' = .ok (.bool (F x.1)) w'

def IsPost (F : Value → Bool) (ns : List Nd) (w : World) (e : Ending) (w' : World) : Prop := e = .returned (.bool (anyN F ns)) ∧ Below w.heap.size w w'

def Is34 (d : Nat) : Prop := ∀ v cs ns ss w B F tt tx, Err w B d v cs ns ss → B ≤ w.heap.size → EqAs F (.iface tt tx) B w ns →
 Calls Tryz.prog 214 #[v, .iface tt tx, .bool true] w (IsPost F ns w)

set_option maxRecDepth 100000 in
set_option maxHeartbeats 1000000 in
theorem is34 (d : Nat) (ih : ∀ k, k < d → Is34 k) : Is34 d := by
 intro v cs ns ss w B F tt tx herr hBw heq
 have HE := Lib.hid herr
 have HQ := Lib.hid heq
 have IH := Lib.hid ih
 clear herr ih heq
 go_enter Tryz.func214, Tryz.ntmps214
 go_wp2_with fail
 go_loopg [0] d (fun k s0 wr => k ≤ d ∧ (∃ cs' ns' ss', Hid (Err wr B k s0 cs' ns' ss' ∧ anyN F ns' = anyN F ns ∧ ∀ x ∈ ns', x ∈ ns)) ∧ Below w.heap.size w wr)
 case atStart => exact ⟨Nat.le_refl _, ⟨cs, ns, ss, Lib.hid ⟨HE.out, rfl, fun _ h => h⟩⟩, Below.refl _ _⟩
 case round =>
  obtain ⟨hkd, ⟨cs', ns', ss', HR⟩, hb⟩ := hrel
  have HB := Lib.hid hb
  clear hb
  obtain ⟨hr, hany, hsub⟩ := HR.out
  cases gk with
  | zero => exact hr.elim
  | succ k =>
   have q := eqlNil
   have hbB : Below B w wr := HB.out.mono hBw
   rcases hr with ⟨n, rfl, h1, h2, h3⟩ | ⟨b, n, y, ns2, rfl, h1, h2, h3, h4⟩ | ⟨b, n, y, ns2, ss2, rfl, h1, h2, h3, h4, h5⟩ | ⟨b, g, m, cap, row, vs, rfl, h1, h2, h3, h4, h5, h6, h7, h8, h9, h10, h11, h12⟩
   ·have heq := HQ.out wr hbB _ (hsub _ (by rw [h2]; exact List.mem_singleton.2 rfl))
    rw [h2, anyN_cons] at hany
    have t6 := taIsE
    have t7 := taUnE
    have t8 := taUnsE
    clear h1 h2 h3 HE IH hsub hbB HR
    cases hF : F (.iface 43 (.int .i64 n))
    ·rw [hF] at heq hany
     have HA := Lib.hid hany
     clear hany hF
     go_wp2
     go_ret
     exact ⟨by rw [← HA.out]; rfl, HB.out⟩
    ·rw [hF] at heq hany
     have HA := Lib.hid hany
     clear hany hF
     go_wp2
     go_ret
     exact ⟨by rw [← HA.out]; rfl, HB.out⟩
   ·have heq := HQ.out wr hbB _ (hsub _ (by rw [h4]; exact List.mem_cons_self))
    have hsub2 : ∀ x ∈ ns2, x ∈ ns := fun x hx => hsub x (by rw [h4]; exact List.mem_cons_of_mem _ hx)
    rw [h4, anyN_cons] at hany
    have t6 := taIsN
    have t7 := taUnN
    have t9 := mUnN
    have t10 := naUnN
    obtain ⟨ty, y', rfl⟩ := h3.iface
    have H2 := Lib.hid h2
    clear h2 HE IH hsub hbB HR h4
    cases hF : F (.iface 241 (.pointer (some ⟨b, 0, none⟩)))
    ·rw [hF] at heq hany
     have H3 := Lib.hid (And.intro h3 (And.intro hany hsub2))
     clear hany hF h3 hsub2
     go_wp2_with (go_at_call 245; refine (onUnwrap b _ _ _ H2.out).mono ?_; rintro e w' ⟨rfl, rfl⟩)
     go_roundg k
     case measure => omega
     case rel => exact ⟨by omega, ⟨_, _, _, Lib.hid ⟨H3.out.1, by rw [← H3.out.2.1]; rfl, H3.out.2.2⟩⟩, HB.out⟩
    ·rw [hF] at heq hany
     have HA := Lib.hid hany
     clear hany hF h3 hsub2
     go_wp2_with fail
     go_ret
     exact ⟨by rw [← HA.out]; rfl, HB.out⟩
   ·have heq := HQ.out wr hbB _ (hsub _ (by rw [h5]; exact List.mem_cons_self))
    have hsub2 : ∀ x ∈ ns2, x ∈ ns := fun x hx => hsub x (by rw [h5]; exact List.mem_cons_of_mem _ hx)
    rw [h5, anyN_cons] at hany
    have t6 := taIsF
    have t7 := taUnF
    have t9 := mUnF
    have t10 := naUnF
    obtain ⟨ty, y', rfl⟩ := h3.iface
    have H2 := Lib.hid h2
    clear h2 HE IH hsub hbB HR h4 h5
    cases hF : F (.iface 133 (.pointer (some ⟨b, 0, none⟩)))
    ·rw [hF] at heq hany
     have H3 := Lib.hid (And.intro h3 (And.intro hany hsub2))
     clear hany hF h3 hsub2
     go_wp2_with (go_at_call 238; refine (ofUnwrap b _ _ _ H2.out).mono ?_; rintro e w' ⟨rfl, rfl⟩)
     go_roundg k
     case measure => omega
     case rel => exact ⟨by omega, ⟨_, _, _, Lib.hid ⟨H3.out.1, by rw [← H3.out.2.1]; rfl, H3.out.2.2⟩⟩, HB.out⟩
    ·rw [hF] at heq hany
     have HA := Lib.hid hany
     clear hany hF h3 hsub2
     go_wp2_with fail
     go_ret
     exact ⟨by rw [← HA.out]; rfl, HB.out⟩
   ·obtain ⟨wo, rfl⟩ : ∃ wo : World, wo = wr := ⟨wr, rfl⟩
    have heq := HQ.out wo hbB _ (hsub _ (by rw [h11]; exact List.mem_cons_self))
    have hsub2 : ∀ x ∈ (vs.map (·.2.2.1)).flatten, x ∈ ns := fun x hx => hsub x (by rw [h11]; exact List.mem_cons_of_mem _ hx)
    rw [h11, anyN_cons] at hany
    have t6 := taIsA
    have t7 := taUnA
    have t8 := taUnsA
    have t9 := mUnA
    have t10 := naUnA
    have hrow := take_row row m vs h8 (fun i x hx => (h9 i x hx).1)
    have hsz : m ≤ row.size := by
     have := congrArg List.length hrow
     simp at this; omega
    have hone : ∀ y ∈ row.toList.take m, Value.oneCell' y = true := by
     intro y hy
     rw [hrow] at hy
     obtain ⟨z, hz, rfl⟩ := List.mem_map.1 hy
     obtain ⟨i, hi⟩ := List.mem_iff_getElem?.1 hz
     obtain ⟨t, u, hu⟩ := (h9 i z hi).2.iface
     rw [hu]; rfl
    have HH := Lib.hid (And.intro h3 (And.intro h4 (And.intro h9 (And.intro hrow (And.intro hsz (And.intro hone hsub2))))))
    clear h3 h4 h9 hrow hsz hone h10 h11 h12 HR HE hsub hsub2 hbB
    cases hF : F (.iface 174 (.pointer (some ⟨b, 0, none⟩)))
    case true =>
     rw [hF] at heq hany
     have HA := Lib.hid hany
     clear hany hF
     go_wp2_with fail
     go_ret
     exact ⟨by rw [← HA.out]; rfl, HB.out⟩
    rw [hF] at heq hany
    have HA := Lib.hid hany
    clear hany hF
    go_wp2_with (go_at_call 243; refine (allUnwrap b g m cap row _ HH.out.1 HH.out.2.1 h6 h7 HH.out.2.2.2.2.1 HH.out.2.2.2.2.2.1).mono ?_; rintro e w1 ⟨v1, rfl, ho, hb1, hn⟩)
    rw [HH.out.2.2.2.1] at ho
    obtain ⟨g1, cap1, rfl, hg1, hg2, hcap, hmax, hcell⟩ := owns_open ho hn
    have HC := Lib.hid hcell
    have HB1 := Lib.hid hb1
    clear ho hn hcell hb1
    have hlen : ∀ (w : World) (a : Option Addr) (n c : Nat), (Builtin.len_ #[128] 3 #[.slice a n c]).run Tryz.prog w = .ok (.int .i64 n) w := fun _ _ _ _ => by kernel_rfl
    go_wp2
    rw [hlen]
    go_wp2
    go_loopg [45] m (fun q s45 wr => ∃ i : Nat, s45 = .int .i64 i ∧ i ≤ m ∧ q = m - i ∧ Below w1.heap.size w1 wr ∧ Hid (∀ (j : Nat) (z : Value × List Int × List Nd × List Int), j < i → vs[j]? = some z → anyN F z.2.2.1 = false))
    case atStart => exact ⟨0, rfl, by omega, rfl, Below.refl _ _, Lib.hid (fun j z hj => absurd hj (by omega))⟩
    case round =>
     obtain ⟨i, rfl, hi, rfl, hbx, HD⟩ := hrel
     have hmx : m ≤ 9223372036854775807 := by omega
     have hbw : Below wo.heap.size wo wr := HB1.out.trans (hbx.mono HB1.out.size)
     have hBo : B ≤ wo.heap.size := Nat.le_trans hBw HB.out.size
     by_cases hlt : i < m
     ·have hz : vs[i]? = some vs[i] := List.getElem?_eq_getElem (by omega)
      generalize vs[i] = z at hz
      have hcell : wr.cell? ⟨g1, i, none⟩ = some z.1 := by
       rw [hbx.cell (p := ⟨g1, i, none⟩) hg2]
       exact HC.out i z.1 (by rw [List.getElem?_map, hz]; rfl)
      obtain ⟨tz, uz, huz⟩ := (HH.out.2.2.1 i z hz).2.iface
      have HZ := Lib.hid hz
      have HX := Lib.hid hbx
      have HW := Lib.hid hbw
      have HUZ := Lib.hid huz
      rw [huz] at hcell
      clear hz hbx hbw huz
      go_wp2_with fail
      refine (IH.out k (by omega) _ z.2.1 z.2.2.1 z.2.2.2 _ B F tt tx (by have := (HH.out.2.2.1 i z HZ.out).2.below (HW.out.mono hBo); rw [HUZ.out] at this; exact this) (by have := HW.out.size; omega)
       (fun w' hw' x hx => HQ.out w' ((HB.out.mono hBw).trans ((HW.out.mono hBo).trans hw')) x (HH.out.2.2.2.2.2.2 x (mem_flat (·.2.2.1) vs i z HZ.out x hx)))).mono ?_
      rintro e w2 ⟨rfl, hb2⟩
      have HB2 := Lib.hid hb2
      clear hb2
      cases hA : anyN F z.2.2.1
      ·have HL := Lib.hid hA
       clear hA
       go_wp2_with fail
       go_roundg (m - (i + 1))
       case measure => omega
       case rel =>
        refine ⟨i + 1, by go_num, by omega, rfl, HX.out.trans (HB2.out.mono HX.out.size), Lib.hid fun j y hj hy => ?_⟩
        by_cases hji : j < i
        ·exact HD.out j y hji hy
        ·obtain rfl : j = i := by omega
         rw [HZ.out] at hy; cases hy
         exact HL.out
      ·have HL := Lib.hid hA
       clear hA
       go_wp2_with fail
       go_ret
       refine ⟨?_, HB.out.trans ((HW.out.trans (HB2.out.mono HW.out.size)).mono HB.out.size)⟩
       rw [← HA.out, anyN_hit F (·.2.2.1) vs i z HZ.out HL.out]; rfl
     ·obtain rfl : i = m := by omega
      have HX := Lib.hid hbx
      have HW := Lib.hid hbw
      clear hbx hbw
      go_wp2_with fail
      go_ret
      refine ⟨?_, HB.out.trans (HW.out.mono HB.out.size)⟩
      rw [← HA.out, anyN_flat F (·.2.2.1) vs (fun j z hz => HD.out j z (by have := (List.getElem?_eq_some_iff.1 hz).1; omega) hz)]; rfl

theorem is34_all (d : Nat) : Is34 d := by
 induction d using Nat.strongRecOn with
 | _ d ih => exact is34 d ih

end Go.Proofs.YtelmcchleclklaaGreat.Tr
