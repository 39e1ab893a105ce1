import Derived.Test.YtelmcchleclklaaGreatV27
import Derived.Outline
import Derived.Recover
namespace Go.Proofs.YtelmcchleclklaaGreat.Tr
open Go.RowKit Go.Extern.Stop Go.Stop Go.Extern Go.Extern.Rtype

end Go.Proofs.YtelmcchleclklaaGreat.Tr
namespace Go.Proofs.YtelmcchleclklaaGreat.Tr
open Go.RowKit Go.Extern.Stop Go.Stop Go.Extern Go.Extern.Rtype

end Go.Proofs.YtelmcchleclklaaGreat.Tr
namespace Go.Proofs.YtelmcchleclklaaGreat.Tr
open Go.RowKit Go.Extern.Stop Go.Stop Go.Extern Go.Extern.Rtype

def ErrType (w : World) : Prop := w.cell? ⟨0, 0, none⟩ = some (.iface 295 (.agg #[.pointer (some ⟨0, 36, none⟩)]))

end Go.Proofs.YtelmcchleclklaaGreat.Tr
namespace Go.Proofs.YtelmcchleclklaaGreat.Tr
open Go.RowKit Go.Extern.Stop Go.Stop Go.Extern Go.Extern.Rtype

theorem holdsIdle (p : Addr) (w : World) :
  CallsD Tryz.prog 205 #[.pointer (some p)] .returning w fun e u' w' => e = .returned (.tuple #[]) ∧ u' = .returning ∧ w' = w := by
 refine callsD_of_wpS Tryz.func205 rfl fun c₀ cs hu => ?_
 apply wpS_seq
 apply wpS_region
 simp [wpOpsS, go_sem, recoverD, hu, Tryz.ntmps205, Exit.thenS]
 refine wpS_cond (t := false) (by simp [Act.eval, Array.replicate]) ?_
 simp only [Bool.false_eq_true, if_false]
 refine wpS_of_wp (wp_skip ?_)
 cases c₀
 simp_all [bodyPostS, results]

end Go.Proofs.YtelmcchleclklaaGreat.Tr
namespace Go.Proofs.YtelmcchleclklaaGreat.Tr
open Go.RowKit Go.Extern.Stop Go.Stop Go.Extern Go.Extern.Rtype

end Go.Proofs.YtelmcchleclklaaGreat.Tr
namespace Go.Proofs.YtelmcchleclklaaGreat.Tr
open Go.RowKit Go.Extern.Stop Go.Stop Go.Extern Go.Extern.Rtype

structure Target (tt : TypeId) : Prop where
 typeOf : ∀ v w, (callFunc 213 #[.iface tt v]).run Tryz.prog w = .ok (.value (.iface 295 (.agg #[.pointer (some ⟨0, tt, none⟩)]))) w
 comp : ∀ w, (callFunc 249 #[.agg #[.pointer (some ⟨0, tt, none⟩)]]).run Tryz.prog w = .ok (.value (.bool true)) w
theorem target26 : Target 43 := ⟨Tryz.typeOfE, Tryz.compE⟩
set_option maxRecDepth 100000 in
set_option maxHeartbeats 1000000 in
theorem is22 (d : Nat) (v : Value) (cs : List Int) (ns : List Nd) (ss : List Int) (w : World) (B : Nat) (F : Value → Bool) (tt : TypeId) (tx : Value) (ht : Target tt) (herr : Err w B d v cs ns ss) (hB : B ≤ w.heap.size) (hq : EqAs F (.iface tt tx) B w ns) :
  Calls Tryz.prog 206 #[v, .iface tt tx] w (IsPost F ns w) := by
 obtain ⟨t, u, rfl⟩ := herr.iface
 have q1 := eqlNil
 have c1 := ht.typeOf
 have c2 := ht.comp
 have m1 := mComp
 have HE := Lib.hid herr
 have HQ := Lib.hid hq
 clear herr hq ht
 go_enter Tryz.func206, Tryz.ntmps206
 go_wp2_with fail
 refine (is34_all d _ cs ns ss _ B F tt tx HE.out hB HQ.out).mono ?_
 rintro e w' ⟨rfl, hb⟩
 have HB := Lib.hid hb
 clear hb
 go_wp2_with fail
 go_ret
 exact ⟨rfl, HB.out⟩

theorem eqlNilL (tt : TypeId) (tx : Value) (w : World) : (binOp .eql 36 .nilIface (.iface tt tx)).run Tryz.prog w = .ok (.bool false) w := by kernel_rfl

set_option maxRecDepth 100000 in
set_option maxHeartbeats 1000000 in
theorem is22_nil (tt : TypeId) (tx : Value) (w : World) :
  Calls Tryz.prog 206 #[.nilIface, .iface tt tx] w fun e w' => e = .returned (.bool false) ∧ w = w' := by
 have q1 := eqlNilNil
 have q2 := eqlNilL
 go_enter Tryz.func206, Tryz.ntmps206
 go_wp2_with fail
 go_ret
 exact ⟨rfl, rfl⟩

theorem Err.parts {w : World} {B : Nat} : ∀ (d : Nat) {v : Value} {cs : List Int} {ns : List Nd} {ss : List Int}, Err w B d v cs ns ss → ∀ x ∈ ns, (∃ n, x.1 = .iface 43 (.int .i64 n)) ∨ (∃ t b c ty, t ≠ 43 ∧ x.1 = .iface t (.pointer (some ⟨b, 0, none⟩)) ∧ b < B ∧ w.heap[b]? = some (.cells c ty (0, 0)) ∧ (t = 241 ∨ t = 174 ∨ t = 133))
 | 0, _, _, _, _, e => e.elim
 | d + 1, _, _, _, _, e => by
  intro x hx
  rcases e with ⟨n, rfl, _, rfl, _⟩ | ⟨b, n, y, ns', rfl, e2, e3, e4, rfl⟩ | ⟨b, n, y, ns', ss', rfl, e2, e3, e4, e5, rfl⟩ | ⟨b, g, m, cap, row, vs, rfl, e2, e3, e4, e5, e6, e7, e7', e8, e9, e10, rfl, e11⟩
  ·rw [List.mem_singleton.1 hx]; exact .inl ⟨n, rfl⟩
  ·rcases List.mem_cons.1 hx with rfl | hx
   ·exact .inr ⟨241, b, _, _, by decide, rfl, e2, e3, by decide⟩
   ·exact Err.parts d e4 x hx
  ·rcases List.mem_cons.1 hx with rfl | hx
   ·exact .inr ⟨133, b, _, _, by decide, rfl, e2, e3, by decide⟩
   ·exact Err.parts d e4 x hx
  ·rcases List.mem_cons.1 hx with rfl | hx
   ·exact .inr ⟨174, b, _, _, by decide, rfl, e2, e4, by decide⟩
   ·obtain ⟨l, hl, hx⟩ := List.mem_flatten.1 hx
    obtain ⟨z, hz, rfl⟩ := List.mem_map.1 hl
    obtain ⟨i, hi⟩ := List.mem_iff_getElem?.1 hz
    exact Err.parts d (e9 i z hi).2 x hx

def isCode (m : Int) : Value → Bool
 | .iface 43 (.int .i64 n) => n == m
 | _ => false

def hasCode (m : Int) (cs : List Int) : Bool := cs.contains m

theorem anyN_code {w : World} {B : Nat} (m : Int) : ∀ (d : Nat) {v : Value} {cs : List Int} {ns : List Nd} {ss : List Int}, Err w B d v cs ns ss → anyN (isCode m) ns = hasCode m cs
 | 0, _, _, _, _, e => e.elim
 | d + 1, _, _, _, _, e => by
  rcases e with ⟨n, rfl, rfl, rfl, _⟩ | ⟨b, n, y, ns', rfl, e2, e3, e4, rfl⟩ | ⟨b, n, y, ns', ss', rfl, e2, e3, e4, e5, rfl⟩ | ⟨b, g, m', cap, row, vs, rfl, e2, e3, e4, e5, e6, e7, e7', e8, e9, rfl, rfl, e11⟩
  ·rw [anyN_cons]; simp only [isCode, anyN, hasCode, List.any_nil, Bool.or_false, List.contains_cons, List.contains_nil]; rw [Bool.eq_iff_iff]; simp only [beq_iff_eq]; exact eq_comm
  ·rw [anyN_cons, anyN_code m d e4]; rfl
  ·rw [anyN_cons, anyN_code m d e4]; rfl
  ·rw [anyN_cons]
   have hf : isCode m (.iface 174 (.pointer (some ⟨b, 0, none⟩))) = false := rfl
   rw [hf, Bool.false_or, Bool.eq_iff_iff]
   unfold anyN hasCode
   simp only [List.any_eq_true, List.contains_iff_mem, List.mem_flatten, List.mem_map]
   constructor
   ·rintro ⟨x, ⟨l, ⟨z, hz, rfl⟩, hx⟩, hF⟩
    obtain ⟨i, hi⟩ := List.mem_iff_getElem?.1 hz
    have := anyN_code m d (e9 i z hi).2
    have h2 : anyN (isCode m) z.2.2.1 = true := List.any_eq_true.2 ⟨x, hx, hF⟩
    rw [this] at h2
    unfold hasCode at h2
    exact ⟨_, ⟨z, hz, rfl⟩, List.contains_iff_mem.1 h2⟩
   ·rintro ⟨l, ⟨z, hz, rfl⟩, hx⟩
    obtain ⟨i, hi⟩ := List.mem_iff_getElem?.1 hz
    have := anyN_code m d (e9 i z hi).2
    unfold hasCode at this
    rw [List.contains_iff_mem.2 hx] at this
    obtain ⟨x, hx, hF⟩ := List.any_eq_true.1 this
    exact ⟨x, ⟨_, ⟨z, hz, rfl⟩, hx⟩, hF⟩

theorem comp26 : (Tryz.prog.info? 43).map (·.comparable) = some true := by kernel_rfl

theorem eqlInts (a b : Int) (w : World) : (binOp .eql 36 (.iface 43 (.int .i64 a)) (.iface 43 (.int .i64 b))).run Tryz.prog w = .ok (.bool (a == b)) w := by
 obtain ⟨i, hi, hcmp⟩ := Option.map_eq_some_iff.1 comp26
 have h : ∀ d : Nat, (Op.equalIn (d + 2) 36 (.iface 43 (.int .i64 a)) (.iface 43 (.int .i64 b))).run Tryz.prog w = .ok (a == b) w := fun d => by
  simp [Op.equalIn, run_underlying Tryz.underlying36, run_underlying Tryz.underlying43, typeInfo, hi, hcmp]
 simp only [binOp]
 simp [Op.equal, Op.maxDepth, h 9998]

theorem eqAs_code {w : World} {B d : Nat} {v : Value} {cs : List Int} {ns : List Nd} {ss : List Int} (m : Int) (e : Err w B d v cs ns ss) : EqAs (isCode m) (.iface 43 (.int .i64 m)) B w ns := by
 intro w' _ x hx
 rcases e.parts d x hx with ⟨n, hn⟩ | ⟨t, b, c, ty, hne, hv, _⟩
 ·rw [hn]; exact eqlInts n m w'
 ·rw [hv, run_eql_iface_types t 43 _ _ Tryz.underlying36 hne w']
  have : isCode m (.iface t (.pointer (some ⟨b, 0, none⟩))) = false := by unfold isCode; split <;> simp_all
  rw [this]

set_option maxRecDepth 100000 in
set_option maxHeartbeats 1000000 in
theorem holds25 (d : Nat) (v : Value) (cs : List Int) (ns : List Nd) (ss : List Int) (w : World) (m : Int) (herr : Err w w.heap.size d v cs ns ss) :
  Calls Tryz.prog 180 #[v, .int .i64 m] w fun e w' => e = .returned (.bool (hasCode m cs)) ∧ Below w.heap.size w w' := by
 have hmf : ∀ (fn : Fn) (first cap : Array Value) (w : World), (Instr.makeFunc fn first cap).run Tryz.prog w = .ok (.func fn first cap) w := fun _ _ _ _ => rfl
 have HE := Lib.hid herr
 clear herr
 go_enter_defers Tryz.func180, Tryz.ntmps180
 go_wp2_with fail
 have hE' := HE.out.below ((Below.refl _ w).alloc (Nat.le_refl _) (.cells #[.bool false] 4))
 refine (is22 d _ cs ns ss _ w.heap.size (isCode m) 43 _ target26 hE' (by simp) (eqAs_code m hE')).mono ?_
 rintro e w' ⟨rfl, hb⟩
 rw [anyN_code m d hE']
 clear hE'
 have hcell : w'.cell? ⟨w.heap.size, 0, none⟩ = some (.bool false) := by rw [hb.cell (p := ⟨w.heap.size, 0, none⟩) (by simp)]; simp [go_sem]
 have hfr : w'.frozen? ⟨w.heap.size, 0, none⟩ = false := by rw [hb.frozen (p := ⟨w.heap.size, 0, none⟩) (by simp)]; simp [go_sem]
 have HB := Lib.hid hb
 clear hb
 go_wp2_with fail
 refine leaves_cons (f := 205) (args := #[.pointer (some ⟨w.heap.size, 0, none⟩)]) (by simp) (by simp [go_sem]) ?_
 refine (holdsIdle ⟨w.heap.size, 0, none⟩ _).mono ?_
 rintro e u' w'' ⟨rfl, rfl, rfl⟩
 simp [Leaves, settle, results, go_sem, hcell]
 exact ((Below.refl _ w).alloc (Nat.le_refl _) _).trans ((HB.out.mono (by simp)).setCell (p := ⟨w.heap.size, 0, none⟩) (Nat.le_refl _) _)

set_option maxRecDepth 100000 in
set_option maxHeartbeats 1000000 in
theorem cis_any (d : Nat) (v : Value) (cs : List Int) (ns : List Nd) (ss : List Int) (w : World) (m : Int) (herr : Err w w.heap.size d v cs ns ss) :
  Calls Tryz.prog 146 #[v, .int .i64 m] w fun e w' => e = .returned (.bool (hasCode m cs)) ∧ Below w.heap.size w w' := by
 have HE := Lib.hid herr
 clear herr
 go_enter Tryz.func146, Tryz.ntmps146
 go_wp2_with fail
 refine (holds25 d _ cs ns ss _ m HE.out).mono ?_
 rintro e w' ⟨rfl, hb⟩
 have HB := Lib.hid hb
 clear hb
 go_wp2_with fail
 go_ret
 exact ⟨rfl, HB.out⟩

end Go.Proofs.YtelmcchleclklaaGreat.Tr
namespace Go.Proofs.YtelmcchleclklaaGreat.Tr
open Go.RowKit Go.Extern.Stop Go.Stop Go.Extern Go.Extern.Rtype

theorem heap_new (w : World) (o : Obj) : (w.alloc o).heap[w.heap.size]? = some o := by
 show (w.heap.push o)[w.heap.size]? = _
 rw [Array.getElem?_push, if_pos rfl]
end Go.Proofs.YtelmcchleclklaaGreat.Tr
namespace Go.Proofs.YtelmcchleclklaaGreat.Tr
open Go.RowKit Go.Extern.Stop Go.Stop Go.Extern Go.Extern.Rtype

def nodesOf (ns : List Nd) : List Int := ns.filterMap (·.2)
theorem nodesOf_flat {α : Type} (f : α → List Nd) (l : List α) : nodesOf (l.map f).flatten = (l.map fun z => nodesOf (f z)).flatten := by
 unfold nodesOf
 induction l with
 | nil => rfl
 | cons a l ih => simp only [List.map_cons, List.flatten_cons, List.filterMap_append, ih]

end Go.Proofs.YtelmcchleclklaaGreat.Tr
namespace Go.Proofs.YtelmcchleclklaaGreat.Tr
open Go.RowKit Go.Extern.Stop Go.Stop Go.Extern Go.Extern.Rtype

end Go.Proofs.YtelmcchleclklaaGreat.Tr
namespace Go.Proofs.YtelmcchleclklaaGreat.Tr
open Go.RowKit Go.Extern.Stop Go.Stop Go.Extern Go.Extern.Rtype

set_option maxRecDepth 100000 in
set_option maxHeartbeats 1000000 in
theorem ofStripe_err (d : Nat) (n : Int) (v : Value) (cs : List Int) (ns : List Nd) (ss : List Int) (w : World) (herr : Err w w.heap.size d v cs ns ss) :
  Calls Tryz.prog 37 #[.int .i64 n, v] w fun e w' => ∃ b, e = .returned (.iface 133 (.pointer (some ⟨b, 0, none⟩))) ∧ w.heap.size ≤ b ∧ Below w.heap.size w w' ∧ w'.heap[b]? = some (.cells #[.int .i64 n, v] 135 (0, 0)) ∧ Err w' w'.heap.size (d + 1) (.iface 133 (.pointer (some ⟨b, 0, none⟩))) cs ((.iface 133 (.pointer (some ⟨b, 0, none⟩)), none) :: ns) (n :: ss) := by
 obtain ⟨t, u, rfl⟩ := herr.iface
 have q1 := eqlNil
 have HE := Lib.hid herr
 clear herr
 go_enter Tryz.func37, Tryz.ntmps37
 go_wp2_with fail
 go_ret
 have hb : Below w.heap.size w (w.alloc (.cells #[.int .i64 n, .iface t u] 135)) := (Below.refl _ w).alloc (Nat.le_refl _) _
 exact ⟨w.heap.size, rfl, Nat.le_refl _, hb, heap_new _ _, .inr (.inr (.inl ⟨w.heap.size, n, .iface t u, ns, ss, rfl, by simp, heap_new _ _, (HE.out.below hb).mono hb.size, rfl, rfl⟩))⟩

theorem heap_lt {w : World} {k : Nat} {o : Obj} (h : w.heap[k]? = some o) : k < w.heap.size := by
 by_cases hk : k < w.heap.size
 ·exact hk
 ·rw [Array.getElem?_eq_none (by omega)] at h; cases h

def alive (xs : List Value) : List Value := xs.filter fun | .nilIface => false | _ => true

def Holds (w : World) (a : Option Addr) (xs : List Value) : Prop := ∀ (i : Nat) (x : Value), xs[i]? = some x → ∃ g o, a = some ⟨g, o, none⟩ ∧ g < w.heap.size ∧ w.cell? ⟨g, o + i, none⟩ = some x

def JPost (ys : List Value) (w : World) (e : Ending) (w' : World) : Prop :=
 Below w.heap.size w w' ∧ ((ys = [] ∧ e = .returned .nilIface) ∨ (∃ y, ys = [y] ∧ e = .returned y) ∨
  (2 ≤ ys.length ∧ ∃ b g cap row, e = .returned (.iface 174 (.pointer (some ⟨b, 0, none⟩))) ∧ w.heap.size ≤ b ∧ w.heap.size ≤ g ∧ w'.heap[b]? = some (.cells #[.slice (some ⟨g, 0, none⟩) ys.length cap] 176 (0, 0)) ∧
   w'.heap[g]? = some (.cells row 36 (0, 0)) ∧ ys.length ≤ cap ∧ row.toList.take ys.length = ys))

theorem alive_snoc (xs : List Value) (i : Nat) (x : Value) (h : xs[i]? = some x) : alive (xs.take (i + 1)) = alive (xs.take i) ++ alive [x] := by
 unfold alive
 rw [List.take_add_one, h, List.filter_append]; rfl

theorem alive_le (xs : List Value) (i : Nat) : (alive (xs.take i)).length ≤ i := by
 unfold alive
 exact Nat.le_trans (List.length_filter_le _ _) (List.length_take_le _ _)

set_option maxRecDepth 100000 in
set_option maxHeartbeats 1000000 in
theorem join10 (a : Option Addr) (xs : List Value) (cap : Nat) (w : World) (hm : xs.length ≤ 1000) (hx : ∀ x ∈ xs, x = .nilIface ∨ ∃ t u, x = .iface t u) (hh : Holds w a xs) :
  Calls Tryz.prog 71 #[.slice a xs.length cap] w (JPost (alive xs) w) := by
 have q1 := eqlNil
 have q2 := eqlNilNil
 have q3 := neqNil
 have q4 := neqNilNil
 obtain ⟨i0, hi, hz0, hz1, hz2⟩ := info_parts info24
 have HX := Lib.hid hx
 have HH := Lib.hid hh
 clear hx hh
 go_enter Tryz.func71, Tryz.ntmps71
 go_wp2
 go_loopg [3, 8] xs.length (fun q s3 s8 wr => ∃ i : Nat, s8 = .int .i64 i ∧ i ≤ xs.length ∧ q = xs.length - i ∧ Hid (wr.ownsRow w.heap.size 36 1 s3 (alive (xs.take i)).length (alive (xs.take i)) ∧ Below w.heap.size w wr))
 case atStart => exact ⟨0, rfl, Nat.zero_le _, rfl, Lib.hid ⟨World.ownsRow_nil _ _ _ _, Below.refl _ _⟩⟩
 case round =>
  obtain ⟨i, rfl, hi', rfl, HR⟩ := hrel
  have hal := alive_le xs i
  by_cases hlt : i < xs.length
  ·have hz : xs[i]? = some xs[i] := List.getElem?_eq_getElem hlt
   generalize xs[i] = x at hz
   obtain ⟨g, o, rfl, hg, hc⟩ := HH.out i x hz
   have hc' : wr.cell? ⟨g, o + i, none⟩ = some x := by rw [HR.out.2.cell (p := ⟨g, o + i, none⟩) hg]; exact hc
   have hxx := HX.out x (List.mem_of_getElem? hz)
   have HZ := Lib.hid hz
   clear hz hc
   rcases hxx with rfl | ⟨t, u, rfl⟩
   ·go_wp2_with fail
    go_roundg (xs.length - (i + 1))
    case measure => omega
    case rel =>
     refine ⟨i + 1, by go_num, by omega, rfl, Lib.hid ⟨?_, HR.out.2⟩⟩
     rw [alive_snoc xs i _ HZ.out]
     have : alive [Value.nilIface] = [] := rfl
     rw [this, List.append_nil]; exact HR.out.1
   ·go_wp2_with (at_builtin; refine wpList_append_own _ rfl (.tmp 14) (.tmp 16) 128 rfl w.heap.size 36 i0 .nilIface 1 16 Tryz.underlying128 hi hz0 hz1 hz2 rfl (by decide) _ (alive (xs.take i)).length _ rfl (HR.out.1.alloc _) ⟨wr.heap.size, 0, none⟩ 1 1 [.iface t u] rfl rfl ?c1 ?c2 ?c3 ?c4 ?c5 ?_)
    case c1 =>
     intro j u' hj
     cases j with
     | zero => cases hj; simp [Addr.add, go_sem]
     | succ j => simp at hj
    case c2 => intro u hu; rw [List.mem_singleton.1 hu]; rfl
    case c3 => unfold maxLen; omega
    case c4 => omega
    case c5 => have := HR.out.2.size; simp; omega
    intro v1 w1 hown1 hgrow1 _
    have hb1 : Below w.heap.size w w1 := by
     refine (HR.out.2.alloc HR.out.2.size _).grown hgrow1 (by have := HR.out.2.size; simp; omega) ?_
     intro k hk
     obtain ⟨_, ⟨rfl, _⟩ | ⟨g, cap, cur, rfl, hg, _⟩⟩ := HR.out.1
     ·cases hk
     ·cases hk; exact hg
    have H1 := Lib.hid (And.intro hown1 hb1)
    clear hown1 hgrow1 hb1
    go_wp2_with fail
    go_roundg (xs.length - (i + 1))
    case measure => omega
    case rel =>
     refine ⟨i + 1, by go_num, by omega, rfl, Lib.hid ⟨?_, H1.out.2⟩⟩
     rw [alive_snoc xs i _ HZ.out]
     have : alive [Value.iface t u] = [Value.iface t u] := rfl
     rw [this, List.length_append]; exact H1.out.1
  ·obtain rfl : i = xs.length := by omega
   have hr := HR.out
   rw [List.take_of_length_le (Nat.le_refl _)] at hr hal
   clear HR
   obtain ⟨⟨_, ⟨rfl, hn⟩ | ⟨g, cap', cur, hv, hg, hh, h1, h2, h3, h4⟩⟩, hb⟩ := hr
   ·have HN := Lib.hid (And.intro hn hb)
    clear hn hb
    go_wp2_with fail
    go_ret
    exact ⟨HN.out.2, .inl ⟨List.eq_nil_of_length_eq_zero HN.out.1, rfl⟩⟩
   ·obtain ⟨ys, hys⟩ : ∃ ys, ys = alive xs := ⟨_, rfl⟩
    obtain ⟨m, hm'⟩ : ∃ m, ys.length = m := ⟨_, rfl⟩
    rw [← hys, hm'] at hv h1 hal
    rw [← hys] at h4
    rw [hm', Nat.mul_one] at h4
    subst hv
    have HYS := Lib.hid hys
    have HN := Lib.hid (And.intro hm' (And.intro hb (And.intro hh (And.intro h4 (And.intro h1 hg)))))
    have hmx : m ≤ 1000 := by omega
    clear hb hh h4 h3 hm' hys hg h1 h2
    by_cases h0 : m = 0
    ·subst h0
     go_wp2_with fail
     go_ret
     rw [← HYS.out]
     exact ⟨HN.out.2.1, .inl ⟨List.eq_nil_of_length_eq_zero HN.out.1, rfl⟩⟩
    by_cases h00 : m = 1
    ·subst h00
     clear h0
     obtain ⟨y, rfl⟩ := List.length_eq_one_iff.1 HN.out.1
     have hc : wr.cell? ⟨g, 0, none⟩ = some y := by
      have h := HN.out.2.2.2.1
      have h2 : cur[0]? = some y := by
       have := congrArg (fun l : List Value => l[0]?) h
       simpa [List.getElem?_take] using this
      simp [World.cell?, HN.out.2.2.1, h2]
     go_wp2_with fail
     go_ret
     rw [← HYS.out]
     exact ⟨HN.out.2.1, .inr (.inl ⟨y, rfl, rfl⟩)⟩
    ·have e0 : ((m : Int) == 0) = false := by rw [beq_eq_false_iff_ne]; omega
     have e1 : ((m : Int) == 1) = false := by rw [beq_eq_false_iff_ne]; omega
     have hm2 : 2 ≤ m := by omega
     clear h0 h00
     go_wp2_with fail
     go_ret
     rw [← HYS.out]
     obtain ⟨hm', hb, hh, h4, h1, hg⟩ := HN.out
     subst hm'
     refine ⟨hb.alloc hb.size _, .inr (.inr ⟨hm2, wr.heap.size, g, cap', cur, rfl, hb.size, hg, heap_new _ _, by rw [Below.heap_alloc _ _ _ (heap_lt hh)]; exact hh, h1, by simpa using h4⟩)⟩

theorem JPost.tree {ys : List Value} {w w' : World} {e : Ending} (h : JPost ys w e w') (zs : List (Value × List Int × List Nd × List Int)) (hys : ys = zs.map (·.1)) (hm : zs.length ≤ 1000) (d : Nat)
  (hz : ∀ (i : Nat) (z : Value × List Int × List Nd × List Int), zs[i]? = some z → Err w w.heap.size d z.1 z.2.1 z.2.2.1 z.2.2.2) (hne : zs ≠ []) :
  ∃ v ns, e = .returned v ∧ Err w' w'.heap.size (d + 1) v (zs.map (·.2.1)).flatten ns (zs.map (·.2.2.2)).flatten ∧ nodesOf ns = (zs.map fun z => nodesOf z.2.2.1).flatten ∧ ∀ x ∈ (zs.map (·.2.2.1)).flatten, x ∈ ns := by
 obtain ⟨hb, ⟨h0, _⟩ | ⟨y, h1, he⟩ | ⟨h2, b, g, cap, row, he, hb1, hg1, hh, hr, hc, ht⟩⟩ := h
 ·rw [hys] at h0; exact absurd (List.map_eq_nil_iff.1 h0) hne
 ·rw [hys] at h1
  match zs, h1, hz with
  | [z], h1, hz =>
   simp at h1
   refine ⟨y, z.2.2.1, he, ?_, by simp, by simp⟩
   have := ((hz 0 z rfl).below hb).mono hb.size
   rw [h1] at this
   simpa using this.deeper
 ·refine ⟨_, _, he, .inr (.inr (.inr ⟨b, g, ys.length, cap, row, zs, rfl, ?_, ?_, hh, hr, hc, ?_, by omega, ?_, fun i x hx => ⟨?_, ((hz i x hx).below hb).mono hb.size⟩, rfl, rfl, rfl⟩)), ?_, fun x hx => List.mem_cons_of_mem _ hx⟩
  ·exact heap_lt hh
  ·exact heap_lt hr
  ·rw [hys, List.length_map]; exact hm
  ·rw [hys, List.length_map]
  ·have h3 : ys[i]? = some x.1 := by rw [hys, List.getElem?_map, hx]; rfl
   rw [← ht, List.getElem?_take] at h3
   split at h3
   ·simpa using h3
   ·cases h3
  ·have : nodesOf ((Value.iface 174 (.pointer (some ⟨b, 0, none⟩)), none) :: (zs.map (·.2.2.1)).flatten) = nodesOf (zs.map (·.2.2.1)).flatten := rfl
   rw [this, nodesOf_flat]

end Go.Proofs.YtelmcchleclklaaGreat.Tr
