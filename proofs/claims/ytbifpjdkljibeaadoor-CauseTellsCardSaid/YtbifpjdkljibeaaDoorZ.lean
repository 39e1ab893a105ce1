import Derived.Test.YtbifpjdkljibeaaDoorX
import Derived.Deep.RegionHeld3
namespace Go.Proofs.YtbifpjdkljibeaaDoor
open Go.RowKit Go.Extern.Stop Go.Stop Go.Extern Go.Extern.Rtype

/-- A type of pointers, as '==' asks. -/
structure PtrT (tp : TypeId) : Prop where
  same : ∀ (a : Addr) (w : World), (binOp .eql 24 (.iface tp (.pointer (some a))) (.iface tp (.pointer (some a)))).run Tryd.prog w = .ok (.bool true) w
  other : ∀ (a b : Addr) (ca cb : Array Value) (ta tb : TypeId) (w : World), a ≠ b → w.heap[a.block]? = some (.cells ca ta (0, 0)) → w.heap[b.block]? = some (.cells cb tb (0, 0)) →
    (binOp .eql 24 (.iface tp (.pointer (some a))) (.iface tp (.pointer (some b)))).run Tryd.prog w = .ok (.bool false) w

theorem ptrT_of {tp te : TypeId} (hp : Tryd.prog.underlying tp = some (.pointer te)) (hc : (Tryd.prog.info? tp).map (·.comparable) = some true) (hs : (Tryd.prog.info? te).map (fun j => j.size != 0) = some true) : PtrT tp := by
  obtain ⟨i, hi, hcmp⟩ := Option.map_eq_some_iff.1 hc
  obtain ⟨j, hj, hjs⟩ := Option.map_eq_some_iff.1 hs
  exact ⟨fun a w => run_eql_iface_ptr_same (P := Tryd.prog) w a Tryd.underlying24 hp hi hcmp hj, fun a b ca cb ta tb w hne ha hb => run_eql_iface_ptr_other (P := Tryd.prog) w Tryd.underlying24 hp hi hcmp hj (by simpa using hjs) hne ha hb⟩
theorem ptrT32 : PtrT 32 := ptrT_of Tryd.underlying32 (by kernel_rfl) (by kernel_rfl)
theorem ptrT33 : PtrT 33 := ptrT_of Tryd.underlying33 (by kernel_rfl) (by kernel_rfl)
theorem ptrT55 : PtrT 55 := ptrT_of Tryd.underlying55 (by kernel_rfl) (by kernel_rfl)
theorem ptrT64 : PtrT 64 := ptrT_of Tryd.underlying64 (by kernel_rfl) (by kernel_rfl)

/-- Is a value this pointer? -/
def isPtr (tp : TypeId) (b : Nat) : Value → Bool
  | .iface t (.pointer (some a)) => t == tp && decide (a = ⟨b, 0, none⟩)
  | _ => false

theorem eqAs_ptr {w : World} {B d : Nat} {v : Value} {cs : List Int} {ns : List Nd} {ss : List Int} (tp b : Nat) (hp : PtrT tp) (h26 : tp ≠ 26) (hb : b < B) (cb : Array Value) (tb : TypeId) (hh : w.heap[b]? = some (.cells cb tb (0, 0))) (e : Err w B d v cs ns ss) :
    EqAs (isPtr tp b) (.iface tp (.pointer (some ⟨b, 0, none⟩))) B w ns := by
  intro w' hw x hx
  have hh' : w'.heap[b]? = some (.cells cb tb (0, 0)) := by rw [hw.block b hb]; exact hh
  rcases e.parts d x hx with ⟨n, hn⟩ | ⟨t, b', c, ty, hne, hv, hb', hc, _⟩
  · rw [hn, run_eql_iface_types 26 tp _ _ Tryd.underlying24 (fun h => h26 h.symm) w']; rfl
  · have hc' : w'.heap[b']? = some (.cells c ty (0, 0)) := by rw [hw.block b' hb']; exact hc
    rw [hv]
    by_cases ht : t = tp
    · subst ht
      by_cases hbb : b' = b
      · subst hbb
        rw [hp.same]; simp [isPtr]
      · have hne : (⟨b', 0, none⟩ : Addr) ≠ ⟨b, 0, none⟩ := fun h => hbb (by cases h; rfl)
        rw [hp.other _ _ c cb ty tb w' hne hc' hh']
        simp [isPtr]
    · rw [run_eql_iface_types t tp _ _ Tryd.underlying24 ht w']
      simp [isPtr, ht]

/-- A list of bools behind a slice. -/
def Bools (w : World) (a : Option Addr) (xs : List Bool) : Prop := ∀ (i : Nat) (x : Bool), xs[i]? = some x → ∃ g o, a = some ⟨g, o, none⟩ ∧ g < w.heap.size ∧ w.cell? ⟨g, o + i, none⟩ = some (.bool x)

def codeAt (x : Int) : Int := 1 + x % 12

/-- es, in CauseFirst: what each of them is. -/
def KidOf (z : Kid) (x : Int) : Prop := z.2.1 = [codeAt x] ∧ (z.1 = .iface 26 (.int .i64 (codeAt x)) ∨ ∃ b, z.1 = .iface 32 (.pointer (some ⟨b, 0, none⟩))) ∧ ∃ o, (z.1, o) ∈ z.2.2.1

structure Es (base : Nat) (w0 : World) (xs : List Int) (i : Nat) (s5 : Value) (zs : List Kid) (wr : World) : Prop where
  err : ErrType wr
  below : Below base w0 wr
  len : zs.length = i
  own : wr.ownsRow base 24 1 s5 zs.length (zs.map (·.1))
  tree : ∀ (j : Nat) (z : Kid), zs[j]? = some z → ErrA wr (fun k => s5.ownBlock ≠ some k) 2 z.1 z.2.1 z.2.2.1 z.2.2.2
  each : ∀ (j : Nat) (z : Kid), zs[j]? = some z → ∃ x, xs[j]? = some x ∧ KidOf z x

theorem Es.more {base i : Nat} {w0 wr w' : World} {xs : List Int} {s5 : Value} {zs : List Kid} (h : Es base w0 xs i s5 zs wr) (hs : base ≤ wr.heap.size) (hb : Below wr.heap.size wr w') : Es base w0 xs i s5 zs w' :=
  ⟨h.err.below hb, h.below.trans (hb.mono hs), h.len, owns_below h.own hb, fun j z hz => errA_rest (Rest.of hb) (h.tree j z hz), h.each⟩

theorem Es.size {base i : Nat} {w0 wr : World} {xs : List Int} {s5 : Value} {zs : List Kid} (h : Es base w0 xs i s5 zs wr) (hs : base ≤ w0.heap.size) : base ≤ wr.heap.size := Nat.le_trans hs h.below.size

theorem Es.put {base i : Nat} {w0 wr w' : World} {xs : List Int} {x : Int} {s5 v' : Value} {zs : List Kid} (z : Kid) (h : Es base w0 xs i s5 zs wr) (hs : base ≤ wr.heap.size) (h0 : 0 < base) (hx : xs[i]? = some x) (hz : KidOf z x)
    (ht : ErrA wr (fun k => s5.ownBlock ≠ some k) 2 z.1 z.2.1 z.2.2.1 z.2.2.2)
    (ho : w'.ownsRow base 24 1 v' (zs.length + 1) (zs.map (·.1) ++ [z.1])) (hg : wr.grownBy w' s5.ownBlock) (hm : v'.ownBlock = s5.ownBlock ∨ w'.ownsRow wr.heap.size 24 1 v' (zs.length + 1) (zs.map (·.1) ++ [z.1])) :
    Es base w0 xs (i + 1) v' (zs ++ [z]) w' := by
  have hb := grown_below h.own hg hs
  have at_ : ∀ (j : Nat) (y : Kid), (zs ++ [z])[j]? = some y → (zs[j]? = some y) ∨ (j = zs.length ∧ y = z) := by
    intro j y hy
    by_cases hj : j < zs.length
    · rw [List.getElem?_append_left hj] at hy; exact .inl hy
    · rw [List.getElem?_append_right (by omega)] at hy
      by_cases h00 : j - zs.length = 0
      · rw [h00] at hy; cases hy; exact .inr ⟨by omega, rfl⟩
      · rw [List.getElem?_eq_none (by simp; omega)] at hy; cases hy
  refine ⟨h.err.old hb h0, h.below.trans hb, by simp [h.len], by simpa using ho, fun j y hy => ?_, fun j y hy => ?_⟩
  · rcases at_ j y hy with hy | ⟨_, rfl⟩
    · exact errA_append hg hm (h.tree j y hy)
    · exact errA_append hg hm ht
  · rcases at_ j y hy with hy | ⟨rfl, rfl⟩
    · exact h.each j y hy
    · exact ⟨x, by rw [h.len]; exact hx, hz⟩

end Go.Proofs.YtbifpjdkljibeaaDoor
