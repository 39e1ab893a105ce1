import Derived.Test.YtjgbfghkiahfaaaGreatDoorV29
import Derived.Deep.LoopGhost
namespace Go.Proofs.YtjgbfghkiahfaaaGreatDoor
open Go.RowKit Go.Extern.Stop Go.Stop Go.Extern Go.Extern.Rtype
set_option maxRecDepth 100000
set_option maxHeartbeats 1000000

/-- An api.Errno as an error. -/
abbrev ev (c : Int) : Value := .iface 27 (.int .i64 c)
/-- A *cause.On in block b, as an error. -/
abbrev onv (b : Nat) : Value := .iface 99 (.pointer (some ⟨b, 0, none⟩))
/-- Block b: node n's error of code c. -/
def OnE (w : World) (b : Nat) (n c : Int) : Prop := w.heap[b]? = some (.cells #[.int .i64 n, ev c] 102 (0, 0))
theorem OnE.below {w w' : World} {b : Nat} {n c : Int} (h : OnE w b n c) (e : Below w.heap.size w w') : OnE w' b n c := by
  have : w'.heap[b]? = w.heap[b]? := e.block b (heap_lt h)
  exact this.trans h
theorem OnE.keep {w w' : World} {b : Nat} {n c : Int} (h : OnE w b n c) (e : w'.heap[b]? = w.heap[b]?) : OnE w' b n c := e.trans h
theorem OnE.lt {w : World} {b : Nat} {n c : Int} (h : OnE w b n c) : b < w.heap.size := heap_lt h

/-- w' is w with new blocks, and block c written. -/
structure But (c : Nat) (w w' : World) : Prop where
  os : w'.os = w.os
  tape : w'.tape = w.tape
  output : w'.output = w.output
  size : w.heap.size ≤ w'.heap.size
  block : ∀ k, k < w.heap.size → k ≠ c → w'.heap[k]? = w.heap[k]?
theorem But.of {c : Nat} {w w' : World} (h : Below w.heap.size w w') : But c w w' := ⟨h.os, h.tape, h.output, h.size, fun k hk _ => h.block k hk⟩
theorem But.trans {c : Nat} {a b d : World} (h : But c a b) (k : But c b d) : But c a d :=
  ⟨k.os.trans h.os, k.tape.trans h.tape, k.output.trans h.output, Nat.le_trans h.size k.size, fun i hi hc => (k.block i (Nat.lt_of_lt_of_le hi h.size) hc).trans (h.block i hi hc)⟩
theorem But.set (c : Nat) (w : World) (v : Value) : But c w (w.setCell ⟨c, 0, none⟩ v) :=
  ⟨rfl, rfl, rfl, by simp [World.setCell], fun k _ hk => Below.heap_setCell _ _ _ _ hk⟩
theorem But.below {c B : Nat} {w w' : World} (h : But c w w') (h1 : B ≤ c) (h2 : B ≤ w.heap.size) : Below B w w' :=
  ⟨h.os, h.tape, h.output, h.size, fun k hk => h.block k (by omega) (by omega)⟩
theorem But.cell {c : Nat} {w w' : World} (h : But c w w') {p : Addr} (hp : p.block < w.heap.size) (hc : p.block ≠ c) : w'.cell? p = w.cell? p := World.cell?_of_block (w := w) (h.block p.block hp hc)
theorem But.frozen {c : Nat} {w w' : World} (h : But c w w') {p : Addr} (hp : p.block < w.heap.size) (hc : p.block ≠ c) : w'.frozen? p = w.frozen? p := World.frozen?_of_block (w := w) (h.block p.block hp hc)

theorem onUnwrap (b : Nat) (n x : Value) (w : World) (h : w.heap[b]? = some (.cells #[n, x] 102 (0, 0))) :
    Calls Tryz.prog 151 #[.pointer (some ⟨b, 0, none⟩)] w fun e w' => e = .returned x ∧ w = w' := by
  have hc : w.cell? ⟨b, 1, none⟩ = some x := by simp [World.cell?, h]
  clear h
  go_enter Tryz.func151, Tryz.ntmps151
  go_wp2
  go_ret
  exact ⟨rfl, rfl⟩

/-- The variable errors.errorType, as it is laid. -/
def ErrType (w : World) : Prop := w.cell? ⟨0, 0, none⟩ = some (.iface 151 (.agg #[.pointer (some ⟨1, 33, none⟩)]))
theorem ErrType.lt {w : World} (h : ErrType w) : 0 < w.heap.size := cell?_lt h
theorem ErrType.below {B : Nat} {w w' : World} (h : ErrType w) (b : Below B w w') (hB : 0 < B) : ErrType w' := (b.cell (p := ⟨0, 0, none⟩) hB).trans h
theorem ErrType.keep {w w' : World} (h : ErrType w) (b : w'.heap[0]? = w.heap[0]?) : ErrType w' := (World.cell?_of_block (a := ⟨0, 0, none⟩) b).trans h

/-- How errors.as ends at a target that holds an api.Errno: c the variable's block. -/
def AsE (c : Nat) (n : Int) (w : World) (e : Ending) (w' : World) : Prop := e = .returned (.bool true) ∧ But c w w' ∧ w'.cell? ⟨c, 0, none⟩ = some (.int .i64 n)

/-- k = 1: the code itself; k = 2: in a *cause.On. -/
def Er (w : World) (B : Nat) (c : Int) : Nat → Value → Prop
  | 1, v => v = ev c
  | 2, v => ∃ b n, v = onv b ∧ b < B ∧ OnE w b n c
  | _, _ => False
theorem Er.below {w w' : World} {B : Nat} {c : Int} {k : Nat} {v : Value} (h : Er w B c k v) (b : Below B w w') : Er w' B c k v := by
  match k, h with
  | 1, h => exact h
  | 2, ⟨d, n, e, hd, ho⟩ => exact ⟨d, n, e, hd, ho.keep (b.block d hd)⟩
theorem Er.iface {w : World} {B : Nat} {c : Int} {k : Nat} {v : Value} (h : Er w B c k v) : ∃ t x, v = .iface t x := by
  match k, h with
  | 1, h => exact ⟨_, _, h⟩
  | 2, ⟨d, n, e, hd, ho⟩ => exact ⟨_, _, e⟩

theorem we_as (d : Nat) (v : Value) (n : Int) (w : World) (B c x : Nat) (herr : Er w B n d v) (hBc : B ≤ c) (hc : w.cell? ⟨c, 0, none⟩ = some (.int .i64 0)) (hcf : w.frozen? ⟨c, 0, none⟩ = false) (hx : w.cell? ⟨x, 0, none⟩ = some (.pointer (some ⟨c, 0, none⟩))) :
    Calls Tryz.prog 81 #[v, .iface 87 (.pointer (some ⟨c, 0, none⟩)), .agg #[.pointer (some ⟨1, 87, none⟩), .pointer (some ⟨x, 0, none⟩), .int .u64 150], .iface 151 (.agg #[.pointer (some ⟨1, 27, none⟩)])] w (AsE c n w) := by
  have hcb := cell?_lt hc
  have hxb := cell?_lt hx
  have HE := Lib.hid herr
  clear herr
  go_enter Tryz.func81, Tryz.ntmps81
  go_wp2_with fail
  go_loopg [0] d (fun k s0 wr => k ≤ d ∧ Hid (Er wr B n k s0) ∧ Below (w.heap.size + 1) (w.alloc (.cells #[.pointer (some ⟨1, 87, none⟩), .pointer (some ⟨x, 0, none⟩), .int .u64 150] 126)) wr)
  case atStart => exact ⟨Nat.le_refl _, Lib.hid (HE.out.below ((Below.refl _ _).alloc (by omega) _)), Below.refl _ _⟩
  case round =>
    obtain ⟨hkd, HR, hb⟩ := hrel
    have kc : wr.cell? ⟨c, 0, none⟩ = some (.int .i64 0) := by rw [hb.cell (p := ⟨c, 0, none⟩) (by show c < _; omega), World.cell?_alloc_past _ _ _ hcb]; exact hc
    have kf : wr.frozen? ⟨c, 0, none⟩ = false := by rw [hb.frozen (p := ⟨c, 0, none⟩) (by show c < _; omega)]; simp [hcf, hcb, go_sem]
    have kx : wr.cell? ⟨x, 0, none⟩ = some (.pointer (some ⟨c, 0, none⟩)) := by rw [hb.cell (p := ⟨x, 0, none⟩) (by show x < _; omega), World.cell?_alloc_past _ _ _ hxb]; exact hx
    have k0 : wr.cell? ⟨w.heap.size, 0, none⟩ = some (.pointer (some ⟨1, 87, none⟩)) := by rw [hb.cell (p := ⟨w.heap.size, 0, none⟩) (by show w.heap.size < _; omega)]; simp [go_sem]
    have k1 : wr.cell? ⟨w.heap.size, 1, none⟩ = some (.pointer (some ⟨x, 0, none⟩)) := by rw [hb.cell (p := ⟨w.heap.size, 1, none⟩) (by show w.heap.size < _; omega)]; simp [go_sem]
    have k2 : wr.cell? ⟨w.heap.size, 2, none⟩ = some (.int .u64 150) := by rw [hb.cell (p := ⟨w.heap.size, 2, none⟩) (by show w.heap.size < _; omega)]; simp [go_sem]
    have HB := Lib.hid hb
    clear hb hc hcf hx
    have m4 := we_mAsg
    have hr := HR.out
    match gk, hr with
    | 1, hr =>
      subst hr
      have t1 := we_typeOfE
      have t2 := we_asgE
      have t3 := we_velemP
      have t4 := we_valueOfE
      have hcr : c < wr.heap.size := cell?_lt kc
      have t5 := we_vsetE ⟨c, 0, none⟩ ⟨wr.heap.size, 0, none⟩ n (.int .i64 0) (wr.alloc (.cells #[.int .i64 n] 27)) (by simp [go_sem]) (by rw [World.cell?_alloc_past _ _ _ hcr]; exact kc) (by simp [kf, hcr, go_sem])
      clear HR HE
      go_wp2
      go_ret
      refine ⟨rfl, ?_, by simp [kc, hcr, go_sem]⟩
      have hb := HB.out
      exact ((But.of (((Below.refl _ w).alloc (Nat.le_refl _) _).trans (hb.mono (by omega)))).trans (But.set c _ _)).trans (But.of ((Below.refl _ _).alloc (Nat.le_refl _) _))
    | 2, hr =>
      obtain ⟨b, m, rfl, h1, h2⟩ := hr
      have t1 := we_typeOfN
      have t2 := we_asgN
      have t6 := we_taAsN
      have t7 := we_taUnN
      have t9 := we_mUnN
      have t10 := we_naUnN
      have q := we_eqlNil
      have H2 := Lib.hid h2
      clear h2 HR HE
      go_wp2_with (go_at_call 151; refine (onUnwrap b _ _ _ H2.out).mono ?_; rintro e w' ⟨rfl, rfl⟩)
      go_roundg 1
      case measure => omega
      case rel => exact ⟨by omega, Lib.hid rfl, HB.out⟩

theorem we_As (d : Nat) (v : Value) (n : Int) (w : World) (B c : Nat) (herr : Er w B n d v) (hBc : B ≤ c) (hc : w.cell? ⟨c, 0, none⟩ = some (.int .i64 0)) (hcf : w.frozen? ⟨c, 0, none⟩ = false) (hE : ErrType w) :
    Calls Tryz.prog 62 #[v, .iface 87 (.pointer (some ⟨c, 0, none⟩))] w (AsE c n w) := by
  obtain ⟨t, u, rfl⟩ := herr.iface
  have hcw := cell?_lt hc
  have h0 : 0 < w.heap.size := cell?_lt hE
  have q1 := we_eqlNil
  have q2 := we_eqlNilAny
  have c1 := we_valueOfP
  have c2 := we_typeP
  have c3 := we_kindP
  have c4 := we_elemP
  have c5 := we_kindE
  have c6 := we_implE
  have m1 := we_mKind
  have m2 := we_mElem
  have m3 := we_mImpl
  have n1 := we_isNilP
  have e2 : ∀ o1 o2, ((w.alloc o1).alloc o2).cell? ⟨0, 0, none⟩ = some (.iface 151 (.agg #[.pointer (some ⟨1, 33, none⟩)])) := fun o1 o2 => by
    rw [World.cell?_alloc_past _ _ _ (by simp), World.cell?_alloc_past _ _ _ h0]; exact hE
  have HE := Lib.hid herr
  have HC := Lib.hid (And.intro hc hcf)
  clear herr hE hc hcf
  go_enter Tryz.func62, Tryz.ntmps62
  go_wp2_with fail
  refine (we_as d _ n _ B c w.heap.size (HE.out.below (((Below.refl B w).alloc (by omega) _).alloc (by simp; omega) _)) hBc ?_ ?_ ?_).mono ?_
  · rw [World.cell?_alloc_past _ _ _ (by simp; omega), World.cell?_alloc_past _ _ _ hcw]; exact HC.out.1
  · simp [HC.out.2, hcw, go_sem]
  · simp [go_sem]
  rintro e w' ⟨rfl, hb, h2⟩
  have HB := Lib.hid (And.intro hb h2)
  clear hb h2
  go_wp2
  go_ret
  exact ⟨rfl, (But.of (((Below.refl _ w).alloc (Nat.le_refl _) _).alloc (by simp) _)).trans HB.out.1, HB.out.2⟩

/-- The deferred literal of find, where nothing panicked. -/
theorem we_findIdle (p : Addr) (w : World) :
    CallsD Tryz.prog 61 #[.pointer (some p)] .returning w fun e u' w' => e = .returned (.tuple #[]) ∧ u' = .returning ∧ w' = w := by
  refine callsD_of_wpS Tryz.func61 rfl fun c₀ cs hu => ?_
  apply wpS_seq
  apply wpS_region
  simp [wpOpsS, go_sem, recoverD, hu, Tryz.ntmps61, Exit.thenS]
  refine wpS_cond (t := false) (by simp [Act.eval, Array.replicate]) ?_
  simp only [Bool.false_eq_true, if_false]
  refine wpS_of_wp (wp_skip ?_)
  cases c₀
  simp_all [bodyPostS, results, Tryz.results61]
/-- The deferred literal of parts, where nothing panicked. -/
theorem we_partsIdle (p : Addr) (w : World) :
    CallsD Tryz.prog 82 #[.pointer (some p)] .returning w fun e u' w' => e = .returned (.tuple #[]) ∧ u' = .returning ∧ w' = w := by
  refine callsD_of_wpS Tryz.func82 rfl fun c₀ cs hu => ?_
  apply wpS_seq
  apply wpS_region
  simp [wpOpsS, go_sem, recoverD, hu, Tryz.ntmps82, Exit.thenS]
  refine wpS_cond (t := false) (by simp [Act.eval, Array.replicate]) ?_
  simp only [Bool.false_eq_true, if_false]
  refine wpS_of_wp (wp_skip ?_)
  cases c₀
  simp_all [bodyPostS, results, Tryz.results82]

theorem we_find (d : Nat) (v : Value) (n : Int) (w : World) (B c : Nat) (herr : Er w B n d v) (hBc : B ≤ c) (hc : w.cell? ⟨c, 0, none⟩ = some (.int .i64 0)) (hcf : w.frozen? ⟨c, 0, none⟩ = false) (hE : ErrType w) :
    Calls Tryz.prog 46 #[v, .iface 87 (.pointer (some ⟨c, 0, none⟩))] w (AsE c n w) := by
  have hcw := cell?_lt hc
  have h0 : 0 < w.heap.size := cell?_lt hE
  have hmf : ∀ (fn : Fn) (first cap : Array Value) (w : World), (Instr.makeFunc fn first cap).run Tryz.prog w = .ok (.func fn first cap) w := fun _ _ _ _ => rfl
  have HE := Lib.hid herr
  have HC := Lib.hid (And.intro hE (And.intro hc hcf))
  clear herr hE hc hcf
  go_enter_defers Tryz.func46, Tryz.ntmps46
  go_wp2_with fail
  refine (we_As d _ n _ B c (HE.out.below ((Below.refl B w).alloc (by omega) _)) hBc ?_ ?_ ?_).mono ?_
  · rw [World.cell?_alloc_past _ _ _ hcw]; exact HC.out.2.1
  · simp [HC.out.2.2, hcw, go_sem]
  · show World.cell? _ _ = _
    rw [World.cell?_alloc_past _ _ _ h0]; exact HC.out.1
  rintro e w' ⟨rfl, hb, h2⟩
  have hcell : w'.cell? ⟨w.heap.size, 0, none⟩ = some (.bool false) := by rw [hb.cell (p := ⟨w.heap.size, 0, none⟩) (by simp) (by show w.heap.size ≠ c; omega)]; simp [go_sem]
  have hfr : w'.frozen? ⟨w.heap.size, 0, none⟩ = false := by rw [hb.frozen (p := ⟨w.heap.size, 0, none⟩) (by simp) (by show w.heap.size ≠ c; omega)]; simp [go_sem]
  have HB := Lib.hid (And.intro hb h2)
  clear hb h2
  go_wp2_with fail
  refine leaves_cons (f := 61) (args := #[.pointer (some ⟨w.heap.size, 0, none⟩)]) (by simp) (by simp [go_sem]) ?_
  refine (we_findIdle ⟨w.heap.size, 0, none⟩ _).mono ?_
  rintro e u' w'' ⟨rfl, rfl, rfl⟩
  simp [Leaves, settle, results, Tryz.results46, go_sem, hcell]
  refine ⟨rfl, ⟨HB.out.1.os, HB.out.1.tape, HB.out.1.output, Nat.le_trans (by simp) (Nat.le_trans HB.out.1.size (by simp [World.setCell])), fun k hk hkc => ?_⟩, ?_⟩
  · rw [Below.heap_setCell _ _ _ _ (by show k ≠ w.heap.size; omega), HB.out.1.block k (by simp; omega) hkc, Below.heap_alloc _ _ _ hk]
  · rw [World.cell?_of_block (w := w') (Below.heap_setCell _ _ _ _ (by show c ≠ w.heap.size; omega))]; exact HB.out.2

/-- Code of an error that a node's is. -/
theorem we_code {w : World} {b : Nat} {n c : Int} (h : OnE w b n c) (hE : ErrType w) :
    Calls Tryz.prog 21 #[onv b] w fun e w' => e = .returned (.int .i64 c) ∧ Below w.heap.size w w' := by
  have h0 : 0 < w.heap.size := cell?_lt hE
  have q1 := we_eqlNil
  have HE := Lib.hid (And.intro h hE)
  clear h hE
  go_enter Tryz.func21, Tryz.ntmps21
  go_wp2_with fail
  refine (we_find 2 _ c _ w.heap.size w.heap.size ⟨b, n, rfl, HE.out.1.lt, HE.out.1.below ((Below.refl _ w).alloc (Nat.le_refl _) _)⟩ (Nat.le_refl _) ?_ ?_ ?_).mono ?_
  · simp [go_sem]
  · simp [go_sem]
  · show World.cell? _ _ = _
    rw [World.cell?_alloc_past _ _ _ h0]; exact HE.out.2
  rintro e w' ⟨rfl, hb, h2⟩
  have HB := Lib.hid hb
  clear hb
  go_wp2
  go_ret
  exact ⟨rfl, ((Below.refl _ w).alloc (Nat.le_refl _) _).trans (HB.out.below (Nat.le_refl _) (by simp))⟩

theorem we_atNode (n c : Int) (w : World) :
    Calls Tryz.prog 53 #[.int .i64 n, ev c] w fun e w' => ∃ b, e = .returned (onv b) ∧ w.heap.size ≤ b ∧ Below w.heap.size w w' ∧ OnE w' b n c := by
  have q1 := we_eqlNil
  go_enter Tryz.func53, Tryz.ntmps53
  go_wp2_with fail
  go_ret
  exact ⟨w.heap.size, rfl, Nat.le_refl _, (Below.refl _ w).alloc (Nat.le_refl _) _, alloc_block _ _⟩
end Go.Proofs.YtjgbfghkiahfaaaGreatDoor
