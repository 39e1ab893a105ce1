import Derived.Test.YtobkmohoepgfmaaGreatDoorV21
import Derived.Deep.LoopGhost
import Derived.Test.YtobkmohoepgfmaaGreatDoorV20
import Derived.Test.YtobkmohoepgfmaaGreatDoorV06
import Derived.Test.YtobkmohoepgfmaaGreatDoorV05
import Derived.Test.YtobkmohoepgfmaaGreatDoorV18
import Derived.Test.YtobkmohoepgfmaaGreatDoorV09
import Derived.Deep.RegionHeld
import Derived.Test.YtobkmohoepgfmaaGreatDoorV07
namespace Go.Proofs.YtobkmohoepgfmaaGreatDoor
open Go.RowKit Go.Extern.Stop Go.Stop Go.Extern Go.Extern.Rtype
set_option maxRecDepth 100000
set_option maxHeartbeats 1000000

abbrev ev (c : Int) : Value := .iface 46 (.int .i64 c)
abbrev onv (b : Nat) : Value := .iface 150 (.pointer (some ⟨b, 0, none⟩))
def OnE (w : World) (b : Nat) (n c : Int) : Prop := w.heap[b]? = some (.cells #[.int .i64 n, ev c] 153 (0, 0))
theorem OnE.below {w w' : World} {b : Nat} {n c : Int} (h : OnE w b n c) (e : Below w.heap.size w w') : OnE w' b n c := by
 have : w'.heap[b]? = w.heap[b]? := e.block b (heap_lt h)
 exact this.trans h
theorem OnE.keep {w w' : World} {b : Nat} {n c : Int} (h : OnE w b n c) (e : w'.heap[b]? = w.heap[b]?) : OnE w' b n c := e.trans h
theorem OnE.lt {w : World} {b : Nat} {n c : Int} (h : OnE w b n c) : b < w.heap.size := heap_lt h

structure But (c : Nat) (w w' : World) : Prop where
 os : w'.os = w.os
 tape : w'.tape = w.tape
 output : w'.output = w.output
 size : w.heap.size ≤ w'.heap.size
 block : ∀ k, k < w.heap.size → k ≠ c → w'.heap[k]? = w.heap[k]?
theorem But.of {c : Nat} {w w' : World} (h : Below w.heap.size w w') : But c w w' := ⟨h.os, h.tape, h.output, h.size, fun k hk _ => h.block k hk⟩
theorem But.trans {c : Nat} {a b d : World} (h : But c a b) (k : But c b d) : But c a d :=
 ⟨k.os.trans h.os, k.tape.trans h.tape, k.output.trans h.output, Nat.le_trans h.size k.size, fun i hi hc => (k.block i (Nat.lt_of_lt_of_le hi h.size) hc).trans (h.block i hi hc)⟩
theorem But.set (c : Nat) (w : World) (v : Value) : But c w (w.setCell ⟨c, 0, none⟩ v) :=
 ⟨rfl, rfl, rfl, by simp [World.setCell], fun k _ hk => Below.heap_setCell _ _ _ _ hk⟩
theorem But.below {c B : Nat} {w w' : World} (h : But c w w') (h1 : B ≤ c) (h2 : B ≤ w.heap.size) : Below B w w' :=
 ⟨h.os, h.tape, h.output, h.size, fun k hk => h.block k (by omega) (by omega)⟩
theorem But.cell {c : Nat} {w w' : World} (h : But c w w') {p : Addr} (hp : p.block < w.heap.size) (hc : p.block ≠ c) : w'.cell? p = w.cell? p := World.cell?_of_block (w := w) (h.block p.block hp hc)
theorem But.frozen {c : Nat} {w w' : World} (h : But c w w') {p : Addr} (hp : p.block < w.heap.size) (hc : p.block ≠ c) : w'.frozen? p = w.frozen? p := World.frozen?_of_block (w := w) (h.block p.block hp hc)

theorem onUnwrap (b : Nat) (n x : Value) (w : World) (h : w.heap[b]? = some (.cells #[n, x] 153 (0, 0))) :
  Calls Tryz.prog 246 #[.pointer (some ⟨b, 0, none⟩)] w fun e w' => e = .returned x ∧ w = w' := by
 have hc : w.cell? ⟨b, 1, none⟩ = some x := by simp [World.cell?, h]
 clear h
 go_enter Tryz.func246, Tryz.ntmps246
 go_wp2
 go_ret
 exact ⟨rfl, rfl⟩

def ErrType (w : World) : Prop := w.cell? ⟨0, 0, none⟩ = some (.iface 245 (.agg #[.pointer (some ⟨1, 27, none⟩)]))
theorem ErrType.lt {w : World} (h : ErrType w) : 0 < w.heap.size := cell?_lt h
theorem ErrType.below {B : Nat} {w w' : World} (h : ErrType w) (b : Below B w w') (hB : 0 < B) : ErrType w' := (b.cell (p := ⟨0, 0, none⟩) hB).trans h
theorem we_atNode (n c : Int) (w : World) :
  Calls Tryz.prog 87 #[.int .i64 n, ev c] w fun e w' => ∃ b, e = .returned (onv b) ∧ w.heap.size ≤ b ∧ Below w.heap.size w w' ∧ OnE w' b n c := by
 have q1 := we_eqlNil
 go_enter Tryz.func87, Tryz.ntmps87
 go_wp2_with fail
 go_ret
 exact ⟨w.heap.size, rfl, Nat.le_refl _, (Below.refl _ w).alloc (Nat.le_refl _) _, alloc_block _ _⟩
end Go.Proofs.YtobkmohoepgfmaaGreatDoor
namespace Go.Proofs.YtobkmohoepgfmaaGreatDoor
open Go.RowKit Go.Sort
set_option maxRecDepth 100000
set_option maxHeartbeats 2000000

def WiT (t : TypeId) : Prop := NdT t ∨ t = 92
def WiB (cs : Array Value) (t : TypeId) : Prop := NdC cs t ∨ t = 92
def KeepW (w w' : World) : Prop := w.heap.size ≤ w'.heap.size ∧ ∀ (k : Nat) (o : Obj), w.heap[k]? = some o → (∀ cs t fr, o = .cells cs t fr → ¬ WiB cs t) → w'.heap[k]? = some o
theorem KeepW.refl (w : World) : KeepW w w := ⟨Nat.le_refl _, fun _ _ h _ => h⟩
theorem KeepW.of {w w' : World} (b : Below w.heap.size w w') : KeepW w w' := ⟨b.size, fun k _ h _ => (b.block k (heap_lt h)).trans h⟩
theorem KeepW.ofN {w w' : World} (b : KeepN w w') : KeepW w w' := ⟨b.1, fun k o h ho => b.2 k o h (fun cs t fr e hn => ho cs t fr e (Or.inl hn))⟩
theorem KeepW.trans {a b c : World} (h : KeepW a b) (k : KeepW b c) : KeepW a c := ⟨Nat.le_trans h.1 k.1, fun i o hi ho => k.2 i o (h.2 i o hi ho) ho⟩
theorem KeepW.cells {w w' : World} (h : KeepW w w') {k : Nat} {cs : Array Value} {t : TypeId} {fr : Nat × Nat} (hk : w.heap[k]? = some (.cells cs t fr)) (ht : ¬ WiT t) : w'.heap[k]? = w.heap[k]? := (h.2 k _ hk (fun cs' t' fr' e => by cases e; exact fun h => ht (h.elim (fun x => Or.inl x.1) Or.inr))).trans hk.symm
theorem notWi {t : TypeId} (h0 : t ≠ 96) (h1 : t ≠ 146) (h2 : t ≠ 36) (h3 : t ≠ 188) (h4 : t ≠ 191) (h5 : t ≠ 194) (h6 : t ≠ 92) : ¬ WiT t := by
 rintro (h | h)
 ·exact notNd h0 h1 h2 h3 h4 h5 h
 ·exact h6 h
theorem KeepW.b {w w' : World} (h : KeepW w w') : KeepB w w' := ⟨h.1, fun g cs t hg ht => h.cells hg (by rcases ht with rfl | rfl | rfl <;> exact notWi (by decide) (by decide) (by decide) (by decide) (by decide) (by decide) (by decide))⟩
theorem KeepW.set {w : World} {g k : Nat} {cs : Array Value} {fr : Nat × Nat} {u : Value} (h : w.heap[g]? = some (.cells cs 92 fr)) : KeepW w (w.setCell ⟨g, k, none⟩ u) := by
 refine ⟨by simp [World.setCell], fun j o hj ho => ?_⟩
 rw [set_other (fun e => ?_)]
 ·exact hj
 ·subst e
  rw [h] at hj
  cases hj
  exact ho _ _ _ rfl (Or.inr rfl)
theorem KeepW.on {w w' : World} (h : KeepW w w') {b : Nat} {n c : Int} (o : OnE w b n c) : OnE w' b n c := o.keep (h.cells o (notWi (by decide) (by decide) (by decide) (by decide) (by decide) (by decide) (by decide)))
theorem KeepW.qv {w w' : World} (h : KeepW w w') {b m c : Nat} {k s g i : Int} {A : Option Addr} (o : QV w b k s g i A m c) : QV w' b k s g i A m c := o.keep (h.cells o (notWi (by decide) (by decide) (by decide) (by decide) (by decide) (by decide) (by decide)))
theorem KeepW.rv {w w' : World} (h : KeepW w w') {b : Nat} {k s : Int} {A B : Value} (o : RV w b k s A B) : RV w' b k s A B := o.keep (h.cells o (notWi (by decide) (by decide) (by decide) (by decide) (by decide) (by decide) (by decide)))

def KeepF (w w' : World) : Prop := w.heap.size ≤ w'.heap.size ∧ ∀ (k : Nat) (o : Obj), w.heap[k]? = some o → (∀ cs t fr, o = .cells cs t fr → ¬ WiB cs t ∧ t ≠ 3) → w'.heap[k]? = some o
theorem KeepF.of {w w' : World} (h : KeepW w w') : KeepF w w' := ⟨h.1, fun k o hk ho => h.2 k o hk (fun cs t fr e => (ho cs t fr e).1)⟩
theorem KeepF.trans {a b c : World} (h : KeepF a b) (k : KeepF b c) : KeepF a c := ⟨Nat.le_trans h.1 k.1, fun i o hi ho => k.2 i o (h.2 i o hi ho) ho⟩
theorem KeepF.cells {w w' : World} (h : KeepF w w') {k : Nat} {cs : Array Value} {t : TypeId} {fr : Nat × Nat} (hk : w.heap[k]? = some (.cells cs t fr)) (ht : ¬ WiT t) (h7 : t ≠ 3) : w'.heap[k]? = w.heap[k]? := (h.2 k _ hk (fun cs' t' fr' e => by cases e; exact ⟨fun h => ht (h.elim (fun x => Or.inl x.1) Or.inr), h7⟩)).trans hk.symm
structure ND where
 f : Nat → Nat
 Z : Nat → Prop
 O : Nat → Option Obj
 B : Nat
instance : CoeFun ND (fun _ => Nat → Nat) := ⟨ND.f⟩
def ZK (v : World) (g : Nat) (nd : ND) (T : Nat → List Nat) (fv : Value) : Prop := nd.B ≤ v.heap.size ∧ ∀ k, nd.Z k → k < nd.B ∧ v.heap[k]? = nd.O k ∧ k ≠ g ∧ k ∉ fatB fv ∧ ∀ i, i < 8 → k ∉ T i
def WL (w0 v : World) (g : Nat) (nd : ND) (s : Wp) : Prop :=
 ∃ T fv, WM v g 8 nd.f T fv s ∧ Below w0.heap.size w0 v ∧ w0.heap.size ≤ g ∧ (∀ k ∈ fatB fv, w0.heap.size ≤ k) ∧ (∀ i, i < 8 → ∀ k ∈ T i, w0.heap.size ≤ k) ∧ ZK v g nd T fv
section
variable {w0 v v' : World} {g : Nat} {nd : ND} {s : Wp}
theorem ZK.keep {T : Nat → List Nat} {fv : Value} (h : ZK v g nd T fv) (hs : v.heap.size ≤ v'.heap.size) (e : ∀ k, nd.Z k → v'.heap[k]? = v.heap[k]?) : ZK v' g nd T fv :=
 ⟨Nat.le_trans h.1 hs, fun k hk => ⟨(h.2 k hk).1, (e k hk).trans (h.2 k hk).2.1, (h.2 k hk).2.2⟩⟩
theorem WL.zB (h : WL w0 v g nd s) : nd.B ≤ v.heap.size := by
 obtain ⟨T, fv, _, _, _, _, _, h6, _⟩ := h
 exact h6
theorem WL.zlt (h : WL w0 v g nd s) {k : Nat} (hk : nd.Z k) : k < nd.B := by
 obtain ⟨T, fv, _, _, _, _, _, _, h6⟩ := h
 exact (h6 k hk).1
theorem WL.zO (h : WL w0 v g nd s) {k : Nat} (hk : nd.Z k) : v.heap[k]? = nd.O k := by
 obtain ⟨T, fv, _, _, _, _, _, _, h6⟩ := h
 exact (h6 k hk).2.1
theorem WL.protect {v1 : World} (h1 : WL w0 v1 g nd s) (b : Below v1.heap.size v1 v) (Y : Nat → Prop) (hY : ∀ k, Y k → v1.heap.size ≤ k ∧ k < v.heap.size) : WL w0 v g ⟨nd.f, fun k => nd.Z k ∨ Y k, fun k => v.heap[k]?, v.heap.size⟩ s := by
 obtain ⟨T, fv, a1, a2, a3, a4, a5, a6, a7⟩ := h1
 refine ⟨T, fv, a1.below b, a2.trans (b.mono a2.size), a3, a4, a5, Nat.le_refl _, fun k hk => ?_⟩
 rcases hk with hk | hk
 ·obtain ⟨c1, c2, c3⟩ := a7 k hk
  exact ⟨Nat.lt_of_lt_of_le c1 (Nat.le_trans a6 b.size), rfl, c3⟩
 ·obtain ⟨c1, c2⟩ := hY k hk
  exact ⟨c2, rfl, fun e => by have := a1.lt; omega, fun hm => by have := a1.fatLt hm; omega, fun i hi hm => by have := a1.Tlt hi hm; omega⟩
theorem WL.loose (h : WL w0 v g nd s) (nd' : ND) (hf : nd'.f = nd.f) (hB : nd'.B ≤ v.heap.size) (hZ : ∀ k, nd'.Z k → k < nd'.B ∧ nd.Z k ∧ nd'.O k = v.heap[k]?) : WL w0 v g nd' s := by
 obtain ⟨T, fv, a1, a2, a3, a4, a5, a6, a7⟩ := h
 refine ⟨T, fv, by rw [hf]; exact a1, a2, a3, a4, a5, hB, fun k hk => ?_⟩
 obtain ⟨c1, c2, c3⟩ := hZ k hk
 exact ⟨c1, c3.symm, (a7 k c2).2.2⟩
theorem WL.blw (h : WL w0 v g nd s) : Below w0.heap.size w0 v := by
 obtain ⟨T, fv, h1, h2, _⟩ := h
 exact h2
theorem WL.below (h : WL w0 v g nd s) (b : Below v.heap.size v v') : WL w0 v' g nd s := by
 obtain ⟨T, fv, h1, h2, h3, h4, h5, h6⟩ := h
 exact ⟨T, fv, h1.below b, h2.trans (b.mono h2.size), h3, h4, h5, h6.keep b.size (fun k hk => b.block k (Nat.lt_of_lt_of_le (h6.2 k hk).1 h6.1))⟩
theorem WL.f (h : WL w0 v g nd s) (k : Nat) : v.frozen? ⟨g, k, none⟩ = false := by
 obtain ⟨T, fv, h1, _⟩ := h
 exact h1.f k
theorem WL.cn (h : WL w0 v g nd s) {i : Nat} (hi : i < 8) : v.cell? ⟨g, i, none⟩ = some (.pointer (some ⟨nd i, 0, none⟩)) := by
 obtain ⟨T, fv, h1, _⟩ := h
 exact h1.cn hi hi
theorem WL.cd (h : WL w0 v g nd s) {i : Nat} (hi : i < 8) : v.cell? ⟨g, 8 + i, none⟩ = some (.bool (s.dn i)) := by
 obtain ⟨T, fv, h1, _⟩ := h
 exact h1.cd hi
theorem WL.cz (h : WL w0 v g nd s) : v.cell? ⟨g, 17, none⟩ = some (.int .i64 s.fuse) := by
 obtain ⟨T, fv, h1, _⟩ := h
 exact h1.cz
theorem WL.ce (h : WL w0 v g nd s) : v.cell? ⟨g, 18, none⟩ = some (.bool s.dead) := by
 obtain ⟨T, fv, h1, _⟩ := h
 exact h1.ce
theorem WL.cs (h : WL w0 v g nd s) : v.cell? ⟨g, 19, none⟩ = some (.int .i64 (s.sent : Int)) := by
 obtain ⟨T, fv, h1, _⟩ := h
 exact h1.cs
theorem WL.keepSet (h : WL w0 v g nd s) (k : Nat) (u : Value) : KeepW v (v.setCell ⟨g, k, none⟩ u) := by
 obtain ⟨T, fv, h1, _⟩ := h
 exact KeepW.set h1.hd
theorem WL.put (h : WL w0 v g nd s) {s' : Wp} (k : Nat) (u : Value) (hN : s'.N = s.N) (hF : s'.F = s.F) (hw : ∀ fv, (whead (nptr 8 nd.f) s.dn fv s.fuse s.dead s.sent).setIfInBounds k u = whead (nptr 8 nd.f) s'.dn fv s'.fuse s'.dead s'.sent) : WL w0 (v.setCell ⟨g, k, none⟩ u) g nd s' := by
 obtain ⟨T, fv, h1, h2, h3, h4, h5, h6⟩ := h
 exact ⟨T, fv, h1.put k u hN (hw fv) (by rw [hF]; exact h1.fat), h2.setCell h3 _, h3, h4, h5, h6.keep (by simp [World.setCell]) (fun k hk => set_other (h6.2 k hk).2.2.1 _ _)⟩
theorem WL.act (h : WL w0 v g nd s) {i : Nat} (hi : i < 8) : ∃ r p sb S, NdM v (nd i) r p sb S (s.N i) ∧ (s.N i).Ok ∧ ∀ w' r' sb' S' x, NdM w' (nd i) r' p sb' S' x → x.Ok → Turn (nd i :: r :: sb :: S) v w' → (∀ k ∈ r' :: sb' :: S', k ∈ r :: sb :: S ∨ v.heap.size ≤ k) → WL w0 w' g nd (s.setN i x) ∧ KeepW v w' := by
 obtain ⟨T, fv, h1, h2, h3, h4, h5, h6⟩ := h
 obtain ⟨r, p, sb, S, a1, a2, a3, a4⟩ := h1.act hi
 refine ⟨r, p, sb, S, a1, a2, fun w' r' sb' S' x n1 n2 t hs => ?_⟩
 obtain ⟨T', b1, b2, b3⟩ := a4 w' r' sb' S' x n1 n2 t hs
 refine ⟨⟨T', fv, b1, Below.of_turn h2 t (fun k hk => h5 i hi k ?_) h2.size, h3, h4, fun j hj k hk => ?_, Nat.le_trans h6.1 t.size, fun k hk => ?_⟩, KeepW.ofN b2⟩
 ·rw [a3]
  simp only [List.mem_cons] at hk ⊢
  rcases hk with h | h | h | h <;> simp [h]
 ·rcases b3 j hj k hk with h | h
  ·exact h5 j hj k h
  ·exact Nat.le_trans h2.size h
 ·obtain ⟨c1, c2, c3, c4, c5⟩ := h6.2 k hk
  refine ⟨c1, (t.block k (Nat.lt_of_lt_of_le c1 h6.1) (fun hm => c5 i hi ?_)).trans c2, c3, c4, fun j hj hm => ?_⟩
  ·rw [a3]
   simp only [List.mem_cons] at hm ⊢
   rcases hm with h | h | h | h <;> simp [h]
  ·rcases b3 j hj k hm with h | h
   ·exact c5 j hj h
   ·have := h6.1
    omega
end

theorem wl_node {w0 v : World} {g : Nat} {nd : ND} {s : Wp} (h : WL w0 v g nd s) {n : Nat} (hn : n < 8) : Calls Tryz.prog 16 #[.pointer (some ⟨g, 0, none⟩), .int .i64 (n : Int)] v fun e w' => e = .returned (.pointer (some ⟨nd n, 0, none⟩)) ∧ w' = v := by
 have c1 := h.cn hn
 have n1 : ¬ (n : Int) < 0 := by omega
 have n2 : (n : Int) < 8 := by omega
 have n3 : ¬ (8 : Int) ≤ (n : Int) := by omega
 clear h
 go_enter Tryz.func16, Tryz.ntmps16
 go_wp2_with fail
 go_ret
 exact ⟨rfl, rfl⟩
theorem wl_has {w0 v : World} {g : Nat} {nd : ND} {s : Wp} (h : WL w0 v g nd s) {n : Nat} (hn : n < 8) : Calls Tryz.prog 43 #[.pointer (some ⟨g, 0, none⟩), .int .i64 (n : Int)] v fun e w' => e = .returned (.bool true) ∧ w' = v := by
 have H := Lib.hid (wl_node h hn)
 clear h
 go_enter Tryz.func43, Tryz.ntmps43
 go_wp2_with fail
 refine H.out.mono ?_
 rintro e w' ⟨rfl, hw⟩
 obtain rfl := hw.symm
 go_wp2_with fail
 go_ret
 exact ⟨rfl, rfl⟩
end Go.Proofs.YtobkmohoepgfmaaGreatDoor
namespace Go.Proofs.YtobkmohoepgfmaaGreatDoor
open Go.RowKit Go.Sort
set_option maxRecDepth 100000
set_option maxHeartbeats 2000000

def WRet (w0 v : World) (g : Nat) (nd : ND) (s : Wp) (x : Value) (e : Ending) (w' : World) : Prop := e = .returned x ∧ WL w0 w' g nd s ∧ KeepW v w'
def Wp.setD (s : Wp) (n : Nat) (b : Bool) : Wp := { s with dn := fun i => if i = n then b else s.dn i }
section
variable {w0 v : World} {g : Nat} {nd : ND} {s : Wp}
theorem whead_setD {nd : Nat → Nat} {s : Wp} {fv : Value} {n : Nat} (hn : n < 8) (b : Bool) : (whead (nptr 8 nd) s.dn fv s.fuse s.dead s.sent).setIfInBounds (8 + n) (.bool b) = whead (nptr 8 nd) (s.setD n b).dn fv s.fuse s.dead s.sent := by
 rcases (by omega : n = 0 ∨ n = 1 ∨ n = 2 ∨ n = 3 ∨ n = 4 ∨ n = 5 ∨ n = 6 ∨ n = 7) with rfl | rfl | rfl | rfl | rfl | rfl | rfl | rfl <;> rfl
theorem wl_down (h : WL w0 v g nd s) {n : Nat} (hn : n < 8) (b : Bool) : Calls Tryz.prog 18 #[.pointer (some ⟨g, 0, none⟩), .int .i64 (n : Int), .bool b] v (WRet w0 v g nd (s.setD n b) (.bool true)) := by
 have H0 := Lib.hid (wl_has h hn)
 have c1 := h.cd hn
 have f1 := h.f (8 + n)
 have H := Lib.hid (And.intro (h.put (s' := s.setD n b) (8 + n) (.bool b) rfl rfl (fun _ => whead_setD hn b)) (h.keepSet (8 + n) (.bool b)))
 have n2 : (n : Int) < 8 := by omega
 clear h
 go_enter Tryz.func18, Tryz.ntmps18
 go_wp2_with fail
 refine H0.out.mono ?_
 rintro e w' ⟨rfl, hw⟩
 obtain rfl := hw.symm
 go_wp2_with fail
 go_ret
 exact ⟨rfl, H.out.1, H.out.2⟩
theorem wl_leads (h : WL w0 v g nd s) {n : Nat} (hn : n < 8) (hb : s.fuse ≤ 1000000000) (hb2 : -1000000000 ≤ s.fuse) : Calls Tryz.prog 75 #[.pointer (some ⟨g, 0, none⟩), .int .i64 (n : Int)] v (WRet w0 v g nd (s.leads n).1 (.bool (s.leads n).2)) := by
 have c1 := h.ce
 have c2 := h.cd hn
 have c3 := h.cz
 have f3 := h.f 17
 have f1 := h.f 18
 have n2 : (n : Int) < 8 := by omega
 have HS := Lib.hid h
 obtain ⟨N, dn, F, fuse, dead, sent⟩ := s
 dsimp only at c1 c2 c3 hb hb2
 obtain ⟨b, hdb⟩ : ∃ b, dn n = b := ⟨_, rfl⟩
 rw [hdb] at c2
 have HD := Lib.hid hdb
 clear h hdb
 cases dead with
 | true =>
  go_enter Tryz.func75, Tryz.ntmps75
  go_wp2_with fail
  go_ret
  exact ⟨rfl, HS.out, KeepW.refl _⟩
 | false =>
  cases b with
  | true =>
   have hl : (Wp.leads ⟨N, dn, F, fuse, false, sent⟩ n) = (⟨N, dn, F, fuse, false, sent⟩, false) := by simp [Wp.leads, HD.out]
   rw [hl]
   clear hl
   go_enter Tryz.func75, Tryz.ntmps75
   go_wp2_with fail
   go_ret
   exact ⟨rfl, HS.out, KeepW.refl _⟩
  | false =>
   by_cases h0 : fuse = 0
   ·subst h0
    have hl : (Wp.leads ⟨N, dn, F, 0, false, sent⟩ n) = (⟨N, dn, F, 0, true, sent⟩, false) := by simp [Wp.leads, HD.out]
    rw [hl]
    clear hl
    go_enter Tryz.func75, Tryz.ntmps75
    go_wp2_with fail
    go_ret
    exact ⟨rfl, HS.out.put 18 (.bool true) rfl rfl (fun _ => rfl), HS.out.keepSet 18 _⟩
   ·have e0 : (fuse == 0) = false := by simp [h0]
    by_cases h1 : 0 < fuse
    ·have hl : (Wp.leads ⟨N, dn, F, fuse, false, sent⟩ n) = (⟨N, dn, F, fuse - 1, false, sent⟩, true) := by simp [Wp.leads, HD.out, h0, h1]
     rw [hl]
     have wx : IntKind.i64.wrap (fuse - 1) = fuse - 1 := IntWalk.i64_in _ (by omega)
     clear hl h0
     go_enter Tryz.func75, Tryz.ntmps75
     go_wp2_with fail
     go_ret
     exact ⟨rfl, HS.out.put 17 (.int .i64 (fuse - 1)) rfl rfl (fun _ => rfl), HS.out.keepSet 17 _⟩
    ·have hl : (Wp.leads ⟨N, dn, F, fuse, false, sent⟩ n) = (⟨N, dn, F, fuse, false, sent⟩, true) := by simp [Wp.leads, HD.out, h0, h1]
     rw [hl]
     clear hl h0
     go_enter Tryz.func75, Tryz.ntmps75
     go_wp2_with fail
     go_ret
     exact ⟨rfl, HS.out, KeepW.refl _⟩
theorem FatV.tail {w : World} {v : Value} {x : Int} {F : List Int} (h : FatV w v (x :: F)) : ∃ g o c row, v = .slice (some ⟨g, o, none⟩) (F.length + 1) c ∧ F.length + 1 ≤ c ∧ c ≤ maxLen ∧ w.heap[g]? = some (.cells row 3 (0, 0)) ∧ w.cell? ⟨g, o, none⟩ = some (.int .i64 x) ∧
  ∀ A, (A = some ⟨g, o + 1, none⟩ ∨ c = 1) → FatV w (.slice A F.length (c - 1)) F := by
 obtain ⟨A, c, rfl, h1, h2, h3⟩ := h
 rw [List.length_cons] at h1
 obtain ⟨g, o, row, rfl, r1, r2, r3⟩ := h3 (by omega)
 refine ⟨g, o, c, row, rfl, h1, h2, r1, by rw [cell_of_block r1]; exact r3 0 x rfl, fun A hA => ⟨A, c - 1, rfl, by omega, by omega, fun hc => ?_⟩⟩
 rcases hA with rfl | hA
 ·exact ⟨g, o + 1, row, rfl, r1, by omega, fun i y hy => by rw [show o + 1 + i = o + (i + 1) by omega]; exact r3 (i + 1) y hy⟩
 ·omega
theorem WL.putF (h : WL w0 v g nd s) {fv : Value} {F : List Int} (hf : FatV v fv F) (hb : ∀ k ∈ fatB fv, w0.heap.size ≤ k ∧ ¬ nd.Z k) : WL w0 (v.setCell ⟨g, 16, none⟩ fv) g nd { s with F := F } := by
 obtain ⟨T, fv0, h1, h2, h3, h4, h5, h6⟩ := h
 exact ⟨T, fv, h1.put (s' := { s with F := F }) 16 fv rfl rfl hf, h2.setCell h3 _, h3, fun k hk => (hb k hk).1, h5, Nat.le_trans h6.1 (by simp [World.setCell]), fun k hk => ⟨(h6.2 k hk).1, (set_other (h6.2 k hk).2.2.1 _ _).trans (h6.2 k hk).2.1, (h6.2 k hk).2.2.1, fun hm => (hb k hm).2 hk, (h6.2 k hk).2.2.2.2⟩⟩
theorem WL.fat (h : WL w0 v g nd s) : ∃ fv, v.cell? ⟨g, 16, none⟩ = some fv ∧ FatV v fv s.F ∧ ∀ k ∈ fatB fv, w0.heap.size ≤ k ∧ ¬ nd.Z k := by
 obtain ⟨T, fv, h1, h2, h3, h4, _, h6⟩ := h
 exact ⟨fv, h1.cf, h1.fat, fun k hk => ⟨h4 k hk, fun hz => (h6.2 k hz).2.2.2.1 hk⟩⟩
theorem wl_fate (h : WL w0 v g nd s) : Calls Tryz.prog 108 #[.pointer (some ⟨g, 0, none⟩)] v (WRet w0 v g nd s.took (.int .i64 s.fate)) := by
 obtain ⟨fv, c1, hf, hb⟩ := h.fat
 have f1 := h.f 16
 have HS := Lib.hid h
 obtain ⟨N, dn, F, fuse, dead, sent⟩ := s
 dsimp only at hf
 clear h
 cases F with
 | nil =>
  obtain ⟨A, c, rfl, _, _, _⟩ := hf
  clear hb
  go_enter Tryz.func108, Tryz.ntmps108
  go_wp2_with fail
  go_ret
  exact ⟨rfl, HS.out, KeepW.refl _⟩
 | cons x F =>
  obtain ⟨gf, o, c, row, rfl, k1, k2, r1, r2, r3⟩ := hf.tail
  have HR := Lib.hid r3
  have HB : Hid (w0.heap.size ≤ gf ∧ ¬ nd.Z gf) := Lib.hid (hb gf (by simp [fatB]; omega))
  have e0 : ((F.length : Int) + 1 == 0) = false := by rw [beq_eq_false_iff_ne]; omega
  obtain ⟨m, hm⟩ : ∃ m, F.length = m := ⟨_, rfl⟩
  rw [hm] at k1 c1 e0
  have HM := Lib.hid hm
  have hc1 : (1 : Int) ≤ (c : Int) := by omega
  have hml : m ≤ 9223372036854775806 := by unfold maxLen at k2; omega
  have hcl : c ≤ 9223372036854775807 := by unfold maxLen at k2; omega
  clear r3 hb hf hm r1 k2
  by_cases hk : c = 1
  ·subst hk
   obtain rfl : m = 0 := by omega
   have HL := Lib.hid (HS.out.putF (F := F) (fv := .slice (some ⟨gf, o, none⟩) 0 0) (by have := HR.out (some ⟨gf, o, none⟩) (Or.inr rfl); rw [HM.out] at this; exact this) (fun k hk => by simp [fatB] at hk))
   clear HR
   go_enter Tryz.func108, Tryz.ntmps108
   go_wp2_with fail
   go_ret
   exact ⟨rfl, HL.out, HS.out.keepSet 16 _⟩
  ·have HL := Lib.hid (HS.out.putF (F := F) (fv := .slice (some ⟨gf, o + 1, none⟩) m (c - 1)) (by have := HR.out (some ⟨gf, o + 1, none⟩) (Or.inl rfl); rw [HM.out] at this; exact this) (fun k hk' => by
    have : 0 < c - 1 := by omega
    simp [fatB, this] at hk'
    rw [hk']
    exact HB.out))
   clear HR
   go_enter Tryz.func108, Tryz.ntmps108
   go_wp2_with fail
   go_ret
   exact ⟨rfl, HL.out, HS.out.keepSet 16 _⟩
end
end Go.Proofs.YtobkmohoepgfmaaGreatDoor
namespace Go.Proofs.YtobkmohoepgfmaaGreatDoor
open Go.RowKit Go.Sort
set_option maxRecDepth 100000
set_option maxHeartbeats 2000000

theorem Wp.setN_at (s : Wp) (n : Nat) (a : Ns) : (s.setN n a).N n = a := by simp [Wp.setN]
theorem Wp.setN_two (s : Wp) (n : Nat) (a b : Ns) : (s.setN n a).setN n b = s.setN n b := by
 unfold Wp.setN
 congr 1
 funext i
 dsimp only
 split <;> rfl
def RepV (w : World) (B : Nat) (y : Ns × Rp) (v : Value) : Prop :=
 ∃ A c A' c', v = rpv (y.2.code : Int) (y.1.boot : Int) (.slice A y.2.ps.length c) (.slice A' y.2.its.length c') ∧ PL w B (.slice A y.2.ps.length c) y.2.ps ∧ LI w B (.slice A' y.2.its.length c') y.2.its
theorem RepV.keep {w w' : World} {B : Nat} {y : Ns × Rp} {v : Value} (h : RepV w B y v) (k : KeepB w w') : RepV w' B y v := by
 obtain ⟨A, c, A', c', e, hp, hl⟩ := h
 exact ⟨A, c, A', c', e, k.pl hp, k.li hl⟩
theorem RepV.mono {w : World} {B B' : Nat} {y : Ns × Rp} {v : Value} (h : RepV w B y v) (hB : B' ≤ B) : RepV w B' y v := by
 obtain ⟨A, c, A', c', e, hp, hl⟩ := h
 exact ⟨A, c, A', c', e, hp.mono hB, hl.mono hB⟩
section
variable {w0 v : World} {g : Nat} {nd : ND} {s : Wp}
theorem wl_do (h : WL w0 v g nd s) {n : Nat} (hn : n < 8) (q : Rq) (A : Option Addr) (c : Nat) (hd : DatN v A q.n q.D) (hD : ∀ j, j < q.n → q.D j < 256) (hw : (s.N n).nw ≤ 1000000000) (hl : (s.N n).last ≤ 1000000000) :
  Calls Tryz.prog 109 #[.pointer (some ⟨nd n, 0, none⟩), rqv q.k q.s q.g q.i A q.n c] v fun e w' => ∃ x, e = .returned x ∧ RepV w' v.heap.size ((s.N n).act q) x ∧ WL w0 w' g nd (s.setN n ((s.N n).act q).1) ∧ KeepW v w' := by
 obtain ⟨r, p, sb, S, h1, h2, h3⟩ := h.act hn
 refine (ndo h1 h2 q A c hd hD hw hl).mono ?_
 rintro e w' ⟨S', B, c1, B', c2, rfl, hp, hi, hn', ht, hS⟩
 obtain ⟨k1, k2⟩ := h3 w' r sb S' _ hn' (h2.act hD).1 (ht.mono (fun k hk => List.mem_cons_of_mem _ hk)) (fun k hk => by
  simp only [List.mem_cons] at hk ⊢
  rcases hk with rfl | rfl | hk
  ·simp
  ·simp
  ·rcases hS k hk with h | h
   ·simp [h]
   ·exact Or.inr h)
 exact ⟨_, rfl, ⟨B, c1, B', c2, rfl, hp, hi⟩, k1, k2⟩
theorem wl_crash (h : WL w0 v g nd s) {n : Nat} (hn : n < 8) (A : Option Addr) (xs : List Int) (c : Nat) (hxs : Nums v A xs) (hlen : xs.length ≤ 9223372036854775807) (hw : (s.N n).nw ≤ 1000000000) (hl : (s.N n).last ≤ 1000000000) (hb : (s.N n).boot ≤ 1000000000) :
  Calls Tryz.prog 110 #[.pointer (some ⟨nd n, 0, none⟩), .slice A xs.length c] v (WRet w0 v g nd (s.setN n ((s.N n).crash xs)) (.tuple #[])) := by
 obtain ⟨r, p, sb, S, h1, h2, h3⟩ := h.act hn
 refine (ncrash h1 h2 A xs c hxs hlen hw hl hb).mono ?_
 rintro e w' ⟨r', sb', S', rfl, hn', ht, k1, k2, hS⟩
 obtain ⟨q1, q2⟩ := h3 w' r' sb' S' _ hn' (h2.crash xs).1 (ht.mono (fun k hk => by simp at hk ⊢; rcases hk with h | h <;> simp [h])) (fun k hk => by
  simp only [List.mem_cons] at hk ⊢
  rcases hk with rfl | rfl | hk
  ·exact Or.inr k1
  ·exact Or.inr k2
  ·rcases hS k hk with h | h
   ·simp [h]
   ·exact Or.inr h)
 exact ⟨rfl, q1, q2⟩
theorem wl_crash0 (h : WL w0 v g nd s) {n : Nat} (hn : n < 8) (hw : (s.N n).nw ≤ 1000000000) (hl : (s.N n).last ≤ 1000000000) (hb : (s.N n).boot ≤ 1000000000) :
  Calls Tryz.prog 110 #[.pointer (some ⟨nd n, 0, none⟩), .slice none 0 0] v (WRet w0 v g nd (s.setN n ((s.N n).crash [])) (.tuple #[])) :=
 wl_crash h hn none [] 0 (fun i x hi => by simp at hi) (by simp) hw hl hb
def SendRet (w0 v : World) (g : Nat) (nd : ND) (x : Wp × Option (Ns × Rp)) (e : Ending) (w' : World) : Prop :=
 ∃ r b, e = .returned (.tuple #[r, .bool b]) ∧ WL w0 w' g nd x.1 ∧ KeepW v w' ∧ ((x.2 = none ∧ b = false ∧ r = rpv 0 0 (.slice none 0 0) (.slice none 0 0)) ∨ ∃ y, x.2 = some y ∧ b = true ∧ RepV w' v.heap.size y r)
theorem WL.setO (h : WL w0 v g nd s) {b : Nat} {cs : Array Value} {t : TypeId} {fr : Nat × Nat} (hb : v.heap[b]? = some (.cells cs t fr)) (ht : ¬ WiT t) (h8 : t ≠ 5) (hB : w0.heap.size ≤ b) (hz : ¬ nd.Z b) (k : Nat) (u : Value) (h7 : t ≠ 3 := by decide) : WL w0 (v.setCell ⟨b, k, none⟩ u) g nd s := by
 obtain ⟨T, fv, h1, h2, h3, h4, h5, h6⟩ := h
 have hne : ∀ (j : Nat) (cs' : Array Value) (t' : TypeId) (fr' : Nat × Nat), v.heap[j]? = some (.cells cs' t' fr') → WiT t' ∨ t' = 5 ∨ t' = 3 → j ≠ b := by
  intro j cs' t' fr' hj hw e
  subst e
  rw [hb] at hj
  cases hj
  rcases hw with hw | hw | hw
  ·exact ht hw
  ·exact h8 hw
  ·exact h7 hw
 refine ⟨T, fv, h1.same (fun j hj => set_other ?_ _ _) (fun i hi j hj => set_other ?_ _ _) (fun j cs' hj => set_other ?_ _ _), h2.setCell hB _, h3, h4, h5, h6.keep (by simp [World.setCell]) (fun k hk => set_other (fun e => by rw [e] at hk; exact hz hk) _ _)⟩
 ·rw [List.mem_cons] at hj
  rcases hj with rfl | hj
  ·exact hne _ _ _ _ h1.hd (Or.inl (Or.inr rfl))
  ·obtain ⟨row, hr⟩ := h1.fat.type j hj
   exact hne _ _ _ _ hr (Or.inr (Or.inr rfl))
 ·obtain ⟨r, p, sb, S, q1, q2, q3⟩ := h1.node i hi
  have hj' : j ∈ nd i :: r :: sb :: S := by
   rw [q3] at hj
   simp only [List.mem_cons] at hj ⊢
   rcases hj with rfl | rfl | rfl | rfl | hj
   ·simp
   ·simp
   ·obtain ⟨db, nb, pv, _, _, hS⟩ := q1.plt
    rw [hS]
    simp
   ·simp
   ·simp [hj]
  obtain ⟨cs', t', hc, hT⟩ := q1.type j hj'
  exact hne _ _ _ _ hc (Or.inl (Or.inl hT))
 ·exact hne _ _ _ _ hj (Or.inr (Or.inl rfl))
theorem rep_notW : ¬ WiT 103 := notWi (by decide) (by decide) (by decide) (by decide) (by decide) (by decide) (by decide)
theorem KeepW.setNew {w w' : World} (h : KeepW w w') {b : Nat} (hb : w.heap.size ≤ b) (k : Nat) (u : Value) : KeepW w (w'.setCell ⟨b, k, none⟩ u) := by
 refine ⟨Nat.le_trans h.1 (by simp [World.setCell]), fun j o hj ho => ?_⟩
 rw [set_other (by have := heap_lt hj; omega)]
 exact h.2 j o hj ho
abbrev set4 (w : World) (b : Nat) (x0 x1 x2 x3 : Value) : World := (((w.setCell ⟨b, 0, none⟩ x0).setCell ⟨b, 1, none⟩ x1).setCell ⟨b, 2, none⟩ x2).setCell ⟨b, 3, none⟩ x3
theorem WL.set4 (h : WL w0 v g nd s) {b : Nat} {k k2 : Int} {u u2 : Value} (hr : RV v b k k2 u u2) (hB : w0.heap.size ≤ b ∧ nd.B ≤ b) (x0 x1 x2 x3 : Value) : WL w0 (set4 v b x0 x1 x2 x3) g nd s := by
 have hz : ¬ nd.Z b := fun hz => by have := h.zlt hz; omega
 have h0 : v.heap[b]? = some (.cells #[.int .i64 k, .int .i64 k2, u, u2] 103 (0, 0)) := hr
 have h1 := set_block h0 0 x0
 have h2 := set_block h1 1 x1
 have h3 := set_block h2 2 x2
 exact (((h.setO h0 rep_notW (by decide) hB.1 hz 0 x0).setO h1 rep_notW (by decide) hB.1 hz 1 x1).setO h2 rep_notW (by decide) hB.1 hz 2 x2).setO h3 rep_notW (by decide) hB.1 hz 3 x3
theorem KeepW.set4 {w w' : World} (h : KeepW w w') {b : Nat} (hb : w.heap.size ≤ b) (x0 x1 x2 x3 : Value) : KeepW w (set4 w' b x0 x1 x2 x3) := (((h.setNew hb 0 x0).setNew hb 1 x1).setNew hb 2 x2).setNew hb 3 x3
theorem RepV.set4 {w : World} {B b : Nat} {k k2 : Int} {u u2 : Value} {y : Ns × Rp} {x : Value} (h : RepV w B y x) (hr : RV w b k k2 u u2) (x0 x1 x2 x3 : Value) : RepV (set4 w b x0 x1 x2 x3) B y x := by
 have h0 : w.heap[b]? = some (.cells #[.int .i64 k, .int .i64 k2, u, u2] 103 (0, 0)) := hr
 have h1 := set_block h0 0 x0
 have h2 := set_block h1 1 x1
 have h3 := set_block h2 2 x2
 exact h.keep (((KeepB.set h0 (by decide) (by decide) (by decide)).trans (KeepB.set h1 (by decide) (by decide) (by decide))).trans ((KeepB.set h2 (by decide) (by decide) (by decide)).trans (KeepB.set h3 (by decide) (by decide) (by decide))))
end
end Go.Proofs.YtobkmohoepgfmaaGreatDoor
namespace Go.Proofs.YtobkmohoepgfmaaGreatDoor
open Go.RowKit Go.Sort
set_option maxRecDepth 100000
set_option maxHeartbeats 2000000

theorem wl_send {w0 v : World} {g : Nat} {nd : ND} {s : Wp} (h : WL w0 v g nd s) {m : Nat} (ho : s.Ok m) (hm : m ≤ 999999990) {n : Nat} (hn : n < 8) (hs : s.sent ≤ 1000000000) (q : Rq) (A : Option Addr) (c : Nat) (hd : DatN v A q.n q.D) (hD : ∀ j, j < q.n → q.D j < 256) :
  Calls Tryz.prog 76 #[.pointer (some ⟨g, 0, none⟩), .int .i64 (n : Int), rqv q.k q.s q.g q.i A q.n c] v (SendRet w0 v g nd (s.send n q)) := by
 obtain ⟨H, hH⟩ : ∃ H, v.heap.size = H := ⟨_, rfl⟩
 have HH := Lib.hid hH
 obtain ⟨v1, hv1⟩ : ∃ v1, (v.alloc (.cells #[.int .i64 q.k, .int .i64 q.s, .int .i64 q.g, .int .i64 q.i, .slice A q.n c] 107)).alloc (.cells #[.int .i64 0, .int .i64 0, .slice none 0 0, .slice none 0 0] 103) = v1 := ⟨_, rfl⟩
 have HV1 := Lib.hid hv1
 have B1 : Below v.heap.size v v1 := by rw [← hv1]; exact ((Below.refl _ _).alloc (Nat.le_refl _) _).alloc (by simp) _
 have W1 := h.below B1
 have q1 : QV v1 H q.k q.s q.g q.i A q.n c := by rw [← hv1]; exact (QV.of_new hH).below ((Below.refl _ _).alloc (Nat.le_refl _) _)
 have r1 : RV v1 (H + 1) 0 0 (.slice none 0 0) (.slice none 0 0) := by rw [← hv1]; exact RV.of_new (by simp [hH])
 obtain ⟨b1, hb1⟩ : ∃ b1, s.sent + 1 = b1 := ⟨_, rfl⟩
 have hwp : IntKind.i64.wrap ((s.sent : Int) + 1) = (b1 : Int) := by rw [IntWalk.i64_in _ (by omega)]; omega
 have W2 := W1.put (s' := s.cnt) 19 (.int .i64 (b1 : Int)) rfl rfl (fun fv => by show _ = whead (nptr 8 nd.f) s.dn fv s.fuse s.dead (s.sent + 1); rw [hb1]; rfl)
 have K2 := (KeepW.of B1).trans (W1.keepSet 19 (.int .i64 (b1 : Int)))
 have c1 := W1.cs
 have f1 := W1.f 19
 obtain ⟨v2, hv2⟩ : ∃ v2, v1.setCell ⟨g, 19, none⟩ (.int .i64 (b1 : Int)) = v2 := ⟨_, rfl⟩
 have HV2 := Lib.hid hv2
 have hN : w0.heap.size ≤ H ∧ nd.B ≤ H := by rw [← hH]; exact ⟨h.blw.size, h.zB⟩
 rw [hv2] at W2 K2
 have q2 := (W1.keepSet 19 (.int .i64 (b1 : Int))).qv q1
 have r2 := (W1.keepSet 19 (.int .i64 (b1 : Int))).rv r1
 rw [hv2] at q2 r2
 have HF := Lib.hid (wl_fate W2)
 have c2 := W2.cn hn
 have n2 : (n : Int) < 8 := by omega
 obtain ⟨f, hf⟩ : ∃ f, s.fate = f := ⟨_, rfl⟩
 obtain ⟨s3, hs3⟩ : ∃ s3, s.cnt.took = s3 := ⟨_, rfl⟩
 obtain ⟨xx, hxx⟩ : ∃ xx, s.send n q = xx := ⟨_, rfl⟩
 rw [hxx]
 have hf2 : s.cnt.fate = f := hf
 rw [hf2] at HF
 have HK2 := Lib.hid (And.intro K2 (And.intro q2 r2))
 have HD := Lib.hid (K2.b.datN hd)
 have HDB := Lib.hid hD
 have HO : Hid (s3.Ok m) := Lib.hid (by rw [← hs3]; exact Wp.Ok.congr (s' := s.cnt.took) ho rfl)
 have HS : Hid (xx = s3.sendF n q f) := Lib.hid (by rw [← hxx, ← hs3]; unfold Wp.send; rw [hf])
 rw [hs3] at HF
 clear hxx
 clear h hd hD ho hH hv1 hv2 B1 W1 K2 W2 hb1 hf hf2 q1 r1 q2 r2 hs3
 go_enter Tryz.func76, Tryz.ntmps76
 go_upto_region 1 with fail
 rw [HV1.out, HH.out]
 go_upto_region 2 with fail
 rw [HV2.out]
 clear c1 f1
 go_wp2_with fail
 refine HF.out.mono ?_
 rintro e w3 ⟨rfl, W3, K3⟩
 try dsimp only
 have HW3 := Lib.hid W3
 have HK3 := Lib.hid (HK2.out.1.trans K3)
 have q3 := K3.qv HK2.out.2.1
 have r3 := K3.rv HK2.out.2.2
 have HD3 := Lib.hid (K3.b.datN HD.out)
 have HR3 := Lib.hid r3
 have HQ3 := Lib.hid q3
 have HH3 : Hid (H + 1 < w3.heap.size) := Lib.hid r3.lt
 have rf : ∀ k, w3.frozen? ⟨H + 1, k, none⟩ = false := r3.f
 have x0 := r3.c0
 have x1 := r3.c1
 have x2 := r3.c2
 have x3 := r3.c3
 have y0 := q3.c0
 have y1 := q3.c1
 have y2 := q3.c2
 have y3 := q3.c3
 have y4 := q3.c4
 clear W3 K3 q3 r3 c2
 have HN : Hid (w0.heap.size ≤ H ∧ nd.B ≤ H) := Lib.hid hN
 have HVH : Hid (v.heap.size = H) := HH
 clear hN HF HK2 HD HV1 HV2 HH
 by_cases e1 : f = 1
 ·subst e1
  have hx : s3.sendF n q 1 = (s3, none) := by unfold Wp.sendF; rw [if_pos rfl]
  have HX : Hid (xx = (s3, none)) := Lib.hid (HS.out.trans hx)
  clear hx HS
  go_wp2_with fail
  refine bodyPost_ret (v := .tuple #[rpv 0 0 (.slice none 0 0) (.slice none 0 0), .bool false]) ?_ rfl ?_
  ·rw [results_cell_tmp rfl]
   simp [(HR3.out.put4 (code' := 0) (boot' := 0) (u' := .slice none 0 0) (v' := .slice none 0 0)).load, Result.andThen, asAddr]
  rw [HX.out]
  exact ⟨_, _, rfl, HW3.out.set4 HR3.out (by have := HN.out; omega) _ _ _ _, HK3.out.set4 (by have := HVH.out; omega) _ _ _ _, Or.inl ⟨rfl, rfl, rfl⟩⟩
 ·have g1 : (f == 1) = false := by simp [e1]
  by_cases e2 : f = 2
  ·subst e2
   have hx : s3.sendF n q 2 = (s3.setN n ((s3.N n).act q).1, none) := by unfold Wp.sendF; rw [if_neg (by decide), if_pos rfl]
   have HX := Lib.hid (HS.out.trans hx)
   have HA := Lib.hid (wl_do HW3.out hn q A c HD3.out HDB.out (Nat.le_trans (HO.out.nw n hn) (by omega)) (Nat.le_trans (HO.out.last n hn) (by omega)))
   unfold rqv at HA
   clear hx e1
   go_wp2_with fail
   refine HA.out.mono ?_
   rintro e w4 ⟨x, rfl, P4, W4, K4⟩
   try dsimp only
   have r4 := K4.rv HR3.out
   have HR4 := Lib.hid r4
   have HZ4 := Lib.hid (And.intro W4 (HK3.out.trans K4))
   have rf4 : ∀ k, w4.frozen? ⟨H + 1, k, none⟩ = false := r4.f
   clear x0 x1 x2 x3 y0 y1 y2 y3 y4 rf
   have x0 := r4.c0
   have x1 := r4.c1
   have x2 := r4.c2
   have x3 := r4.c3
   clear W4 K4 r4 P4
   go_wp2_with fail
   refine bodyPost_ret (v := .tuple #[rpv 0 0 (.slice none 0 0) (.slice none 0 0), .bool false]) ?_ rfl ?_
   ·rw [results_cell_tmp rfl]
    simp [(HR4.out.put4 (code' := 0) (boot' := 0) (u' := .slice none 0 0) (v' := .slice none 0 0)).load, Result.andThen, asAddr]
   rw [HX.out]
   exact ⟨_, _, rfl, HZ4.out.1.set4 HR4.out (by have := HN.out; omega) _ _ _ _, HZ4.out.2.set4 (by have := HVH.out; omega) _ _ _ _, Or.inl ⟨rfl, rfl, rfl⟩⟩
  ·have g2 : (f == 2) = false := by simp [e2]
   by_cases e3 : f = 3
   ·subst e3
    have hx : s3.sendF n q 3 = (s3.setN n (((s3.N n).crash []).act q).1, some (((s3.N n).crash []).act q)) := by unfold Wp.sendF; rw [if_neg (by decide), if_neg (by decide), if_pos rfl]
    have HX := Lib.hid (HS.out.trans hx)
    have HC := Lib.hid (wl_crash0 HW3.out hn (Nat.le_trans (HO.out.nw n hn) (by omega)) (Nat.le_trans (HO.out.last n hn) (by omega)) (Nat.le_trans (HO.out.boot n hn) (by omega)))
    have hcr := HO.out.crash hn []
    have HB4 : Hid (((s3.N n).crash []).nw ≤ 1000000000 ∧ ((s3.N n).crash []).last ≤ 1000000000) := Lib.hid ⟨by have := hcr.2.1; omega, by have := hcr.2.2.1; omega⟩
    clear hx e1 e2 hcr
    go_wp2_with fail
    refine HC.out.mono ?_
    rintro e w4 ⟨rfl, W4, K4⟩
    try dsimp only
    have HA := Lib.hid (wl_do W4 hn q A c (K4.b.datN HD3.out) HDB.out (by rw [Wp.setN_at]; exact HB4.out.1) (by rw [Wp.setN_at]; exact HB4.out.2))
    rw [Wp.setN_at, Wp.setN_two] at HA
    unfold rqv at HA
    have q4 := K4.qv HQ3.out
    have HR4 := Lib.hid (K4.rv HR3.out)
    have HK4 := Lib.hid (HK3.out.trans K4)
    have HS4 : Hid (v.heap.size ≤ w4.heap.size) := Lib.hid HK4.out.1
    clear x0 x1 x2 x3 y0 y1 y2 y3 y4 rf
    have y0 := q4.c0
    have y1 := q4.c1
    have y2 := q4.c2
    have y3 := q4.c3
    have y4 := q4.c4
    clear W4 K4 q4
    go_wp2_with fail
    refine HA.out.mono ?_
    rintro e w5 ⟨x, rfl, P5, W5, K5⟩
    try dsimp only
    obtain ⟨B, cb, B', cb', rfl, P5'⟩ := P5
    have P5 : RepV w5 w4.heap.size (((s3.N n).crash []).act q) (rpv ((((s3.N n).crash []).act q).2.code : Int) ((((s3.N n).crash []).act q).1.boot : Int) (.slice B (((s3.N n).crash []).act q).2.ps.length cb) (.slice B' (((s3.N n).crash []).act q).2.its.length cb')) := ⟨B, cb, B', cb', rfl, P5'⟩
    clear P5'
    obtain ⟨y, hy⟩ : ∃ y, ((s3.N n).crash []).act q = y := ⟨_, rfl⟩
    rw [hy] at P5 W5 HX ⊢
    have r5 := K5.rv HR4.out
    have HR5 := Lib.hid r5
    have HZ5 := Lib.hid (And.intro W5 (And.intro (HK4.out.trans K5) P5))
    have rf5 : ∀ k, w5.frozen? ⟨H + 1, k, none⟩ = false := r5.f
    clear y0 y1 y2 y3 y4
    have x0 := r5.c0
    have x1 := r5.c1
    have x2 := r5.c2
    have x3 := r5.c3
    obtain ⟨k0, hk0⟩ : ∃ k0 : Nat, y.2.code = k0 := ⟨_, rfl⟩
    obtain ⟨k1, hk1⟩ : ∃ k1 : Nat, y.1.boot = k1 := ⟨_, rfl⟩
    obtain ⟨l0, hl0⟩ : ∃ l0, y.2.ps.length = l0 := ⟨_, rfl⟩
    obtain ⟨l1, hl1⟩ : ∃ l1, y.2.its.length = l1 := ⟨_, rfl⟩
    rw [hk0, hk1, hl0, hl1] at HZ5
    rw [hk0, hk1, hl0, hl1]
    have HYK := Lib.hid (And.intro hk0 (And.intro hk1 (And.intro hl0 hl1)))
    clear W5 K5 r5 P5 hk0 hk1 hl0 hl1 hy
    go_wp2_with fail
    refine bodyPost_ret (v := .tuple #[rpv (k0 : Int) (k1 : Int) (.slice B l0 cb) (.slice B' l1 cb'), .bool true]) ?_ rfl ?_
    ·rw [results_cell_tmp rfl]
     simp [(HR5.out.put4 (code' := (k0 : Int)) (boot' := (k1 : Int)) (u' := .slice B l0 cb) (v' := .slice B' l1 cb')).load, Result.andThen, asAddr]
    rw [HX.out]
    refine ⟨_, _, rfl, HZ5.out.1.set4 HR5.out (by have := HN.out; omega) _ _ _ _, HZ5.out.2.1.set4 (by have := HVH.out; omega) _ _ _ _, Or.inr ⟨y, rfl, rfl, ?_⟩⟩
    exact (HZ5.out.2.2.set4 HR5.out (.int .i64 (k0 : Int)) (.int .i64 (k1 : Int)) (.slice B l0 cb) (.slice B' l1 cb')).mono HS4.out
   ·have g3 : (f == 3) = false := by simp [e3]
    have hx : s3.sendF n q f = (s3.setN n ((s3.N n).act q).1, some ((s3.N n).act q)) := by unfold Wp.sendF; rw [if_neg e1, if_neg e2, if_neg e3]
    have HX := Lib.hid (HS.out.trans hx)
    have HA := Lib.hid (wl_do HW3.out hn q A c HD3.out HDB.out (Nat.le_trans (HO.out.nw n hn) (by omega)) (Nat.le_trans (HO.out.last n hn) (by omega)))
    unfold rqv at HA
    have HS4 : Hid (v.heap.size ≤ w3.heap.size) := Lib.hid HK3.out.1
    clear hx e1 e2 e3
    go_wp2_with fail
    refine HA.out.mono ?_
    rintro e w5 ⟨x, rfl, P5, W5, K5⟩
    try dsimp only
    obtain ⟨B, cb, B', cb', rfl, P5'⟩ := P5
    have P5 : RepV w5 w3.heap.size ((s3.N n).act q) (rpv (((s3.N n).act q).2.code : Int) (((s3.N n).act q).1.boot : Int) (.slice B ((s3.N n).act q).2.ps.length cb) (.slice B' ((s3.N n).act q).2.its.length cb')) := ⟨B, cb, B', cb', rfl, P5'⟩
    clear P5'
    obtain ⟨y, hy⟩ : ∃ y, (s3.N n).act q = y := ⟨_, rfl⟩
    rw [hy] at P5 W5 HX ⊢
    have r5 := K5.rv HR3.out
    have HR5 := Lib.hid r5
    have HZ5 := Lib.hid (And.intro W5 (And.intro (HK3.out.trans K5) P5))
    have rf5 : ∀ k, w5.frozen? ⟨H + 1, k, none⟩ = false := r5.f
    clear x0 x1 x2 x3 y0 y1 y2 y3 y4 rf
    have x0 := r5.c0
    have x1 := r5.c1
    have x2 := r5.c2
    have x3 := r5.c3
    obtain ⟨k0, hk0⟩ : ∃ k0 : Nat, y.2.code = k0 := ⟨_, rfl⟩
    obtain ⟨k1, hk1⟩ : ∃ k1 : Nat, y.1.boot = k1 := ⟨_, rfl⟩
    obtain ⟨l0, hl0⟩ : ∃ l0, y.2.ps.length = l0 := ⟨_, rfl⟩
    obtain ⟨l1, hl1⟩ : ∃ l1, y.2.its.length = l1 := ⟨_, rfl⟩
    rw [hk0, hk1, hl0, hl1] at HZ5
    rw [hk0, hk1, hl0, hl1]
    have HYK := Lib.hid (And.intro hk0 (And.intro hk1 (And.intro hl0 hl1)))
    clear W5 K5 r5 P5 hk0 hk1 hl0 hl1 hy
    go_wp2_with fail
    refine bodyPost_ret (v := .tuple #[rpv (k0 : Int) (k1 : Int) (.slice B l0 cb) (.slice B' l1 cb'), .bool true]) ?_ rfl ?_
    ·rw [results_cell_tmp rfl]
     simp [(HR5.out.put4 (code' := (k0 : Int)) (boot' := (k1 : Int)) (u' := .slice B l0 cb) (v' := .slice B' l1 cb')).load, Result.andThen, asAddr]
    rw [HX.out]
    refine ⟨_, _, rfl, HZ5.out.1.set4 HR5.out (by have := HN.out; omega) _ _ _ _, HZ5.out.2.1.set4 (by have := HVH.out; omega) _ _ _ _, Or.inr ⟨y, rfl, rfl, ?_⟩⟩
    exact (HZ5.out.2.2.set4 HR5.out (.int .i64 (k0 : Int)) (.int .i64 (k1 : Int)) (.slice B l0 cb) (.slice B' l1 cb')).mono HS4.out
end Go.Proofs.YtobkmohoepgfmaaGreatDoor
namespace Go.Proofs.YtobkmohoepgfmaaGreatDoor
open Go.RowKit Go.Sort
set_option maxRecDepth 100000
set_option maxHeartbeats 1000000

def gt (L : List Nat) : Nat → Nat := fun j => L.getD j 0
def byteL (x m : Nat) : List Nat := (List.range m).map (byteAt x m)
theorem gt_of {L : List Nat} {j : Nat} (h : j < L.length) : gt L j = L[j] := by
 unfold gt
 rw [List.getD_eq_getElem?_getD, List.getElem?_eq_getElem h]; rfl
theorem gt_far {L : List Nat} {j : Nat} (h : L.length ≤ j) : gt L j = 0 := by
 unfold gt
 rw [List.getD_eq_getElem?_getD, List.getElem?_eq_none h]; rfl
theorem gt_app (A B : List Nat) (j : Nat) : gt (A ++ B) j = if j < A.length then gt A j else gt B (j - A.length) := by
 split
 ·next h => rw [gt_of (by rw [List.length_append]; omega), gt_of h, List.getElem_append_left h]
 ·next h =>
  by_cases e : j - A.length < B.length
  ·rw [gt_of (by rw [List.length_append]; omega), gt_of e, List.getElem_append_right (by omega)]
  ·rw [gt_far (by rw [List.length_append]; omega), gt_far (by omega)]
theorem byteL_len (x m : Nat) : (byteL x m).length = m := by unfold byteL; simp
theorem gt_byteL {x m j : Nat} (h : j < m) : gt (byteL x m) j = byteAt x m j := by
 rw [gt_of (by rw [byteL_len]; exact h)]
 unfold byteL
 simp
abbrev St := List Nat × Bool
def nx (k : Nat) (s : St) : List Nat × St := if s.1.length < k then ([], s.1, true) else (s.1.take k, s.1.drop k, s.2)
attribute [irreducible] nx
structure Qx where
 k : Int
 s : Int
 g : Int
 i : Int
 D : List Nat
deriving DecidableEq
def Qx.Right (q : Qx) : Prop := 1 ≤ q.k ∧ q.k ≤ 6 ∧ 0 ≤ q.s ∧ q.s ≤ 65535 ∧ 0 ≤ q.g ∧ q.g ≤ 1099511627776 ∧ 0 ≤ q.i ∧ q.i ≤ 255 ∧ q.D.length ≤ 128
instance (q : Qx) : Decidable q.Right := by unfold Qx.Right; infer_instance
end Go.Proofs.YtobkmohoepgfmaaGreatDoor
namespace Go.Proofs.YtobkmohoepgfmaaGreatDoor
open Go.RowKit Go.Sort

end Go.Proofs.YtobkmohoepgfmaaGreatDoor
namespace Go.Proofs.YtobkmohoepgfmaaGreatDoor
open Go.RowKit Go.Sort
set_option maxRecDepth 100000
set_option maxHeartbeats 2000000

section
variable {w w' : World} {b : Nat} {x0 x1 x2 x3 x4 x5 : Int}
end
section
variable {w : World} {b m c : Nat} {k s g i : Int} {A : Option Addr}
end
section
variable {w0 v v' : World} {H n c : Nat} {x0 x1 x2 x3 x4 x5 k s g i : Int} {A : Option Addr} {D : Nat → Nat}
end
end Go.Proofs.YtobkmohoepgfmaaGreatDoor
namespace Go.Proofs.YtobkmohoepgfmaaGreatDoor
open Go.RowKit Go.Sort
set_option maxRecDepth 100000
set_option maxHeartbeats 1000000

def BL (w : World) (A : Option Addr) (L : List Nat) : Prop := DatN w A L.length (gt L)
theorem BL.rd {w : World} {A : Option Addr} {L : List Nat} (h : BL w A L) : Rd w A L.length (gt L) := DatN.rd h
theorem BL.below {w w' : World} {A : Option Addr} {L : List Nat} (h : BL w A L) (b : Below w.heap.size w w') : BL w' A L := DatN.below h b
theorem BL.of {w : World} {A : Option Addr} {n : Nat} {F : Nat → Nat} {L : List Nat} (h : DatN w A n F) (hn : L.length = n) (hF : ∀ j, j < n → F j = gt L j) : BL w A L := by
 subst hn
 rcases h with h | ⟨g, o, cs, h1, h2, h3⟩
 ·exact Or.inl h
 ·exact Or.inr ⟨g, o, cs, h1, h2, fun j hj => by rw [← hF j hj]; exact h3 j hj⟩
theorem BL.blk {w : World} {g : Nat} {n : Nat} {F : Nat → Nat} {L : List Nat} (h : Blk8 w g n F) (hn : L.length = n) (hF : ∀ j, j < n → F j = gt L j) : BL w (some ⟨g, 0, none⟩) L := BL.of (DatN.blk h) hn hF
section
variable {w w' : World} {r n c : Nat} {t : Bool} {A : Option Addr}
end
end Go.Proofs.YtobkmohoepgfmaaGreatDoor
namespace Go.Proofs.YtobkmohoepgfmaaGreatDoor
open Go.RowKit Go.Sort
set_option maxRecDepth 100000
set_option maxHeartbeats 1000000

theorem cwithin (n a b : Int) (t : Bool) (ht : t = true ↔ a ≤ n ∧ n ≤ b) (w : World) :
  Calls Tryz.prog 144 #[.int .i64 n, .int .i64 a, .int .i64 b] w fun e w' => e = .returned (.bool t) ∧ w' = w := by
 by_cases h1 : a ≤ n
 ·have e2 : decide (n ≤ b) = t := by
   cases t with
   | true => exact decide_eq_true (ht.1 rfl).2
   | false => refine decide_eq_false (fun h => ?_); have := ht.2 ⟨h1, h⟩; cases this
  clear ht
  go_enter Tryz.func144, Tryz.ntmps144
  go_wp2_with fail
  go_ret
  exact ⟨rfl, rfl⟩
 ·obtain rfl : t = false := not_true ht (fun h => h1 h.1)
  clear ht
  go_enter Tryz.func144, Tryz.ntmps144
  go_wp2_with fail
  go_ret
  exact ⟨rfl, rfl⟩
def OkQ (k s g i : Int) (n : Nat) : Prop := 1 ≤ k ∧ k ≤ 6 ∧ 0 ≤ s ∧ s ≤ 65535 ∧ 0 ≤ g ∧ g ≤ 1099511627776 ∧ 0 ≤ i ∧ i ≤ 255 ∧ n ≤ 128
theorem crightReq (k s g i : Int) (A : Option Addr) (n c : Nat) (w : World) (t : Bool) (ht : t = true ↔ OkQ k s g i n) :
  Calls Tryz.prog 106 #[rqv k s g i A n c] w fun e w' => e = .returned (.bool t) ∧ Below w.heap.size w w' := by
 obtain ⟨w1, hw1⟩ : ∃ w1, w.alloc (.cells #[.int .i64 k, .int .i64 s, .int .i64 g, .int .i64 i, .slice A n c] 107) = w1 := ⟨_, rfl⟩
 obtain ⟨H, hH⟩ : ∃ H, w.heap.size = H := ⟨_, rfl⟩
 have HW1 := Lib.hid hw1
 have HH := Lib.hid hH
 have hq : QV w1 H k s g i A n c := by rw [← hw1]; exact QV.of_new hH
 have HB1 : Hid (Below H w w1) := Lib.hid (by rw [← hw1, ← hH]; exact (Below.refl _ _).alloc (Nat.le_refl _) _)
 have q0 := hq.c0
 have q1 := hq.c1
 have q2 := hq.c2
 have q3 := hq.c3
 have q4 := hq.c4
 obtain ⟨t1, h1⟩ : ∃ t1 : Bool, t1 = true ↔ 1 ≤ k ∧ k ≤ 6 := ⟨decide (1 ≤ k ∧ k ≤ 6), by simp⟩
 obtain ⟨t2, h2⟩ : ∃ t2 : Bool, t2 = true ↔ 0 ≤ s ∧ s ≤ 65535 := ⟨decide (0 ≤ s ∧ s ≤ 65535), by simp⟩
 obtain ⟨t3, h3⟩ : ∃ t3 : Bool, t3 = true ↔ 0 ≤ g ∧ g ≤ 1099511627776 := ⟨decide (0 ≤ g ∧ g ≤ 1099511627776), by simp⟩
 obtain ⟨t4, h4⟩ : ∃ t4 : Bool, t4 = true ↔ 0 ≤ i ∧ i ≤ 255 := ⟨decide (0 ≤ i ∧ i ≤ 255), by simp⟩
 obtain ⟨t5, h5⟩ : ∃ t5 : Bool, decide ((n : Int) ≤ 128) = t5 := ⟨_, rfl⟩
 have hT : t = (t1 && t2 && t3 && t4 && t5) := by
  rw [Bool.eq_iff_iff, ht]
  unfold OkQ
  simp only [Bool.and_eq_true, h1, h2, h3, h4, ← h5, decide_eq_true_eq]
  omega
 have HC1 := Lib.hid (fun W => cwithin k 1 6 t1 h1 W)
 have HC2 := Lib.hid (fun W => cwithin s 0 65535 t2 h2 W)
 have HC3 := Lib.hid (fun W => cwithin g 0 1099511627776 t3 h3 W)
 have HC4 := Lib.hid (fun W => cwithin i 0 255 t4 h4 W)
 clear h1 h2 h3 h4 ht hw1 hH hq
 unfold rqv
 cases t1 with
 | false =>
  simp only [Bool.false_and] at hT
  subst hT
  go_enter Tryz.func106, Tryz.ntmps106
  go_wp2_with fail
  rw [HW1.out, HH.out]
  refine (HC1.out _).mono ?_
  rintro e w2 ⟨rfl, hw⟩
  obtain rfl := hw.symm
  try dsimp only
  go_wp2_with fail
  go_ret
  exact ⟨rfl, by rw [HH.out]; exact HB1.out⟩
 | true =>
  cases t2 with
  | false =>
   simp only [Bool.false_and, Bool.and_false] at hT
   subst hT
   go_enter Tryz.func106, Tryz.ntmps106
   go_wp2_with fail
   rw [HW1.out, HH.out]
   refine (HC1.out _).mono ?_
   rintro e w2 ⟨rfl, hw⟩
   obtain rfl := hw.symm
   try dsimp only
   go_wp2_with fail
   refine (HC2.out _).mono ?_
   rintro e w2 ⟨rfl, hw⟩
   obtain rfl := hw.symm
   try dsimp only
   go_wp2_with fail
   go_ret
   exact ⟨rfl, by rw [HH.out]; exact HB1.out⟩
  | true =>
   cases t3 with
   | false =>
    simp only [Bool.false_and, Bool.and_false] at hT
    subst hT
    go_enter Tryz.func106, Tryz.ntmps106
    go_wp2_with fail
    rw [HW1.out, HH.out]
    refine (HC1.out _).mono ?_
    rintro e w2 ⟨rfl, hw⟩
    obtain rfl := hw.symm
    try dsimp only
    go_wp2_with fail
    refine (HC2.out _).mono ?_
    rintro e w2 ⟨rfl, hw⟩
    obtain rfl := hw.symm
    try dsimp only
    go_wp2_with fail
    refine (HC3.out _).mono ?_
    rintro e w2 ⟨rfl, hw⟩
    obtain rfl := hw.symm
    try dsimp only
    go_wp2_with fail
    go_ret
    exact ⟨rfl, by rw [HH.out]; exact HB1.out⟩
   | true =>
    simp only [Bool.true_and] at hT
    have HT := Lib.hid hT
    clear hT
    go_enter Tryz.func106, Tryz.ntmps106
    go_wp2_with fail
    rw [HW1.out, HH.out]
    refine (HC1.out _).mono ?_
    rintro e w2 ⟨rfl, hw⟩
    obtain rfl := hw.symm
    try dsimp only
    go_wp2_with fail
    refine (HC2.out _).mono ?_
    rintro e w2 ⟨rfl, hw⟩
    obtain rfl := hw.symm
    try dsimp only
    go_wp2_with fail
    refine (HC3.out _).mono ?_
    rintro e w2 ⟨rfl, hw⟩
    obtain rfl := hw.symm
    try dsimp only
    go_wp2_with fail
    refine (HC4.out _).mono ?_
    rintro e w2 ⟨rfl, hw⟩
    obtain rfl := hw.symm
    try dsimp only
    cases t4 with
    | false =>
     go_wp2_with fail
     go_ret
     exact ⟨by rw [HT.out]; rfl, by rw [HH.out]; exact HB1.out⟩
    | true =>
     go_wp2_with fail
     go_ret
     exact ⟨by rw [HT.out]; rfl, by rw [HH.out]; exact HB1.out⟩
end Go.Proofs.YtobkmohoepgfmaaGreatDoor
