import Derived.Test.YtelmcchleclklaaGreatV18
import Derived.Test.YtelmcchleclklaaGreatV01
import Derived.WalkLawsBesides
import Derived.LaidEql
import Derived.Stop.Asserts
import Derived.RowKitTokens
import Derived.Recover
import Derived.Deep.LoopGhost
namespace Go.Proofs.YtelmcchleclklaaGreat
open Go.RowKit Go.Sort
set_option maxRecDepth 100000
set_option maxHeartbeats 2000000

def FatV (w : World) (v : Value) (F : List Int) : Prop :=
 ∃ A c, v = .slice A F.length c ∧ F.length ≤ c ∧ c ≤ maxLen ∧ (0 < c → ∃ g o row, A = some ⟨g, o, none⟩ ∧ w.heap[g]? = some (.cells row 3 (0, 0)) ∧ o + c ≤ row.size ∧ ∀ (i : Nat) (x : Int), F[i]? = some x → row[o + i]? = some (.int .i64 x))
def fatB (v : Value) : List Nat := match v with | .slice (some a) _ c => if 0 < c then [a.block] else [] | _ => []
theorem FatV.nil (w : World) : FatV w (.slice none 0 0) [] := ⟨none, 0, rfl, Nat.le_refl _, by unfold maxLen; omega, fun h => absurd h (by omega)⟩
theorem FatV.keep {w w' : World} {v : Value} {F : List Int} (h : FatV w v F) (e : ∀ k ∈ fatB v, w'.heap[k]? = w.heap[k]?) : FatV w' v F := by
 obtain ⟨A, c, rfl, h1, h2, h3⟩ := h
 refine ⟨A, c, rfl, h1, h2, fun hc => ?_⟩
 obtain ⟨g, o, row, rfl, r1, r2, r3⟩ := h3 hc
 exact ⟨g, o, row, rfl, (e g (by simp [fatB, hc])).trans r1, r2, r3⟩
theorem FatV.type {w : World} {v : Value} {F : List Int} (h : FatV w v F) : ∀ k ∈ fatB v, ∃ row, w.heap[k]? = some (.cells row 3 (0, 0)) := by
 obtain ⟨A, c, rfl, h1, h2, h3⟩ := h
 intro k hk
 cases A with
 | none => simp [fatB] at hk
 | some a =>
  by_cases hc : 0 < c
  ·obtain ⟨g, o, row, e, r1, r2, r3⟩ := h3 hc
   cases e
   simp [fatB, hc] at hk
   subst hk
   exact ⟨row, r1⟩
  ·simp [fatB, hc] at hk

abbrev whead (P : Nat → Value) (dn : Nat → Bool) (fv : Value) (fuse : Int) (dead : Bool) (sent : Nat) : Array Value :=
 #[P 0, P 1, P 2, P 3, P 4, P 5, P 6, P 7, .bool (dn 0), .bool (dn 1), .bool (dn 2), .bool (dn 3), .bool (dn 4), .bool (dn 5), .bool (dn 6), .bool (dn 7), fv, .int .i64 fuse, .bool dead, .int .i64 (sent : Int)]
def nptr (m : Nat) (nd : Nat → Nat) (i : Nat) : Value := if i < m then .pointer (some ⟨nd i, 0, none⟩) else .pointer none
structure WM (v : World) (g m : Nat) (nd : Nat → Nat) (T : Nat → List Nat) (fv : Value) (s : Wp) : Prop where
 hd : v.heap[g]? = some (.cells (whead (nptr m nd) s.dn fv s.fuse s.dead s.sent) 96 (0, 0))
 fat : FatV v fv s.F
 node : ∀ i, i < m → ∃ r p sb S, NdM v (nd i) r p sb S (s.N i) ∧ (s.N i).Ok ∧ T i = nd i :: r :: p :: sb :: S
 sep : ∀ i j, i < m → j < m → i ≠ j → ∀ k ∈ T i, k ∉ T j
theorem wire_notN : ¬ NdT 96 := notNd (by decide) (by decide) (by decide) (by decide) (by decide) (by decide)
theorem int_notN : ¬ NdT 3 := notNd (by decide) (by decide) (by decide) (by decide) (by decide) (by decide)
section
variable {v v' : World} {g m : Nat} {nd : Nat → Nat} {T : Nat → List Nat} {fv : Value} {s : Wp}
theorem WM.lt (h : WM v g m nd T fv s) : g < v.heap.size := heap_lt h.hd
theorem WM.f (h : WM v g m nd T fv s) (k : Nat) : v.frozen? ⟨g, k, none⟩ = false := free_of_block h.hd
theorem WM.cp (h : WM v g m nd T fv s) {i : Nat} (hi : i < 8) : v.cell? ⟨g, i, none⟩ = some (nptr m nd i) := by
 rw [cell_of_block h.hd]
 rcases (by omega : i = 0 ∨ i = 1 ∨ i = 2 ∨ i = 3 ∨ i = 4 ∨ i = 5 ∨ i = 6 ∨ i = 7) with rfl | rfl | rfl | rfl | rfl | rfl | rfl | rfl <;> rfl
theorem WM.cn (h : WM v g m nd T fv s) {i : Nat} (hi : i < 8) (hm : i < m) : v.cell? ⟨g, i, none⟩ = some (.pointer (some ⟨nd i, 0, none⟩)) := by
 rw [h.cp hi]
 simp [nptr, hm]
theorem WM.cd (h : WM v g m nd T fv s) {i : Nat} (hi : i < 8) : v.cell? ⟨g, 8 + i, none⟩ = some (.bool (s.dn i)) := by
 rw [cell_of_block h.hd]
 rcases (by omega : i = 0 ∨ i = 1 ∨ i = 2 ∨ i = 3 ∨ i = 4 ∨ i = 5 ∨ i = 6 ∨ i = 7) with rfl | rfl | rfl | rfl | rfl | rfl | rfl | rfl <;> rfl
theorem WM.cf (h : WM v g m nd T fv s) : v.cell? ⟨g, 16, none⟩ = some fv := by rw [cell_of_block h.hd]; rfl
theorem WM.cz (h : WM v g m nd T fv s) : v.cell? ⟨g, 17, none⟩ = some (.int .i64 s.fuse) := by rw [cell_of_block h.hd]; rfl
theorem WM.ce (h : WM v g m nd T fv s) : v.cell? ⟨g, 18, none⟩ = some (.bool s.dead) := by rw [cell_of_block h.hd]; rfl
theorem WM.cs (h : WM v g m nd T fv s) : v.cell? ⟨g, 19, none⟩ = some (.int .i64 (s.sent : Int)) := by rw [cell_of_block h.hd]; rfl
theorem WM.Tlt (h : WM v g m nd T fv s) {i : Nat} (hi : i < m) {k : Nat} (hk : k ∈ T i) : k < v.heap.size := by
 obtain ⟨r, p, sb, S, h1, h2, h3⟩ := h.node i hi
 rw [h3] at hk
 have hl := h1.lt
 simp only [List.mem_cons] at hk hl
 rcases hk with rfl | rfl | rfl | rfl | hk
 ·exact hl _ (by simp)
 ·exact hl _ (by simp)
 ·obtain ⟨X, hr, _⟩ := h1.ex
  obtain ⟨db, nb, pv, hp, _, _⟩ := hr.plt
  exact heap_lt hp.head
 ·exact hl _ (by simp)
 ·exact hl _ (by simp [hk])
theorem WM.same (h : WM v g m nd T fv s) (h1 : ∀ k ∈ g :: fatB fv, v'.heap[k]? = v.heap[k]?) (h2 : ∀ i, i < m → ∀ k ∈ T i, v'.heap[k]? = v.heap[k]?) (hb : ∀ (k : Nat) (cs : Array Value), v.heap[k]? = some (Obj.cells cs 5 (0, 0)) → v'.heap[k]? = v.heap[k]?) : WM v' g m nd T fv s :=
 ⟨(h1 g (by simp)).trans h.hd, h.fat.keep (fun k hk => h1 k (by simp [hk])), fun i hi => by
  obtain ⟨r, p, sb, S, q1, q2, q3⟩ := h.node i hi
  exact ⟨r, p, sb, S, q1.keep (fun k hk => h2 i hi k (by rw [q3]; simp at hk ⊢; rcases hk with rfl | rfl | rfl | hk <;> simp [*])) hb, q2, q3⟩, h.sep⟩
theorem WM.fatLt (h : WM v g m nd T fv s) {k : Nat} (hk : k ∈ fatB fv) : k < v.heap.size := by
 obtain ⟨row, hr⟩ := h.fat.type k hk
 exact heap_lt hr
theorem WM.below (h : WM v g m nd T fv s) (b : Below v.heap.size v v') : WM v' g m nd T fv s :=
 h.same (fun k hk => by
  rw [List.mem_cons] at hk
  rcases hk with rfl | hk
  ·exact b.block _ h.lt
  ·exact b.block _ (h.fatLt hk)) (fun i hi k hk => b.block _ (h.Tlt hi hk)) (fun k cs hk => b.block _ (heap_lt hk))
theorem WM.put (h : WM v g m nd T fv s) {fv' : Value} {s' : Wp} (k : Nat) (u : Value) (hN : s'.N = s.N) (hw : (whead (nptr m nd) s.dn fv s.fuse s.dead s.sent).setIfInBounds k u = whead (nptr m nd) s'.dn fv' s'.fuse s'.dead s'.sent) (hf : FatV v fv' s'.F) : WM (v.setCell ⟨g, k, none⟩ u) g m nd T fv' s' := by
 refine ⟨?_, hf.keep (fun j hj => set_other (fun e => ?_) _ _), fun i hi => ?_, h.sep⟩
 ·rw [set_block h.hd, hw]
 ·subst e
  obtain ⟨row, hr⟩ := hf.type j hj
  rw [h.hd] at hr
  injection hr with hr
  injection hr with _ hr
  exact absurd hr (by decide)
 ·obtain ⟨r, p, sb, S, q1, q2, q3⟩ := h.node i hi
  rw [hN]
  exact ⟨r, p, sb, S, q1.set h.hd (by decide) (by decide) (by decide) (by decide) (by decide) (by decide) (by decide), q2, q3⟩
theorem WM.act (h : WM v g m nd T fv s) {i : Nat} (hi : i < m) : ∃ r p sb S, NdM v (nd i) r p sb S (s.N i) ∧ (s.N i).Ok ∧ T i = nd i :: r :: p :: sb :: S ∧ ∀ w' r' sb' S' x, NdM w' (nd i) r' p sb' S' x → x.Ok → Turn (nd i :: r :: sb :: S) v w' → (∀ k ∈ r' :: sb' :: S', k ∈ r :: sb :: S ∨ v.heap.size ≤ k) →
  ∃ T', WM w' g m nd T' fv (s.setN i x) ∧ KeepN v w' ∧ ∀ j, j < m → ∀ k ∈ T' j, k ∈ T j ∨ v.heap.size ≤ k := by
 obtain ⟨r, p, sb, S, h1, h2, h3⟩ := h.node i hi
 refine ⟨r, p, sb, S, h1, h2, h3, fun w' r' sb' S' x n1 n2 t hs => ?_⟩
 have hk := h1.keepN t
 have hT : ∀ k ∈ nd i :: r' :: p :: sb' :: S', k ∈ T i ∨ v.heap.size ≤ k := by
  intro k hk
  rw [h3]
  simp only [List.mem_cons] at hk hs ⊢
  rcases hk with rfl | rfl | rfl | rfl | hk
  ·simp
  ·rcases hs k (by simp) with h | h
   ·exact Or.inl (by rcases h with h | h | h <;> simp [h])
   ·exact Or.inr h
  ·simp
  ·rcases hs k (by simp) with h | h
   ·exact Or.inl (by rcases h with h | h | h <;> simp [h])
   ·exact Or.inr h
  ·rcases hs k (by simp [hk]) with h | h
   ·exact Or.inl (by rcases h with h | h | h <;> simp [h])
   ·exact Or.inr h
 refine ⟨fun j => if j = i then nd i :: r' :: p :: sb' :: S' else T j, ⟨(hk.cells h.hd wire_notN).trans h.hd, h.fat.keep (fun k hk' => by
  obtain ⟨row, hr⟩ := h.fat.type k hk'
  exact hk.cells hr int_notN), fun j hj => ?_, fun a b ha hb hab k hka hkb => ?_⟩, hk, fun j hj k hk' => ?_⟩
 ·by_cases e : j = i
  ·subst e
   simp only [Wp.setN, if_true]
   exact ⟨r', p, sb', S', n1, n2, rfl⟩
  ·obtain ⟨rj, pj, sbj, Sj, q1, q2, q3⟩ := h.node j hj
   simp only [Wp.setN, if_neg e]
   refine ⟨rj, pj, sbj, Sj, q1.keep (fun k hkj => t.block k (q1.lt k hkj) (fun hm => ?_)) hk.b.bytes, q2, q3⟩
   refine h.sep j i hj hi e k (by rw [q3]; simp at hkj ⊢; rcases hkj with rfl | rfl | rfl | hkj <;> simp [*]) ?_
   rw [h3]
   simp at hm ⊢
   rcases hm with rfl | rfl | rfl | hm <;> simp [*]
 ·by_cases e : a = i
  ·rw [if_pos e] at hka
   rw [if_neg (fun e2 => hab (e.trans e2.symm))] at hkb
   rcases hT k hka with hx | hx
   ·exact h.sep i b hi hb (fun e2 => hab (e.trans e2)) k hx hkb
   ·exact absurd (h.Tlt hb hkb) (by omega)
  ·rw [if_neg e] at hka
   by_cases e2 : b = i
   ·rw [if_pos e2] at hkb
    rcases hT k hkb with hx | hx
    ·exact h.sep a i ha hi e k hka hx
    ·exact absurd (h.Tlt ha hka) (by omega)
   ·rw [if_neg e2] at hkb
    exact h.sep a b ha hb hab k hka hkb
 ·replace hk' : k ∈ if j = i then nd i :: r' :: p :: sb' :: S' else T j := hk'
  by_cases e : j = i
  ·rw [if_pos e] at hk'
   subst e
   exact hT k hk'
  ·rw [if_neg e] at hk'
   exact Or.inl hk'
end
end Go.Proofs.YtelmcchleclklaaGreat
namespace Go.Proofs.YtelmcchleclklaaGreat
open Go.RowKit Go.Extern.Stop Go.Stop Go.Extern Go.Extern.Rtype
set_option maxRecDepth 100000
set_option maxHeartbeats 1000000

section
variable {P : Program}
end

section
variable {P : Program}
end
theorem we_eqlNil (t : TypeId) (v : Value) (w : World) : (binOp .eql 36 (.iface t v) .nilIface).run Tryz.prog w = .ok (.bool false) w := by kernel_rfl
theorem we_neqNil (t : TypeId) (v : Value) (w : World) : (binOp .neq 36 (.iface t v) .nilIface).run Tryz.prog w = .ok (.bool true) w := by kernel_rfl
theorem we_eqlNilNil (w : World) : (binOp .eql 36 .nilIface .nilIface).run Tryz.prog w = .ok (.bool true) w := by kernel_rfl
theorem we_neqNilNil (w : World) : (binOp .neq 36 .nilIface .nilIface).run Tryz.prog w = .ok (.bool false) w := by kernel_rfl
end Go.Proofs.YtelmcchleclklaaGreat
namespace Go.Proofs.YtelmcchleclklaaGreat
open Go.RowKit Go.Extern.Stop Go.Stop Go.Extern Go.Extern.Rtype
set_option maxRecDepth 100000
set_option maxHeartbeats 1000000

abbrev ev (c : Int) : Value := .iface 43 (.int .i64 c)
abbrev onv (b : Nat) : Value := .iface 241 (.pointer (some ⟨b, 0, none⟩))
def OnE (w : World) (b : Nat) (n c : Int) : Prop := w.heap[b]? = some (.cells #[.int .i64 n, ev c] 243 (0, 0))
theorem OnE.keep {w w' : World} {b : Nat} {n c : Int} (h : OnE w b n c) (e : w'.heap[b]? = w.heap[b]?) : OnE w' b n c := e.trans h
theorem OnE.lt {w : World} {b : Nat} {n c : Int} (h : OnE w b n c) : b < w.heap.size := heap_lt h

theorem onUnwrap (b : Nat) (n x : Value) (w : World) (h : w.heap[b]? = some (.cells #[n, x] 243 (0, 0))) :
  Calls Tryz.prog 245 #[.pointer (some ⟨b, 0, none⟩)] w fun e w' => e = .returned x ∧ w = w' := by
 have hc : w.cell? ⟨b, 1, none⟩ = some x := by simp [World.cell?, h]
 clear h
 go_enter Tryz.func245, Tryz.ntmps245
 go_wp2
 go_ret
 exact ⟨rfl, rfl⟩

def ErrType (w : World) : Prop := w.cell? ⟨0, 0, none⟩ = some (.iface 295 (.agg #[.pointer (some ⟨0, 36, none⟩)]))
theorem ErrType.lt {w : World} (h : ErrType w) : 0 < w.heap.size := cell?_lt h
theorem ErrType.below {B : Nat} {w w' : World} (h : ErrType w) (b : Below B w w') (hB : 0 < B) : ErrType w' := (b.cell (p := ⟨0, 0, none⟩) hB).trans h
theorem ErrType.keep {w w' : World} (h : ErrType w) (b : w'.heap[0]? = w.heap[0]?) : ErrType w' := (World.cell?_of_block (a := ⟨0, 0, none⟩) b).trans h

theorem we_atNode (n c : Int) (w : World) :
  Calls Tryz.prog 132 #[.int .i64 n, ev c] w fun e w' => ∃ b, e = .returned (onv b) ∧ w.heap.size ≤ b ∧ Below w.heap.size w w' ∧ OnE w' b n c := by
 have q1 := we_eqlNil
 go_enter Tryz.func132, Tryz.ntmps132
 go_wp2_with fail
 go_ret
 exact ⟨w.heap.size, rfl, Nat.le_refl _, (Below.refl _ w).alloc (Nat.le_refl _) _, alloc_block _ _⟩
end Go.Proofs.YtelmcchleclklaaGreat
namespace Go.Proofs.YtelmcchleclklaaGreat
open Go.RowKit Go.Sort
set_option maxRecDepth 100000
set_option maxHeartbeats 2000000

def WiT (t : TypeId) : Prop := NdT t ∨ t = 96
def WiB (cs : Array Value) (t : TypeId) : Prop := NdC cs t ∨ t = 96
def KeepW (w w' : World) : Prop := w.heap.size ≤ w'.heap.size ∧ ∀ (k : Nat) (o : Obj), w.heap[k]? = some o → (∀ cs t fr, o = .cells cs t fr → ¬ WiB cs t) → w'.heap[k]? = some o
theorem KeepW.refl (w : World) : KeepW w w := ⟨Nat.le_refl _, fun _ _ h _ => h⟩
theorem KeepW.of {w w' : World} (b : Below w.heap.size w w') : KeepW w w' := ⟨b.size, fun k _ h _ => (b.block k (heap_lt h)).trans h⟩
theorem KeepW.ofN {w w' : World} (b : KeepN w w') : KeepW w w' := ⟨b.1, fun k o h ho => b.2 k o h (fun cs t fr e hn => ho cs t fr e (Or.inl hn))⟩
theorem KeepW.trans {a b c : World} (h : KeepW a b) (k : KeepW b c) : KeepW a c := ⟨Nat.le_trans h.1 k.1, fun i o hi ho => k.2 i o (h.2 i o hi ho) ho⟩
theorem KeepW.cells {w w' : World} (h : KeepW w w') {k : Nat} {cs : Array Value} {t : TypeId} {fr : Nat × Nat} (hk : w.heap[k]? = some (.cells cs t fr)) (ht : ¬ WiT t) : w'.heap[k]? = w.heap[k]? := (h.2 k _ hk (fun cs' t' fr' e => by cases e; exact fun h => ht (h.elim (fun x => Or.inl x.1) Or.inr))).trans hk.symm
theorem notWi {t : TypeId} (h0 : t ≠ 98) (h1 : t ≠ 108) (h2 : t ≠ 33) (h3 : t ≠ 110) (h4 : t ≠ 150) (h5 : t ≠ 114) (h6 : t ≠ 96) : ¬ WiT t := by
 rintro (h | h)
 ·exact notNd h0 h1 h2 h3 h4 h5 h
 ·exact h6 h
theorem KeepW.b {w w' : World} (h : KeepW w w') : KeepB w w' := ⟨h.1, fun g cs t hg ht => h.cells hg (by rcases ht with rfl | rfl | rfl <;> exact notWi (by decide) (by decide) (by decide) (by decide) (by decide) (by decide) (by decide))⟩
theorem KeepW.set {w : World} {g k : Nat} {cs : Array Value} {fr : Nat × Nat} {u : Value} (h : w.heap[g]? = some (.cells cs 96 fr)) : KeepW w (w.setCell ⟨g, k, none⟩ u) := by
 refine ⟨by simp [World.setCell], fun j o hj ho => ?_⟩
 rw [set_other (fun e => ?_)]
 ·exact hj
 ·subst e
  rw [h] at hj
  cases hj
  exact ho _ _ _ rfl (Or.inr rfl)
theorem KeepW.on {w w' : World} (h : KeepW w w') {b : Nat} {n c : Int} (o : OnE w b n c) : OnE w' b n c := o.keep (h.cells o (notWi (by decide) (by decide) (by decide) (by decide) (by decide) (by decide) (by decide)))
theorem KeepW.qv {w w' : World} (h : KeepW w w') {b m c : Nat} {k s g i : Int} {A : Option Addr} (o : QV w b k s g i A m c) : QV w' b k s g i A m c := o.keep (h.cells o (notWi (by decide) (by decide) (by decide) (by decide) (by decide) (by decide) (by decide)))
theorem KeepW.rv {w w' : World} (h : KeepW w w') {b : Nat} {k s : Int} {A B : Value} (o : RV w b k s A B) : RV w' b k s A B := o.keep (h.cells o (notWi (by decide) (by decide) (by decide) (by decide) (by decide) (by decide) (by decide)))

def KeepF (w w' : World) : Prop := w.heap.size ≤ w'.heap.size ∧ ∀ (k : Nat) (o : Obj), w.heap[k]? = some o → (∀ cs t fr, o = .cells cs t fr → ¬ WiB cs t ∧ t ≠ 3) → w'.heap[k]? = some o
theorem KeepF.of {w w' : World} (h : KeepW w w') : KeepF w w' := ⟨h.1, fun k o hk ho => h.2 k o hk (fun cs t fr e => (ho cs t fr e).1)⟩
theorem KeepF.trans {a b c : World} (h : KeepF a b) (k : KeepF b c) : KeepF a c := ⟨Nat.le_trans h.1 k.1, fun i o hi ho => k.2 i o (h.2 i o hi ho) ho⟩
theorem KeepF.cells {w w' : World} (h : KeepF w w') {k : Nat} {cs : Array Value} {t : TypeId} {fr : Nat × Nat} (hk : w.heap[k]? = some (.cells cs t fr)) (ht : ¬ WiT t) (h7 : t ≠ 3) : w'.heap[k]? = w.heap[k]? := (h.2 k _ hk (fun cs' t' fr' e => by cases e; exact ⟨fun h => ht (h.elim (fun x => Or.inl x.1) Or.inr), h7⟩)).trans hk.symm
structure ND where
 f : Nat → Nat
 Z : Nat → Prop
 O : Nat → Option Obj
 B : Nat
instance : CoeFun ND (fun _ => Nat → Nat) := ⟨ND.f⟩
def ZK (v : World) (g : Nat) (nd : ND) (T : Nat → List Nat) (fv : Value) : Prop := nd.B ≤ v.heap.size ∧ ∀ k, nd.Z k → k < nd.B ∧ v.heap[k]? = nd.O k ∧ k ≠ g ∧ k ∉ fatB fv ∧ ∀ i, i < 8 → k ∉ T i
def WL (w0 v : World) (g : Nat) (nd : ND) (s : Wp) : Prop :=
 ∃ T fv, WM v g 8 nd.f T fv s ∧ Below w0.heap.size w0 v ∧ w0.heap.size ≤ g ∧ (∀ k ∈ fatB fv, w0.heap.size ≤ k) ∧ (∀ i, i < 8 → ∀ k ∈ T i, w0.heap.size ≤ k) ∧ ZK v g nd T fv
section
variable {w0 v v' : World} {g : Nat} {nd : ND} {s : Wp}
theorem ZK.keep {T : Nat → List Nat} {fv : Value} (h : ZK v g nd T fv) (hs : v.heap.size ≤ v'.heap.size) (e : ∀ k, nd.Z k → v'.heap[k]? = v.heap[k]?) : ZK v' g nd T fv :=
 ⟨Nat.le_trans h.1 hs, fun k hk => ⟨(h.2 k hk).1, (e k hk).trans (h.2 k hk).2.1, (h.2 k hk).2.2⟩⟩
theorem WL.zB (h : WL w0 v g nd s) : nd.B ≤ v.heap.size := by
 obtain ⟨T, fv, _, _, _, _, _, h6, _⟩ := h
 exact h6
theorem WL.zlt (h : WL w0 v g nd s) {k : Nat} (hk : nd.Z k) : k < nd.B := by
 obtain ⟨T, fv, _, _, _, _, _, _, h6⟩ := h
 exact (h6 k hk).1
theorem WL.zO (h : WL w0 v g nd s) {k : Nat} (hk : nd.Z k) : v.heap[k]? = nd.O k := by
 obtain ⟨T, fv, _, _, _, _, _, _, h6⟩ := h
 exact (h6 k hk).2.1
theorem WL.protect {v1 : World} (h1 : WL w0 v1 g nd s) (b : Below v1.heap.size v1 v) (Y : Nat → Prop) (hY : ∀ k, Y k → v1.heap.size ≤ k ∧ k < v.heap.size) : WL w0 v g ⟨nd.f, fun k => nd.Z k ∨ Y k, fun k => v.heap[k]?, v.heap.size⟩ s := by
 obtain ⟨T, fv, a1, a2, a3, a4, a5, a6, a7⟩ := h1
 refine ⟨T, fv, a1.below b, a2.trans (b.mono a2.size), a3, a4, a5, Nat.le_refl _, fun k hk => ?_⟩
 rcases hk with hk | hk
 ·obtain ⟨c1, c2, c3⟩ := a7 k hk
  exact ⟨Nat.lt_of_lt_of_le c1 (Nat.le_trans a6 b.size), rfl, c3⟩
 ·obtain ⟨c1, c2⟩ := hY k hk
  exact ⟨c2, rfl, fun e => by have := a1.lt; omega, fun hm => by have := a1.fatLt hm; omega, fun i hi hm => by have := a1.Tlt hi hm; omega⟩
theorem WL.loose (h : WL w0 v g nd s) (nd' : ND) (hf : nd'.f = nd.f) (hB : nd'.B ≤ v.heap.size) (hZ : ∀ k, nd'.Z k → k < nd'.B ∧ nd.Z k ∧ nd'.O k = v.heap[k]?) : WL w0 v g nd' s := by
 obtain ⟨T, fv, a1, a2, a3, a4, a5, a6, a7⟩ := h
 refine ⟨T, fv, by rw [hf]; exact a1, a2, a3, a4, a5, hB, fun k hk => ?_⟩
 obtain ⟨c1, c2, c3⟩ := hZ k hk
 exact ⟨c1, c3.symm, (a7 k c2).2.2⟩
theorem WL.blw (h : WL w0 v g nd s) : Below w0.heap.size w0 v := by
 obtain ⟨T, fv, h1, h2, _⟩ := h
 exact h2
theorem WL.lt (h : WL w0 v g nd s) : g < v.heap.size := by
 obtain ⟨T, fv, h1, h2, _⟩ := h
 exact h1.lt
theorem WL.below (h : WL w0 v g nd s) (b : Below v.heap.size v v') : WL w0 v' g nd s := by
 obtain ⟨T, fv, h1, h2, h3, h4, h5, h6⟩ := h
 exact ⟨T, fv, h1.below b, h2.trans (b.mono h2.size), h3, h4, h5, h6.keep b.size (fun k hk => b.block k (Nat.lt_of_lt_of_le (h6.2 k hk).1 h6.1))⟩
theorem WL.f (h : WL w0 v g nd s) (k : Nat) : v.frozen? ⟨g, k, none⟩ = false := by
 obtain ⟨T, fv, h1, _⟩ := h
 exact h1.f k
theorem WL.cn (h : WL w0 v g nd s) {i : Nat} (hi : i < 8) : v.cell? ⟨g, i, none⟩ = some (.pointer (some ⟨nd i, 0, none⟩)) := by
 obtain ⟨T, fv, h1, _⟩ := h
 exact h1.cn hi hi
theorem WL.cd (h : WL w0 v g nd s) {i : Nat} (hi : i < 8) : v.cell? ⟨g, 8 + i, none⟩ = some (.bool (s.dn i)) := by
 obtain ⟨T, fv, h1, _⟩ := h
 exact h1.cd hi
theorem WL.cz (h : WL w0 v g nd s) : v.cell? ⟨g, 17, none⟩ = some (.int .i64 s.fuse) := by
 obtain ⟨T, fv, h1, _⟩ := h
 exact h1.cz
theorem WL.ce (h : WL w0 v g nd s) : v.cell? ⟨g, 18, none⟩ = some (.bool s.dead) := by
 obtain ⟨T, fv, h1, _⟩ := h
 exact h1.ce
theorem WL.cs (h : WL w0 v g nd s) : v.cell? ⟨g, 19, none⟩ = some (.int .i64 (s.sent : Int)) := by
 obtain ⟨T, fv, h1, _⟩ := h
 exact h1.cs
theorem WL.keepSet (h : WL w0 v g nd s) (k : Nat) (u : Value) : KeepW v (v.setCell ⟨g, k, none⟩ u) := by
 obtain ⟨T, fv, h1, _⟩ := h
 exact KeepW.set h1.hd
theorem WL.put (h : WL w0 v g nd s) {s' : Wp} (k : Nat) (u : Value) (hN : s'.N = s.N) (hF : s'.F = s.F) (hw : ∀ fv, (whead (nptr 8 nd.f) s.dn fv s.fuse s.dead s.sent).setIfInBounds k u = whead (nptr 8 nd.f) s'.dn fv s'.fuse s'.dead s'.sent) : WL w0 (v.setCell ⟨g, k, none⟩ u) g nd s' := by
 obtain ⟨T, fv, h1, h2, h3, h4, h5, h6⟩ := h
 exact ⟨T, fv, h1.put k u hN (hw fv) (by rw [hF]; exact h1.fat), h2.setCell h3 _, h3, h4, h5, h6.keep (by simp [World.setCell]) (fun k hk => set_other (h6.2 k hk).2.2.1 _ _)⟩
theorem WL.act (h : WL w0 v g nd s) {i : Nat} (hi : i < 8) : ∃ r p sb S, NdM v (nd i) r p sb S (s.N i) ∧ (s.N i).Ok ∧ ∀ w' r' sb' S' x, NdM w' (nd i) r' p sb' S' x → x.Ok → Turn (nd i :: r :: sb :: S) v w' → (∀ k ∈ r' :: sb' :: S', k ∈ r :: sb :: S ∨ v.heap.size ≤ k) → WL w0 w' g nd (s.setN i x) ∧ KeepW v w' := by
 obtain ⟨T, fv, h1, h2, h3, h4, h5, h6⟩ := h
 obtain ⟨r, p, sb, S, a1, a2, a3, a4⟩ := h1.act hi
 refine ⟨r, p, sb, S, a1, a2, fun w' r' sb' S' x n1 n2 t hs => ?_⟩
 obtain ⟨T', b1, b2, b3⟩ := a4 w' r' sb' S' x n1 n2 t hs
 refine ⟨⟨T', fv, b1, Below.of_turn h2 t (fun k hk => h5 i hi k ?_) h2.size, h3, h4, fun j hj k hk => ?_, Nat.le_trans h6.1 t.size, fun k hk => ?_⟩, KeepW.ofN b2⟩
 ·rw [a3]
  simp only [List.mem_cons] at hk ⊢
  rcases hk with h | h | h | h <;> simp [h]
 ·rcases b3 j hj k hk with h | h
  ·exact h5 j hj k h
  ·exact Nat.le_trans h2.size h
 ·obtain ⟨c1, c2, c3, c4, c5⟩ := h6.2 k hk
  refine ⟨c1, (t.block k (Nat.lt_of_lt_of_le c1 h6.1) (fun hm => c5 i hi ?_)).trans c2, c3, c4, fun j hj hm => ?_⟩
  ·rw [a3]
   simp only [List.mem_cons] at hm ⊢
   rcases hm with h | h | h | h <;> simp [h]
  ·rcases b3 j hj k hm with h | h
   ·exact c5 j hj h
   ·have := h6.1
    omega
end

theorem wl_node {w0 v : World} {g : Nat} {nd : ND} {s : Wp} (h : WL w0 v g nd s) {n : Nat} (hn : n < 8) : Calls Tryz.prog 13 #[.pointer (some ⟨g, 0, none⟩), .int .i64 (n : Int)] v fun e w' => e = .returned (.pointer (some ⟨nd n, 0, none⟩)) ∧ w' = v := by
 have c1 := h.cn hn
 have n1 : ¬ (n : Int) < 0 := by omega
 have n2 : (n : Int) < 8 := by omega
 have n3 : ¬ (8 : Int) ≤ (n : Int) := by omega
 clear h
 go_enter Tryz.func13, Tryz.ntmps13
 go_wp2_with fail
 go_ret
 exact ⟨rfl, rfl⟩
theorem wl_has {w0 v : World} {g : Nat} {nd : ND} {s : Wp} (h : WL w0 v g nd s) {n : Nat} (hn : n < 8) : Calls Tryz.prog 39 #[.pointer (some ⟨g, 0, none⟩), .int .i64 (n : Int)] v fun e w' => e = .returned (.bool true) ∧ w' = v := by
 have H := Lib.hid (wl_node h hn)
 clear h
 go_enter Tryz.func39, Tryz.ntmps39
 go_wp2_with fail
 refine H.out.mono ?_
 rintro e w' ⟨rfl, hw⟩
 obtain rfl := hw.symm
 go_wp2_with fail
 go_ret
 exact ⟨rfl, rfl⟩
end Go.Proofs.YtelmcchleclklaaGreat
