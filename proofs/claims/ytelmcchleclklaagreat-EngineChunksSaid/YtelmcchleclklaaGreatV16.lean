import Derived.Test.YtelmcchleclklaaGreatV15
import Derived.Test.YtelmcchleclklaaGreatV13
import Derived.Test.YtelmcchleclklaaGreatV08
namespace Go.Proofs.YtelmcchleclklaaGreat
open Go.RowKit Go.Sort
set_option maxRecDepth 100000
set_option maxHeartbeats 2000000

def NdB (w : World) (n p r boot : Nat) : Prop := w.heap[n]? = some (.cells #[.pointer (some ⟨p, 0, none⟩), .pointer (some ⟨r, 0, none⟩), .int .i64 (boot : Int)] 98 (0, 0))
section
variable {w w' : World} {n p r boot : Nat}
theorem NdB.c0 (h : NdB w n p r boot) : w.cell? ⟨n, 0, none⟩ = some (.pointer (some ⟨p, 0, none⟩)) := cell_of_block h
theorem NdB.c1 (h : NdB w n p r boot) : w.cell? ⟨n, 1, none⟩ = some (.pointer (some ⟨r, 0, none⟩)) := cell_of_block h
theorem NdB.c2 (h : NdB w n p r boot) : w.cell? ⟨n, 2, none⟩ = some (.int .i64 (boot : Int)) := cell_of_block h
theorem NdB.lt (h : NdB w n p r boot) : n < w.heap.size := heap_lt h
theorem NdB.keep (h : NdB w n p r boot) (e : w'.heap[n]? = w.heap[n]?) : NdB w' n p r boot := e.trans h
theorem NdB.below (h : NdB w n p r boot) (b : Below w.heap.size w w') : NdB w' n p r boot := h.keep (b.block n h.lt)
end
structure NdM (w : World) (n r p sb : Nat) (S : List Nat) (a : Ns) : Prop where
 nb : NdB w n p r a.boot
 ex : ∃ X, Rg w r p sb a.last S a.t.disk a.nw X ∧ ∀ k, k < 16 → SaysR (X k) (a.R k)
section
variable {w w' : World} {n r p sb : Nat} {S : List Nat} {a : Ns}
theorem NdM.plt (h : NdM w n r p sb S a) : Plt w p S 96 a.t.disk a.nw := by
 obtain ⟨X, hr, _⟩ := h.ex
 exact hr.plt
theorem NdM.below (h : NdM w n r p sb S a) (b : Below w.heap.size w w') : NdM w' n r p sb S a := by
 obtain ⟨X, hr, hs⟩ := h.ex
 exact ⟨h.nb.below b, X, hr.below b, hs⟩
theorem NdM.nS (h : NdM w n r p sb S a) : n ∉ r :: sb :: S := by
 obtain ⟨X, hr, hs⟩ := h.ex
 exact hr.far h.nb (by decide) (by decide) (by decide) (by decide) (by decide)
theorem NdM.far (h : NdM w n r p sb S a) {k : Nat} {cs : Array Value} {t : TypeId} {fr : Nat × Nat} (hk : w.heap[k]? = some (.cells cs t fr)) (h1 : t ≠ 108) (h2 : t ≠ 33) (h3 : t ≠ 110) (h4 : t ≠ 150) (h5 : t ≠ 114) : k ∉ r :: sb :: S := by
 obtain ⟨X, hr, hs⟩ := h.ex
 exact hr.far hk h1 h2 h3 h4 h5
theorem NdM.lt (h : NdM w n r p sb S a) : ∀ k ∈ n :: r :: sb :: S, k < w.heap.size := by
 obtain ⟨X, hr, hs⟩ := h.ex
 intro k hk
 rw [List.mem_cons, List.mem_cons, List.mem_cons] at hk
 rcases hk with rfl | rfl | rfl | hk
 ·exact h.nb.lt
 ·exact hr.rb.lt
 ·exact hr.sr.lt
 ·exact hr.plt.lt k hk
end
abbrev rqv (k s g i : Int) (A : Option Addr) (m c : Nat) : Value := .agg #[.int .i64 k, .int .i64 s, .int .i64 g, .int .i64 i, .slice A m c]
abbrev rpv (code boot : Int) (u v : Value) : Value := .agg #[.int .i64 code, .int .i64 boot, u, v]
def QV (w : World) (b : Nat) (k s g i : Int) (A : Option Addr) (m c : Nat) : Prop := w.heap[b]? = some (.cells #[.int .i64 k, .int .i64 s, .int .i64 g, .int .i64 i, .slice A m c] 50 (0, 0))
section
variable {w w' : World} {b m c : Nat} {k s g i : Int} {A : Option Addr}
theorem QV.c0 (h : QV w b k s g i A m c) : w.cell? ⟨b, 0, none⟩ = some (.int .i64 k) := cell_of_block h
theorem QV.c1 (h : QV w b k s g i A m c) : w.cell? ⟨b, 1, none⟩ = some (.int .i64 s) := cell_of_block h
theorem QV.c2 (h : QV w b k s g i A m c) : w.cell? ⟨b, 2, none⟩ = some (.int .i64 g) := cell_of_block h
theorem QV.c3 (h : QV w b k s g i A m c) : w.cell? ⟨b, 3, none⟩ = some (.int .i64 i) := cell_of_block h
theorem QV.c4 (h : QV w b k s g i A m c) : w.cell? ⟨b, 4, none⟩ = some (.slice A m c) := cell_of_block h
theorem QV.lt (h : QV w b k s g i A m c) : b < w.heap.size := heap_lt h
theorem QV.keep (h : QV w b k s g i A m c) (e : w'.heap[b]? = w.heap[b]?) : QV w' b k s g i A m c := e.trans h
theorem QV.below (h : QV w b k s g i A m c) (e : Below w.heap.size w w') : QV w' b k s g i A m c := h.keep (e.block b h.lt)
theorem QV.of_new {H : Nat} (hH : w.heap.size = H) : QV (w.alloc (.cells #[.int .i64 k, .int .i64 s, .int .i64 g, .int .i64 i, .slice A m c] 50)) H k s g i A m c := by
 subst hH
 exact alloc_block w _
end
def RV (w : World) (b : Nat) (code boot : Int) (u v : Value) : Prop := w.heap[b]? = some (.cells #[.int .i64 code, .int .i64 boot, u, v] 47 (0, 0))
section
variable {w w' : World} {b : Nat} {code boot : Int} {u v : Value}
theorem RV.c0 (h : RV w b code boot u v) : w.cell? ⟨b, 0, none⟩ = some (.int .i64 code) := cell_of_block h
theorem RV.c1 (h : RV w b code boot u v) : w.cell? ⟨b, 1, none⟩ = some (.int .i64 boot) := cell_of_block h
theorem RV.c2 (h : RV w b code boot u v) : w.cell? ⟨b, 2, none⟩ = some u := cell_of_block h
theorem RV.c3 (h : RV w b code boot u v) : w.cell? ⟨b, 3, none⟩ = some v := cell_of_block h
theorem RV.f (h : RV w b code boot u v) (k : Nat) : w.frozen? ⟨b, k, none⟩ = false := free_of_block h
theorem RV.lt (h : RV w b code boot u v) : b < w.heap.size := heap_lt h
theorem RV.keep (h : RV w b code boot u v) (e : w'.heap[b]? = w.heap[b]?) : RV w' b code boot u v := e.trans h
theorem RV.below (h : RV w b code boot u v) (e : Below w.heap.size w w') : RV w' b code boot u v := h.keep (e.block b h.lt)
theorem RV.of_new {H : Nat} (hH : w.heap.size = H) : RV (w.alloc (.cells #[.int .i64 code, .int .i64 boot, u, v] 47)) H code boot u v := by
 subst hH
 exact alloc_block w _
theorem RV.put0 (h : RV w b code boot u v) {code' : Int} : RV (w.setCell ⟨b, 0, none⟩ (.int .i64 code')) b code' boot u v := set_block h 0 _
theorem RV.put2 (h : RV w b code boot u v) {u' : Value} : RV (w.setCell ⟨b, 2, none⟩ u') b code boot u' v := set_block h 2 _
theorem RV.put3 (h : RV w b code boot u v) {v' : Value} : RV (w.setCell ⟨b, 3, none⟩ v') b code boot u v' := set_block h 3 _
theorem RV.put4 (h : RV w b code boot u v) {code' boot' : Int} {u' v' : Value} : RV ((((w.setCell ⟨b, 0, none⟩ (.int .i64 code')).setCell ⟨b, 1, none⟩ (.int .i64 boot')).setCell ⟨b, 2, none⟩ u').setCell ⟨b, 3, none⟩ v') b code' boot' u' v' :=
 set_block (set_block (set_block (set_block h 0 _) 1 _) 2 _) 3 _
theorem RV.load {A B : Option Addr} {m c m' c' : Nat} (h : RV w b code boot (.slice A m c) (.slice B m' c')) : (loadVar 47 ⟨b, 0, none⟩).run Tryz.prog w = .ok (rpv code boot (.slice A m c) (.slice B m' c')) w := by
 have z0 := h.c0
 have z1 := h.c1
 have z2 := h.c2
 have z3 := h.c3
 have s0 := h.lt
 simp [go_sem, z0, z1, z2, z3, rpv]
end
def DatN (w : World) (A : Option Addr) (m : Nat) (D : Nat → Nat) : Prop := m = 0 ∨ ∃ g o cs, A = some ⟨g, o, none⟩ ∧ w.heap[g]? = some (.cells cs 5 (0, 0)) ∧ ∀ j, j < m → w.cell? ⟨g, o + j, none⟩ = some (.int .u8 (D j : Nat))
theorem DatN.rd {w : World} {A : Option Addr} {m : Nat} {D : Nat → Nat} (h : DatN w A m D) : Rd w A m D := fun hm => by
 rcases h with h | ⟨g, o, cs, h1, _, h3⟩
 ·omega
 ·exact ⟨g, o, h1, h3⟩
theorem DatN.datI {w : World} {A : Option Addr} {m : Nat} {D : Nat → Nat} (h : DatN w A m D) (hm : m = 128) : DatI w A D := by
 subst hm
 rcases h with h | h
 ·omega
 ·exact h
theorem DatN.keep {w w' : World} {A : Option Addr} {m : Nat} {D : Nat → Nat} (h : DatN w A m D) (k : ∀ (g : Nat) (cs : Array Value), w.heap[g]? = some (Obj.cells cs 5 (0, 0)) → w'.heap[g]? = w.heap[g]?) : DatN w' A m D := by
 rcases h with h | ⟨g, o, cs, h1, h2, h3⟩
 ·exact Or.inl h
 ·have e := k g cs h2
  refine Or.inr ⟨g, o, cs, h1, e.trans h2, fun j hj => ?_⟩
  rw [← h3 j hj]
  exact (cell_of_block (e.trans h2)).trans (cell_of_block h2).symm
theorem DatN.below {w w' : World} {A : Option Addr} {m : Nat} {D : Nat → Nat} (h : DatN w A m D) (b : Below w.heap.size w w') : DatN w' A m D := h.keep (fun g _ hg => b.block g (heap_lt hg))
theorem DatN.blk {w : World} {g m : Nat} {D : Nat → Nat} (h : Blk8 w g m D) : DatN w (some ⟨g, 0, none⟩) m D := by
 obtain ⟨cs, h1, h2, h3⟩ := h
 exact Or.inr ⟨g, 0, cs, rfl, h1, fun j hj => by rw [Nat.zero_add]; exact (cell_of_block h1).trans (h3 j hj)⟩
theorem DatN.none_ {w : World} {A : Option Addr} {D : Nat → Nat} : DatN w A 0 D := Or.inl rfl
theorem nmade {w : World} {n p r boot : Nat} (h : NdB w n p r boot) : Calls Tryz.prog 40 #[.pointer (some ⟨n, 0, none⟩)] w fun e w' => e = .returned (.bool true) ∧ w' = w := by
 have c0 := h.c0
 clear h
 go_enter Tryz.func40, Tryz.ntmps40
 go_wp2_with fail
 go_ret
 exact ⟨rfl, rfl⟩
theorem npiece (k s g i : Int) (A : Option Addr) (m c : Nat) (w : World) : Calls Tryz.prog 46 #[rqv k s g i A m c] w fun e w' => e = .returned (pv s g i A m c) ∧ Below w.heap.size w w' := by
 obtain ⟨w1, hw1⟩ : ∃ w1, (w.alloc (.cells #[.int .i64 k, .int .i64 s, .int .i64 g, .int .i64 i, .slice A m c] 50)).alloc (.cells #[.int .i64 s, .int .i64 g, .int .i64 i, .slice A m c] 52) = w1 := ⟨_, rfl⟩
 have HW1 := Lib.hid hw1
 have HB1 : Hid (Below w.heap.size w w1) := Lib.hid (by rw [← hw1]; exact ((Below.refl _ _).alloc (Nat.le_refl _) _).alloc (by simp) _)
 have HP1 : Hid (PV w1 (w.heap.size + 1) s g i A m c) := Lib.hid (by
  rw [← hw1]
  have := PV.new (w.alloc (.cells #[.int .i64 k, .int .i64 s, .int .i64 g, .int .i64 i, .slice A m c] 50)) s g i A m c
  rw [World.size_alloc] at this
  exact this)
 clear hw1
 unfold rqv
 go_enter Tryz.func46, Tryz.ntmps46
 go_wp2_with fail
 rw [HW1.out]
 refine bodyPost_ret (v := pv s g i A m c) ?_ rfl ?_
 ·rw [results_cell1 rfl]
  simp [HP1.out.load, Result.andThen, asAddr]
 exact ⟨rfl, HB1.out⟩
theorem nintent (k s g i : Int) (A : Option Addr) (m c : Nat) (w : World) : Calls Tryz.prog 48 #[rqv k s g i A m c] w fun e w' => e = .returned (iv s g A m c) ∧ Below w.heap.size w w' := by
 obtain ⟨w1, hw1⟩ : ∃ w1, (w.alloc (.cells #[.int .i64 k, .int .i64 s, .int .i64 g, .int .i64 i, .slice A m c] 50)).alloc (.cells #[.int .i64 s, .int .i64 g, .slice A m c] 62) = w1 := ⟨_, rfl⟩
 have HW1 := Lib.hid hw1
 have HB1 : Hid (Below w.heap.size w w1) := Lib.hid (by rw [← hw1]; exact ((Below.refl _ _).alloc (Nat.le_refl _) _).alloc (by simp) _)
 have HP1 : Hid (IV w1 (w.heap.size + 1) s g A m c) := Lib.hid (by
  rw [← hw1]
  exact IV.of_new (World.size_alloc _ _))
 clear hw1
 unfold rqv
 go_enter Tryz.func48, Tryz.ntmps48
 go_wp2_with fail
 rw [HW1.out]
 refine bodyPost_ret (v := iv s g A m c) ?_ rfl ?_
 ·rw [results_cell1 rfl]
  simp [HP1.out.load, Result.andThen, asAddr]
 exact ⟨rfl, HB1.out⟩
def PcsRet (l : List Pc) (w : World) (e : Ending) (w' : World) : Prop := ∃ B c, e = .returned (.tuple #[.slice B l.length c, .int .i64 0]) ∧ PL w' w.heap.size (.slice B l.length c) l ∧ Below w.heap.size w w'
theorem npieces {w : World} {n r p sb m : Nat} {S : List Nat} {a : Ns} (h : NdM w n r p sb S a) (ht : a.t.Ok m) (s : Nat) (hs : s < 40) :
  Calls Tryz.prog 44 #[.pointer (some ⟨n, 0, none⟩), .int .i64 (s : Int)] w (PcsRet (a.pcs s) w) := by
 have c0 := h.nb.c0
 have HG := Lib.hid (cgetD h.plt ht.cd (by omega) s hs)
 clear h ht
 have h1 : ¬ (s : Int) < 0 := by omega
 have h2 : ¬ (40 : Int) ≤ (s : Int) := by omega
 have h2' : (s : Int) < 40 := by omega
 go_enter Tryz.func44, Tryz.ntmps44
 go_wp2_with fail
 refine HG.out.mono ?_
 rintro e w' ⟨v, rfl, hp, hb⟩
 obtain ⟨B, c, rfl⟩ := hp.form
 try dsimp only
 have HP := Lib.hid hp
 have HB := Lib.hid hb
 clear hp hb HG
 go_wp2_with fail
 go_ret2
 exact ⟨B, c, rfl, HP.out, HB.out⟩
theorem npieces_no (n : Nat) (s : Int) (w : World) (hs : ¬ (0 ≤ s ∧ s < 40)) :
  Calls Tryz.prog 44 #[.pointer (some ⟨n, 0, none⟩), .int .i64 s] w fun e w' => e = .returned (.tuple #[.slice none 0 0, .int .i64 1]) ∧ w' = w := by
 by_cases h : s < 0
 ·clear hs
  go_enter Tryz.func44, Tryz.ntmps44
  go_wp2_with fail
  go_ret2
  exact ⟨rfl, rfl⟩
 ·have h2 : (40 : Int) ≤ s := by omega
  clear hs
  go_enter Tryz.func44, Tryz.ntmps44
  go_wp2_with fail
  go_ret2
  exact ⟨rfl, rfl⟩
end Go.Proofs.YtelmcchleclklaaGreat
namespace Go.Proofs.YtelmcchleclklaaGreat
open Go.RowKit Go.Sort
set_option maxRecDepth 100000
set_option maxHeartbeats 2000000

end Go.Proofs.YtelmcchleclklaaGreat
namespace Go.Proofs.YtelmcchleclklaaGreat
open Go.RowKit Go.Sort
set_option maxRecDepth 100000
set_option maxHeartbeats 2000000

theorem Rg.turn {w w' : World} {r p sb last : Nat} {S S' : List Nat} {d d' : Disk} {nw nw' : Nat} {X : Nat → Sx} (h : Rg w r p sb last S d nw X) (t : Turn S w w') (k : Plt w' p S' 96 d' nw') : Rg w' r p sb last S' d' nw' X ∧ KeepI w w' := by
 have ht : Turn (r :: sb :: S) w w' := t.mono (fun k hk => by simp [hk])
 have hk := h.keepI ht
 obtain ⟨cs, hc⟩ := h.sr.type
 exact ⟨⟨h.rb.keep (t.block r h.rb.lt h.rS), h.sr.keep (t.block sb (heap_lt hc) h.sS), fun j hj => (h.ok j hj).keep (fun g cs hg => hk.2 g cs _ hg (Or.inl rfl)), k⟩, hk⟩
def KD (w0 : World) (r p sb : Nat) (T : List Nt) (last : Nat) (d : Disk) (v : World) : Prop :=
 ∃ S nw X, Rg v r p sb last S d nw X ∧ AG X T last ∧ (∀ k, k < 16 → ((X k).no ≠ 0 ↔ k < last)) ∧ (∀ k ∈ r :: sb :: S, w0.heap.size ≤ k) ∧ Below w0.heap.size w0 v ∧ nw ≤ last
section
variable {w0 v v' : World} {r p sb last : Nat} {T : List Nt} {d : Disk}
end
end Go.Proofs.YtelmcchleclklaaGreat
namespace Go.Proofs.YtelmcchleclklaaGreat
open Go.RowKit Go.Sort
set_option maxRecDepth 100000
set_option maxHeartbeats 2000000

def KeepB (w w' : World) : Prop := w.heap.size ≤ w'.heap.size ∧ ∀ (g : Nat) (cs : Array Value) (t : TypeId), w.heap[g]? = some (Obj.cells cs t (0, 0)) → (t = 5 ∨ t = 52 ∨ t = 62) → w'.heap[g]? = w.heap[g]?
theorem KeepB.of {w w' : World} (b : Below w.heap.size w w') : KeepB w w' := ⟨b.size, fun g _ _ hg _ => b.block g (heap_lt hg)⟩
theorem KeepB.trans {a b c : World} (h : KeepB a b) (k : KeepB b c) : KeepB a c := ⟨Nat.le_trans h.1 k.1, fun g cs t hg ht => (k.2 g cs t ((h.2 g cs t hg ht).trans hg) ht).trans (h.2 g cs t hg ht)⟩
theorem KeepB.bytes {w w' : World} (k : KeepB w w') : ∀ (g : Nat) (cs : Array Value), w.heap[g]? = some (Obj.cells cs 5 (0, 0)) → w'.heap[g]? = w.heap[g]? := fun g cs h => k.2 g cs _ h (Or.inl rfl)
theorem KeepB.i {w w' : World} (k : KeepB w w') : KeepI w w' := ⟨k.1, fun g cs t h ht => k.2 g cs t h (by rcases ht with h | h; exact Or.inl h; exact Or.inr (Or.inr h))⟩
theorem KeepB.pl {w w' : World} (k : KeepB w w') {B : Nat} {v : Value} {l : List Pc} (h : PL w B v l) : PL w' B v l := h.keep (fun g cs t hg ht => k.2 g cs t hg (by rcases ht with h | h; exact Or.inl h; exact Or.inr (Or.inl h)))
theorem KeepB.li {w w' : World} (k : KeepB w w') {B : Nat} {v : Value} {l : List It} (h : LI w B v l) : LI w' B v l := h.keepI k.i
theorem KeepB.datN {w w' : World} (k : KeepB w w') {A : Option Addr} {m : Nat} {D : Nat → Nat} (h : DatN w A m D) : DatN w' A m D := h.keep k.bytes
theorem KeepB.set {w : World} {b k : Nat} {cs : Array Value} {t : TypeId} {fr : Nat × Nat} {v : Value} (hb : w.heap[b]? = some (.cells cs t fr)) (h1 : t ≠ 5) (h2 : t ≠ 52) (h3 : t ≠ 62) : KeepB w (w.setCell ⟨b, k, none⟩ v) := ⟨by simp, fun g cs' t' hg ht => set_other (by
 rintro rfl
 rw [hb] at hg
 cases hg
 rcases ht with h | h | h
 ·exact h1 h
 ·exact h2 h
 ·exact h3 h) _ _⟩
theorem NdM.keep {w w' : World} {n r p sb : Nat} {S : List Nat} {a : Ns} (h : NdM w n r p sb S a) (hk : ∀ k ∈ n :: r :: sb :: S, w'.heap[k]? = w.heap[k]?) (hb : ∀ (g : Nat) (cs : Array Value), w.heap[g]? = some (Obj.cells cs 5 (0, 0)) → w'.heap[g]? = w.heap[g]?) : NdM w' n r p sb S a := by
 obtain ⟨X, hr, hs⟩ := h.ex
 exact ⟨h.nb.keep (hk n (by simp)), X, ⟨hr.rb.keep (hk r (by simp)), hr.sr.keep (hk sb (by simp)), fun k hk' => (hr.ok k hk').keep hb, hr.plt.same ⟨hb, fun k hk' => hk k (by simp [hk'])⟩⟩, hs⟩
theorem NdM.keepB {w w' : World} {n r p sb : Nat} {S : List Nat} {a : Ns} (h : NdM w n r p sb S a) (t : Turn (r :: sb :: S) w w') : KeepB w w' :=
 ⟨t.size, fun g cs ty hg ht => t.block g (heap_lt hg) (h.far hg (by rcases ht with rfl | rfl | rfl <;> decide) (by rcases ht with rfl | rfl | rfl <;> decide) (by rcases ht with rfl | rfl | rfl <;> decide) (by rcases ht with rfl | rfl | rfl <;> decide) (by rcases ht with rfl | rfl | rfl <;> decide))⟩
theorem NdM.set {w : World} {n r p sb b k : Nat} {S : List Nat} {a : Ns} {cs : Array Value} {t : TypeId} {fr : Nat × Nat} {v : Value} (h : NdM w n r p sb S a) (hb : w.heap[b]? = some (.cells cs t fr)) (h0 : t ≠ 98) (h1 : t ≠ 108) (h2 : t ≠ 33) (h3 : t ≠ 110) (h4 : t ≠ 150) (h5 : t ≠ 114) (h6 : t ≠ 5) : NdM (w.setCell ⟨b, k, none⟩ v) n r p sb S a := by
 have hf := h.far hb h1 h2 h3 h4 h5
 refine h.keep (fun j hj => set_other ?_ _ _) (fun g cs' hg => set_other ?_ _ _)
 ·rintro rfl
  rw [List.mem_cons] at hj
  rcases hj with rfl | hj
  ·have := h.nb
   unfold NdB at this
   rw [hb] at this
   cases this
   exact h0 rfl
  ·exact hf hj
 ·rintro rfl
  rw [hb] at hg
  cases hg
  exact h6 rfl
theorem NdM.disk {w w' : World} {n r p sb : Nat} {S S' : List Nat} {a : Ns} (h : NdM w n r p sb S a) (t : Turn S w w') {T : Td} {nw : Nat} (k : Plt w' p S' 96 T.disk nw) : NdM w' n r p sb S' ⟨T, a.R, a.last, a.boot, nw⟩ := by
 obtain ⟨X, hr, hs⟩ := h.ex
 have hn := h.nS
 exact ⟨h.nb.keep (t.block n h.nb.lt (fun hm => hn (by simp [hm]))), X, (hr.turn t k).1, hs⟩
def ActRet (n r p sb : Nat) (S : List Nat) (x : Ns × Rp) (w : World) (e : Ending) (w' : World) : Prop :=
 ∃ S', e = .returned (.int .i64 (x.2.code : Int)) ∧ NdM w' n r p sb S' x.1 ∧ Turn (r :: sb :: S) w w' ∧ ∀ j ∈ S', j ∈ S ∨ w.heap.size ≤ j
theorem turn_in {r sb : Nat} {S : List Nat} {w w' : World} (t : Turn S w w') : Turn (r :: sb :: S) w w' := t.mono (fun k hk => by simp [hk])
theorem nput {w : World} {n r p sb : Nat} {S : List Nat} {a : Ns} (h : NdM w n r p sb S a) (q : Rq) (A : Option Addr) (c : Nat) (hd : DatN w A q.n q.D) (hD : ∀ j, j < q.n → q.D j < 256) (hw : a.nw ≤ 1000000000) :
  Calls Tryz.prog 45 #[.pointer (some ⟨p, 0, none⟩), pv q.s q.g q.i A q.n c] w (ActRet n r p sb S (if q.okP then (⟨a.t.write (atP q.pc) (.pc q.pc), a.R, a.last, a.boot, a.nw + 1⟩, ⟨0, [], []⟩) else (a, ⟨1, [], []⟩)) w) := by
 by_cases hq : q.okP = true
 ·rw [if_pos hq]
  have hi := q.okP_iff.1 hq
  have hok := Rq.pc_ok hi hD
  obtain ⟨i1, i2, i3, i4, i5, i6, i7⟩ := hi
  have hrd := hd.rd
  rw [i7] at hrd ⊢
  have hc := cput h.plt (by omega) q.pc hok A c hrd hw
  have e1 : ((q.pc.s : Nat) : Int) = q.s := by unfold Rq.pc; dsimp only; omega
  have e2 : ((q.pc.g : Nat) : Int) = q.g := by unfold Rq.pc; dsimp only; omega
  have e3 : ((q.pc.i : Nat) : Int) = q.i := by unfold Rq.pc; dsimp only; omega
  rw [e1, e2, e3] at hc
  refine hc.mono ?_
  rintro e w' ⟨S', rfl, hp, ht⟩
  have e4 : a.t.disk.write (atP q.pc) (pcS q.pc) = (a.t.write (atP q.pc) (.pc q.pc)).disk := (disk_write a.t (atP q.pc) (.pc q.pc)).symm
  rw [e4] at hp
  exact ⟨S', rfl, h.disk ht.turn hp, turn_in ht.turn, ht.blocks⟩
 ·rw [if_neg hq]
  refine (cput_no h.plt (by omega) q.s q.g q.i A q.n c (fun hi => hq (q.okP_iff.2 hi))).mono ?_
  rintro e w' ⟨rfl, hb⟩
  exact ⟨S, rfl, h.below hb, Turn.of hb, fun j hj => Or.inl hj⟩
theorem saysR_no {x : Sx} {o : Option Nt} (h : SaysR x o) (h1 : ∀ n y, o = some (n, y) → 1 ≤ n) : x.no = 0 ↔ o = none := by
 obtain ⟨a, b⟩ := h
 cases o with
 | none => exact ⟨fun _ => rfl, fun _ => a⟩
 | some e =>
  obtain ⟨n, y⟩ := e
  have := h1 n y rfl
  have a' : x.no = n := a
  exact ⟨fun h => by omega, fun h => by cases h⟩
theorem saysR_some {x : Sx} {o : Option Nt} (h : SaysR x o) (h0 : x.no ≠ 0) : o = some (x.no, x.it) := by
 obtain ⟨a, b⟩ := h
 cases o with
 | none => exact absurd a h0
 | some e =>
  obtain ⟨n, y⟩ := e
  have a' : x.no = n := a
  rw [b n y rfl, a']
theorem nlog {w : World} {n r p sb : Nat} {S : List Nat} {a : Ns} (h : NdM w n r p sb S a) (ho : a.Ok) (q : Rq) (A : Option Addr) (c : Nat) (hd : DatN w A q.n q.D) (hD : ∀ j, j < q.n → q.D j < 256) (hw : a.nw ≤ 1000000000) (hl : a.last ≤ 1000000000) :
  Calls Tryz.prog 47 #[.pointer (some ⟨r, 0, none⟩), iv q.s q.g A q.n c] w (ActRet n r p sb S (if q.okI then a.log q.it else (a, ⟨1, [], []⟩)) w) := by
 obtain ⟨X, hr, hs⟩ := h.ex
 have h1 : ∀ k, k < 16 → ∀ m y, a.R k = some (m, y) → 1 ≤ m := fun k hk m y e => (ho.rs k m y hk e).1
 by_cases hq : q.okI = true
 ·rw [if_pos hq]
  have hi := q.okI_iff.1 hq
  have hok := Rq.it_ok hi hD
  obtain ⟨i1, i2, i3, i4, i7⟩ := hi
  have hdi := hd.datI i7
  rw [i7]
  have e1 : ((q.it.s : Nat) : Int) = q.s := by unfold Rq.it; dsimp only; omega
  have e2 : ((q.it.g : Nat) : Int) = q.g := by unfold Rq.it; dsimp only; omega
  have hhas : (∃ k, k < 16 ∧ (X k).no ≠ 0 ∧ (X k).it.Alike q.it) ↔ hasR a.R q.it = true := by
   rw [hasR_iff]
   constructor
   ·rintro ⟨k, hk, h0, ha⟩
    exact ⟨k, _, _, hk, saysR_some (hs k hk) h0, ha⟩
   ·rintro ⟨k, m, x, hk, he, ha⟩
    refine ⟨k, hk, fun h0 => ?_, ?_⟩
    ·rw [(saysR_no (hs k hk) (h1 k hk)).1 h0] at he
     cases he
    ·rw [(hs k hk).2 m x he]
     exact ha
  unfold Ns.log
  by_cases hh : hasR a.R q.it = true
  ·rw [if_pos hh]
   have hc := ilog_same q.it A c hr hok hdi (hhas.2 hh)
   rw [e1, e2] at hc
   refine hc.mono ?_
   rintro e w' ⟨rfl, hb⟩
   exact ⟨S, rfl, h.below hb, Turn.of hb, fun j hj => Or.inl hj⟩
  ·rw [if_neg hh]
   have hn : ∀ k, k < 16 → ¬ ((X k).no ≠ 0 ∧ (X k).it.Alike q.it) := fun k hk e => hh (hhas.1 ⟨k, hk, e.1, e.2⟩)
   obtain ⟨f1, f2, f3⟩ := freeTo_spec a.R 16
   obtain ⟨k, hk⟩ : ∃ k, freeTo a.R 16 = k := ⟨_, rfl⟩
   rw [hk] at f1 f2 f3 ⊢
   by_cases hf : k = 16
   ·rw [if_pos hf]
    have hc := ilog_full q.it A c hr hok hdi hn (fun j hj h0 => f2 j (by omega) ((saysR_no (hs j hj) (h1 j hj)).1 h0))
    rw [e1, e2] at hc
    refine hc.mono ?_
    rintro e w' ⟨rfl, hb⟩
    exact ⟨S, rfl, h.below hb, Turn.of hb, fun j hj => Or.inl hj⟩
   ·rw [if_neg hf]
    have hk16 : k < 16 := by omega
    have hc := ilog_put q.it A c hr hok hdi hn k hk16 ((saysR_no (hs k hk16) (h1 k hk16)).2 (f3 hk16)) (fun j hj h0 => f2 j hj ((saysR_no (hs j (by omega)) (h1 j (by omega))).1 h0)) (by omega) hw
    rw [e1, e2] at hc
    refine hc.mono ?_
    rintro e w' ⟨S', A', c', rfl, hr', ht, hS⟩
    have e4 : a.t.disk.write (80 + k) (itS (a.last + 1) q.it) = (a.t.write (80 + k) (.it (a.last + 1) q.it)).disk := (disk_write a.t (80 + k) (.it (a.last + 1) q.it)).symm
    rw [e4] at hr'
    refine ⟨S', rfl, ⟨h.nb.keep (ht.block n h.nb.lt h.nS), _, hr', fun j hj => ?_⟩, ht, hS⟩
    show SaysR (updS X k _ j) (updR a.R k _ j)
    unfold updS updR
    by_cases ej : j = k
    ·rw [if_pos ej, if_pos ej]
     exact ⟨rfl, fun m y e => by cases e; rfl⟩
    ·rw [if_neg ej, if_neg ej]
     exact hs j hj
 ·rw [if_neg hq]
  refine (ilog_arg q.s q.g A q.n c hr.rb (fun hi => hq (q.okI_iff.2 hi))).mono ?_
  rintro e w' ⟨rfl, hb⟩
  exact ⟨S, rfl, h.below hb, Turn.of hb, fun j hj => Or.inl hj⟩
def LiveRet (l : List It) (w : World) (e : Ending) (w' : World) : Prop := ∃ B c, e = .returned (.slice B l.length c) ∧ LI w' w.heap.size (.slice B l.length c) l ∧ Below w.heap.size w w'
theorem nlive {w : World} {n r p sb : Nat} {S : List Nat} {a : Ns} (h : NdM w n r p sb S a) (ho : a.Ok) :
  Calls Tryz.prog 23 #[.pointer (some ⟨r, 0, none⟩)] w (LiveRet ((liveT a.R).map (·.2)) w) := by
 obtain ⟨X, hr, hs⟩ := h.ex
 have e1 : (lv X 16).map ntOf = colR a.R 16 := lv_colR hs (fun k m y hk e => (ho.rs k m y hk e).1) 16 (Nat.le_refl _)
 have hag : AG X (liveT a.R) a.last := by
  refine ⟨by rw [e1]; exact (liveT_perm a.R).symm, liveT_rise ho.rd, fun e he => ?_⟩
  obtain ⟨k, hk, hk2⟩ := colR_mem.1 ((liveT_perm a.R).mem_iff.1 he)
  exact (ho.rs k e.1 e.2 hk hk2).2.1
 refine (ilive_ hr).mono ?_
 rintro e w' ⟨u, L, rfl, hl, hp, hso, hb⟩
 rw [hag.live hp hso] at hl
 obtain ⟨B, c, rfl⟩ := hl.form
 exact ⟨B, c, rfl, hl, hb⟩
theorem saysR_rel {x : Sx} {o : Option Nt} (h : SaysR x o) (h1 : ∀ n y, o = some (n, y) → 1 ≤ n) (s g : Int) : SaysR (relS s g x) (relO s g o) := by
 obtain ⟨a, b⟩ := h
 cases o with
 | none =>
  have a' : x.no = 0 := a
  unfold relS
  rw [if_neg (fun h => h.1 a')]
  exact ⟨a, fun n y e => by cases e⟩
 | some e =>
  obtain ⟨n, y⟩ := e
  have := h1 n y rfl
  have a' : x.no = n := a
  have hy := b n y rfl
  have hs : x.s = y.s := by rw [← hy]; rfl
  have hg : x.g = y.g := by rw [← hy]; rfl
  unfold relS relO
  dsimp only
  rw [hs, hg]
  by_cases hc : (y.s : Int) = s ∧ (y.g : Int) = g
  ·rw [if_pos ⟨by omega, hc⟩, if_pos hc]
   exact ⟨rfl, fun n y e => by cases e⟩
  ·rw [if_neg (fun h => hc h.2), if_neg hc]
   exact ⟨a, b⟩
def RelRet (n r p sb : Nat) (S : List Nat) (a : Ns) (w : World) (e : Ending) (w' : World) : Prop := ∃ k : Int, e = .returned (.int .i64 k) ∧ NdM w' n r p sb S a ∧ Turn (r :: sb :: S) w w'
theorem nrel {w : World} {n r p sb : Nat} {S : List Nat} {a : Ns} (h : NdM w n r p sb S a) (ho : a.Ok) (s g : Int) :
  Calls Tryz.prog 50 #[.pointer (some ⟨r, 0, none⟩), .int .i64 s, .int .i64 g] w (RelRet n r p sb S ⟨a.t, fun k => relO s g (a.R k), a.last, a.boot, a.nw⟩ w) := by
 obtain ⟨X, hr, hs⟩ := h.ex
 refine (irelease s g hr.rb hr.sr).mono ?_
 rintro e w' ⟨rfl, hsr, ht⟩
 have ht' : Turn (r :: sb :: S) w w' := ht.mono (fun k hk => by rw [List.mem_singleton] at hk; subst hk; simp)
 have hu := (h.keepB ht').bytes
 refine ⟨_, rfl, ⟨h.nb.keep (ht'.block n h.nb.lt h.nS), relX s g 16 X, ⟨hr.rb.keep (ht.block r hr.rb.lt (by rw [List.mem_singleton]; exact hr.ne)), hsr, fun k hk => ?_, hr.plt.same ⟨hu, fun k hk => ht.block k (hr.plt.lt k hk) (by
   rw [List.mem_singleton]
   rintro rfl
   exact hr.sS hk)⟩⟩, fun k hk => ?_⟩, ht'⟩
 ·have e : relX s g 16 X k = relS s g (X k) := by unfold relX; rw [if_pos hk]
  rw [e]
  unfold relS
  split
  ·exact SxOk.z
  ·exact (hr.ok k hk).keep hu
 ·have e : relX s g 16 X k = relS s g (X k) := by unfold relX; rw [if_pos hk]
  rw [e]
  exact saysR_rel (hs k hk) (fun m y e => (ho.rs k m y hk e).1) s g
def FlRet (n r p sb : Nat) (S : List Nat) (a : Ns) (w : World) (e : Ending) (w' : World) : Prop := ∃ S', e = .returned (.tuple #[]) ∧ NdM w' n r p sb S' a ∧ Turn (r :: sb :: S) w w' ∧ ∀ j ∈ S', j ∈ S ∨ w.heap.size ≤ j
theorem nflush {w : World} {n r p sb : Nat} {S : List Nat} {a : Ns} (h : NdM w n r p sb S a) :
  Calls Tryz.prog 49 #[.pointer (some ⟨p, 0, none⟩)] w (FlRet n r p sb S ⟨a.t.flush, a.R, a.last, a.boot, a.nw⟩ w) := by
 refine (dflush h.plt).mono ?_
 rintro e w' ⟨S', rfl, hp, ht⟩
 rw [← disk_flush] at hp
 exact ⟨S', rfl, h.disk ht.turn hp, turn_in ht.turn, ht.blocks⟩
end Go.Proofs.YtelmcchleclklaaGreat
