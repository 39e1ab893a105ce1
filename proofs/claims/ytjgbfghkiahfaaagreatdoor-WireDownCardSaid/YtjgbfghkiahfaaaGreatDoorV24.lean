import Derived.Test.YtjgbfghkiahfaaaGreatDoorV23
import Derived.Test.YtjgbfghkiahfaaaGreatDoorV20
import Derived.Test.YtjgbfghkiahfaaaGreatDoorV12
namespace Go.Proofs.YtjgbfghkiahfaaaGreatDoor
open Go.RowKit Go.Sort
set_option maxRecDepth 100000
set_option maxHeartbeats 2000000

/-! A node in memory. -/
def NdB (w : World) (n p r boot : Nat) : Prop := w.heap[n]? = some (.cells #[.pointer (some ⟨p, 0, none⟩), .pointer (some ⟨r, 0, none⟩), .int .i64 (boot : Int)] 75 (0, 0))
section
variable {w w' : World} {n p r boot : Nat}
theorem NdB.c0 (h : NdB w n p r boot) : w.cell? ⟨n, 0, none⟩ = some (.pointer (some ⟨p, 0, none⟩)) := cell_of_block h
theorem NdB.c1 (h : NdB w n p r boot) : w.cell? ⟨n, 1, none⟩ = some (.pointer (some ⟨r, 0, none⟩)) := cell_of_block h
theorem NdB.c2 (h : NdB w n p r boot) : w.cell? ⟨n, 2, none⟩ = some (.int .i64 (boot : Int)) := cell_of_block h
theorem NdB.f (h : NdB w n p r boot) (k : Nat) : w.frozen? ⟨n, k, none⟩ = false := free_of_block h
theorem NdB.lt (h : NdB w n p r boot) : n < w.heap.size := heap_lt h
theorem NdB.keep (h : NdB w n p r boot) (e : w'.heap[n]? = w.heap[n]?) : NdB w' n p r boot := e.trans h
theorem NdB.below (h : NdB w n p r boot) (b : Below w.heap.size w w') : NdB w' n p r boot := h.keep (b.block n h.lt)
end
structure NdM (w : World) (n r p sb : Nat) (S : List Nat) (a : Ns) : Prop where
  nb : NdB w n p r a.boot
  ex : ∃ X, Rg w r p sb a.last S a.t.disk a.nw X ∧ ∀ k, k < 16 → SaysR (X k) (a.R k)
section
variable {w w' : World} {n r p sb : Nat} {S : List Nat} {a : Ns}
theorem NdM.plt (h : NdM w n r p sb S a) : Plt w p S 96 a.t.disk a.nw := by
  obtain ⟨X, hr, _⟩ := h.ex
  exact hr.plt
theorem NdM.below (h : NdM w n r p sb S a) (b : Below w.heap.size w w') : NdM w' n r p sb S a := by
  obtain ⟨X, hr, hs⟩ := h.ex
  exact ⟨h.nb.below b, X, hr.below b, hs⟩
theorem NdM.nS (h : NdM w n r p sb S a) : n ∉ r :: sb :: S := by
  obtain ⟨X, hr, hs⟩ := h.ex
  exact hr.far h.nb (by decide) (by decide) (by decide) (by decide) (by decide)
theorem NdM.far (h : NdM w n r p sb S a) {k : Nat} {cs : Array Value} {t : TypeId} {fr : Nat × Nat} (hk : w.heap[k]? = some (.cells cs t fr)) (h1 : t ≠ 108) (h2 : t ≠ 36) (h3 : t ≠ 149) (h4 : t ≠ 96) (h5 : t ≠ 79) : k ∉ r :: sb :: S := by
  obtain ⟨X, hr, hs⟩ := h.ex
  exact hr.far hk h1 h2 h3 h4 h5
theorem NdM.lt (h : NdM w n r p sb S a) : ∀ k ∈ n :: r :: sb :: S, k < w.heap.size := by
  obtain ⟨X, hr, hs⟩ := h.ex
  intro k hk
  rw [List.mem_cons, List.mem_cons, List.mem_cons] at hk
  rcases hk with rfl | rfl | rfl | hk
  · exact h.nb.lt
  · exact hr.rb.lt
  · exact hr.sr.lt
  · exact hr.plt.lt k hk
end
/-! Requests and replies in memory. -/
abbrev rqv (k s g i : Int) (A : Option Addr) (m c : Nat) : Value := .agg #[.int .i64 k, .int .i64 s, .int .i64 g, .int .i64 i, .slice A m c]
abbrev rpv (code boot : Int) (u v : Value) : Value := .agg #[.int .i64 code, .int .i64 boot, u, v]
def QV (w : World) (b : Nat) (k s g i : Int) (A : Option Addr) (m c : Nat) : Prop := w.heap[b]? = some (.cells #[.int .i64 k, .int .i64 s, .int .i64 g, .int .i64 i, .slice A m c] 38 (0, 0))
section
variable {w w' : World} {b m c : Nat} {k s g i : Int} {A : Option Addr}
theorem QV.c0 (h : QV w b k s g i A m c) : w.cell? ⟨b, 0, none⟩ = some (.int .i64 k) := cell_of_block h
theorem QV.c1 (h : QV w b k s g i A m c) : w.cell? ⟨b, 1, none⟩ = some (.int .i64 s) := cell_of_block h
theorem QV.c2 (h : QV w b k s g i A m c) : w.cell? ⟨b, 2, none⟩ = some (.int .i64 g) := cell_of_block h
theorem QV.c3 (h : QV w b k s g i A m c) : w.cell? ⟨b, 3, none⟩ = some (.int .i64 i) := cell_of_block h
theorem QV.c4 (h : QV w b k s g i A m c) : w.cell? ⟨b, 4, none⟩ = some (.slice A m c) := cell_of_block h
theorem QV.lt (h : QV w b k s g i A m c) : b < w.heap.size := heap_lt h
theorem QV.keep (h : QV w b k s g i A m c) (e : w'.heap[b]? = w.heap[b]?) : QV w' b k s g i A m c := e.trans h
theorem QV.below (h : QV w b k s g i A m c) (e : Below w.heap.size w w') : QV w' b k s g i A m c := h.keep (e.block b h.lt)
theorem QV.of_new {H : Nat} (hH : w.heap.size = H) : QV (w.alloc (.cells #[.int .i64 k, .int .i64 s, .int .i64 g, .int .i64 i, .slice A m c] 38)) H k s g i A m c := by
  subst hH
  exact alloc_block w _
theorem QV.load (h : QV w b k s g i A m c) : (loadVar 38 ⟨b, 0, none⟩).run Tryz.prog w = .ok (rqv k s g i A m c) w := by
  have z0 := h.c0
  have z1 := h.c1
  have z2 := h.c2
  have z3 := h.c3
  have z4 := h.c4
  have s0 := h.lt
  simp [go_sem, z0, z1, z2, z3, z4, rqv]
end
def RV (w : World) (b : Nat) (code boot : Int) (u v : Value) : Prop := w.heap[b]? = some (.cells #[.int .i64 code, .int .i64 boot, u, v] 31 (0, 0))
section
variable {w w' : World} {b : Nat} {code boot : Int} {u v : Value}
theorem RV.c0 (h : RV w b code boot u v) : w.cell? ⟨b, 0, none⟩ = some (.int .i64 code) := cell_of_block h
theorem RV.c1 (h : RV w b code boot u v) : w.cell? ⟨b, 1, none⟩ = some (.int .i64 boot) := cell_of_block h
theorem RV.c2 (h : RV w b code boot u v) : w.cell? ⟨b, 2, none⟩ = some u := cell_of_block h
theorem RV.c3 (h : RV w b code boot u v) : w.cell? ⟨b, 3, none⟩ = some v := cell_of_block h
theorem RV.f (h : RV w b code boot u v) (k : Nat) : w.frozen? ⟨b, k, none⟩ = false := free_of_block h
theorem RV.lt (h : RV w b code boot u v) : b < w.heap.size := heap_lt h
theorem RV.keep (h : RV w b code boot u v) (e : w'.heap[b]? = w.heap[b]?) : RV w' b code boot u v := e.trans h
theorem RV.below (h : RV w b code boot u v) (e : Below w.heap.size w w') : RV w' b code boot u v := h.keep (e.block b h.lt)
theorem RV.of_new {H : Nat} (hH : w.heap.size = H) : RV (w.alloc (.cells #[.int .i64 code, .int .i64 boot, u, v] 31)) H code boot u v := by
  subst hH
  exact alloc_block w _
theorem RV.put0 (h : RV w b code boot u v) {code' : Int} : RV (w.setCell ⟨b, 0, none⟩ (.int .i64 code')) b code' boot u v := set_block h 0 _
theorem RV.put2 (h : RV w b code boot u v) {u' : Value} : RV (w.setCell ⟨b, 2, none⟩ u') b code boot u' v := set_block h 2 _
theorem RV.put3 (h : RV w b code boot u v) {v' : Value} : RV (w.setCell ⟨b, 3, none⟩ v') b code boot u v' := set_block h 3 _
theorem RV.put4 (h : RV w b code boot u v) {code' boot' : Int} {u' v' : Value} : RV ((((w.setCell ⟨b, 0, none⟩ (.int .i64 code')).setCell ⟨b, 1, none⟩ (.int .i64 boot')).setCell ⟨b, 2, none⟩ u').setCell ⟨b, 3, none⟩ v') b code' boot' u' v' :=
  set_block (set_block (set_block (set_block h 0 _) 1 _) 2 _) 3 _
theorem RV.load {A B : Option Addr} {m c m' c' : Nat} (h : RV w b code boot (.slice A m c) (.slice B m' c')) : (loadVar 31 ⟨b, 0, none⟩).run Tryz.prog w = .ok (rpv code boot (.slice A m c) (.slice B m' c')) w := by
  have z0 := h.c0
  have z1 := h.c1
  have z2 := h.c2
  have z3 := h.c3
  have s0 := h.lt
  simp [go_sem, z0, z1, z2, z3, rpv]
end
/-- Some bytes, in a block of bytes. -/
def DatN (w : World) (A : Option Addr) (m : Nat) (D : Nat → Nat) : Prop := m = 0 ∨ ∃ g o cs, A = some ⟨g, o, none⟩ ∧ w.heap[g]? = some (.cells cs 5 (0, 0)) ∧ ∀ j, j < m → w.cell? ⟨g, o + j, none⟩ = some (.int .u8 (D j : Nat))
theorem DatN.rd {w : World} {A : Option Addr} {m : Nat} {D : Nat → Nat} (h : DatN w A m D) : Rd w A m D := fun hm => by
  rcases h with h | ⟨g, o, cs, h1, _, h3⟩
  · omega
  · exact ⟨g, o, h1, h3⟩
theorem DatN.datI {w : World} {A : Option Addr} {m : Nat} {D : Nat → Nat} (h : DatN w A m D) (hm : m = 128) : DatI w A D := by
  subst hm
  rcases h with h | h
  · omega
  · exact h
theorem DatN.keep {w w' : World} {A : Option Addr} {m : Nat} {D : Nat → Nat} (h : DatN w A m D) (k : ∀ (g : Nat) (cs : Array Value), w.heap[g]? = some (Obj.cells cs 5 (0, 0)) → w'.heap[g]? = w.heap[g]?) : DatN w' A m D := by
  rcases h with h | ⟨g, o, cs, h1, h2, h3⟩
  · exact Or.inl h
  · have e := k g cs h2
    refine Or.inr ⟨g, o, cs, h1, e.trans h2, fun j hj => ?_⟩
    rw [← h3 j hj]
    exact (cell_of_block (e.trans h2)).trans (cell_of_block h2).symm
theorem DatN.below {w w' : World} {A : Option Addr} {m : Nat} {D : Nat → Nat} (h : DatN w A m D) (b : Below w.heap.size w w') : DatN w' A m D := h.keep (fun g _ hg => b.block g (heap_lt hg))
theorem DatN.blk {w : World} {g m : Nat} {D : Nat → Nat} (h : Blk8 w g m D) : DatN w (some ⟨g, 0, none⟩) m D := by
  obtain ⟨cs, h1, h2, h3⟩ := h
  exact Or.inr ⟨g, 0, cs, rfl, h1, fun j hj => by rw [Nat.zero_add]; exact (cell_of_block h1).trans (h3 j hj)⟩
theorem DatN.none_ {w : World} {A : Option Addr} {D : Nat → Nat} : DatN w A 0 D := Or.inl rfl
/-! The small ones. -/
theorem nmade {w : World} {n p r boot : Nat} (h : NdB w n p r boot) : Calls Tryz.prog 36 #[.pointer (some ⟨n, 0, none⟩)] w fun e w' => e = .returned (.bool true) ∧ w' = w := by
  have c0 := h.c0
  clear h
  go_enter Tryz.func36, Tryz.ntmps36
  go_wp2_with fail
  go_ret
  exact ⟨rfl, rfl⟩
theorem npiece (k s g i : Int) (A : Option Addr) (m c : Nat) (w : World) : Calls Tryz.prog 70 #[rqv k s g i A m c] w fun e w' => e = .returned (pv s g i A m c) ∧ Below w.heap.size w w' := by
  obtain ⟨w1, hw1⟩ : ∃ w1, (w.alloc (.cells #[.int .i64 k, .int .i64 s, .int .i64 g, .int .i64 i, .slice A m c] 38)).alloc (.cells #[.int .i64 s, .int .i64 g, .int .i64 i, .slice A m c] 117) = w1 := ⟨_, rfl⟩
  have HW1 := Lib.hid hw1
  have HB1 : Hid (Below w.heap.size w w1) := Lib.hid (by rw [← hw1]; exact ((Below.refl _ _).alloc (Nat.le_refl _) _).alloc (by simp) _)
  have HP1 : Hid (PV w1 (w.heap.size + 1) s g i A m c) := Lib.hid (by
    rw [← hw1]
    have := PV.new (w.alloc (.cells #[.int .i64 k, .int .i64 s, .int .i64 g, .int .i64 i, .slice A m c] 38)) s g i A m c
    rw [World.size_alloc] at this
    exact this)
  clear hw1
  unfold rqv
  go_enter Tryz.func70, Tryz.ntmps70
  go_wp2_with fail
  rw [HW1.out]
  refine bodyPost_ret (v := pv s g i A m c) ?_ rfl ?_
  · rw [results_cell1 rfl]
    simp [HP1.out.load, Result.andThen, asAddr]
  exact ⟨rfl, HB1.out⟩
theorem nintent (k s g i : Int) (A : Option Addr) (m c : Nat) (w : World) : Calls Tryz.prog 72 #[rqv k s g i A m c] w fun e w' => e = .returned (iv s g A m c) ∧ Below w.heap.size w w' := by
  obtain ⟨w1, hw1⟩ : ∃ w1, (w.alloc (.cells #[.int .i64 k, .int .i64 s, .int .i64 g, .int .i64 i, .slice A m c] 38)).alloc (.cells #[.int .i64 s, .int .i64 g, .slice A m c] 56) = w1 := ⟨_, rfl⟩
  have HW1 := Lib.hid hw1
  have HB1 : Hid (Below w.heap.size w w1) := Lib.hid (by rw [← hw1]; exact ((Below.refl _ _).alloc (Nat.le_refl _) _).alloc (by simp) _)
  have HP1 : Hid (IV w1 (w.heap.size + 1) s g A m c) := Lib.hid (by
    rw [← hw1]
    exact IV.of_new (World.size_alloc _ _))
  clear hw1
  unfold rqv
  go_enter Tryz.func72, Tryz.ntmps72
  go_wp2_with fail
  rw [HW1.out]
  refine bodyPost_ret (v := iv s g A m c) ?_ rfl ?_
  · rw [results_cell1 rfl]
    simp [HP1.out.load, Result.andThen, asAddr]
  exact ⟨rfl, HB1.out⟩
def PcsRet (l : List Pc) (w : World) (e : Ending) (w' : World) : Prop := ∃ B c, e = .returned (.tuple #[.slice B l.length c, .int .i64 0]) ∧ PL w' w.heap.size (.slice B l.length c) l ∧ Below w.heap.size w w'
/-- A stripe's pieces. -/
theorem npieces {w : World} {n r p sb m : Nat} {S : List Nat} {a : Ns} (h : NdM w n r p sb S a) (ht : a.t.Ok m) (s : Nat) (hs : s < 40) :
    Calls Tryz.prog 68 #[.pointer (some ⟨n, 0, none⟩), .int .i64 (s : Int)] w (PcsRet (a.pcs s) w) := by
  have c0 := h.nb.c0
  have HG := Lib.hid (cgetD h.plt ht.cd (by omega) s hs)
  clear h ht
  have h1 : ¬ (s : Int) < 0 := by omega
  have h2 : ¬ (40 : Int) ≤ (s : Int) := by omega
  have h2' : (s : Int) < 40 := by omega
  go_enter Tryz.func68, Tryz.ntmps68
  go_wp2_with fail
  refine HG.out.mono ?_
  rintro e w' ⟨v, rfl, hp, hb⟩
  obtain ⟨B, c, rfl⟩ := hp.form
  try dsimp only
  have HP := Lib.hid hp
  have HB := Lib.hid hb
  clear hp hb HG
  go_wp2_with fail
  go_ret2
  exact ⟨B, c, rfl, HP.out, HB.out⟩
theorem npieces_no (n : Nat) (s : Int) (w : World) (hs : ¬ (0 ≤ s ∧ s < 40)) :
    Calls Tryz.prog 68 #[.pointer (some ⟨n, 0, none⟩), .int .i64 s] w fun e w' => e = .returned (.tuple #[.slice none 0 0, .int .i64 1]) ∧ w' = w := by
  by_cases h : s < 0
  · clear hs
    go_enter Tryz.func68, Tryz.ntmps68
    go_wp2_with fail
    go_ret2
    exact ⟨rfl, rfl⟩
  · have h2 : (40 : Int) ≤ s := by omega
    clear hs
    go_enter Tryz.func68, Tryz.ntmps68
    go_wp2_with fail
    go_ret2
    exact ⟨rfl, rfl⟩
end Go.Proofs.YtjgbfghkiahfaaaGreatDoor
namespace Go.Proofs.YtjgbfghkiahfaaaGreatDoor
open Go.RowKit Go.Sort
set_option maxRecDepth 100000
set_option maxHeartbeats 2000000

/-- The first logs of a law. -/
def Ts (f : Nat → It) (n : Nat) : List Nt := (List.range n).map (fun k => (k + 1, f k))
theorem Ts_succ (f : Nat → It) (n : Nat) : Ts f (n + 1) = Ts f n ++ [(n + 1, f n)] := by
  unfold Ts
  rw [List.range_succ, List.map_append]
  rfl
theorem Ts_len (f : Nat → It) (n : Nat) : (Ts f n).length = n := by
  unfold Ts
  simp
theorem Ts_mem {f : Nat → It} {n : Nat} {e : Nt} (h : e ∈ Ts f n) : ∃ k, k < n ∧ e = (k + 1, f k) := by
  unfold Ts at h
  rw [List.mem_map] at h
  obtain ⟨k, hk, rfl⟩ := h
  exact ⟨k, List.mem_range.1 hk, rfl⟩
theorem Ts_far {g : Nat} {x : Nat → Int} {n : Nat} {y : It} (h : n ≤ y.s) : ∀ e ∈ Ts (fun k => oneI k g (x k)) n, ¬ e.2.Alike y := by
  intro e he ha
  obtain ⟨k, hk, rfl⟩ := Ts_mem he
  have h1 : k = y.s := ha.1
  omega
theorem Ts_rel : ((Ts (fun k => oneI k 1 (k : Int)) 16).filter (keepsR 3 1)).length = 15 := by kernel_rfl
end Go.Proofs.YtjgbfghkiahfaaaGreatDoor
namespace Go.Proofs.YtjgbfghkiahfaaaGreatDoor
open Go.RowKit Go.Sort
set_option maxRecDepth 100000
set_option maxHeartbeats 2000000

/-! Rings whose disk is known. -/
def OpenNo (w : World) (e : Ending) (w' : World) : Prop := e = .returned (.tuple #[.pointer none, .int .i64 1]) ∧ Below w.heap.size w w'
theorem iopen_nil (w : World) : Calls Tryz.prog 65 #[.pointer none] w (OpenNo w) := by
  go_enter Tryz.func65, Tryz.ntmps65
  go_wp2_with fail
  go_ret2
  exact ⟨rfl, Below.refl _ _⟩
theorem iopen_small {w : World} {p : Nat} {S : List Nat} {d : Disk} {nw : Nat} (h : Plt w p S 95 d nw) : Calls Tryz.prog 65 #[.pointer (some ⟨p, 0, none⟩)] w (OpenNo w) := by
  have HBK := Lib.hid (dblocks h)
  clear h
  go_enter Tryz.func65, Tryz.ntmps65
  go_wp2_with fail
  refine HBK.out.mono ?_
  rintro e w' ⟨rfl, hw⟩
  obtain rfl := hw.symm
  go_wp2_with fail
  go_ret2
  exact ⟨rfl, Below.refl _ _⟩
theorem Rg.turn {w w' : World} {r p sb last : Nat} {S S' : List Nat} {d d' : Disk} {nw nw' : Nat} {X : Nat → Sx} (h : Rg w r p sb last S d nw X) (t : Turn S w w') (k : Plt w' p S' 96 d' nw') : Rg w' r p sb last S' d' nw' X ∧ KeepI w w' := by
  have ht : Turn (r :: sb :: S) w w' := t.mono (fun k hk => by simp [hk])
  have hk := h.keepI ht
  obtain ⟨cs, hc⟩ := h.sr.type
  exact ⟨⟨h.rb.keep (t.block r h.rb.lt h.rS), h.sr.keep (t.block sb (heap_lt hc) h.sS), fun j hj => (h.ok j hj).keep (fun g cs hg => hk.2 g cs _ hg (Or.inl rfl)), k⟩, hk⟩
/-- A ring and its disk. -/
def RD (w0 : World) (r p sb : Nat) (T : List Nt) (last : Nat) (d : Disk) (v : World) : Prop :=
  ∃ S nw X, Rg v r p sb last S d nw X ∧ AG X T last ∧ (∀ k ∈ r :: sb :: S, w0.heap.size ≤ k) ∧ Below w0.heap.size w0 v ∧ nw ≤ 100
/-- One that lost nothing. -/
def KD (w0 : World) (r p sb : Nat) (T : List Nt) (last : Nat) (d : Disk) (v : World) : Prop :=
  ∃ S nw X, Rg v r p sb last S d nw X ∧ AG X T last ∧ (∀ k, k < 16 → ((X k).no ≠ 0 ↔ k < last)) ∧ (∀ k ∈ r :: sb :: S, w0.heap.size ≤ k) ∧ Below w0.heap.size w0 v ∧ nw ≤ last
section
variable {w0 v v' : World} {r p sb last : Nat} {T : List Nt} {d : Disk}
theorem KD.rd (h : KD w0 r p sb T last d v) (hl : last ≤ 100) : RD w0 r p sb T last d v := by
  obtain ⟨S, nw, X, h1, h2, _, h3, h4, h5⟩ := h
  exact ⟨S, nw, X, h1, h2, h3, h4, by omega⟩
theorem KD.below (h : KD w0 r p sb T last d v) (b : Below v.heap.size v v') : KD w0 r p sb T last d v' := by
  obtain ⟨S, nw, X, h1, h2, h6, h3, h4, h5⟩ := h
  exact ⟨S, nw, X, h1.below b, h2, h6, h3, h4.trans (b.mono h4.size), h5⟩
theorem RD.below (h : RD w0 r p sb T last d v) (b : Below v.heap.size v v') : RD w0 r p sb T last d v' := by
  obtain ⟨S, nw, X, h1, h2, h3, h4, h5⟩ := h
  exact ⟨S, nw, X, h1.below b, h2, h3, h4.trans (b.mono h4.size), h5⟩
theorem RD.blw (h : RD w0 r p sb T last d v) : Below w0.heap.size w0 v := by
  obtain ⟨S, nw, X, h1, h2, h3, h4, h5⟩ := h
  exact h4
def KLogRet (w0 : World) (r p sb : Nat) (T : List Nt) (last : Nat) (d : Disk) (e : Ending) (w' : World) : Prop := e = .returned (.int .i64 0) ∧ KD w0 r p sb T last d w'
theorem kd_log (h : KD w0 r p sb T last d v) (y : It) (A : Option Addr) (c : Nat) (hy : y.Ok) (hd : DatI v A y.D) (hn : ∀ e ∈ T, ¬ e.2.Alike y) (hl : last < 16) :
    Calls Tryz.prog 71 #[.pointer (some ⟨r, 0, none⟩), iv (y.s : Int) (y.g : Int) A 128 c] v (KLogRet w0 r p sb (T ++ [(last + 1, y)]) (last + 1) (d.write (80 + last) (itS (last + 1) y))) := by
  obtain ⟨S, nw, X, h1, h2, h6, h3, h4, h5⟩ := h
  have hk0 : (X last).no = 0 := by
    by_cases e : (X last).no = 0
    · exact e
    · exact absurd ((h6 last hl).1 e) (by omega)
  refine (ilog_put y A c h1 hy hd (fun j hj e => hn _ (h2.mem hj e.1) e.2) last hl hk0 (fun j hj => (h6 j (by omega)).2 hj) (by omega) (by omega)).mono ?_
  rintro e w' ⟨S', A', c', rfl, hr, ht, hS⟩
  have hb := Below.of_turn h4 ht h3 h4.size
  refine ⟨rfl, S', _, _, hr, h2.put hl hk0 ⟨last + 1, y.s, y.g, A', 128, c', y.D⟩ rfl, fun k hk => ?_, fun j hj => ?_, hb, by omega⟩
  · unfold updS
    by_cases e : k = last
    · subst e
      rw [if_pos rfl]
      exact ⟨fun _ => by omega, fun _ => by show k + 1 ≠ 0; omega⟩
    · rw [if_neg e]
      exact ⟨fun h => by have := (h6 k hk).1 h; omega, fun h => (h6 k hk).2 (by omega)⟩
  · rw [List.mem_cons, List.mem_cons] at hj
    rcases hj with rfl | rfl | hj
    · exact h3 _ (by simp)
    · exact h3 _ (by simp)
    · rcases hS j hj with h | h
      · exact h3 j (by simp [h])
      · exact Nat.le_trans h4.size h
theorem kd_same (h : KD w0 r p sb T last d v) (y : It) (A : Option Addr) (c : Nat) (hy : y.Ok) (hd : DatI v A y.D) (hn : ∃ e ∈ T, e.2.Alike y) :
    Calls Tryz.prog 71 #[.pointer (some ⟨r, 0, none⟩), iv (y.s : Int) (y.g : Int) A 128 c] v fun e w' => e = .returned (.int .i64 0) ∧ Below v.heap.size v w' := by
  obtain ⟨S, nw, X, h1, h2, h6, h3, h4, h5⟩ := h
  obtain ⟨e, he, ha⟩ := hn
  obtain ⟨x, hx, rfl⟩ := List.mem_map.1 (h2.1.mem_iff.2 he)
  obtain ⟨i, hi, hne, rfl⟩ := lv_mem.1 hx
  exact ilog_same y A c h1 hy hd ⟨i, hi, hne, ha⟩
theorem kd_arg (h : KD w0 r p sb T last d v) (s g : Int) (A : Option Addr) (n c : Nat) (hno : ¬ OkJ s g n) :
    Calls Tryz.prog 71 #[.pointer (some ⟨r, 0, none⟩), iv s g A n c] v fun e w' => e = .returned (.int .i64 1) ∧ Below v.heap.size v w' := by
  obtain ⟨S, nw, X, h1, h2, h6, h3, h4, h5⟩ := h
  exact ilog_arg s g A n c h1.rb hno
def DRelRet (w0 : World) (r p sb : Nat) (T : List Nt) (last : Nat) (d : Disk) (n : Nat) (e : Ending) (w' : World) : Prop := e = .returned (.int .i64 (n : Int)) ∧ RD w0 r p sb T last d w'
theorem rd_rel (h : RD w0 r p sb T last d v) (s g : Int) :
    Calls Tryz.prog 74 #[.pointer (some ⟨r, 0, none⟩), .int .i64 s, .int .i64 g] v (DRelRet w0 r p sb (T.filter (keepsR s g)) last d (T.length - (T.filter (keepsR s g)).length)) := by
  obtain ⟨S, nw, X, h1, h2, h3, h4, h5⟩ := h
  obtain ⟨a1, a2⟩ := h2.rel s g
  rw [← a2]
  refine (irelease s g h1.rb h1.sr).mono ?_
  rintro e w' ⟨rfl, hs, ht⟩
  have hu : ∀ (g' : Nat) (cs : Array Value), v.heap[g']? = some (Obj.cells cs 5 (0, 0)) → w'.heap[g']? = v.heap[g']? := fun g' cs hg => ht.block g' (heap_lt hg) (by
    rw [List.mem_singleton]
    rintro rfl
    obtain ⟨cs', hc⟩ := h1.sr.type
    rw [hg] at hc
    cases hc)
  have hrg : Rg w' r p sb last S d nw (relX s g 16 X) := ⟨h1.rb.keep (ht.block r h1.rb.lt (by rw [List.mem_singleton]; exact h1.ne)), hs, fun k hk => by
    have e : relX s g 16 X k = relS s g (X k) := by unfold relX; rw [if_pos hk]
    rw [e]
    unfold relS
    split
    · exact SxOk.z
    · exact (h1.ok k hk).keep hu, h1.plt.same ⟨hu, fun k hk => ht.block k (h1.plt.lt k hk) (by
      rw [List.mem_singleton]
      rintro rfl
      exact h1.sS hk)⟩⟩
  have ht' : Turn (r :: sb :: S) v w' := ht.mono (fun k hk => by rw [List.mem_singleton] at hk; subst hk; simp)
  exact ⟨rfl, S, nw, _, hrg, a1, h3, Below.of_turn h4 ht' h3 h4.size, h5⟩
theorem rd_live (h : RD w0 r p sb T last d v) : Calls Tryz.prog 16 #[.pointer (some ⟨r, 0, none⟩)] v (RLiveRet T v) := by
  obtain ⟨S, nw, X, h1, h2, h3, h4, h5⟩ := h
  refine (ilive_ h1).mono ?_
  rintro e w' ⟨u, L, rfl, hl, hp, hs, hb⟩
  exact ⟨u, rfl, by rw [← h2.live hp hs]; exact hl, hb⟩
theorem kd_flush (h : KD w0 r p sb T last d v) : Calls Tryz.prog 73 #[.pointer (some ⟨p, 0, none⟩)] v fun e w' => e = .returned (.tuple #[]) ∧ KD w0 r p sb T last d.flush w' := by
  obtain ⟨S, nw, X, h1, h2, h6, h3, h4, h5⟩ := h
  refine (dflush h1.plt).mono ?_
  rintro e w' ⟨S', rfl, hp, ht⟩
  obtain ⟨hb, hS⟩ := Below.step h4 ht (fun k hk => h3 k (by simp [hk])) h4.size
  refine ⟨rfl, S', nw, X, (h1.turn ht.turn hp).1, h2, h6, fun k hk => ?_, hb, h5⟩
  rw [List.mem_cons, List.mem_cons] at hk
  rcases hk with rfl | rfl | hk
  · exact h3 _ (by simp)
  · exact h3 _ (by simp)
  · exact hS k hk
theorem rd_crash (h : RD w0 r p sb T last d v) : Calls Tryz.prog 75 #[.pointer (some ⟨p, 0, none⟩), .slice none 0 0] v fun e w' => e = .returned (.tuple #[]) ∧ RD w0 r p sb T last (d.crash (keepF [])) w' ∧ KeepI v w' := by
  obtain ⟨S, nw, X, h1, h2, h3, h4, h5⟩ := h
  refine (dcrash none [] 0 h1.plt (fun i x hi => by simp at hi) (by simp) (by omega)).mono ?_
  rintro e w' ⟨S', rfl, hp, ht⟩
  obtain ⟨hb, hS⟩ := Below.step h4 ht (fun k hk => h3 k (by simp [hk])) h4.size
  obtain ⟨hr, hkp⟩ := h1.turn ht.turn hp
  refine ⟨rfl, ⟨S', nw, X, hr, h2, fun k hk => ?_, hb, h5⟩, hkp⟩
  rw [List.mem_cons, List.mem_cons] at hk
  rcases hk with rfl | rfl | hk
  · exact h3 _ (by simp)
  · exact h3 _ (by simp)
  · exact hS k hk
/-- What the first n blocks say. -/
def Rn (f : Nat → It) (n : Nat) (k : Nat) : Option (Nat × It) := if k < n then some (k + 1, f k) else none
theorem lv_low {X : Nat → Sx} {f : Nat → It} {n : Nat} (h : ∀ k, k < 16 → SaysR (X k) (Rn f n k)) : ∀ m, m ≤ 16 → (lv X m).map ntOf = (List.range (min m n)).map (fun k => (k + 1, f k))
  | 0, _ => by
    rw [Nat.zero_min]
    rfl
  | m + 1, hm => by
    obtain ⟨h1, h2⟩ := h m (by omega)
    unfold lv
    rw [List.map_append, lv_low h m (by omega)]
    unfold Rn at h1 h2
    by_cases e : m < n
    · rw [if_pos e] at h1 h2
      have h1' : (X m).no = m + 1 := h1
      have h2' := h2 _ _ rfl
      rw [if_neg (by omega), show min (m + 1) n = min m n + 1 by omega, List.range_succ, List.map_append, show min m n = m by omega]
      have : ntOf (X m) = (m + 1, f m) := by unfold ntOf; rw [h1', h2']
      simp [this]
    · rw [if_neg e] at h1
      have h1' : (X m).no = 0 := h1
      rw [if_pos h1', show min (m + 1) n = min m n by omega]
      simp
theorem lastOf_Rn (f : Nat → It) {n : Nat} : ∀ m, lastOf (Rn f n) m = min m n
  | 0 => by rw [Nat.zero_min]; rfl
  | m + 1 => by
    show max (lastOf (Rn f n) m) (numOf (Rn f n m)) = _
    rw [lastOf_Rn f m]
    unfold Rn
    by_cases e : m < n
    · rw [if_pos e]
      show max (min m n) (m + 1) = _
      omega
    · rw [if_neg e]
      show max (min m n) 0 = _
      omega
theorem AG.ofRn {X : Nat → Sx} {f : Nat → It} {n : Nat} (hn : n ≤ 16) (h : ∀ k, k < 16 → SaysR (X k) (Rn f n k)) : AG X (Ts f n) n := by
  have e := lv_low h 16 (Nat.le_refl _)
  rw [show min 16 n = n by omega] at e
  refine ⟨by rw [e]; exact List.Perm.refl _, ?_, fun e he => ?_⟩
  · unfold Ts
    rw [List.pairwise_map]
    exact (List.pairwise_lt_range (n := n)).imp (fun h => by show _ + 1 < _ + 1; omega)
  · obtain ⟨k, hk, rfl⟩ := Ts_mem he
    show k + 1 ≤ n
    omega
/-- A ring on a disk that says the first n. -/
def DOpenRet (w0 : World) (p : Nat) (f : Nat → It) (n : Nat) (d : Disk) (w : World) (e : Ending) (w' : World) : Prop :=
  ∃ r sb, e = .returned (.tuple #[.pointer (some ⟨r, 0, none⟩), .int .i64 0]) ∧ RD w0 r p sb (Ts f n) n d w' ∧ Below w.heap.size w w'
theorem rd_open (h : RD w0 r p sb T last d v) (f : Nat → It) (n : Nat) (hn : n ≤ 16) (hf : ∀ k, k < n → (f k).Ok ∧ ∀ j, j < 160 → d.now (80 + k) j = itS (k + 1) (f k) j) (h0 : ∀ k, n ≤ k → k < 16 → ∀ j, j < 160 → d.now (80 + k) j = 0) :
    Calls Tryz.prog 65 #[.pointer (some ⟨p, 0, none⟩)] v (DOpenRet w0 p f n d v) := by
  obtain ⟨S, nw, X, h1, h2, h3, h4, h5⟩ := h
  refine (iopen (R := Rn f n) h1.plt (fun k hk => ?_)).mono ?_
  · by_cases e : k < n
    · exact Or.inr ⟨k + 1, f k, if_pos e, (hf k e).1, by omega, by omega, (hf k e).2⟩
    · exact Or.inl ⟨if_neg e, h0 k (by omega) hk⟩
  · rintro e w' ⟨r', sb', X', rfl, hr, hx, hb, a1, a2⟩
    rw [lastOf_Rn, show min 16 n = n by omega] at hr
    refine ⟨r', sb', rfl, ⟨S, nw, X', hr, AG.ofRn hn hx, fun k hk => ?_, h4.trans (hb.mono h4.size), h5⟩, hb⟩
    rw [List.mem_cons, List.mem_cons] at hk
    rcases hk with rfl | rfl | hk
    · exact Nat.le_trans h4.size a1
    · exact Nat.le_trans h4.size a2
    · exact h3 k (by simp [hk])
end
/-- A ring on a blank platter. -/
theorem kd_open {w0 w : World} {p : Nat} {S : List Nat} (h : Plt w p S 96 Disk.blank 0) (hS : ∀ k ∈ S, w0.heap.size ≤ k) (hb : Below w0.heap.size w0 w) :
    Calls Tryz.prog 65 #[.pointer (some ⟨p, 0, none⟩)] w fun e w' => ∃ r sb, e = .returned (.tuple #[.pointer (some ⟨r, 0, none⟩), .int .i64 0]) ∧ KD w0 r p sb [] 0 Disk.blank w' := by
  refine (iopen (R := fun _ => none) h (fun k hk => Or.inl ⟨rfl, fun j _ => rfl⟩)).mono ?_
  rintro e w' ⟨r, sb, X, rfl, hr, hx, hbw, h1, h2⟩
  have hl : lastOf (fun _ => (none : Option Nt)) 16 = 0 := rfl
  rw [hl] at hr
  refine ⟨r, sb, rfl, S, _, X, hr, AG.empty (fun k hk => (hx k hk).1), fun k hk => ⟨fun h => absurd (hx k hk).1 h, fun h => by omega⟩, fun j hj => ?_, hb.trans (hbw.mono hb.size), Nat.le_refl _⟩
  rw [List.mem_cons, List.mem_cons] at hj
  rcases hj with rfl | rfl | hj
  · exact Nat.le_trans hb.size h1
  · exact Nat.le_trans hb.size h2
  · exact hS j hj
end Go.Proofs.YtjgbfghkiahfaaaGreatDoor
