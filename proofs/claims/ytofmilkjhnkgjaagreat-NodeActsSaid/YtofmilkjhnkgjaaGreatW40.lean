import Derived.Test.YtofmilkjhnkgjaaGreatW25
import Derived.Test.YtofmilkjhnkgjaaGreatW21
import Derived.Test.YtofmilkjhnkgjaaGreatW13
namespace Go.Proofs.YtofmilkjhnkgjaaGreat
open Go.RowKit Go.Sort
set_option maxRecDepth 100000
set_option maxHeartbeats 2000000

/-! A node in memory. -/
def NdB (w : World) (n p r boot : Nat) : Prop := w.heap[n]? = some (.cells #[.pointer (some ⟨p, 0, none⟩), .pointer (some ⟨r, 0, none⟩), .int .i64 (boot : Int)] 64 (0, 0))
section
variable {w w' : World} {n p r boot : Nat}
theorem NdB.c0 (h : NdB w n p r boot) : w.cell? ⟨n, 0, none⟩ = some (.pointer (some ⟨p, 0, none⟩)) := cell_of_block h
theorem NdB.c1 (h : NdB w n p r boot) : w.cell? ⟨n, 1, none⟩ = some (.pointer (some ⟨r, 0, none⟩)) := cell_of_block h
theorem NdB.c2 (h : NdB w n p r boot) : w.cell? ⟨n, 2, none⟩ = some (.int .i64 (boot : Int)) := cell_of_block h
theorem NdB.f (h : NdB w n p r boot) (k : Nat) : w.frozen? ⟨n, k, none⟩ = false := free_of_block h
theorem NdB.lt (h : NdB w n p r boot) : n < w.heap.size := heap_lt h
theorem NdB.keep (h : NdB w n p r boot) (e : w'.heap[n]? = w.heap[n]?) : NdB w' n p r boot := e.trans h
theorem NdB.below (h : NdB w n p r boot) (b : Below w.heap.size w w') : NdB w' n p r boot := h.keep (b.block n h.lt)
end
structure NdM (w : World) (n r p sb : Nat) (S : List Nat) (a : Ns) : Prop where
  nb : NdB w n p r a.boot
  ex : ∃ X, Rg w r p sb a.last S a.t.disk a.nw X ∧ ∀ k, k < 16 → SaysR (X k) (a.R k)
section
variable {w w' : World} {n r p sb : Nat} {S : List Nat} {a : Ns}
theorem NdM.plt (h : NdM w n r p sb S a) : Plt w p S 96 a.t.disk a.nw := by
  obtain ⟨X, hr, _⟩ := h.ex
  exact hr.plt
theorem NdM.below (h : NdM w n r p sb S a) (b : Below w.heap.size w w') : NdM w' n r p sb S a := by
  obtain ⟨X, hr, hs⟩ := h.ex
  exact ⟨h.nb.below b, X, hr.below b, hs⟩
theorem NdM.nS (h : NdM w n r p sb S a) : n ∉ r :: sb :: S := by
  obtain ⟨X, hr, hs⟩ := h.ex
  exact hr.far h.nb (by decide) (by decide) (by decide) (by decide) (by decide)
theorem NdM.far (h : NdM w n r p sb S a) {k : Nat} {cs : Array Value} {t : TypeId} {fr : Nat × Nat} (hk : w.heap[k]? = some (.cells cs t fr)) (h1 : t ≠ 87) (h2 : t ≠ 35) (h3 : t ≠ 105) (h4 : t ≠ 120) (h5 : t ≠ 118) : k ∉ r :: sb :: S := by
  obtain ⟨X, hr, hs⟩ := h.ex
  exact hr.far hk h1 h2 h3 h4 h5
theorem NdM.lt (h : NdM w n r p sb S a) : ∀ k ∈ n :: r :: sb :: S, k < w.heap.size := by
  obtain ⟨X, hr, hs⟩ := h.ex
  intro k hk
  rw [List.mem_cons, List.mem_cons, List.mem_cons] at hk
  rcases hk with rfl | rfl | rfl | hk
  · exact h.nb.lt
  · exact hr.rb.lt
  · exact hr.sr.lt
  · exact hr.plt.lt k hk
end
/-! Requests and replies in memory. -/
abbrev rqv (k s g i : Int) (A : Option Addr) (m c : Nat) : Value := .agg #[.int .i64 k, .int .i64 s, .int .i64 g, .int .i64 i, .slice A m c]
abbrev rpv (code boot : Int) (u v : Value) : Value := .agg #[.int .i64 code, .int .i64 boot, u, v]
def QV (w : World) (b : Nat) (k s g i : Int) (A : Option Addr) (m c : Nat) : Prop := w.heap[b]? = some (.cells #[.int .i64 k, .int .i64 s, .int .i64 g, .int .i64 i, .slice A m c] 37 (0, 0))
section
variable {w w' : World} {b m c : Nat} {k s g i : Int} {A : Option Addr}
theorem QV.c0 (h : QV w b k s g i A m c) : w.cell? ⟨b, 0, none⟩ = some (.int .i64 k) := cell_of_block h
theorem QV.c1 (h : QV w b k s g i A m c) : w.cell? ⟨b, 1, none⟩ = some (.int .i64 s) := cell_of_block h
theorem QV.c2 (h : QV w b k s g i A m c) : w.cell? ⟨b, 2, none⟩ = some (.int .i64 g) := cell_of_block h
theorem QV.c3 (h : QV w b k s g i A m c) : w.cell? ⟨b, 3, none⟩ = some (.int .i64 i) := cell_of_block h
theorem QV.c4 (h : QV w b k s g i A m c) : w.cell? ⟨b, 4, none⟩ = some (.slice A m c) := cell_of_block h
theorem QV.lt (h : QV w b k s g i A m c) : b < w.heap.size := heap_lt h
theorem QV.keep (h : QV w b k s g i A m c) (e : w'.heap[b]? = w.heap[b]?) : QV w' b k s g i A m c := e.trans h
theorem QV.below (h : QV w b k s g i A m c) (e : Below w.heap.size w w') : QV w' b k s g i A m c := h.keep (e.block b h.lt)
theorem QV.of_new {H : Nat} (hH : w.heap.size = H) : QV (w.alloc (.cells #[.int .i64 k, .int .i64 s, .int .i64 g, .int .i64 i, .slice A m c] 37)) H k s g i A m c := by
  subst hH
  exact alloc_block w _
theorem QV.load (h : QV w b k s g i A m c) : (loadVar 37 ⟨b, 0, none⟩).run Tryz.prog w = .ok (rqv k s g i A m c) w := by
  have z0 := h.c0
  have z1 := h.c1
  have z2 := h.c2
  have z3 := h.c3
  have z4 := h.c4
  have s0 := h.lt
  simp [go_sem, z0, z1, z2, z3, z4, rqv]
end
def RV (w : World) (b : Nat) (code boot : Int) (u v : Value) : Prop := w.heap[b]? = some (.cells #[.int .i64 code, .int .i64 boot, u, v] 44 (0, 0))
section
variable {w w' : World} {b : Nat} {code boot : Int} {u v : Value}
theorem RV.c0 (h : RV w b code boot u v) : w.cell? ⟨b, 0, none⟩ = some (.int .i64 code) := cell_of_block h
theorem RV.c1 (h : RV w b code boot u v) : w.cell? ⟨b, 1, none⟩ = some (.int .i64 boot) := cell_of_block h
theorem RV.c2 (h : RV w b code boot u v) : w.cell? ⟨b, 2, none⟩ = some u := cell_of_block h
theorem RV.c3 (h : RV w b code boot u v) : w.cell? ⟨b, 3, none⟩ = some v := cell_of_block h
theorem RV.f (h : RV w b code boot u v) (k : Nat) : w.frozen? ⟨b, k, none⟩ = false := free_of_block h
theorem RV.lt (h : RV w b code boot u v) : b < w.heap.size := heap_lt h
theorem RV.keep (h : RV w b code boot u v) (e : w'.heap[b]? = w.heap[b]?) : RV w' b code boot u v := e.trans h
theorem RV.below (h : RV w b code boot u v) (e : Below w.heap.size w w') : RV w' b code boot u v := h.keep (e.block b h.lt)
theorem RV.of_new {H : Nat} (hH : w.heap.size = H) : RV (w.alloc (.cells #[.int .i64 code, .int .i64 boot, u, v] 44)) H code boot u v := by
  subst hH
  exact alloc_block w _
theorem RV.put0 (h : RV w b code boot u v) {code' : Int} : RV (w.setCell ⟨b, 0, none⟩ (.int .i64 code')) b code' boot u v := set_block h 0 _
theorem RV.put2 (h : RV w b code boot u v) {u' : Value} : RV (w.setCell ⟨b, 2, none⟩ u') b code boot u' v := set_block h 2 _
theorem RV.put3 (h : RV w b code boot u v) {v' : Value} : RV (w.setCell ⟨b, 3, none⟩ v') b code boot u v' := set_block h 3 _
theorem RV.put4 (h : RV w b code boot u v) {code' boot' : Int} {u' v' : Value} : RV ((((w.setCell ⟨b, 0, none⟩ (.int .i64 code')).setCell ⟨b, 1, none⟩ (.int .i64 boot')).setCell ⟨b, 2, none⟩ u').setCell ⟨b, 3, none⟩ v') b code' boot' u' v' :=
  set_block (set_block (set_block (set_block h 0 _) 1 _) 2 _) 3 _
theorem RV.load {A B : Option Addr} {m c m' c' : Nat} (h : RV w b code boot (.slice A m c) (.slice B m' c')) : (loadVar 44 ⟨b, 0, none⟩).run Tryz.prog w = .ok (rpv code boot (.slice A m c) (.slice B m' c')) w := by
  have z0 := h.c0
  have z1 := h.c1
  have z2 := h.c2
  have z3 := h.c3
  have s0 := h.lt
  simp [go_sem, z0, z1, z2, z3, rpv]
end
/-- Some bytes, in a block of bytes. -/
def DatN (w : World) (A : Option Addr) (m : Nat) (D : Nat → Nat) : Prop := m = 0 ∨ ∃ g o cs, A = some ⟨g, o, none⟩ ∧ w.heap[g]? = some (.cells cs 5 (0, 0)) ∧ ∀ j, j < m → w.cell? ⟨g, o + j, none⟩ = some (.int .u8 (D j : Nat))
theorem DatN.rd {w : World} {A : Option Addr} {m : Nat} {D : Nat → Nat} (h : DatN w A m D) : Rd w A m D := fun hm => by
  rcases h with h | ⟨g, o, cs, h1, _, h3⟩
  · omega
  · exact ⟨g, o, h1, h3⟩
theorem DatN.datI {w : World} {A : Option Addr} {m : Nat} {D : Nat → Nat} (h : DatN w A m D) (hm : m = 128) : DatI w A D := by
  subst hm
  rcases h with h | h
  · omega
  · exact h
theorem DatN.keep {w w' : World} {A : Option Addr} {m : Nat} {D : Nat → Nat} (h : DatN w A m D) (k : ∀ (g : Nat) (cs : Array Value), w.heap[g]? = some (Obj.cells cs 5 (0, 0)) → w'.heap[g]? = w.heap[g]?) : DatN w' A m D := by
  rcases h with h | ⟨g, o, cs, h1, h2, h3⟩
  · exact Or.inl h
  · have e := k g cs h2
    refine Or.inr ⟨g, o, cs, h1, e.trans h2, fun j hj => ?_⟩
    rw [← h3 j hj]
    exact (cell_of_block (e.trans h2)).trans (cell_of_block h2).symm
theorem DatN.below {w w' : World} {A : Option Addr} {m : Nat} {D : Nat → Nat} (h : DatN w A m D) (b : Below w.heap.size w w') : DatN w' A m D := h.keep (fun g _ hg => b.block g (heap_lt hg))
theorem DatN.blk {w : World} {g m : Nat} {D : Nat → Nat} (h : Blk8 w g m D) : DatN w (some ⟨g, 0, none⟩) m D := by
  obtain ⟨cs, h1, h2, h3⟩ := h
  exact Or.inr ⟨g, 0, cs, rfl, h1, fun j hj => by rw [Nat.zero_add]; exact (cell_of_block h1).trans (h3 j hj)⟩
theorem DatN.none_ {w : World} {A : Option Addr} {D : Nat → Nat} : DatN w A 0 D := Or.inl rfl
/-! The small ones. -/
theorem nmade {w : World} {n p r boot : Nat} (h : NdB w n p r boot) : Calls Tryz.prog 26 #[.pointer (some ⟨n, 0, none⟩)] w fun e w' => e = .returned (.bool true) ∧ w' = w := by
  have c0 := h.c0
  clear h
  go_enter Tryz.func26, Tryz.ntmps26
  go_wp2_with fail
  go_ret
  exact ⟨rfl, rfl⟩
theorem npiece (k s g i : Int) (A : Option Addr) (m c : Nat) (w : World) : Calls Tryz.prog 35 #[rqv k s g i A m c] w fun e w' => e = .returned (pv s g i A m c) ∧ Below w.heap.size w w' := by
  obtain ⟨w1, hw1⟩ : ∃ w1, (w.alloc (.cells #[.int .i64 k, .int .i64 s, .int .i64 g, .int .i64 i, .slice A m c] 37)).alloc (.cells #[.int .i64 s, .int .i64 g, .int .i64 i, .slice A m c] 74) = w1 := ⟨_, rfl⟩
  have HW1 := Lib.hid hw1
  have HB1 : Hid (Below w.heap.size w w1) := Lib.hid (by rw [← hw1]; exact ((Below.refl _ _).alloc (Nat.le_refl _) _).alloc (by simp) _)
  have HP1 : Hid (PV w1 (w.heap.size + 1) s g i A m c) := Lib.hid (by
    rw [← hw1]
    have := PV.new (w.alloc (.cells #[.int .i64 k, .int .i64 s, .int .i64 g, .int .i64 i, .slice A m c] 37)) s g i A m c
    rw [World.size_alloc] at this
    exact this)
  clear hw1
  unfold rqv
  go_enter Tryz.func35, Tryz.ntmps35
  go_wp2_with fail
  rw [HW1.out]
  refine bodyPost_ret (v := pv s g i A m c) ?_ rfl ?_
  · rw [results_cell1 rfl]
    simp [HP1.out.load, Result.andThen, asAddr]
  exact ⟨rfl, HB1.out⟩
theorem nintent (k s g i : Int) (A : Option Addr) (m c : Nat) (w : World) : Calls Tryz.prog 37 #[rqv k s g i A m c] w fun e w' => e = .returned (iv s g A m c) ∧ Below w.heap.size w w' := by
  obtain ⟨w1, hw1⟩ : ∃ w1, (w.alloc (.cells #[.int .i64 k, .int .i64 s, .int .i64 g, .int .i64 i, .slice A m c] 37)).alloc (.cells #[.int .i64 s, .int .i64 g, .slice A m c] 78) = w1 := ⟨_, rfl⟩
  have HW1 := Lib.hid hw1
  have HB1 : Hid (Below w.heap.size w w1) := Lib.hid (by rw [← hw1]; exact ((Below.refl _ _).alloc (Nat.le_refl _) _).alloc (by simp) _)
  have HP1 : Hid (IV w1 (w.heap.size + 1) s g A m c) := Lib.hid (by
    rw [← hw1]
    exact IV.of_new (World.size_alloc _ _))
  clear hw1
  unfold rqv
  go_enter Tryz.func37, Tryz.ntmps37
  go_wp2_with fail
  rw [HW1.out]
  refine bodyPost_ret (v := iv s g A m c) ?_ rfl ?_
  · rw [results_cell1 rfl]
    simp [HP1.out.load, Result.andThen, asAddr]
  exact ⟨rfl, HB1.out⟩
def PcsRet (l : List Pc) (w : World) (e : Ending) (w' : World) : Prop := ∃ B c, e = .returned (.tuple #[.slice B l.length c, .int .i64 0]) ∧ PL w' w.heap.size (.slice B l.length c) l ∧ Below w.heap.size w w'
/-- A stripe's pieces. -/
theorem npieces {w : World} {n r p sb m : Nat} {S : List Nat} {a : Ns} (h : NdM w n r p sb S a) (ht : a.t.Ok m) (s : Nat) (hs : s < 40) :
    Calls Tryz.prog 33 #[.pointer (some ⟨n, 0, none⟩), .int .i64 (s : Int)] w (PcsRet (a.pcs s) w) := by
  have c0 := h.nb.c0
  have HG := Lib.hid (cgetD h.plt ht.cd (by omega) s hs)
  clear h ht
  have h1 : ¬ (s : Int) < 0 := by omega
  have h2 : ¬ (40 : Int) ≤ (s : Int) := by omega
  have h2' : (s : Int) < 40 := by omega
  go_enter Tryz.func33, Tryz.ntmps33
  go_wp2_with fail
  refine HG.out.mono ?_
  rintro e w' ⟨v, rfl, hp, hb⟩
  obtain ⟨B, c, rfl⟩ := hp.form
  try dsimp only
  have HP := Lib.hid hp
  have HB := Lib.hid hb
  clear hp hb HG
  go_wp2_with fail
  go_ret2
  exact ⟨B, c, rfl, HP.out, HB.out⟩
theorem npieces_no (n : Nat) (s : Int) (w : World) (hs : ¬ (0 ≤ s ∧ s < 40)) :
    Calls Tryz.prog 33 #[.pointer (some ⟨n, 0, none⟩), .int .i64 s] w fun e w' => e = .returned (.tuple #[.slice none 0 0, .int .i64 1]) ∧ w' = w := by
  by_cases h : s < 0
  · clear hs
    go_enter Tryz.func33, Tryz.ntmps33
    go_wp2_with fail
    go_ret2
    exact ⟨rfl, rfl⟩
  · have h2 : (40 : Int) ≤ s := by omega
    clear hs
    go_enter Tryz.func33, Tryz.ntmps33
    go_wp2_with fail
    go_ret2
    exact ⟨rfl, rfl⟩
end Go.Proofs.YtofmilkjhnkgjaaGreat
namespace Go.Proofs.YtofmilkjhnkgjaaGreat
open Go.RowKit Go.Sort
set_option maxRecDepth 100000
set_option maxHeartbeats 2000000

/-- The first logs of a law. -/
def Ts (f : Nat → It) (n : Nat) : List Nt := (List.range n).map (fun k => (k + 1, f k))
theorem Ts_succ (f : Nat → It) (n : Nat) : Ts f (n + 1) = Ts f n ++ [(n + 1, f n)] := by
  unfold Ts
  rw [List.range_succ, List.map_append]
  rfl
theorem Ts_len (f : Nat → It) (n : Nat) : (Ts f n).length = n := by
  unfold Ts
  simp
theorem Ts_mem {f : Nat → It} {n : Nat} {e : Nt} (h : e ∈ Ts f n) : ∃ k, k < n ∧ e = (k + 1, f k) := by
  unfold Ts at h
  rw [List.mem_map] at h
  obtain ⟨k, hk, rfl⟩ := h
  exact ⟨k, List.mem_range.1 hk, rfl⟩
theorem Ts_far {g : Nat} {x : Nat → Int} {n : Nat} {y : It} (h : n ≤ y.s) : ∀ e ∈ Ts (fun k => oneI k g (x k)) n, ¬ e.2.Alike y := by
  intro e he ha
  obtain ⟨k, hk, rfl⟩ := Ts_mem he
  have h1 : k = y.s := ha.1
  omega
theorem Ts_rel : ((Ts (fun k => oneI k 1 (k : Int)) 16).filter (keepsR 3 1)).length = 15 := by kernel_rfl
end Go.Proofs.YtofmilkjhnkgjaaGreat
