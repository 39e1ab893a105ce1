import Derived.Test.YtjgbfghkiahfaaaGreatDoorV28
import Derived.Test.YtjgbfghkiahfaaaGreatDoorV30
namespace Go.Proofs.YtjgbfghkiahfaaaGreatDoor
open Go.RowKit Go.Sort
set_option maxRecDepth 100000
set_option maxHeartbeats 2000000

/-! A wire that a law made. -/
/-- The kinds of blocks that a wire writes. -/
def WiT (t : TypeId) : Prop := NdT t ∨ t = 64 ∨ t = 3
/-- All else stays. -/
def KeepW (w w' : World) : Prop := w.heap.size ≤ w'.heap.size ∧ ∀ (k : Nat) (o : Obj), w.heap[k]? = some o → (∀ cs t fr, o = .cells cs t fr → ¬ WiT t) → w'.heap[k]? = some o
theorem KeepW.refl (w : World) : KeepW w w := ⟨Nat.le_refl _, fun _ _ h _ => h⟩
theorem KeepW.of {w w' : World} (b : Below w.heap.size w w') : KeepW w w' := ⟨b.size, fun k _ h _ => (b.block k (heap_lt h)).trans h⟩
theorem KeepW.ofN {w w' : World} (b : KeepN w w') : KeepW w w' := ⟨b.1, fun k o h ho => b.2 k o h (fun cs t fr e hn => ho cs t fr e (Or.inl hn))⟩
theorem KeepW.trans {a b c : World} (h : KeepW a b) (k : KeepW b c) : KeepW a c := ⟨Nat.le_trans h.1 k.1, fun i o hi ho => k.2 i o (h.2 i o hi ho) ho⟩
theorem KeepW.cells {w w' : World} (h : KeepW w w') {k : Nat} {cs : Array Value} {t : TypeId} {fr : Nat × Nat} (hk : w.heap[k]? = some (.cells cs t fr)) (ht : ¬ WiT t) : w'.heap[k]? = w.heap[k]? := (h.2 k _ hk (fun cs' t' fr' e => by cases e; exact ht)).trans hk.symm
theorem notWi {t : TypeId} (h0 : t ≠ 75) (h1 : t ≠ 108) (h2 : t ≠ 36) (h3 : t ≠ 149) (h4 : t ≠ 96) (h5 : t ≠ 79) (h6 : t ≠ 64) (h7 : t ≠ 3) : ¬ WiT t := by
  rintro (h | h | h)
  · exact notNd h0 h1 h2 h3 h4 h5 h
  · exact h6 h
  · exact h7 h
theorem KeepW.b {w w' : World} (h : KeepW w w') : KeepB w w' := ⟨h.1, fun g cs t hg ht => h.cells hg (by rcases ht with rfl | rfl | rfl <;> exact notWi (by decide) (by decide) (by decide) (by decide) (by decide) (by decide) (by decide) (by decide))⟩
theorem KeepW.set {w : World} {g k : Nat} {cs : Array Value} {fr : Nat × Nat} {u : Value} (h : w.heap[g]? = some (.cells cs 64 fr)) : KeepW w (w.setCell ⟨g, k, none⟩ u) := by
  refine ⟨by simp [World.setCell], fun j o hj ho => ?_⟩
  rw [set_other (fun e => ?_)]
  · exact hj
  · subst e
    rw [h] at hj
    cases hj
    exact ho _ _ _ rfl (Or.inr (Or.inl rfl))
theorem KeepW.on {w w' : World} (h : KeepW w w') {b : Nat} {n c : Int} (o : OnE w b n c) : OnE w' b n c := o.keep (h.cells o (notWi (by decide) (by decide) (by decide) (by decide) (by decide) (by decide) (by decide) (by decide)))
theorem KeepW.qv {w w' : World} (h : KeepW w w') {b m c : Nat} {k s g i : Int} {A : Option Addr} (o : QV w b k s g i A m c) : QV w' b k s g i A m c := o.keep (h.cells o (notWi (by decide) (by decide) (by decide) (by decide) (by decide) (by decide) (by decide) (by decide)))
theorem KeepW.rv {w w' : World} (h : KeepW w w') {b : Nat} {k s : Int} {A B : Value} (o : RV w b k s A B) : RV w' b k s A B := o.keep (h.cells o (notWi (by decide) (by decide) (by decide) (by decide) (by decide) (by decide) (by decide) (by decide)))

def WL (w0 v : World) (g : Nat) (nd : Nat → Nat) (s : Wp) : Prop :=
  ∃ T fv, WM v g 8 nd T fv s ∧ Below w0.heap.size w0 v ∧ w0.heap.size ≤ g ∧ (∀ k ∈ fatB fv, w0.heap.size ≤ k) ∧ ∀ i, i < 8 → ∀ k ∈ T i, w0.heap.size ≤ k
section
variable {w0 v v' : World} {g : Nat} {nd : Nat → Nat} {s : Wp}
theorem WL.blw (h : WL w0 v g nd s) : Below w0.heap.size w0 v := by
  obtain ⟨T, fv, h1, h2, _⟩ := h
  exact h2
theorem WL.lt (h : WL w0 v g nd s) : g < v.heap.size := by
  obtain ⟨T, fv, h1, h2, _⟩ := h
  exact h1.lt
theorem WL.below (h : WL w0 v g nd s) (b : Below v.heap.size v v') : WL w0 v' g nd s := by
  obtain ⟨T, fv, h1, h2, h3, h4, h5⟩ := h
  exact ⟨T, fv, h1.below b, h2.trans (b.mono h2.size), h3, h4, h5⟩
theorem WL.f (h : WL w0 v g nd s) (k : Nat) : v.frozen? ⟨g, k, none⟩ = false := by
  obtain ⟨T, fv, h1, _⟩ := h
  exact h1.f k
theorem WL.cn (h : WL w0 v g nd s) {i : Nat} (hi : i < 8) : v.cell? ⟨g, i, none⟩ = some (.pointer (some ⟨nd i, 0, none⟩)) := by
  obtain ⟨T, fv, h1, _⟩ := h
  exact h1.cn hi hi
theorem WL.cd (h : WL w0 v g nd s) {i : Nat} (hi : i < 8) : v.cell? ⟨g, 8 + i, none⟩ = some (.bool (s.dn i)) := by
  obtain ⟨T, fv, h1, _⟩ := h
  exact h1.cd hi
theorem WL.cf (h : WL w0 v g nd s) : ∃ fv, v.cell? ⟨g, 16, none⟩ = some fv ∧ FatV v fv s.F := by
  obtain ⟨T, fv, h1, _⟩ := h
  exact ⟨fv, h1.cf, h1.fat⟩
theorem WL.cz (h : WL w0 v g nd s) : v.cell? ⟨g, 17, none⟩ = some (.int .i64 s.fuse) := by
  obtain ⟨T, fv, h1, _⟩ := h
  exact h1.cz
theorem WL.ce (h : WL w0 v g nd s) : v.cell? ⟨g, 18, none⟩ = some (.bool s.dead) := by
  obtain ⟨T, fv, h1, _⟩ := h
  exact h1.ce
theorem WL.cs (h : WL w0 v g nd s) : v.cell? ⟨g, 19, none⟩ = some (.int .i64 (s.sent : Int)) := by
  obtain ⟨T, fv, h1, _⟩ := h
  exact h1.cs
theorem WL.keepSet (h : WL w0 v g nd s) (k : Nat) (u : Value) : KeepW v (v.setCell ⟨g, k, none⟩ u) := by
  obtain ⟨T, fv, h1, _⟩ := h
  exact KeepW.set h1.hd
/-- A store into the wire itself, that leaves the fates. -/
theorem WL.put (h : WL w0 v g nd s) {s' : Wp} (k : Nat) (u : Value) (hN : s'.N = s.N) (hF : s'.F = s.F) (hw : ∀ fv, (whead (nptr 8 nd) s.dn fv s.fuse s.dead s.sent).setIfInBounds k u = whead (nptr 8 nd) s'.dn fv s'.fuse s'.dead s'.sent) : WL w0 (v.setCell ⟨g, k, none⟩ u) g nd s' := by
  obtain ⟨T, fv, h1, h2, h3, h4, h5⟩ := h
  exact ⟨T, fv, h1.put k u hN (hw fv) (by rw [hF]; exact h1.fat), h2.setCell h3 _, h3, h4, h5⟩
theorem WL.act (h : WL w0 v g nd s) {i : Nat} (hi : i < 8) : ∃ r p sb S, NdM v (nd i) r p sb S (s.N i) ∧ (s.N i).Ok ∧ ∀ w' r' sb' S' x, NdM w' (nd i) r' p sb' S' x → x.Ok → Turn (nd i :: r :: sb :: S) v w' → (∀ k ∈ r' :: sb' :: S', k ∈ r :: sb :: S ∨ v.heap.size ≤ k) → WL w0 w' g nd (s.setN i x) ∧ KeepW v w' := by
  obtain ⟨T, fv, h1, h2, h3, h4, h5⟩ := h
  obtain ⟨r, p, sb, S, a1, a2, a3, a4⟩ := h1.act hi
  refine ⟨r, p, sb, S, a1, a2, fun w' r' sb' S' x n1 n2 t hs => ?_⟩
  obtain ⟨T', b1, b2, b3⟩ := a4 w' r' sb' S' x n1 n2 t hs
  refine ⟨⟨T', fv, b1, Below.of_turn h2 t (fun k hk => h5 i hi k ?_) h2.size, h3, h4, fun j hj k hk => ?_⟩, KeepW.ofN b2⟩
  · rw [a3]
    simp only [List.mem_cons] at hk ⊢
    rcases hk with h | h | h | h <;> simp [h]
  · rcases b3 j hj k hk with h | h
    · exact h5 j hj k h
    · exact Nat.le_trans h2.size h
end

theorem wl_node {w0 v : World} {g : Nat} {nd : Nat → Nat} {s : Wp} (h : WL w0 v g nd s) {n : Nat} (hn : n < 8) : Calls Tryz.prog 8 #[.pointer (some ⟨g, 0, none⟩), .int .i64 (n : Int)] v fun e w' => e = .returned (.pointer (some ⟨nd n, 0, none⟩)) ∧ w' = v := by
  have c1 := h.cn hn
  have n1 : ¬ (n : Int) < 0 := by omega
  have n2 : (n : Int) < 8 := by omega
  have n3 : ¬ (8 : Int) ≤ (n : Int) := by omega
  clear h
  go_enter Tryz.func8, Tryz.ntmps8
  go_wp2_with fail
  go_ret
  exact ⟨rfl, rfl⟩
theorem wl_node_no {w0 v : World} {g : Nat} {nd : Nat → Nat} {s : Wp} (_h : WL w0 v g nd s) {n : Int} (hn : n < 0 ∨ 8 ≤ n) : Calls Tryz.prog 8 #[.pointer (some ⟨g, 0, none⟩), .int .i64 n] v fun e w' => e = .returned (.pointer none) ∧ w' = v := by
  by_cases h0 : n < 0
  · clear hn
    go_enter Tryz.func8, Tryz.ntmps8
    go_wp2_with fail
    go_ret
    exact ⟨rfl, rfl⟩
  · have h1 : 8 ≤ n := by omega
    clear hn
    go_enter Tryz.func8, Tryz.ntmps8
    go_wp2_with fail
    go_ret
    exact ⟨rfl, rfl⟩
theorem wl_has {w0 v : World} {g : Nat} {nd : Nat → Nat} {s : Wp} (h : WL w0 v g nd s) {n : Nat} (hn : n < 8) : Calls Tryz.prog 32 #[.pointer (some ⟨g, 0, none⟩), .int .i64 (n : Int)] v fun e w' => e = .returned (.bool true) ∧ w' = v := by
  have H := Lib.hid (wl_node h hn)
  clear h
  go_enter Tryz.func32, Tryz.ntmps32
  go_wp2_with fail
  refine H.out.mono ?_
  rintro e w' ⟨rfl, hw⟩
  obtain rfl := hw.symm
  go_wp2_with fail
  go_ret
  exact ⟨rfl, rfl⟩
theorem wl_has_no {w0 v : World} {g : Nat} {nd : Nat → Nat} {s : Wp} (h : WL w0 v g nd s) {n : Int} (hn : n < 0 ∨ 8 ≤ n) : Calls Tryz.prog 32 #[.pointer (some ⟨g, 0, none⟩), .int .i64 n] v fun e w' => e = .returned (.bool false) ∧ w' = v := by
  have H := Lib.hid (wl_node_no h hn)
  clear h hn
  go_enter Tryz.func32, Tryz.ntmps32
  go_wp2_with fail
  refine H.out.mono ?_
  rintro e w' ⟨rfl, hw⟩
  obtain rfl := hw.symm
  go_wp2_with fail
  go_ret
  exact ⟨rfl, rfl⟩
theorem wl_left {w0 v : World} {g : Nat} {nd : Nat → Nat} {s : Wp} (h : WL w0 v g nd s) : Calls Tryz.prog 14 #[.pointer (some ⟨g, 0, none⟩)] v fun e w' => e = .returned (.int .i64 (s.F.length : Int)) ∧ w' = v := by
  obtain ⟨fv, c1, A, c, rfl, _⟩ := h.cf
  clear h
  go_enter Tryz.func14, Tryz.ntmps14
  go_wp2_with fail
  go_ret
  exact ⟨rfl, rfl⟩
theorem wl_sent {w0 v : World} {g : Nat} {nd : Nat → Nat} {s : Wp} (h : WL w0 v g nd s) : Calls Tryz.prog 11 #[.pointer (some ⟨g, 0, none⟩)] v fun e w' => e = .returned (.int .i64 (s.sent : Int)) ∧ w' = v := by
  have c1 := h.cs
  clear h
  go_enter Tryz.func11, Tryz.ntmps11
  go_wp2_with fail
  go_ret
  exact ⟨rfl, rfl⟩
theorem wl_dead {w0 v : World} {g : Nat} {nd : Nat → Nat} {s : Wp} (h : WL w0 v g nd s) : Calls Tryz.prog 19 #[.pointer (some ⟨g, 0, none⟩)] v fun e w' => e = .returned (.bool s.dead) ∧ w' = v := by
  have c1 := h.ce
  clear h
  go_enter Tryz.func19, Tryz.ntmps19
  go_wp2_with fail
  go_ret
  exact ⟨rfl, rfl⟩
theorem wl_isdown {w0 v : World} {g : Nat} {nd : Nat → Nat} {s : Wp} (h : WL w0 v g nd s) {n : Nat} (hn : n < 8) : Calls Tryz.prog 24 #[.pointer (some ⟨g, 0, none⟩), .int .i64 (n : Int)] v fun e w' => e = .returned (.bool (s.dn n)) ∧ w' = v := by
  have H := Lib.hid (wl_has h hn)
  have c1 := h.cd hn
  obtain ⟨b, hb⟩ : ∃ b, s.dn n = b := ⟨_, rfl⟩
  rw [hb] at c1 ⊢
  have n2 : (n : Int) < 8 := by omega
  clear h hb
  go_enter Tryz.func24, Tryz.ntmps24
  go_wp2_with fail
  refine H.out.mono ?_
  rintro e w' ⟨rfl, hw⟩
  obtain rfl := hw.symm
  go_wp2_with fail
  go_ret
  exact ⟨rfl, rfl⟩
theorem wl_isdown_no {w0 v : World} {g : Nat} {nd : Nat → Nat} {s : Wp} (h : WL w0 v g nd s) {n : Int} (hn : n < 0 ∨ 8 ≤ n) : Calls Tryz.prog 24 #[.pointer (some ⟨g, 0, none⟩), .int .i64 n] v fun e w' => e = .returned (.bool false) ∧ w' = v := by
  have H := Lib.hid (wl_has_no h hn)
  clear h hn
  go_enter Tryz.func24, Tryz.ntmps24
  go_wp2_with fail
  refine H.out.mono ?_
  rintro e w' ⟨rfl, hw⟩
  obtain rfl := hw.symm
  go_wp2_with fail
  go_ret
  exact ⟨rfl, rfl⟩
end Go.Proofs.YtjgbfghkiahfaaaGreatDoor
