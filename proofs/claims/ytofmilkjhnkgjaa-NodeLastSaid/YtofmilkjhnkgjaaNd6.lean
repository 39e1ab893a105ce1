import Derived.Test.YtofmilkjhnkgjaaNd5
namespace Go.Proofs.Ytofmilkjhnkgjaa
open Go.RowKit Go.Sort
set_option maxRecDepth 100000
set_option maxHeartbeats 2000000

/-! A node that a law made. -/
/-- The kinds of blocks that a node writes. -/
def NdT (t : TypeId) : Prop := t = 56 ∨ t = 71 ∨ t = 35 ∨ t = 95 ∨ t = 85 ∨ t = 83
/-- All else stays. -/
def KeepN (w w' : World) : Prop := w.heap.size ≤ w'.heap.size ∧ ∀ (k : Nat) (o : Obj), w.heap[k]? = some o → (∀ cs t fr, o = .cells cs t fr → ¬ NdT t) → w'.heap[k]? = some o
theorem KeepN.of {w w' : World} (b : Below w.heap.size w w') : KeepN w w' := ⟨b.size, fun k _ h _ => (b.block k (heap_lt h)).trans h⟩
theorem KeepN.trans {a b c : World} (h : KeepN a b) (k : KeepN b c) : KeepN a c := ⟨Nat.le_trans h.1 k.1, fun i o hi ho => k.2 i o (h.2 i o hi ho) ho⟩
theorem KeepN.cells {w w' : World} (h : KeepN w w') {k : Nat} {cs : Array Value} {t : TypeId} {fr : Nat × Nat} (hk : w.heap[k]? = some (.cells cs t fr)) (ht : ¬ NdT t) : w'.heap[k]? = w.heap[k]? := (h.2 k _ hk (fun cs' t' fr' e => by cases e; exact ht)).trans hk.symm
theorem notNd {t : TypeId} (h0 : t ≠ 56) (h1 : t ≠ 71) (h2 : t ≠ 35) (h3 : t ≠ 95) (h4 : t ≠ 85) (h5 : t ≠ 83) : ¬ NdT t := by
  rintro (h | h | h | h | h | h)
  · exact h0 h
  · exact h1 h
  · exact h2 h
  · exact h3 h
  · exact h4 h
  · exact h5 h
theorem KeepN.b {w w' : World} (h : KeepN w w') : KeepB w w' := ⟨h.1, fun g cs t hg ht => h.cells hg (by rcases ht with rfl | rfl | rfl <;> exact notNd (by decide) (by decide) (by decide) (by decide) (by decide) (by decide))⟩
theorem NdM.type {w : World} {n r p sb : Nat} {S : List Nat} {a : Ns} (h : NdM w n r p sb S a) : ∀ k ∈ n :: r :: sb :: S, ∃ cs t, w.heap[k]? = some (.cells cs t (0, 0)) ∧ NdT t := by
  obtain ⟨X, hr, _⟩ := h.ex
  intro k hk
  rw [List.mem_cons, List.mem_cons, List.mem_cons] at hk
  rcases hk with rfl | rfl | rfl | hk
  · exact ⟨_, _, h.nb, Or.inl rfl⟩
  · exact ⟨_, _, hr.rb, Or.inr (Or.inr (Or.inr (Or.inr (Or.inl rfl))))⟩
  · obtain ⟨cs, hc⟩ := hr.sr.type
    exact ⟨_, _, hc, Or.inr (Or.inr (Or.inr (Or.inr (Or.inr rfl))))⟩
  · obtain ⟨cs, t, hc, ht⟩ := hr.plt.type hk
    exact ⟨cs, t, hc, Or.inr (by rcases ht with h | h | h; exact Or.inl h; exact Or.inr (Or.inl h); exact Or.inr (Or.inr (Or.inl h)))⟩
theorem NdM.keepN {w w' : World} {n r p sb : Nat} {S : List Nat} {a : Ns} (h : NdM w n r p sb S a) (t : Turn (n :: r :: sb :: S) w w') : KeepN w w' := ⟨t.size, fun k o hk ho => (t.block k (heap_lt hk) (fun hm => by
  obtain ⟨cs, ty, hc, ht⟩ := h.type k hm
  rw [hk] at hc
  cases hc
  exact ho _ _ _ rfl ht)).trans hk⟩
def NdL (w0 : World) (n p : Nat) (a : Ns) (v : World) : Prop := ∃ r sb S, NdM v n r p sb S a ∧ a.Ok ∧ (∀ k ∈ n :: r :: p :: sb :: S, w0.heap.size ≤ k) ∧ Below w0.heap.size w0 v
section
variable {w0 v v' : World} {n p : Nat} {a : Ns}
theorem NdL.ok (h : NdL w0 n p a v) : a.Ok := by
  obtain ⟨r, sb, S, h1, h2, h3, h4⟩ := h
  exact h2
theorem NdL.blw (h : NdL w0 n p a v) : Below w0.heap.size w0 v := by
  obtain ⟨r, sb, S, h1, h2, h3, h4⟩ := h
  exact h4
theorem NdL.below (h : NdL w0 n p a v) (b : Below v.heap.size v v') : NdL w0 n p a v' := by
  obtain ⟨r, sb, S, h1, h2, h3, h4⟩ := h
  exact ⟨r, sb, S, h1.below b, h2, h3, h4.trans (b.mono h4.size)⟩
theorem NdL.plt (h : NdL w0 n p a v) : ∃ S, Plt v p S 96 a.t.disk a.nw := by
  obtain ⟨r, sb, S, h1, h2, h3, h4⟩ := h
  exact ⟨S, h1.plt⟩
theorem below_turnN {r sb : Nat} {S S2 : List Nat} {p : Nat} (h4 : Below w0.heap.size w0 v) (t : Turn S2 v v') (h3 : ∀ k ∈ n :: r :: p :: sb :: S, w0.heap.size ≤ k) (hs : ∀ k ∈ S2, k ∈ n :: r :: p :: sb :: S) : Below w0.heap.size w0 v' := Below.of_turn h4 t (fun k hk => h3 k (hs k hk)) h4.size
def DoL (w0 : World) (n p : Nat) (x : Ns × Rp) (v : World) (e : Ending) (w' : World) : Prop :=
  ∃ B c B' c', e = .returned (rpv (x.2.code : Int) (x.1.boot : Int) (.slice B x.2.ps.length c) (.slice B' x.2.its.length c')) ∧ PL w' v.heap.size (.slice B x.2.ps.length c) x.2.ps ∧ LI w' v.heap.size (.slice B' x.2.its.length c') x.2.its ∧ NdL w0 n p x.1 w' ∧ KeepN v w'
theorem nl_do (h : NdL w0 n p a v) (q : Rq) (A : Option Addr) (c : Nat) (hd : DatN v A q.n q.D) (hD : ∀ j, j < q.n → q.D j < 256) (hw : a.nw ≤ 1000000000) (hl : a.last ≤ 1000000000) :
    Calls Try.prog 10 #[.pointer (some ⟨n, 0, none⟩), rqv q.k q.s q.g q.i A q.n c] v (DoL w0 n p (a.act q) v) := by
  obtain ⟨r, sb, S, h1, h2, h3, h4⟩ := h
  refine (ndo h1 h2 q A c hd hD hw hl).mono ?_
  rintro e w' ⟨S', B, b, B', b', rfl, hp, hi, hn, ht, hS⟩
  refine ⟨B, b, B', b', rfl, hp, hi, ⟨r, sb, S', hn, (h2.act hD).1, fun k hk => ?_, below_turnN h4 ht h3 (fun k hk => by simp at hk ⊢; rcases hk with h | h | h <;> simp [h])⟩, h1.keepN (ht.mono (fun k hk => List.mem_cons_of_mem _ hk))⟩
  simp only [List.mem_cons] at hk
  rcases hk with rfl | rfl | rfl | rfl | hk
  · exact h3 _ (by simp)
  · exact h3 _ (by simp)
  · exact h3 _ (by simp)
  · exact h3 _ (by simp)
  · rcases hS k hk with h | h
    · exact h3 k (by simp [h])
    · exact Nat.le_trans h4.size h
def FallL (w0 : World) (n p : Nat) (x : Ns) (v : World) (e : Ending) (w' : World) : Prop := e = .returned (.tuple #[]) ∧ NdL w0 n p x w' ∧ KeepN v w'
theorem fall_l {r sb : Nat} {S : List Nat} {x : Ns} (h1 : NdM v n r p sb S a) (h3 : ∀ k ∈ n :: r :: p :: sb :: S, w0.heap.size ≤ k) (h4 : Below w0.heap.size w0 v) (hx : x.Ok) {e : Ending} {w' : World} (hf : FallRet n p S x v e w') : FallL w0 n p x v e w' := by
  obtain ⟨r', sb', S', rfl, hn, ht, k1, k2, hS⟩ := hf
  refine ⟨rfl, ⟨r', sb', S', hn, hx, fun k hk => ?_, below_turnN h4 ht h3 (fun k hk => by simp at hk ⊢; rcases hk with h | h <;> simp [h])⟩, h1.keepN (ht.mono (fun k hk => by simp at hk ⊢; rcases hk with h | h <;> simp [h]))⟩
  simp only [List.mem_cons] at hk
  rcases hk with rfl | rfl | rfl | rfl | hk
  · exact h3 _ (by simp)
  · exact Nat.le_trans h4.size k1
  · exact h3 _ (by simp)
  · exact Nat.le_trans h4.size k2
  · rcases hS k hk with h | h
    · exact h3 k (by simp [h])
    · exact Nat.le_trans h4.size h
theorem nl_crash (h : NdL w0 n p a v) (A : Option Addr) (xs : List Int) (c : Nat) (hxs : Nums v A xs) (hlen : xs.length ≤ 9223372036854775807) (hw : a.nw ≤ 1000000000) (hl : a.last ≤ 1000000000) (hb : a.boot ≤ 1000000000) :
    Calls Try.prog 12 #[.pointer (some ⟨n, 0, none⟩), .slice A xs.length c] v (FallL w0 n p (a.crash xs) v) := by
  obtain ⟨r, sb, S, h1, h2, h3, h4⟩ := h
  exact (ncrash h1 h2 A xs c hxs hlen hw hl hb).mono (fun e w' hf => fall_l h1 h3 h4 (h2.crash xs).1 hf)
theorem nl_crash0 (h : NdL w0 n p a v) (hw : a.nw ≤ 1000000000) (hl : a.last ≤ 1000000000) (hb : a.boot ≤ 1000000000) :
    Calls Try.prog 12 #[.pointer (some ⟨n, 0, none⟩), .slice none 0 0] v (FallL w0 n p (a.crash []) v) :=
  nl_crash h none [] 0 (fun i x hi => by simp at hi) (by simp) hw hl hb
theorem nl_lose (h : NdL w0 n p a v) (hw : a.nw ≤ 1000000000) (hb : a.boot ≤ 1000000000) :
    Calls Try.prog 13 #[.pointer (some ⟨n, 0, none⟩)] v (FallL w0 n p a.lose v) := by
  obtain ⟨r, sb, S, h1, h2, h3, h4⟩ := h
  exact (nlose h1 hw hb).mono (fun e w' hf => fall_l h1 h3 h4 Ns.Ok.lose.1 hf)
theorem nl_boot (h : NdL w0 n p a v) : Calls Try.prog 14 #[.pointer (some ⟨n, 0, none⟩)] v fun e w' => e = .returned (.int .i64 (a.boot : Int)) ∧ w' = v := by
  obtain ⟨r, sb, S, h1, h2, h3, h4⟩ := h
  exact nboot h1.nb
theorem nl_platter (h : NdL w0 n p a v) : Calls Try.prog 8 #[.pointer (some ⟨n, 0, none⟩)] v fun e w' => e = .returned (.pointer (some ⟨p, 0, none⟩)) ∧ w' = v := by
  obtain ⟨r, sb, S, h1, h2, h3, h4⟩ := h
  exact nplatter h1.nb
theorem nl_ring (h : NdL w0 n p a v) : ∃ r, Calls Try.prog 9 #[.pointer (some ⟨n, 0, none⟩)] v fun e w' => e = .returned (.pointer (some ⟨r, 0, none⟩)) ∧ w' = v := by
  obtain ⟨r, sb, S, h1, h2, h3, h4⟩ := h
  exact ⟨r, nring h1.nb⟩
end
def NewL (w0 : World) (e : Ending) (w' : World) : Prop := ∃ n p, e = .returned (.pointer (some ⟨n, 0, none⟩)) ∧ NdL w0 n p Ns.new w'
theorem nl_new {w0 w : World} (hb : Below w0.heap.size w0 w) : Calls Try.prog 6 #[] w (NewL w0) := by
  refine (nnew w).mono ?_
  rintro e w' ⟨n, r, p, sb, S, rfl, hn, hb', hS⟩
  exact ⟨n, p, rfl, r, sb, S, hn, Ns.new_ok.1, fun k hk => Nat.le_trans hb.size (hS k hk), hb.trans (hb'.mono hb.size)⟩
end Go.Proofs.Ytofmilkjhnkgjaa
