import Derived.Test.YtofmilkjhnkgjaaGreatW47
import Derived.Test.YtofmilkjhnkgjaaGreatW48
import Derived.Test.YtofmilkjhnkgjaaGreatW35
import Derived.Test.YtofmilkjhnkgjaaGreatW01
namespace Go.Proofs.YtofmilkjhnkgjaaGreat
open Go.RowKit Go.Sort
set_option maxRecDepth 100000
set_option maxHeartbeats 2000000

/-! The reference's node, made by a law; the two beside each other. -/
def NdTR (t : TypeId) : Prop := t = 50 ∨ t = 56 ∨ t = 9 ∨ t = 91 ∨ t = 100
def KeepNR (w w' : World) : Prop := w.heap.size ≤ w'.heap.size ∧ ∀ (k : Nat) (o : Obj), w.heap[k]? = some o → (∀ cs t fr, o = .cells cs t fr → ¬ NdTR t) → w'.heap[k]? = some o
theorem KeepNR.of {w w' : World} (b : Below w.heap.size w w') : KeepNR w w' := ⟨b.size, fun k _ h _ => (b.block k (heap_lt h)).trans h⟩
theorem KeepNR.trans {a b c : World} (h : KeepNR a b) (k : KeepNR b c) : KeepNR a c := ⟨Nat.le_trans h.1 k.1, fun i o hi ho => k.2 i o (h.2 i o hi ho) ho⟩
theorem KeepNR.cells {w w' : World} (h : KeepNR w w') {k : Nat} {cs : Array Value} {t : TypeId} {fr : Nat × Nat} (hk : w.heap[k]? = some (.cells cs t fr)) (ht : ¬ NdTR t) : w'.heap[k]? = w.heap[k]? := (h.2 k _ hk (fun cs' t' fr' e => by cases e; exact ht)).trans hk.symm
theorem notNdR {t : TypeId} (h0 : t ≠ 50) (h1 : t ≠ 56) (h2 : t ≠ 9) (h3 : t ≠ 91) (h4 : t ≠ 100) : ¬ NdTR t := by
  rintro (h | h | h | h | h)
  · exact h0 h
  · exact h1 h
  · exact h2 h
  · exact h3 h
  · exact h4 h
theorem NdTR.not {t : TypeId} (h : NdT t) : ¬ NdTR t := by
  rcases h with rfl | rfl | rfl | rfl | rfl | rfl <;> exact notNdR (by decide) (by decide) (by decide) (by decide) (by decide)
theorem NdTR.notN {t : TypeId} (h : NdTR t) : ¬ NdT t := fun k => NdTR.not k h
theorem KeepNR.b {w w' : World} (h : KeepNR w w') : KeepB w w' := ⟨h.1, fun g cs t hg ht => h.cells hg (by rcases ht with rfl | rfl | rfl <;> exact notNdR (by decide) (by decide) (by decide) (by decide) (by decide))⟩
theorem NdR.type {w : World} {n b p : Nat} {S : List Nat} {a : Ns} (h : NdR w n b p S a) : ∀ k ∈ n :: b :: S, ∃ cs t, w.heap[k]? = some (.cells cs t (0, 0)) ∧ NdTR t := by
  obtain ⟨X, hr, _⟩ := h.ex
  intro k hk
  rw [List.mem_cons, List.mem_cons] at hk
  rcases hk with rfl | rfl | hk
  · exact ⟨_, _, h.nb, Or.inl rfl⟩
  · obtain ⟨cs, hc⟩ := hr.rg.type
    exact ⟨_, _, hc, Or.inr (Or.inr (Or.inr (Or.inr rfl)))⟩
  · obtain ⟨cs, t, hc, ht⟩ := hr.plt.type hk
    exact ⟨cs, t, hc, by rcases ht with h | h | h; exact Or.inr (Or.inl h); exact Or.inr (Or.inr (Or.inl h)); exact Or.inr (Or.inr (Or.inr (Or.inl h)))⟩
theorem NdR.keepN {w w' : World} {n b p : Nat} {S : List Nat} {a : Ns} (h : NdR w n b p S a) (t : Turn (n :: b :: S) w w') : KeepNR w w' := ⟨t.size, fun k o hk ho => (t.block k (heap_lt hk) (fun hm => by
  obtain ⟨cs, ty, hc, ht⟩ := h.type k hm
  rw [hk] at hc
  cases hc
  exact ho _ _ _ rfl ht)).trans hk⟩
def NdLR (w0 : World) (n p : Nat) (a : Ns) (v : World) : Prop := ∃ b S, NdR v n b p S a ∧ (∀ k ∈ n :: b :: p :: S, w0.heap.size ≤ k) ∧ Below w0.heap.size w0 v
section
variable {w0 v v' : World} {n p n' p' : Nat} {a a' : Ns}
theorem NdLR.blw (h : NdLR w0 n p a v) : Below w0.heap.size w0 v := by
  obtain ⟨b, S, h1, h3, h4⟩ := h
  exact h4
theorem NdLR.below (h : NdLR w0 n p a v) (e : Below v.heap.size v v') : NdLR w0 n p a v' := by
  obtain ⟨b, S, h1, h3, h4⟩ := h
  exact ⟨b, S, h1.below e, h3, h4.trans (e.mono h4.size)⟩
theorem NdLR.plt (h : NdLR w0 n p a v) : ∃ S, RPlt v p S 96 a.t.disk a.nw := by
  obtain ⟨b, S, h1, h3, h4⟩ := h
  exact ⟨S, h1.plt⟩
/-- The project's node was turned. -/
theorem NdLR.turned (h : NdLR w0 n p a v) (k : KeepN v v') (b : Below w0.heap.size w0 v') : NdLR w0 n p a v' := by
  obtain ⟨c, S, h1, h3, h4⟩ := h
  refine ⟨c, S, h1.keep (fun j hj => ?_) k.b.bytes, h3, b⟩
  obtain ⟨cs, t, hc, ht⟩ := h1.type j hj
  exact k.cells hc ht.notN
/-- The reference's node was turned. -/
theorem NdL.turnedR (h : NdL w0 n p a v) (k : KeepNR v v') (b : Below w0.heap.size w0 v') : NdL w0 n p a v' := by
  obtain ⟨r, sb, S, h1, h2, h3, h4⟩ := h
  refine ⟨r, sb, S, h1.keep (fun j hj => ?_) k.b.bytes, h2, h3, b⟩
  obtain ⟨cs, t, hc, ht⟩ := h1.type j hj
  exact k.cells hc (NdTR.not ht)
def DoLR (w0 : World) (n p : Nat) (x : Ns × Rp) (v : World) (e : Ending) (w' : World) : Prop :=
  ∃ B c B' c', e = .returned (rpv (x.2.code : Int) (x.1.boot : Int) (.slice B x.2.ps.length c) (.slice B' x.2.its.length c')) ∧ PL w' v.heap.size (.slice B x.2.ps.length c) x.2.ps ∧ LI w' v.heap.size (.slice B' x.2.its.length c') x.2.its ∧ NdLR w0 n p x.1 w' ∧ KeepNR v w'
theorem nlr_do (h : NdLR w0 n p a v) (ho : a.Ok) (q : Rq) (A : Option Addr) (c : Nat) (hd : DatN v A q.n q.D) (hD : ∀ j, j < q.n → q.D j < 256) (hw : a.nw ≤ 1000000000) (hl : a.last ≤ 1000000000) :
    Calls Tryz.prog 15 #[.pointer (some ⟨n, 0, none⟩), rqv q.k q.s q.g q.i A q.n c] v (DoLR w0 n p (a.act q) v) := by
  obtain ⟨b, S, h1, h3, h4⟩ := h
  refine (rndo h1 ho q A c hd hD hw hl).mono ?_
  rintro e w' ⟨S', B, c1, B', c2, rfl, hp, hi, hn, ht, hS⟩
  refine ⟨B, c1, B', c2, rfl, hp, hi, ⟨b, S', hn, fun k hk => ?_, Below.of_turn h4 ht (fun k hk => h3 k (by simp at hk ⊢; rcases hk with h | h <;> simp [h])) h4.size⟩, h1.keepN (ht.mono (fun k hk => List.mem_cons_of_mem _ hk))⟩
  simp only [List.mem_cons] at hk
  rcases hk with rfl | rfl | rfl | hk
  · exact h3 _ (by simp)
  · exact h3 _ (by simp)
  · exact h3 _ (by simp)
  · rcases hS k hk with h | h
    · exact h3 k (by simp [h])
    · exact Nat.le_trans h4.size h
def FallLR (w0 : World) (n p : Nat) (x : Ns) (v : World) (e : Ending) (w' : World) : Prop := e = .returned (.tuple #[]) ∧ NdLR w0 n p x w' ∧ KeepNR v w'
theorem fall_lr {b : Nat} {S : List Nat} {x : Ns} (h1 : NdR v n b p S a) (h3 : ∀ k ∈ n :: b :: p :: S, w0.heap.size ≤ k) (h4 : Below w0.heap.size w0 v) {e : Ending} {w' : World} (hf : FallRetR n p S x v e w') : FallLR w0 n p x v e w' := by
  obtain ⟨b', S', rfl, hn, ht, k1, hS⟩ := hf
  refine ⟨rfl, ⟨b', S', hn, fun k hk => ?_, Below.of_turn h4 ht (fun k hk => h3 k (by simp at hk ⊢; rcases hk with h | h <;> simp [h])) h4.size⟩, h1.keepN (ht.mono (fun k hk => by simp at hk ⊢; rcases hk with h | h <;> simp [h]))⟩
  simp only [List.mem_cons] at hk
  rcases hk with rfl | rfl | rfl | hk
  · exact h3 _ (by simp)
  · exact Nat.le_trans h4.size k1
  · exact h3 _ (by simp)
  · rcases hS k hk with h | h
    · exact h3 k (by simp [h])
    · exact Nat.le_trans h4.size h
theorem nlr_crash (h : NdLR w0 n p a v) (ho : a.Ok) (A : Option Addr) (xs : List Int) (c : Nat) (hxs : Nums v A xs) (hlen : xs.length ≤ 9223372036854775807) (hA : 0 < xs.length → ∀ g o, A = some ⟨g, o, none⟩ → g < w0.heap.size) (hw : a.nw ≤ 1000000000) (hl : a.last ≤ 1000000000) (hb : a.boot ≤ 1000000000) :
    Calls Tryz.prog 9 #[.pointer (some ⟨n, 0, none⟩), .slice A xs.length c] v (FallLR w0 n p (a.crash xs) v) := by
  obtain ⟨b, S, h1, h3, h4⟩ := h
  exact (rncrashN h1 ho A xs c hxs hlen (fun hn g o e => by
    have := hA hn g o e
    have := h3 p (by simp)
    rw [List.mem_singleton]
    omega) hw hl hb).mono (fun e w' hf => fall_lr h1 h3 h4 hf)
theorem nlr_lose (h : NdLR w0 n p a v) (hw : a.nw ≤ 1000000000) (hb : a.boot ≤ 1000000000) :
    Calls Tryz.prog 11 #[.pointer (some ⟨n, 0, none⟩)] v (FallLR w0 n p a.lose v) := by
  obtain ⟨b, S, h1, h3, h4⟩ := h
  exact (rnlose h1 hw hb).mono (fun e w' hf => fall_lr h1 h3 h4 hf)
end
def NewLR (w0 w : World) (e : Ending) (w' : World) : Prop := ∃ n p, e = .returned (.pointer (some ⟨n, 0, none⟩)) ∧ NdLR w0 n p Ns.new w' ∧ Below w.heap.size w w'
theorem nlr_new {w0 w : World} (hb : Below w0.heap.size w0 w) : Calls Tryz.prog 6 #[] w (NewLR w0 w) := by
  refine (rnnew w).mono ?_
  rintro e w' ⟨n, b, p, S, rfl, hn, hb', hS⟩
  exact ⟨n, p, rfl, ⟨b, S, hn, fun k hk => Nat.le_trans hb.size (hS k hk), hb.trans (hb'.mono hb.size)⟩, hb'⟩
theorem two_any (a b : Option Pc) : (two a b).length ≤ 2 ∧ ∀ x ∈ two a b, a = some x ∨ b = some x := by
  unfold two
  cases a with
  | none =>
    cases b with
    | none => exact ⟨by simp [srt], fun x hx => by simp [srt] at hx⟩
    | some y => exact ⟨by simp [srt], fun x hx => by simp [srt] at hx; exact Or.inr (by rw [hx])⟩
  | some z =>
    cases b with
    | none => exact ⟨by simp [srt], fun x hx => by simp [srt] at hx; exact Or.inl (by rw [hx])⟩
    | some y =>
      refine ⟨by simp [srt]; split <;> simp, fun x hx => ?_⟩
      simp [srt] at hx
      split at hx <;> simp at hx <;> rcases hx with rfl | rfl <;> simp
/-- What a node answers. -/
theorem Ns.Ok.rep {a : Ns} (h : a.Ok) (q : Rq) : ((a.act q).2.ps.length ≤ 2 ∧ ∀ x ∈ (a.act q).2.ps, ∀ j, j < 32 → x.D j < 256) ∧ ((a.act q).2.its.length ≤ 16 ∧ ∀ x ∈ (a.act q).2.its, ∀ j, j < 128 → x.D j < 256) := by
  have hpc : ∀ k x, (a.t.now k).pc? = some x → ∀ j, j < 32 → x.D j < 256 := by
    intro k x e
    have hk := (h.td.now k).1
    rw [pc?_some e] at hk
    exact hk.1.2.2.2.2
  have hps : ∀ s, (a.pcs s).length ≤ 2 ∧ ∀ x ∈ a.pcs s, ∀ j, j < 32 → x.D j < 256 := by
    intro s
    have h0 := hpc (2 * s)
    have h1 := hpc (2 * s + 1)
    unfold Ns.pcs
    generalize (a.t.now (2 * s)).pc? = o1 at *
    generalize (a.t.now (2 * s + 1)).pc? = o2 at *
    obtain ⟨l1, l2⟩ := two_any o1 o2
    refine ⟨l1, fun x hx => ?_⟩
    rcases l2 x hx with e | e
    · exact h0 x e
    · exact h1 x e
  have hit : ((liveT a.R).map (·.2)).length ≤ 16 ∧ ∀ x ∈ (liveT a.R).map (·.2), ∀ j, j < 128 → x.D j < 256 := by
    refine ⟨by rw [List.length_map, liveT_len]; exact colR_len a.R 16, fun x hx => ?_⟩
    rw [List.mem_map] at hx
    obtain ⟨e, he, rfl⟩ := hx
    obtain ⟨k, hk, hk2⟩ := colR_mem.1 ((liveT_perm a.R).mem_iff.1 he)
    exact (h.rs k e.1 e.2 hk hk2).2.2.2.2.2
  have hz : (([] : List Pc).length ≤ 2 ∧ ∀ x ∈ ([] : List Pc), ∀ j, j < 32 → x.D j < 256) := ⟨by simp, fun x hx => by cases hx⟩
  have hy : (([] : List It).length ≤ 16 ∧ ∀ x ∈ ([] : List It), ∀ j, j < 128 → x.D j < 256) := ⟨by simp, fun x hx => by cases hx⟩
  unfold Ns.act Ns.log
  repeat' split
  all_goals first | exact ⟨hps _, hy⟩ | exact ⟨hz, hit⟩ | exact ⟨hz, hy⟩
/-- SameRep of replies that are the same. -/
theorem rsamerep {w : World} {code boot : Int} {A1 A2 C1 C2 : Option Addr} {n m a1 a2 c1 c2 B1 B2 B3 B4 : Nat} {l : List Pc} {k : List It} (h1 : PL w B1 (.slice A1 n a1) l) (h2 : PL w B2 (.slice A2 n a2) l) (h3 : LI w B3 (.slice C1 m c1) k) (h4 : LI w B4 (.slice C2 m c2) k) (hl : ∀ p ∈ l, ∀ j, j < 32 → p.D j < 256) (hk : ∀ p ∈ k, ∀ j, j < 128 → p.D j < 256) (ln : l.length ≤ 1000) (kn : k.length ≤ 1000) :
    Calls Tryz.prog 13 #[rpv code boot (.slice A1 n a1) (.slice C1 m c1), rpv code boot (.slice A2 n a2) (.slice C2 m c2)] w fun e w' => e = .returned (.bool true) ∧ Below w.heap.size w w' := by
  obtain ⟨H, hH⟩ : ∃ H, w.heap.size = H := ⟨_, rfl⟩
  have HH := Lib.hid hH
  obtain ⟨w1, hw1⟩ : ∃ w1, (w.alloc (.cells #[.int .i64 code, .int .i64 boot, .slice A1 n a1, .slice C1 m c1] 44)).alloc (.cells #[.int .i64 code, .int .i64 boot, .slice A2 n a2, .slice C2 m c2] 44) = w1 := ⟨_, rfl⟩
  have HW1 := Lib.hid hw1
  have hb : Below H w w1 := by rw [← hw1, ← hH]; exact ((Below.refl _ _).alloc (Nat.le_refl _) _).alloc (by simp) _
  have hr1 : RV w1 H code boot (.slice A1 n a1) (.slice C1 m c1) := by rw [← hw1]; exact (RV.of_new hH).below ((Below.refl _ _).alloc (Nat.le_refl _) _)
  have hr2 : RV w1 (H + 1) code boot (.slice A2 n a2) (.slice C2 m c2) := by rw [← hw1]; exact RV.of_new (by simp [hH])
  have kb := KeepB.of (by rw [hH]; exact hb : Below w.heap.size w w1)
  have HP := Lib.hid (rsames (kb.pl h1) (kb.pl h2) hl ln)
  have HI : Hid (∀ W, Below w1.heap.size w1 W → Calls Tryz.prog 32 #[.slice C1 m c1, .slice C2 m c2] W fun e w' => e = .returned (.bool true) ∧ Below W.heap.size W w') := Lib.hid (fun W hW => rsameIs ((KeepB.of hW).li (kb.li h3)) ((KeepB.of hW).li (kb.li h4)) hk kn)
  have HB := Lib.hid hb
  have HR1 := Lib.hid hr1
  have HR2 := Lib.hid hr2
  clear hw1 hH h1 h2 h3 h4 hl hk ln kn kb hb hr1 hr2
  unfold rpv
  go_enter Tryz.func13, Tryz.ntmps13
  go_upto_region 1 with fail
  rw [HW1.out, HH.out]
  have x0 := HR1.out.c0
  have x1 := HR1.out.c1
  have x2 := HR1.out.c2
  have x3 := HR1.out.c3
  have y0 := HR2.out.c0
  have y1 := HR2.out.c1
  have y2 := HR2.out.c2
  have y3 := HR2.out.c3
  go_wp2_with fail
  refine HP.out.mono ?_
  rintro e w2 ⟨rfl, hb2⟩
  try dsimp only
  clear x0 x1 x2 x3 y0 y1 y2 y3
  have HB2 := Lib.hid hb2
  have x3 := (HR1.out.below hb2).c3
  have y3 := (HR2.out.below hb2).c3
  clear hb2
  go_wp2_with fail
  refine (HI.out _ HB2.out).mono ?_
  rintro e w3 ⟨rfl, hb3⟩
  try dsimp only
  have HB3 := Lib.hid hb3
  clear hb3 x3 y3
  go_wp2_with fail
  go_ret
  have s1 := HB.out.size
  have s2 := HB2.out.size
  rw [HH.out] at s1
  rw [HH.out]
  exact ⟨rfl, (HB.out.trans (HB2.out.mono s1)).trans (HB3.out.mono (Nat.le_trans s1 s2))⟩
end Go.Proofs.YtofmilkjhnkgjaaGreat
namespace Go.Proofs.YtofmilkjhnkgjaaGreat
open Go.RowKit Go.Sort

/-! A raw request. -/
structure RQ where
  kind : Int
  stripe : Int
  gen : Int
  index : Int
  seed : Int
  bend : Int
def RQsIn (w : World) (a : Option Addr) (L : List RQ) : Prop := ∀ (i : Nat) (x : RQ), L[i]? = some x → ∃ g o, a = some ⟨g, o, none⟩ ∧ g < w.heap.size ∧ w.cell? ⟨g, o + i * 6, none⟩ = some (.int .i64 x.kind) ∧ w.cell? ⟨g, o + i * 6 + 1, none⟩ = some (.int .i64 x.stripe) ∧ w.cell? ⟨g, o + i * 6 + 2, none⟩ = some (.int .i64 x.gen) ∧ w.cell? ⟨g, o + i * 6 + 3, none⟩ = some (.int .i64 x.index) ∧ w.cell? ⟨g, o + i * 6 + 4, none⟩ = some (.int .i64 x.seed) ∧ w.cell? ⟨g, o + i * 6 + 5, none⟩ = some (.int .i64 x.bend)
end Go.Proofs.YtofmilkjhnkgjaaGreat
