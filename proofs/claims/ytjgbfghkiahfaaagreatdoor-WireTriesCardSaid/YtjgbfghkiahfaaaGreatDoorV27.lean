import Derived.Test.YtjgbfghkiahfaaaGreatDoorV26
namespace Go.Proofs.YtjgbfghkiahfaaaGreatDoor
open Go.RowKit Go.Sort
set_option maxRecDepth 100000
set_option maxHeartbeats 2000000

/-! A node begins, falls, is lost. -/
theorem Rg.set {w : World} {r p sb last b k : Nat} {S : List Nat} {d : Disk} {nw : Nat} {X : Nat → Sx} {cs : Array Value} {t : TypeId} {fr : Nat × Nat} {v : Value} (h : Rg w r p sb last S d nw X) (hb : w.heap[b]? = some (.cells cs t fr)) (h1 : t ≠ 108) (h2 : t ≠ 36) (h3 : t ≠ 149) (h4 : t ≠ 96) (h5 : t ≠ 79) (h6 : t ≠ 5) : Rg (w.setCell ⟨b, k, none⟩ v) r p sb last S d nw X := by
  have hf := h.far hb h1 h2 h3 h4 h5
  have hu : ∀ (g : Nat) (cs : Array Value), w.heap[g]? = some (Obj.cells cs 5 (0, 0)) → (w.setCell ⟨b, k, none⟩ v).heap[g]? = w.heap[g]? := fun g cs' hg => set_other (by
    rintro rfl
    rw [hb] at hg
    cases hg
    exact h6 rfl) _ _
  exact ⟨h.rb.keep (set_other (by rintro rfl; exact hf (by simp)) _ _), h.sr.keep (set_other (by rintro rfl; exact hf (by simp)) _ _), fun j hj => (h.ok j hj).keep hu, h.plt.same ⟨hu, fun j hj => set_other (by rintro rfl; exact hf (by simp [hj])) _ _⟩⟩
def StartRet (n p : Nat) (S : List Nat) (x : Ns) (w : World) (e : Ending) (w' : World) : Prop := ∃ r sb, e = .returned (.tuple #[]) ∧ NdM w' n r p sb S x ∧ Turn [n] w w' ∧ w.heap.size ≤ r ∧ w.heap.size ≤ sb
theorem nstart {w : World} {n p boot nw m : Nat} {S : List Nat} {t : Td} {v1 : Value} (h0 : w.heap[n]? = some (.cells #[.pointer (some ⟨p, 0, none⟩), v1, .int .i64 (boot : Int)] 75 (0, 0))) (hp : Plt w p S 96 t.disk nw) (ht : t.Ok m) (hm : m ≤ 1000000000) (hb : boot ≤ 1000000000) :
    Calls Tryz.prog 49 #[.pointer (some ⟨n, 0, none⟩)] w (StartRet n p S (Ns.start t boot nw) w) := by
  have HOP := Lib.hid (iopen hp (ht.ringOn hm))
  have H0 := Lib.hid h0
  have c0 : w.cell? ⟨n, 0, none⟩ = some (.pointer (some ⟨p, 0, none⟩)) := cell_of_block h0
  have HB := Lib.hid hb
  clear hp ht h0 hb
  go_enter Tryz.func49, Tryz.ntmps49
  go_wp2_with fail
  refine HOP.out.mono ?_
  rintro e w2 ⟨r, sb, X, rfl, hr, hs, hb2, hr1, hr2⟩
  try dsimp only
  have h2 : w2.heap[n]? = some (.cells #[.pointer (some ⟨p, 0, none⟩), v1, .int .i64 (boot : Int)] 75 (0, 0)) := (hb2.block n (heap_lt H0.out)).trans H0.out
  have H2 := Lib.hid h2
  have HR := Lib.hid hr
  have HS := Lib.hid hs
  have HB2 := Lib.hid hb2
  have HR1 := Lib.hid hr1
  have HR2 := Lib.hid hr2
  have d0 : w2.cell? ⟨n, 0, none⟩ = some (.pointer (some ⟨p, 0, none⟩)) := cell_of_block h2
  have d1 : w2.cell? ⟨n, 1, none⟩ = some v1 := cell_of_block h2
  have d2 : w2.cell? ⟨n, 2, none⟩ = some (.int .i64 (boot : Int)) := cell_of_block h2
  have df : ∀ k, w2.frozen? ⟨n, k, none⟩ = false := fun k => free_of_block h2
  have hwp : IntKind.i64.wrap ((boot : Int) + 1) = ((boot + 1 : Nat) : Int) := by rw [IntWalk.i64_in _ (by have := HB.out; omega)]; omega
  obtain ⟨b1, hb1⟩ : ∃ b1, boot + 1 = b1 := ⟨_, rfl⟩
  rw [hb1] at hwp
  have HB1 := Lib.hid hb1
  clear hb1 h2 hr hs hb2 hr1 hr2 HOP c0
  go_wp2_with fail
  go_end0
  have k1 : (w2.setCell ⟨n, 1, none⟩ (.pointer (some ⟨r, 0, none⟩))).heap[n]? = some (.cells #[.pointer (some ⟨p, 0, none⟩), .pointer (some ⟨r, 0, none⟩), .int .i64 (boot : Int)] 75 (0, 0)) := set_block H2.out 1 _
  have k2 : NdB ((w2.setCell ⟨n, 1, none⟩ (.pointer (some ⟨r, 0, none⟩))).setCell ⟨n, 2, none⟩ (.int .i64 (b1 : Int))) n p r b1 := set_block k1 2 _
  have g1 := HR.out.set (k := 1) (v := .pointer (some ⟨r, 0, none⟩)) H2.out (by decide) (by decide) (by decide) (by decide) (by decide) (by decide)
  have g2 := g1.set (k := 2) (v := .int .i64 (b1 : Int)) k1 (by decide) (by decide) (by decide) (by decide) (by decide) (by decide)
  have hbb := HB1.out
  subst hbb
  exact ⟨r, sb, rfl, ⟨k2, X, g2, HS.out⟩, ((Turn.of HB2.out).trans (Turn.set [n] w2 ⟨n, 1, none⟩ _ (by simp))).trans (Turn.set [n] _ ⟨n, 2, none⟩ _ (by simp)), HR1.out, HR2.out⟩
/-- What a fall leaves. -/
def FallRet (n p : Nat) (S : List Nat) (x : Ns) (w : World) (e : Ending) (w' : World) : Prop :=
  ∃ r sb S', e = .returned (.tuple #[]) ∧ NdM w' n r p sb S' x ∧ Turn (n :: S) w w' ∧ w.heap.size ≤ r ∧ w.heap.size ≤ sb ∧ ∀ j ∈ S', j ∈ S ∨ w.heap.size ≤ j
theorem ncrash {w : World} {n r p sb : Nat} {S : List Nat} {a : Ns} (h : NdM w n r p sb S a) (ho : a.Ok) (A : Option Addr) (xs : List Int) (c : Nat) (hxs : Nums w A xs) (hlen : xs.length ≤ 9223372036854775807) (hw : a.nw ≤ 1000000000) (hl : a.last ≤ 1000000000) (hb : a.boot ≤ 1000000000) :
    Calls Tryz.prog 56 #[.pointer (some ⟨n, 0, none⟩), .slice A xs.length c] w (FallRet n p S (a.crash xs) w) := by
  have HM := Lib.hid (nmade h.nb)
  have HC := Lib.hid (dcrash A xs c h.plt hxs hlen hw)
  have HN := Lib.hid h
  have HO := Lib.hid ho
  have n0 := h.nb.c0
  obtain ⟨m, hm⟩ : ∃ m, xs.length = m := ⟨_, rfl⟩
  rw [hm] at HC ⊢
  clear h ho hxs hlen hm
  go_enter Tryz.func56, Tryz.ntmps56
  go_wp2_with fail
  refine HM.out.mono ?_
  rintro e w' ⟨rfl, hw⟩
  obtain rfl := hw.symm
  go_wp2_with fail
  refine HC.out.mono ?_
  rintro e w2 ⟨S', rfl, hp2, ht2⟩
  try dsimp only
  have hnb := HN.out.nb.keep (ht2.turn.block n HN.out.nb.lt (fun hm => HN.out.nS (by simp [hm])))
  rw [← disk_crash] at hp2
  have HST := Lib.hid (nstart hnb hp2 (HO.out.td.crash _) hl hb)
  have HT2 := Lib.hid ht2
  clear hnb hp2 ht2 HC HM n0
  go_wp2_with fail
  refine HST.out.mono ?_
  rintro e w3 ⟨r', sb', rfl, hn3, ht3, h1, h2⟩
  try dsimp only
  have HN3 := Lib.hid hn3
  have HT3 := Lib.hid ht3
  have H1 := Lib.hid h1
  have H2 := Lib.hid h2
  clear hn3 ht3 h1 h2
  go_wp2_with fail
  go_end0
  have hs := HT2.out.turn.size
  exact ⟨r', sb', S', rfl, HN3.out, (HT2.out.turn.mono (fun k hk => by simp [hk])).trans (HT3.out.mono (fun k hk => by simp at hk; simp [hk])), Nat.le_trans hs H1.out, Nat.le_trans hs H2.out, HT2.out.blocks⟩
def NewRet (w : World) (e : Ending) (w' : World) : Prop := ∃ n r p sb S, e = .returned (.pointer (some ⟨n, 0, none⟩)) ∧ NdM w' n r p sb S Ns.new ∧ Below w.heap.size w w' ∧ ∀ k ∈ n :: r :: p :: sb :: S, w.heap.size ≤ k
theorem nnew (w : World) : Calls Tryz.prog 30 #[] w (NewRet w) := by
  have HN := Lib.hid (dnew_of w 96 96 (by omega) rfl)
  go_enter Tryz.func30, Tryz.ntmps30
  go_wp2_with fail
  refine HN.out.mono ?_
  rintro e w1 ⟨p, S, rfl, hp1, hb1, hS1⟩
  try dsimp only
  obtain ⟨w2, hw2⟩ : ∃ w2, w1.alloc (.cells #[.pointer (some ⟨p, 0, none⟩), .pointer none, .int .i64 0] 75) = w2 := ⟨_, rfl⟩
  have HW2 := Lib.hid hw2
  have hb2 : Below w1.heap.size w1 w2 := by rw [← hw2]; exact (Below.refl _ _).alloc (Nat.le_refl _) _
  have h2 : w2.heap[w1.heap.size]? = some (.cells #[.pointer (some ⟨p, 0, none⟩), .pointer none, .int .i64 ((0 : Nat) : Int)] 75 (0, 0)) := by rw [← hw2]; exact alloc_block w1 _
  have HST := Lib.hid (nstart (t := Td.blank) h2 (hp1.below hb2) (Td.Ok.blank 0) (by omega) (Nat.zero_le _))
  have HB1 := Lib.hid hb1
  have HB2 := Lib.hid hb2
  have HS1 := Lib.hid hS1
  have HPP : Hid (w.heap.size ≤ p) := Lib.hid (hS1 p (by obtain ⟨db, nb, pv, _, _, rfl⟩ := hp1; simp))
  obtain ⟨H, hH⟩ : ∃ H, w1.heap.size = H := ⟨_, rfl⟩
  rw [hH] at HST
  have HH := Lib.hid hH
  clear hw2 hb2 h2 hp1 hb1 hS1 HN hH
  go_upto_region 2 with fail
  rw [HW2.out, HH.out]
  go_wp2_with fail
  refine HST.out.mono ?_
  rintro e w3 ⟨r', sb', rfl, hn3, ht3, h1, h2⟩
  try dsimp only
  have HN3 := Lib.hid hn3
  have HT3 := Lib.hid ht3
  have H1 := Lib.hid h1
  have H2 := Lib.hid h2
  clear hn3 ht3 h1 h2
  go_wp2_with fail
  go_ret
  have s1 := HB1.out.size
  have s2 := HB2.out.size
  have hh := HH.out
  refine ⟨H, r', p, sb', S, rfl, HN3.out, Below.of_turn (HB1.out.trans (HB2.out.mono s1)) HT3.out (fun k hk => by simp at hk; omega) (by omega), fun k hk => ?_⟩
  have a1 := H1.out
  have a2 := H2.out
  have a3 := HPP.out
  simp only [List.mem_cons] at hk
  rcases hk with rfl | rfl | rfl | rfl | hk
  · omega
  · omega
  · omega
  · omega
  · exact HS1.out k hk
theorem nboot {w : World} {n p r boot : Nat} (h : NdB w n p r boot) : Calls Tryz.prog 29 #[.pointer (some ⟨n, 0, none⟩)] w fun e w' => e = .returned (.int .i64 (boot : Int)) ∧ w' = w := by
  have HM := Lib.hid (nmade h)
  have n2 := h.c2
  clear h
  go_enter Tryz.func29, Tryz.ntmps29
  go_wp2_with fail
  refine HM.out.mono ?_
  rintro e w' ⟨rfl, hw⟩
  obtain rfl := hw.symm
  go_wp2_with fail
  go_ret
  exact ⟨rfl, rfl⟩
theorem nring {w : World} {n p r boot : Nat} (h : NdB w n p r boot) : Calls Tryz.prog 15 #[.pointer (some ⟨n, 0, none⟩)] w fun e w' => e = .returned (.pointer (some ⟨r, 0, none⟩)) ∧ w' = w := by
  have HM := Lib.hid (nmade h)
  have n1 := h.c1
  clear h
  go_enter Tryz.func15, Tryz.ntmps15
  go_wp2_with fail
  refine HM.out.mono ?_
  rintro e w' ⟨rfl, hw⟩
  obtain rfl := hw.symm
  go_wp2_with fail
  go_ret
  exact ⟨rfl, rfl⟩
end Go.Proofs.YtjgbfghkiahfaaaGreatDoor
namespace Go.Proofs.YtjgbfghkiahfaaaGreatDoor
open Go.RowKit Go.Sort
set_option maxRecDepth 100000
set_option maxHeartbeats 2000000

/-! A node that a law made. -/
/-- The kinds of blocks that a node writes. -/
def NdT (t : TypeId) : Prop := t = 75 ∨ t = 108 ∨ t = 36 ∨ t = 149 ∨ t = 96 ∨ t = 79
/-- All else stays. -/
def KeepN (w w' : World) : Prop := w.heap.size ≤ w'.heap.size ∧ ∀ (k : Nat) (o : Obj), w.heap[k]? = some o → (∀ cs t fr, o = .cells cs t fr → ¬ NdT t) → w'.heap[k]? = some o
theorem KeepN.of {w w' : World} (b : Below w.heap.size w w') : KeepN w w' := ⟨b.size, fun k _ h _ => (b.block k (heap_lt h)).trans h⟩
theorem KeepN.trans {a b c : World} (h : KeepN a b) (k : KeepN b c) : KeepN a c := ⟨Nat.le_trans h.1 k.1, fun i o hi ho => k.2 i o (h.2 i o hi ho) ho⟩
theorem KeepN.cells {w w' : World} (h : KeepN w w') {k : Nat} {cs : Array Value} {t : TypeId} {fr : Nat × Nat} (hk : w.heap[k]? = some (.cells cs t fr)) (ht : ¬ NdT t) : w'.heap[k]? = w.heap[k]? := (h.2 k _ hk (fun cs' t' fr' e => by cases e; exact ht)).trans hk.symm
theorem notNd {t : TypeId} (h0 : t ≠ 75) (h1 : t ≠ 108) (h2 : t ≠ 36) (h3 : t ≠ 149) (h4 : t ≠ 96) (h5 : t ≠ 79) : ¬ NdT t := by
  rintro (h | h | h | h | h | h)
  · exact h0 h
  · exact h1 h
  · exact h2 h
  · exact h3 h
  · exact h4 h
  · exact h5 h
theorem KeepN.b {w w' : World} (h : KeepN w w') : KeepB w w' := ⟨h.1, fun g cs t hg ht => h.cells hg (by rcases ht with rfl | rfl | rfl <;> exact notNd (by decide) (by decide) (by decide) (by decide) (by decide) (by decide))⟩
theorem NdM.type {w : World} {n r p sb : Nat} {S : List Nat} {a : Ns} (h : NdM w n r p sb S a) : ∀ k ∈ n :: r :: sb :: S, ∃ cs t, w.heap[k]? = some (.cells cs t (0, 0)) ∧ NdT t := by
  obtain ⟨X, hr, _⟩ := h.ex
  intro k hk
  rw [List.mem_cons, List.mem_cons, List.mem_cons] at hk
  rcases hk with rfl | rfl | rfl | hk
  · exact ⟨_, _, h.nb, Or.inl rfl⟩
  · exact ⟨_, _, hr.rb, Or.inr (Or.inr (Or.inr (Or.inr (Or.inl rfl))))⟩
  · obtain ⟨cs, hc⟩ := hr.sr.type
    exact ⟨_, _, hc, Or.inr (Or.inr (Or.inr (Or.inr (Or.inr rfl))))⟩
  · obtain ⟨cs, t, hc, ht⟩ := hr.plt.type hk
    exact ⟨cs, t, hc, Or.inr (by rcases ht with h | h | h; exact Or.inl h; exact Or.inr (Or.inl h); exact Or.inr (Or.inr (Or.inl h)))⟩
theorem NdM.keepN {w w' : World} {n r p sb : Nat} {S : List Nat} {a : Ns} (h : NdM w n r p sb S a) (t : Turn (n :: r :: sb :: S) w w') : KeepN w w' := ⟨t.size, fun k o hk ho => (t.block k (heap_lt hk) (fun hm => by
  obtain ⟨cs, ty, hc, ht⟩ := h.type k hm
  rw [hk] at hc
  cases hc
  exact ho _ _ _ rfl ht)).trans hk⟩
def NdL (w0 : World) (n p : Nat) (a : Ns) (v : World) : Prop := ∃ r sb S, NdM v n r p sb S a ∧ a.Ok ∧ (∀ k ∈ n :: r :: p :: sb :: S, w0.heap.size ≤ k) ∧ Below w0.heap.size w0 v
section
variable {w0 v v' : World} {n p : Nat} {a : Ns}
theorem NdL.ok (h : NdL w0 n p a v) : a.Ok := by
  obtain ⟨r, sb, S, h1, h2, h3, h4⟩ := h
  exact h2
theorem NdL.blw (h : NdL w0 n p a v) : Below w0.heap.size w0 v := by
  obtain ⟨r, sb, S, h1, h2, h3, h4⟩ := h
  exact h4
theorem NdL.below (h : NdL w0 n p a v) (b : Below v.heap.size v v') : NdL w0 n p a v' := by
  obtain ⟨r, sb, S, h1, h2, h3, h4⟩ := h
  exact ⟨r, sb, S, h1.below b, h2, h3, h4.trans (b.mono h4.size)⟩
theorem NdL.plt (h : NdL w0 n p a v) : ∃ S, Plt v p S 96 a.t.disk a.nw := by
  obtain ⟨r, sb, S, h1, h2, h3, h4⟩ := h
  exact ⟨S, h1.plt⟩
theorem below_turnN {r sb : Nat} {S S2 : List Nat} {p : Nat} (h4 : Below w0.heap.size w0 v) (t : Turn S2 v v') (h3 : ∀ k ∈ n :: r :: p :: sb :: S, w0.heap.size ≤ k) (hs : ∀ k ∈ S2, k ∈ n :: r :: p :: sb :: S) : Below w0.heap.size w0 v' := Below.of_turn h4 t (fun k hk => h3 k (hs k hk)) h4.size
def DoL (w0 : World) (n p : Nat) (x : Ns × Rp) (v : World) (e : Ending) (w' : World) : Prop :=
  ∃ B c B' c', e = .returned (rpv (x.2.code : Int) (x.1.boot : Int) (.slice B x.2.ps.length c) (.slice B' x.2.its.length c')) ∧ PL w' v.heap.size (.slice B x.2.ps.length c) x.2.ps ∧ LI w' v.heap.size (.slice B' x.2.its.length c') x.2.its ∧ NdL w0 n p x.1 w' ∧ KeepN v w'
theorem nl_do (h : NdL w0 n p a v) (q : Rq) (A : Option Addr) (c : Nat) (hd : DatN v A q.n q.D) (hD : ∀ j, j < q.n → q.D j < 256) (hw : a.nw ≤ 1000000000) (hl : a.last ≤ 1000000000) :
    Calls Tryz.prog 55 #[.pointer (some ⟨n, 0, none⟩), rqv q.k q.s q.g q.i A q.n c] v (DoL w0 n p (a.act q) v) := by
  obtain ⟨r, sb, S, h1, h2, h3, h4⟩ := h
  refine (ndo h1 h2 q A c hd hD hw hl).mono ?_
  rintro e w' ⟨S', B, b, B', b', rfl, hp, hi, hn, ht, hS⟩
  refine ⟨B, b, B', b', rfl, hp, hi, ⟨r, sb, S', hn, (h2.act hD).1, fun k hk => ?_, below_turnN h4 ht h3 (fun k hk => by simp at hk ⊢; rcases hk with h | h | h <;> simp [h])⟩, h1.keepN (ht.mono (fun k hk => List.mem_cons_of_mem _ hk))⟩
  simp only [List.mem_cons] at hk
  rcases hk with rfl | rfl | rfl | rfl | hk
  · exact h3 _ (by simp)
  · exact h3 _ (by simp)
  · exact h3 _ (by simp)
  · exact h3 _ (by simp)
  · rcases hS k hk with h | h
    · exact h3 k (by simp [h])
    · exact Nat.le_trans h4.size h
def FallL (w0 : World) (n p : Nat) (x : Ns) (v : World) (e : Ending) (w' : World) : Prop := e = .returned (.tuple #[]) ∧ NdL w0 n p x w' ∧ KeepN v w'
theorem fall_l {r sb : Nat} {S : List Nat} {x : Ns} (h1 : NdM v n r p sb S a) (h3 : ∀ k ∈ n :: r :: p :: sb :: S, w0.heap.size ≤ k) (h4 : Below w0.heap.size w0 v) (hx : x.Ok) {e : Ending} {w' : World} (hf : FallRet n p S x v e w') : FallL w0 n p x v e w' := by
  obtain ⟨r', sb', S', rfl, hn, ht, k1, k2, hS⟩ := hf
  refine ⟨rfl, ⟨r', sb', S', hn, hx, fun k hk => ?_, below_turnN h4 ht h3 (fun k hk => by simp at hk ⊢; rcases hk with h | h <;> simp [h])⟩, h1.keepN (ht.mono (fun k hk => by simp at hk ⊢; rcases hk with h | h <;> simp [h]))⟩
  simp only [List.mem_cons] at hk
  rcases hk with rfl | rfl | rfl | rfl | hk
  · exact h3 _ (by simp)
  · exact Nat.le_trans h4.size k1
  · exact h3 _ (by simp)
  · exact Nat.le_trans h4.size k2
  · rcases hS k hk with h | h
    · exact h3 k (by simp [h])
    · exact Nat.le_trans h4.size h
theorem nl_crash (h : NdL w0 n p a v) (A : Option Addr) (xs : List Int) (c : Nat) (hxs : Nums v A xs) (hlen : xs.length ≤ 9223372036854775807) (hw : a.nw ≤ 1000000000) (hl : a.last ≤ 1000000000) (hb : a.boot ≤ 1000000000) :
    Calls Tryz.prog 56 #[.pointer (some ⟨n, 0, none⟩), .slice A xs.length c] v (FallL w0 n p (a.crash xs) v) := by
  obtain ⟨r, sb, S, h1, h2, h3, h4⟩ := h
  exact (ncrash h1 h2 A xs c hxs hlen hw hl hb).mono (fun e w' hf => fall_l h1 h3 h4 (h2.crash xs).1 hf)
theorem nl_crash0 (h : NdL w0 n p a v) (hw : a.nw ≤ 1000000000) (hl : a.last ≤ 1000000000) (hb : a.boot ≤ 1000000000) :
    Calls Tryz.prog 56 #[.pointer (some ⟨n, 0, none⟩), .slice none 0 0] v (FallL w0 n p (a.crash []) v) :=
  nl_crash h none [] 0 (fun i x hi => by simp at hi) (by simp) hw hl hb
theorem nl_boot (h : NdL w0 n p a v) : Calls Tryz.prog 29 #[.pointer (some ⟨n, 0, none⟩)] v fun e w' => e = .returned (.int .i64 (a.boot : Int)) ∧ w' = v := by
  obtain ⟨r, sb, S, h1, h2, h3, h4⟩ := h
  exact nboot h1.nb
theorem nl_ring (h : NdL w0 n p a v) : ∃ r, Calls Tryz.prog 15 #[.pointer (some ⟨n, 0, none⟩)] v fun e w' => e = .returned (.pointer (some ⟨r, 0, none⟩)) ∧ w' = v := by
  obtain ⟨r, sb, S, h1, h2, h3, h4⟩ := h
  exact ⟨r, nring h1.nb⟩
end
def NewL (w0 : World) (e : Ending) (w' : World) : Prop := ∃ n p, e = .returned (.pointer (some ⟨n, 0, none⟩)) ∧ NdL w0 n p Ns.new w'
theorem nl_new {w0 w : World} (hb : Below w0.heap.size w0 w) : Calls Tryz.prog 30 #[] w (NewL w0) := by
  refine (nnew w).mono ?_
  rintro e w' ⟨n, r, p, sb, S, rfl, hn, hb', hS⟩
  exact ⟨n, p, rfl, r, sb, S, hn, Ns.new_ok.1, fun k hk => Nat.le_trans hb.size (hS k hk), hb.trans (hb'.mono hb.size)⟩
end Go.Proofs.YtjgbfghkiahfaaaGreatDoor
namespace Go.Proofs.YtjgbfghkiahfaaaGreatDoor
open Go.RowKit Go.Sort
set_option maxRecDepth 100000
set_option maxHeartbeats 2000000

/-! The wire, pure. -/
structure Wp where
  N : Nat → Ns
  dn : Nat → Bool
  F : List Int
  fuse : Int
  dead : Bool
  sent : Nat
def Wp.setN (s : Wp) (n : Nat) (a : Ns) : Wp := { s with N := fun i => if i = n then a else s.N i }
def Wp.leads (s : Wp) (n : Nat) : Wp × Bool :=
  if (s.dead || s.dn n) = true then (s, false) else if s.fuse = 0 then ({ s with dead := true }, false) else if 0 < s.fuse then ({ s with fuse := s.fuse - 1 }, true) else (s, true)
def Wp.took (s : Wp) : Wp := { s with F := s.F.tail }
def Wp.cnt (s : Wp) : Wp := { s with sent := s.sent + 1 }
def Wp.fate (s : Wp) : Int := s.F.headD 0
/-- One try, its fate f known. -/
def Wp.sendF (s : Wp) (n : Nat) (q : Rq) (f : Int) : Wp × Option (Ns × Rp) :=
  if f = 1 then (s, none) else if f = 2 then (s.setN n ((s.N n).act q).1, none)
  else if f = 3 then (s.setN n (((s.N n).crash []).act q).1, some (((s.N n).crash []).act q)) else (s.setN n ((s.N n).act q).1, some ((s.N n).act q))
def Wp.send (s : Wp) (n : Nat) (q : Rq) : Wp × Option (Ns × Rp) := s.cnt.took.sendF n q s.fate
inductive Ans where
  | err (c : Nat)
  | ok (x : Ns × Rp)
def Wp.tries : Nat → Wp → Nat → Rq → Wp × Ans
  | 0, s, _, _ => (s, .err 5)
  | k + 1, s, n, q => match s.leads n with
    | (s1, false) => (s1, .err 4)
    | (s1, true) => match s1.send n q with
      | (s2, none) => s2.tries k n q
      | (s2, some x) => if x.2.code = 0 then (s2, .ok x) else (s2, .err x.2.code)

/-- All nodes are well, and have not been at work more than m times. -/
structure Wp.Ok (s : Wp) (m : Nat) : Prop where
  ok : ∀ i, i < 8 → (s.N i).Ok
  nw : ∀ i, i < 8 → (s.N i).nw ≤ m
  last : ∀ i, i < 8 → (s.N i).last ≤ m
  boot : ∀ i, i < 8 → (s.N i).boot ≤ m + 1
theorem Wp.Ok.congr {s s' : Wp} {m : Nat} (h : s.Ok m) (e : s'.N = s.N) : s'.Ok m := ⟨by rw [e]; exact h.ok, by rw [e]; exact h.nw, by rw [e]; exact h.last, by rw [e]; exact h.boot⟩
theorem Wp.Ok.mono {s : Wp} {m m' : Nat} (h : s.Ok m) (hm : m ≤ m') : s.Ok m' := ⟨h.ok, fun i hi => Nat.le_trans (h.nw i hi) hm, fun i hi => Nat.le_trans (h.last i hi) hm, fun i hi => by have := h.boot i hi; omega⟩
theorem Wp.Ok.setN {s : Wp} {m n : Nat} {a : Ns} (h : s.Ok m) (h1 : a.Ok) (h2 : a.nw ≤ m) (h3 : a.last ≤ m) (h4 : a.boot ≤ m + 1) : (s.setN n a).Ok m := by
  refine ⟨fun i hi => ?_, fun i hi => ?_, fun i hi => ?_, fun i hi => ?_⟩ <;> unfold Wp.setN <;> dsimp only <;> split
  · exact h1
  · exact h.ok i hi
  · exact h2
  · exact h.nw i hi
  · exact h3
  · exact h.last i hi
  · exact h4
  · exact h.boot i hi
theorem Ns.act_boot (a : Ns) (q : Rq) : (a.act q).1.boot = a.boot := by
  unfold Ns.act
  repeat' split
  all_goals first | rfl | (unfold Ns.log; repeat' split) <;> rfl
theorem Ns.crash_boot (a : Ns) (l : List Int) : (a.crash l).boot = a.boot + 1 := rfl
theorem Ns.crash_nw (a : Ns) (l : List Int) : (a.crash l).nw = a.nw := rfl
theorem Wp.Ok.act {s : Wp} {m n : Nat} {q : Rq} (h : s.Ok m) (hn : n < 8) (hD : ∀ j, j < q.n → q.D j < 256) : ((s.N n).act q).1.Ok ∧ ((s.N n).act q).1.nw ≤ m + 1 ∧ ((s.N n).act q).1.last ≤ m + 1 ∧ ((s.N n).act q).1.boot ≤ m + 1 := by
  obtain ⟨a, b, c⟩ := (h.ok n hn).act (q := q) hD
  have := h.nw n hn
  have := h.last n hn
  exact ⟨a, by omega, by omega, by rw [Ns.act_boot]; exact h.boot n hn⟩
theorem Wp.Ok.crash {s : Wp} {m n : Nat} (h : s.Ok m) (hn : n < 8) (l : List Int) : ((s.N n).crash l).Ok ∧ ((s.N n).crash l).nw ≤ m ∧ ((s.N n).crash l).last ≤ m ∧ ((s.N n).crash l).boot ≤ m + 2 := by
  obtain ⟨a, b⟩ := (h.ok n hn).crash l
  have := h.nw n hn
  have := h.last n hn
  have := h.boot n hn
  exact ⟨a, by rw [Ns.crash_nw]; omega, by omega, by rw [Ns.crash_boot]; omega⟩
theorem Wp.Ok.sendF {s : Wp} {m n : Nat} {q : Rq} (h : s.Ok m) (hn : n < 8) (hD : ∀ j, j < q.n → q.D j < 256) (f : Int) : (s.sendF n q f).1.Ok (m + 1) := by
  obtain ⟨a1, a2, a3, a4⟩ := h.act (q := q) hn hD
  obtain ⟨c1, c2, c3, c4⟩ := h.crash hn []
  unfold Wp.sendF
  repeat' split
  · exact h.mono (by omega)
  · exact (h.mono (by omega)).setN a1 a2 a3 (by omega)
  · obtain ⟨b, d, e⟩ := c1.act (q := q) hD
    exact (h.mono (by omega)).setN b (by omega) (by omega) (by rw [Ns.act_boot]; omega)
  · exact (h.mono (by omega)).setN a1 a2 a3 (by omega)
theorem Wp.Ok.send {s : Wp} {m n : Nat} {q : Rq} (h : s.Ok m) (hn : n < 8) (hD : ∀ j, j < q.n → q.D j < 256) : (s.send n q).1.Ok (m + 1) := (Wp.Ok.congr (s' := s.cnt.took) h rfl).sendF hn hD _
theorem Wp.leads_N (s : Wp) (n : Nat) : (s.leads n).1.N = s.N := by
  unfold Wp.leads
  repeat' split
  all_goals rfl
theorem Wp.Ok.tries {q : Rq} {n : Nat} (hn : n < 8) (hD : ∀ j, j < q.n → q.D j < 256) : ∀ {k m : Nat} {s : Wp}, s.Ok m → (s.tries k n q).1.Ok (m + k)
  | 0, _, _, h => h
  | k + 1, m, s, h => by
    unfold Wp.tries
    have h1 := h.congr (s.leads_N n)
    split
    · next s1 e => rw [e] at h1; exact h1.mono (by omega)
    · next s1 e =>
      rw [e] at h1
      have h2 := h1.send (q := q) hn hD
      split
      · next s2 e2 =>
        rw [e2] at h2
        exact (Wp.Ok.tries hn hD h2).mono (by omega)
      · next s2 x e2 =>
        rw [e2] at h2
        split
        · exact h2.mono (by omega)
        · exact h2.mono (by omega)
/-- A wire that New made. -/
def Wp.new : Wp := ⟨fun _ => Ns.new, fun _ => false, [], -1, false, 0⟩
theorem Wp.new_ok : Wp.new.Ok 0 := ⟨fun _ _ => Ns.new_ok.1, fun _ _ => Nat.le_refl _, fun _ _ => Ns.new_ok.2, fun _ _ => Nat.le_refl _⟩
end Go.Proofs.YtjgbfghkiahfaaaGreatDoor
