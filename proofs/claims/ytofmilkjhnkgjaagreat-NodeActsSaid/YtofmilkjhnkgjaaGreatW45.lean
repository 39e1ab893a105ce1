import Derived.Test.YtofmilkjhnkgjaaGreatW36
import Derived.Test.YtofmilkjhnkgjaaGreatW39
import Derived.Test.YtofmilkjhnkgjaaGreatW43
import Derived.Test.YtofmilkjhnkgjaaGreatW44
namespace Go.Proofs.YtofmilkjhnkgjaaGreat
open Go.RowKit Go.Sort
set_option maxRecDepth 100000
set_option maxHeartbeats 2000000

/-! The reference's node in memory. -/
def NdRB (w : World) (n p b boot : Nat) : Prop := w.heap[n]? = some (.cells #[.pointer (some ⟨p, 0, none⟩), .pointer (some ⟨b, 0, none⟩), .int .i64 (boot : Int)] 50 (0, 0))
section
variable {w w' : World} {n p b boot : Nat}
theorem NdRB.c0 (h : NdRB w n p b boot) : w.cell? ⟨n, 0, none⟩ = some (.pointer (some ⟨p, 0, none⟩)) := cell_of_block h
theorem NdRB.c1 (h : NdRB w n p b boot) : w.cell? ⟨n, 1, none⟩ = some (.pointer (some ⟨b, 0, none⟩)) := cell_of_block h
theorem NdRB.c2 (h : NdRB w n p b boot) : w.cell? ⟨n, 2, none⟩ = some (.int .i64 (boot : Int)) := cell_of_block h
theorem NdRB.f (h : NdRB w n p b boot) (k : Nat) : w.frozen? ⟨n, k, none⟩ = false := free_of_block h
theorem NdRB.lt (h : NdRB w n p b boot) : n < w.heap.size := heap_lt h
theorem NdRB.keep (h : NdRB w n p b boot) (e : w'.heap[n]? = w.heap[n]?) : NdRB w' n p b boot := e.trans h
theorem NdRB.below (h : NdRB w n p b boot) (e : Below w.heap.size w w') : NdRB w' n p b boot := h.keep (e.block n h.lt)
end
structure NdR (w : World) (n b p : Nat) (S : List Nat) (a : Ns) : Prop where
  nb : NdRB w n p b a.boot
  ex : ∃ X, RgR w b p a.last S a.t.disk a.nw X ∧ ∀ k, k < 16 → SaysR (X k) (a.R k)
section
variable {w w' : World} {n b p : Nat} {S : List Nat} {a : Ns}
theorem NdR.plt (h : NdR w n b p S a) : RPlt w p S 96 a.t.disk a.nw := by
  obtain ⟨X, hr, _⟩ := h.ex
  exact hr.plt
theorem NdR.below (h : NdR w n b p S a) (e : Below w.heap.size w w') : NdR w' n b p S a := by
  obtain ⟨X, hr, hs⟩ := h.ex
  exact ⟨h.nb.below e, X, hr.below e, hs⟩
theorem NdR.far (h : NdR w n b p S a) {k : Nat} {cs : Array Value} {t : TypeId} {fr : Nat × Nat} (hk : w.heap[k]? = some (.cells cs t fr)) (h1 : t ≠ 56) (h2 : t ≠ 9) (h3 : t ≠ 91) (h4 : t ≠ 100) : k ∉ b :: S := by
  obtain ⟨X, hr, _⟩ := h.ex
  exact hr.far hk h1 h2 h3 h4
theorem NdR.nS (h : NdR w n b p S a) : n ∉ b :: S := h.far h.nb (by decide) (by decide) (by decide) (by decide)
theorem NdR.keep (h : NdR w n b p S a) (hk : ∀ k ∈ n :: b :: S, w'.heap[k]? = w.heap[k]?) (hb : ∀ (g : Nat) (cs : Array Value), w.heap[g]? = some (Obj.cells cs 5 (0, 0)) → w'.heap[g]? = w.heap[g]?) : NdR w' n b p S a := by
  obtain ⟨X, hr, hs⟩ := h.ex
  exact ⟨h.nb.keep (hk n (by simp)), X, hr.keep (fun k hk' => hk k (List.mem_cons_of_mem _ hk')) hb, hs⟩
theorem NdR.set {q k : Nat} {cs : Array Value} {t : TypeId} {fr : Nat × Nat} {v : Value} (h : NdR w n b p S a) (hq : w.heap[q]? = some (.cells cs t fr)) (h0 : t ≠ 50) (h1 : t ≠ 56) (h2 : t ≠ 9) (h3 : t ≠ 91) (h4 : t ≠ 100) (h5 : t ≠ 5) : NdR (w.setCell ⟨q, k, none⟩ v) n b p S a := by
  have hf := h.far hq h1 h2 h3 h4
  refine h.keep (fun j hj => set_other ?_ _ _) (fun g cs' hg => set_other ?_ _ _)
  · rintro rfl
    rw [List.mem_cons] at hj
    rcases hj with rfl | hj
    · have := h.nb
      unfold NdRB at this
      rw [hq] at this
      cases this
      exact h0 rfl
    · exact hf hj
  · rintro rfl
    rw [hq] at hg
    cases hg
    exact h5 rfl
/-- Bytes, pieces and intents stay where the reference's node is turned. -/
theorem NdR.keepB (h : NdR w n b p S a) (t : Turn (b :: S) w w') : KeepB w w' :=
  ⟨t.size, fun g cs ty hg ht => t.block g (heap_lt hg) (h.far hg (by rcases ht with rfl | rfl | rfl <;> decide) (by rcases ht with rfl | rfl | rfl <;> decide) (by rcases ht with rfl | rfl | rfl <;> decide) (by rcases ht with rfl | rfl | rfl <;> decide))⟩
/-- The disk was turned. -/
theorem NdR.disk {S' : List Nat} (h : NdR w n b p S a) (t : Turn S w w') {T : Td} {nw : Nat} (k : RPlt w' p S' 96 T.disk nw) : NdR w' n b p S' ⟨T, a.R, a.last, a.boot, nw⟩ := by
  obtain ⟨X, hr, hs⟩ := h.ex
  have hn := h.nS
  have hu : ∀ (g : Nat) (cs : Array Value), w.heap[g]? = some (Obj.cells cs 5 (0, 0)) → w'.heap[g]? = w.heap[g]? := fun g cs hg => t.block g (heap_lt hg) (hr.plt.notMem hg (by decide) (by decide) (by decide))
  exact ⟨h.nb.keep (t.block n h.nb.lt (fun hm => hn (by simp [hm]))), X, ⟨hr.rg.keep (t.block b hr.rg.lt hr.bS), fun j hj => (hr.ok j hj).keep hu, k⟩, hs⟩
end
def ActR (n b p : Nat) (S : List Nat) (x : Ns × Rp) (w : World) (e : Ending) (w' : World) : Prop :=
  ∃ S', e = .returned (.int .i64 (x.2.code : Int)) ∧ NdR w' n b p S' x.1 ∧ Turn (b :: S) w w' ∧ ∀ j ∈ S', j ∈ S ∨ w.heap.size ≤ j
theorem turn_inR {b : Nat} {S : List Nat} {w w' : World} (t : Turn S w w') : Turn (b :: S) w w' := t.mono (fun k hk => by simp [hk])
theorem rnlog {w : World} {n b p : Nat} {S : List Nat} {a : Ns} (h : NdR w n b p S a) (ho : a.Ok) (q : Rq) (A : Option Addr) (c : Nat) (hd : DatN w A q.n q.D) (hD : ∀ j, j < q.n → q.D j < 256) (hw : a.nw ≤ 1000000000) (hl : a.last ≤ 1000000000) :
    Calls Tryz.prog 45 #[.pointer (some ⟨b, 0, none⟩), iv q.s q.g A q.n c] w (ActR n b p S (if q.okI then a.log q.it else (a, ⟨1, [], []⟩)) w) := by
  obtain ⟨X, hr, hs⟩ := h.ex
  have h1 : ∀ k, k < 16 → ∀ m y, a.R k = some (m, y) → 1 ≤ m := fun k hk m y e => (ho.rs k m y hk e).1
  by_cases hq : q.okI = true
  · rw [if_pos hq]
    have hi := q.okI_iff.1 hq
    have hok := Rq.it_ok hi hD
    obtain ⟨i1, i2, i3, i4, i7⟩ := hi
    have hdi := hd.datI i7
    rw [i7]
    have e1 : ((q.it.s : Nat) : Int) = q.s := by unfold Rq.it; dsimp only; omega
    have e2 : ((q.it.g : Nat) : Int) = q.g := by unfold Rq.it; dsimp only; omega
    have hhas : (∃ k, k < 16 ∧ (X k).no ≠ 0 ∧ (X k).it.Alike q.it) ↔ hasR a.R q.it = true := by
      rw [hasR_iff]
      constructor
      · rintro ⟨k, hk, h0, ha⟩
        exact ⟨k, _, _, hk, saysR_some (hs k hk) h0, ha⟩
      · rintro ⟨k, m, x, hk, he, ha⟩
        refine ⟨k, hk, fun h0 => ?_, ?_⟩
        · rw [(saysR_no (hs k hk) (h1 k hk)).1 h0] at he
          cases he
        · rw [(hs k hk).2 m x he]
          exact ha
    obtain ⟨f1, f2, f3⟩ := freeTo_spec a.R 16
    have hc := rlog hr q.it A c hok hdi hw hl (ActR n b p S (a.log q.it) w) (fun hh w' hb => ?_) (fun hn hf w' hb => ?_) (fun hn k hk h0 hkf w' S' A' c' hr' ht hS => ?_)
    · rw [e1, e2] at hc
      exact hc
    · unfold Ns.log
      rw [if_pos (hhas.1 hh)]
      exact ⟨S, rfl, h.below hb, Turn.of hb, fun j hj => Or.inl hj⟩
    · unfold Ns.log
      rw [if_neg (fun e => by obtain ⟨k, hk, h0, ha⟩ := hhas.2 e; exact hn k hk ⟨h0, ha⟩)]
      have hf16 : freeTo a.R 16 = 16 := by
        rcases Nat.lt_or_ge (freeTo a.R 16) 16 with hlt | hge
        · exact absurd ((saysR_no (hs _ hlt) (h1 _ hlt)).2 (f3 hlt)) (hf _ hlt)
        · omega
      rw [if_pos hf16]
      exact ⟨S, rfl, h.below hb, Turn.of hb, fun j hj => Or.inl hj⟩
    · have hfk : freeTo a.R 16 = k := by
        rcases Nat.lt_trichotomy (freeTo a.R 16) k with hlt | heq | hgt
        · exact absurd ((saysR_no (hs _ (by omega)) (h1 _ (by omega))).2 (f3 (by omega))) (hkf _ hlt)
        · exact heq
        · exact absurd ((saysR_no (hs k hk) (h1 k hk)).1 h0) (f2 k hgt)
      unfold Ns.log
      rw [if_neg (fun e => by obtain ⟨k, hk, h0, ha⟩ := hhas.2 e; exact hn k hk ⟨h0, ha⟩), hfk, if_neg (by omega)]
      have e4 : a.t.disk.write (80 + k) (itS (a.last + 1) q.it) = (a.t.write (80 + k) (.it (a.last + 1) q.it)).disk := (disk_write a.t (80 + k) (.it (a.last + 1) q.it)).symm
      rw [e4] at hr'
      refine ⟨S', rfl, ⟨h.nb.keep (ht.block n h.nb.lt h.nS), _, hr', fun j hj => ?_⟩, ht, hS⟩
      show SaysR (updS X k _ j) (updR a.R k _ j)
      unfold updS updR
      by_cases ej : j = k
      · rw [if_pos ej, if_pos ej]
        exact ⟨rfl, fun m y e => by cases e; rfl⟩
      · rw [if_neg ej, if_neg ej]
        exact hs j hj
  · rw [if_neg hq]
    refine (rlog_arg q.s q.g A q.n c (fun hi => hq (q.okI_iff.2 hi))).mono ?_
    rintro e w' ⟨rfl, hb⟩
    exact ⟨S, rfl, h.below hb, Turn.of hb, fun j hj => Or.inl hj⟩
theorem rnlive {w : World} {n b p : Nat} {S : List Nat} {a : Ns} (h : NdR w n b p S a) (ho : a.Ok) :
    Calls Tryz.prog 47 #[.pointer (some ⟨b, 0, none⟩)] w (LiveRet ((liveT a.R).map (·.2)) w) := by
  obtain ⟨X, hr, hs⟩ := h.ex
  have e1 : (lv X 16).map ntOf = colR a.R 16 := lv_colR hs (fun k m y hk e => (ho.rs k m y hk e).1) 16 (Nat.le_refl _)
  have hag : AG X (liveT a.R) a.last := by
    refine ⟨by rw [e1]; exact (liveT_perm a.R).symm, liveT_rise ho.rd, fun e he => ?_⟩
    obtain ⟨k, hk, hk2⟩ := colR_mem.1 ((liveT_perm a.R).mem_iff.1 he)
    exact (ho.rs k e.1 e.2 hk hk2).2.1
  refine (rlive hr.rg hr.ok).mono ?_
  rintro e w' ⟨u, L, rfl, hl, hp, hso, hb⟩
  rw [hag.live hp hso] at hl
  obtain ⟨B, c, rfl⟩ := hl.form
  exact ⟨B, c, rfl, hl, hb⟩
def RelR (n b p : Nat) (S : List Nat) (a : Ns) (w : World) (e : Ending) (w' : World) : Prop := ∃ k : Int, e = .returned (.int .i64 k) ∧ NdR w' n b p S a ∧ Turn (b :: S) w w'
theorem rnrel {w : World} {n b p : Nat} {S : List Nat} {a : Ns} (h : NdR w n b p S a) (ho : a.Ok) (s g : Int) :
    Calls Tryz.prog 48 #[.pointer (some ⟨b, 0, none⟩), .int .i64 s, .int .i64 g] w (RelR n b p S ⟨a.t, fun k => relO s g (a.R k), a.last, a.boot, a.nw⟩ w) := by
  obtain ⟨X, hr, hs⟩ := h.ex
  refine (rrelease s g hr.rg).mono ?_
  rintro e w' ⟨kr, rfl, hsr, ht⟩
  have ht' : Turn (b :: S) w w' := ht.mono (fun k hk => by rw [List.mem_singleton] at hk; subst hk; simp)
  have hu := (h.keepB ht').bytes
  refine ⟨_, rfl, ⟨h.nb.keep (ht'.block n h.nb.lt h.nS), relX s g 16 X, ⟨hsr, fun k hk => ?_, hr.plt.keep (fun k hk => ht.block k (hr.plt.lt k hk) (by
      rw [List.mem_singleton]
      rintro rfl
      exact hr.bS hk))⟩, fun k hk => ?_⟩, ht'⟩
  · have e : relX s g 16 X k = relS s g (X k) := by unfold relX; rw [if_pos hk]
    rw [e]
    unfold relS
    split
    · exact SxOk.z
    · exact (hr.ok k hk).keep hu
  · have e : relX s g 16 X k = relS s g (X k) := by unfold relX; rw [if_pos hk]
    rw [e]
    exact saysR_rel (hs k hk) (fun m y e => (ho.rs k m y hk e).1) s g
def FlR (n b p : Nat) (S : List Nat) (a : Ns) (w : World) (e : Ending) (w' : World) : Prop := ∃ S', e = .returned (.tuple #[]) ∧ NdR w' n b p S' a ∧ Turn (b :: S) w w' ∧ ∀ j ∈ S', j ∈ S ∨ w.heap.size ≤ j
theorem rnflush {w : World} {n b p : Nat} {S : List Nat} {a : Ns} (h : NdR w n b p S a) (hw : a.nw ≤ 1000000000) :
    Calls Tryz.prog 46 #[.pointer (some ⟨p, 0, none⟩)] w (FlR n b p S ⟨a.t.flush, a.R, a.last, a.boot, a.nw⟩ w) := by
  refine (rflush h.plt hw).mono ?_
  rintro e w' ⟨S', rfl, hp, ht⟩
  rw [← disk_flush] at hp
  exact ⟨S', rfl, h.disk ht.turn hp, turn_inR ht.turn, ht.blocks⟩
/-- Pieces, told in pieces. -/
theorem rpiecesD {w : World} {p : Nat} {S : List Nat} {d : Disk} {nw : Nat} {M : Nat → Option Pc} (h : RPlt w p S 96 d nw) (hd : CD d M) (hnw : nw ≤ 1000000000) (s : Nat) (hs : s < 40) :
    Calls Tryz.prog 41 #[.pointer (some ⟨p, 0, none⟩), .int .i64 (s : Int)] w (CGetRet (two (M (2 * s)) (M (2 * s + 1))) w) := by
  obtain ⟨ha, hb⟩ := hd.at hs
  refine (rpieces h hd.bd (by omega) hnw s hs (fun k => if k = 0 then (M (2 * s)).isSome else (M (2 * s + 1)).isSome) (fun k hk => ?_)).mono ?_
  · match k, hk with
    | 0, _ => exact ha.has
    | 1, _ => exact hb.has
  · rintro e w' ⟨v, rfl, hp, hbl⟩
    obtain ⟨e1, e2⟩ := two_alike ha hb (fun k => rdP (d.now (2 * s + k))) rfl rfl (fun k => if k = 0 then (M (2 * s)).isSome else (M (2 * s + 1)).isSome) rfl rfl
    exact ⟨v, rfl, hp.alike e1 e2, hbl⟩
end Go.Proofs.YtofmilkjhnkgjaaGreat
