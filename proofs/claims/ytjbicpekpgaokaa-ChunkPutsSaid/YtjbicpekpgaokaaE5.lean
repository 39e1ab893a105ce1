import Derived.Test.YtjbicpekpgaokaaE4
namespace Go.Proofs.Ytjbicpekpgaokaa
open Go.RowKit Go.Sort
set_option maxRecDepth 100000
set_option maxHeartbeats 4000000

theorem wV_one (l : List (Nat × Blk)) : ∀ u ∈ wV l, u.oneCell' = true := by
  intro u hu
  simp [wV] at hu
  obtain ⟨k, F, _, rfl | rfl⟩ := hu <;> rfl
theorem own_none {w : World} {base e s : Nat} {t : TypeId} (hb : w.heap[e]? = some (.cells #[] t (0, 0))) (hB : base ≤ e) : w.ownsRow base t s (.slice (some ⟨e, 0, none⟩) 0 0) 0 [] :=
  ⟨by simp, Or.inr ⟨e, 0, #[], rfl, hB, hb, Nat.le_refl _, by unfold maxLen; omega, by simp, by simp⟩⟩
/-- What stands behind a write. -/
theorem rwrite_end {w w6 : World} {r N k g cap : Nat} {dv pv : Value} {d : Disk} {nw : Nat} {F : Blk} (h : RPltV w r N dv pv d nw) (hk : k < N) (hb : Below w.heap.size w w6) (own : w6.ownsRow 0 96 2 (.slice (some ⟨g, 0, none⟩) (d.pend.length + 1) cap) (d.pend.length + 1) (wV d.pend ++ [.int .i64 (k : Int), .string (bstr F)])) (hg : w.heap.size ≤ g) :
    RPltV ((w6.setCell ⟨r, 1, none⟩ (.slice (some ⟨g, 0, none⟩) (d.pend.length + 1) cap)).setCell ⟨r, 2, none⟩ (.int .i64 ((nw + 1 : Nat) : Int))) r N dv (.slice (some ⟨g, 0, none⟩) (d.pend.length + 1) cap) (d.write k F) (nw + 1) ∧
    Step ([r] ++ pb dv ++ pb pv) ([r] ++ pb dv ++ [g]) w ((w6.setCell ⟨r, 1, none⟩ (.slice (some ⟨g, 0, none⟩) (d.pend.length + 1) cap)).setCell ⟨r, 2, none⟩ (.int .i64 ((nw + 1 : Nat) : Int))) := by
  have hrl := heap_lt h.head
  have T : Turn [r] w ((w6.setCell ⟨r, 1, none⟩ (.slice (some ⟨g, 0, none⟩) (d.pend.length + 1) cap)).setCell ⟨r, 2, none⟩ (.int .i64 ((nw + 1 : Nat) : Int))) := ((Turn.of hb).trans (Turn.set _ _ _ _ (by simp))).trans (Turn.set _ _ _ _ (by simp))
  refine ⟨⟨set_block (set_block ((hb.block r hrl).trans h.head) 1 _) 2 _, own_keepB h.done (fun i hi => ?_), ?_, h.n1, h.n2, ?_, ?_⟩, T.mono (by simp), fun i hi => ?_⟩
  · obtain ⟨cs, hc⟩ := own_mem h.done hi
    exact T.block i (heap_lt hc) (by simp; rintro rfl; exact h.ne.1 hi)
  · have hl : (d.write k F).pend.length = d.pend.length + 1 := by simp [Disk.write]
    rw [hl]
    have hw : wV (d.write k F).pend = wV d.pend ++ [.int .i64 (k : Int), .string (bstr F)] := wV_snoc _ _ _
    rw [hw]
    exact own_keepB own (fun i hi => by simp [pb] at hi; subst hi; exact (set_other (by omega) _ _).trans (set_other (by omega) _ _))
  · have := h.len; simp [Disk.write]; omega
  · intro x hx
    simp only [Disk.write, List.mem_append, List.mem_singleton] at hx
    rcases hx with hx | rfl
    · exact h.low x hx
    · exact hk
  · simp only [List.mem_append, List.mem_cons, List.not_mem_nil, or_false] at hi
    rcases hi with (rfl | hi) | rfl
    · exact Or.inl (by simp)
    · exact Or.inl (by simp [hi])
    · exact Or.inr hg
theorem news_some {w : World} {B : Nat} {cs : Array Value} {t : TypeId} {fr : Nat × Nat} {news : List Value} (hb : w.heap[B]? = some (.cells cs t fr)) (hn : cs.toList = news) : ∀ (ad : Addr) (j : Nat) (u : Value), (some ⟨B, 0, none⟩ : Option Addr) = some ad → news[j]? = some u → w.cell? (ad.add j) = some u := by
  intro ad j u e hu
  cases e
  subst hn
  exact World.news_of_block hb j u hu
def RWriteRet (r : Nat) (S : List Nat) (N : Nat) (d : Disk) (k : Nat) (F : Blk) (nw : Nat) (w : World) (e : Ending) (w' : World) : Prop :=
  ∃ S', e = .returned (.bool true) ∧ RPlt w' r S' N (d.write k F) (nw + 1) ∧ Step S S' w w'
theorem rwrite {w : World} {r : Nat} {S : List Nat} {N : Nat} {d : Disk} {nw : Nat} (k : Nat) (A : Option Addr) (c : Nat) (F : Blk) (h : RPlt w r S N d nw) (hk : k < N) (hA : Rd w A 160 F) (hnw : nw ≤ 1000000000) :
    Calls Try.prog 41 #[.pointer (some ⟨r, 0, none⟩), .int .i64 (k : Int), .slice A 160 c] w (RWriteRet r S N d k F nw w) := by
  obtain ⟨dv, pv, h, rfl⟩ := h
  have hl := h.len
  have HF := h.form
  obtain ⟨n, hn⟩ : ∃ n, d.pend.length = n := ⟨_, rfl⟩
  rw [hn] at HF hl
  obtain ⟨a, cap, rfl, ha⟩ := HF
  obtain ⟨gd, cd, rfl, hcd⟩ := h.slice
  obtain ⟨i0, hi0, hz0, hz1, hz2⟩ := info_parts infoRW
  have c0 := h.c0
  have c1 := h.c1
  have z0 := heap_lt h.head
  have t0 : ¬ (k : Int) < 0 := by omega
  have t1 : decide (N ≤ k) = false := decide_eq_false (by omega)
  have t1' : decide ((N : Int) ≤ (k : Int)) = false := decide_eq_false (by omega)
  have HW0 : Hid (∀ W, Below w.heap.size w W → ∀ ad j u, a = some ad → (wV d.pend)[j]? = some u → W.cell? (ad.add j) = some u) := Lib.hid (fun W hW ad j u e hu => by
    rcases h.pend.2 with ⟨h0, h0'⟩ | ⟨g, cap', cur, e1, _, hh, _, _, _, ht⟩
    · cases h0; cases e
    · cases e1
      cases e
      rw [addr_add, Nat.zero_add]
      refine (hW.cell (p := ⟨g, j, none⟩) (heap_lt hh)).trans ?_
      rw [cell_of_block hh]
      rw [← ht, List.getElem?_take] at hu
      split at hu
      · simpa using hu
      · cases hu)
  have HA0 : Hid (a = none → n = 0 ∧ cap = 0) := Lib.hid (fun e => by
    rcases h.pend.2 with ⟨h0, h0'⟩ | ⟨g, cap', cur, e1, _⟩
    · cases h0; exact ⟨rfl, rfl⟩
    · cases e1; cases e)
  have HLW : Hid ((wV d.pend).length = n * 2) := Lib.hid (by rw [wV_len, hn])
  have HC : Hid (∀ W, Below w.heap.size w W → Sem.run Try.prog (convert 22 9 (.slice A 160 c)) W = .ok (.string (bstr F)) W) := Lib.hid (fun W hW => conv_rd (hA.keep hW))
  have v0 := HC.out w.drew (below_drewN 1 w)
  have v1 := HC.out ((w.alloc (.cells #[] 96)).drew) ((Below.refl _ _).alloc (Nat.le_refl _) _).drew
  have E1 : Hid ((w.alloc (.cells #[] 96)).drew.heap[w.heap.size]? = some (.cells #[] 96 (0, 0))) := Lib.hid (alloc_block _ _)
  have E2 : Hid (((w.alloc (.cells #[] 96)).alloc (.cells #[.int .i64 (k : Int), .string (bstr F)] 96)).drew.heap[w.heap.size]? = some (.cells #[] 96 (0, 0))) := Lib.hid ((alloc_old _ _ (by simp)).trans (alloc_block _ _))
  have C2 : Hid (((w.alloc (.cells #[] 96)).alloc (.cells #[.int .i64 (k : Int), .string (bstr F)] 96)).drew.heap[w.heap.size + 1]? = some (.cells #[.int .i64 (k : Int), .string (bstr F)] 96 (0, 0))) := Lib.hid (by have := alloc_block (w.alloc (.cells #[] 96)) (.cells #[.int .i64 (k : Int), .string (bstr F)] 96); rw [alloc_size] at this; exact this)
  have E3 : Hid (((w.alloc (.cells #[.int .i64 (k : Int), .string (bstr F)] 96)).alloc (.cells #[] 96)).drew.heap[w.heap.size + 1]? = some (.cells #[] 96 (0, 0))) := Lib.hid (by have := alloc_block (w.alloc (.cells #[.int .i64 (k : Int), .string (bstr F)] 96)) (.cells #[] 96); rw [alloc_size] at this; exact this)
  have C3 : Hid (((w.alloc (.cells #[.int .i64 (k : Int), .string (bstr F)] 96)).alloc (.cells #[] 96)).drew.heap[w.heap.size]? = some (.cells #[.int .i64 (k : Int), .string (bstr F)] 96 (0, 0))) := Lib.hid ((alloc_old _ _ (by simp)).trans (alloc_block _ _))
  have B1 : Hid (Below w.heap.size w ((w.alloc (.cells #[] 96)).drew)) := Lib.hid ((Below.refl _ _).alloc (Nat.le_refl _) _).drew
  have B2 : Hid (Below w.heap.size w (((w.alloc (.cells #[] 96)).alloc (.cells #[.int .i64 (k : Int), .string (bstr F)] 96)).drew)) := Lib.hid (((Below.refl _ _).alloc (Nat.le_refl _) _).alloc (by simp) _).drew
  have B3 : Hid (Below w.heap.size w (((w.alloc (.cells #[.int .i64 (k : Int), .string (bstr F)] 96)).alloc (.cells #[] 96)).drew)) := Lib.hid (((Below.refl _ _).alloc (Nat.le_refl _) _).alloc (by simp) _).drew
  have c2 := h.c2
  have HP := Lib.hid h
  have HN := Lib.hid hn
  have HK := Lib.hid hk
  clear h ha hn hcd hk hA
  go_enter Try.func41, Try.ntmps41
  go_wp2_with fail
  go_region_law (first | (refine step_append_all _ rfl (.tmp 24) (.tmp 28) 91 rfl 0 96 i0 (.agg #[.int .i64 0, .string ⟨#[]⟩]) 2 24 Try.underlying91 hi0 hz0 hz1 hz2 rfl (by decide) _ 0 0 [] rfl (by first | exact own_none E1.out (Nat.zero_le _) | exact own_none E2.out (Nat.zero_le _) | exact own_none E3.out (Nat.zero_le _)) a n cap (wV d.pend) rfl HA0.out HLW.out (HW0.out _ (by first | exact B1.out | exact B2.out | exact B3.out)) (wV_one _) (by unfold maxLen; omega) (by omega) (Nat.zero_le _) ?_; intro g5 cap5 w5 own5 gr5 y5 l5; simp only [Nat.zero_add, List.nil_append] at own5; simp only [Nat.zero_add]; have hB5 : Below w.heap.size w w5 := (by first | exact Below.grown B1.out gr5 B1.out.size (fun i hi => by cases hi; omega) | exact Below.grown B2.out gr5 B2.out.size (fun i hi => by cases hi; omega) | exact Below.grown B3.out gr5 B3.out.size (fun i hi => by cases hi; omega)); have hg5 : w.heap.size ≤ g5 := (by rcases y5 with h | h <;> (rw [h]; simp <;> omega)); have y7 : Sem.run Try.prog (convert 22 9 (.slice A 160 c)) w5 = .ok (.string (bstr F)) w5 := HC.out _ hB5; have HB5 := Lib.hid hB5; clear hB5) | (refine step_append_all _ rfl (.tmp 29) (.tmp 34) 91 rfl 0 96 i0 (.agg #[.int .i64 0, .string ⟨#[]⟩]) 2 24 Try.underlying91 hi0 hz0 hz1 hz2 rfl (by decide) g5 n cap5 (wV d.pend) rfl (by first | exact own5 | exact own5.alloc _) _ 1 1 [.int .i64 (k : Int), .string (bstr F)] rfl (fun h => by cases h) rfl (by first | exact news_some (alloc_block w5 _) rfl | exact news_some ((gr5.block (w.heap.size + 1) (by simp) (by simp)).trans C2.out) rfl | exact news_some ((gr5.block w.heap.size (by simp; omega) (by simp)).trans C3.out) rfl) (by intro u hu; simp at hu; rcases hu with rfl | rfl <;> rfl) (by unfold maxLen; omega) (by omega) (Nat.zero_le _) ?_; intro g6 cap6 w6 own6 gr6 y6 l6; have hB6 : Below w.heap.size w w6 := (by first | exact Below.grown HB5.out gr6 HB5.out.size (fun i hi => by cases hi; omega) | exact Below.grown (HB5.out.alloc HB5.out.size _) gr6 (by have := HB5.out.size; simp; omega) (fun i hi => by cases hi; omega)); have hg6 : w.heap.size ≤ g6 := (by have := HB5.out.size; rcases y6 with h | h <;> (rw [h]; (try simp); omega)); have e0 : w6.cell? ⟨r, 1, none⟩ = some (.slice a n cap) := (hB6.cell (p := ⟨r, 1, none⟩) z0).trans c1; have f0 : w6.frozen? ⟨r, 1, none⟩ = false := (hB6.frozen (p := ⟨r, 1, none⟩) z0).trans (HP.out.f 1); have e2 : w6.cell? ⟨r, 2, none⟩ = some (.int .i64 (nw : Int)) := (hB6.cell (p := ⟨r, 2, none⟩) z0).trans c2; have f2 : w6.frozen? ⟨r, 2, none⟩ = false := (hB6.frozen (p := ⟨r, 2, none⟩) z0).trans (HP.out.f 2); have HB6 := Lib.hid hB6; have HO6 := Lib.hid own6; clear hB6 gr6 own6 y6) | fail)
  all_goals
    clear gr5 y5 own5 y7 v0 v1
    go_wp2_with fail
    go_ret
    have hE := rwrite_end (F := F) HP.out HK.out HB6.out (by rw [HN.out]; exact HO6.out) hg6
    rw [HN.out] at hE
    have e5 : ((nw + 1 : Nat) : Int) = (nw : Int) + 1 := by omega
    rw [e5] at hE
    exact ⟨_, rfl, ⟨_, _, hE.1, rfl⟩, hE.2⟩
end Go.Proofs.Ytjbicpekpgaokaa
