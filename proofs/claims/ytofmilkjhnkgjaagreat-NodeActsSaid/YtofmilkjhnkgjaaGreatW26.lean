import Derived.Test.YtofmilkjhnkgjaaGreatW13
namespace Go.Proofs.YtofmilkjhnkgjaaGreat
open Go.RowKit Go.Sort
set_option maxRecDepth 100000
set_option maxHeartbeats 1000000

/-! The reference's disk: texts in lists. -/
def bstr (F : Blk) : ByteArray := strOf ((List.range 160).map F)
def strV (N : Nat) (D : Nat → Blk) : List Value := (List.range N).map (fun k => .string (bstr (D k)))
def wV (l : List (Nat × Blk)) : List Value := l.flatMap (fun x => [.int .i64 (x.1 : Int), .string (bstr x.2)])
theorem strV_len (N : Nat) (D : Nat → Blk) : (strV N D).length = N := by simp [strV]
theorem strV_get {N k : Nat} {D : Nat → Blk} (h : k < N) : (strV N D)[k]? = some (.string (bstr (D k))) := by simp [strV, h]
theorem strV_congr {N : Nat} {D E : Nat → Blk} (h : ∀ k, k < N → D k = E k) : strV N D = strV N E := by
  unfold strV
  exact List.map_congr_left (fun k hk => by rw [h k (by simpa using hk)])
theorem wV_len (l : List (Nat × Blk)) : (wV l).length = l.length * 2 := by
  induction l with
  | nil => rfl
  | cons x l ih => unfold wV at *; simp only [List.flatMap_cons, List.length_append, ih, List.length_cons, List.length_nil]; omega
theorem wV_get (l : List (Nat × Blk)) : ∀ (i k : Nat) (F : Blk), l[i]? = some (k, F) → (wV l)[i * 2]? = some (.int .i64 (k : Int)) ∧ (wV l)[i * 2 + 1]? = some (.string (bstr F)) := by
  induction l with
  | nil => intro i k F hi; simp at hi
  | cons x l ih =>
    intro i k F hi
    cases i with
    | zero => simp at hi; subst hi; exact ⟨rfl, rfl⟩
    | succ i =>
      have h := ih i k F (by simpa using hi)
      rw [show (i + 1) * 2 = i * 2 + 2 by omega]
      exact h
theorem wV_snoc (l : List (Nat × Blk)) (k : Nat) (F : Blk) : wV (l ++ [(k, F)]) = wV l ++ [.int .i64 (k : Int), .string (bstr F)] := by simp [wV]

def RHead (w : World) (r : Nat) (dv pv : Value) (nw : Nat) : Prop := w.heap[r]? = some (.cells #[dv, pv, .int .i64 (nw : Int)] 56 (0, 0))
structure RPltV (w : World) (r N : Nat) (dv pv : Value) (d : Disk) (nw : Nat) : Prop where
  head : RHead w r dv pv nw
  done : w.ownsRow 0 9 1 dv N (strV N d.done)
  pend : w.ownsRow 0 91 2 pv d.pend.length (wV d.pend)
  n1 : 1 ≤ N
  n2 : N ≤ 1000
  len : d.pend.length ≤ nw
  low : ∀ x ∈ d.pend, x.1 < N
def RPlt (w : World) (r : Nat) (S : List Nat) (N : Nat) (d : Disk) (nw : Nat) : Prop := ∃ dv pv, RPltV w r N dv pv d nw ∧ S = [r] ++ pb dv ++ pb pv
theorem own_mem {w : World} {B n s : Nat} {v : Value} {t : TypeId} {xs : List Value} (h : w.ownsRow B t s v n xs) {k : Nat} (hk : k ∈ pb v) : ∃ cs, w.heap[k]? = some (.cells cs t (0, 0)) := by
  rcases h.2 with ⟨rfl, _⟩ | ⟨g, cap', cur, rfl, hb, hh, _⟩
  · simp [pb] at hk
  · simp [pb] at hk; subst hk; exact ⟨cur, hh⟩
theorem own_keepB {w w' : World} {B n s : Nat} {v : Value} {t : TypeId} {xs : List Value} (h : w.ownsRow B t s v n xs) (e : ∀ k ∈ pb v, w'.heap[k]? = w.heap[k]?) : w'.ownsRow B t s v n xs := by
  obtain ⟨h1, h2⟩ := h
  refine ⟨h1, ?_⟩
  rcases h2 with h2 | ⟨g, cap, cur, rfl, hg', hh, r⟩
  · exact Or.inl h2
  · exact Or.inr ⟨g, cap, cur, rfl, hg', (e g (by simp [pb])).trans hh, r⟩
theorem RPltV.keep {w w' : World} {r N : Nat} {dv pv : Value} {d : Disk} {nw : Nat} (h : RPltV w r N dv pv d nw) (e : ∀ k ∈ [r] ++ pb dv ++ pb pv, w'.heap[k]? = w.heap[k]?) : RPltV w' r N dv pv d nw :=
  ⟨(e r (by simp)).trans h.head, own_keepB h.done (fun k hk => e k (by simp [hk])), own_keepB h.pend (fun k hk => e k (by simp [hk])), h.n1, h.n2, h.len, h.low⟩
theorem RPlt.keep {w w' : World} {r : Nat} {S : List Nat} {N : Nat} {d : Disk} {nw : Nat} (h : RPlt w r S N d nw) (e : ∀ k ∈ S, w'.heap[k]? = w.heap[k]?) : RPlt w' r S N d nw := by
  obtain ⟨dv, pv, h1, rfl⟩ := h
  exact ⟨dv, pv, h1.keep e, rfl⟩
theorem RPltV.type {w : World} {r N : Nat} {dv pv : Value} {d : Disk} {nw : Nat} (h : RPltV w r N dv pv d nw) {k : Nat} (hk : k ∈ [r] ++ pb dv ++ pb pv) : ∃ cs t, w.heap[k]? = some (.cells cs t (0, 0)) ∧ (t = 56 ∨ t = 9 ∨ t = 91) := by
  simp only [List.mem_append, List.mem_cons, List.not_mem_nil, or_false] at hk
  rcases hk with (rfl | hk) | hk
  · exact ⟨_, _, h.head, Or.inl rfl⟩
  · obtain ⟨cs, hc⟩ := own_mem h.done hk
    exact ⟨_, _, hc, Or.inr (Or.inl rfl)⟩
  · obtain ⟨cs, hc⟩ := own_mem h.pend hk
    exact ⟨_, _, hc, Or.inr (Or.inr rfl)⟩
theorem RPlt.type {w : World} {r : Nat} {S : List Nat} {N : Nat} {d : Disk} {nw : Nat} (h : RPlt w r S N d nw) {k : Nat} (hk : k ∈ S) : ∃ cs t, w.heap[k]? = some (.cells cs t (0, 0)) ∧ (t = 56 ∨ t = 9 ∨ t = 91) := by
  obtain ⟨dv, pv, h1, rfl⟩ := h
  exact h1.type hk
theorem RPlt.lt {w : World} {r : Nat} {S : List Nat} {N : Nat} {d : Disk} {nw : Nat} (h : RPlt w r S N d nw) : ∀ k ∈ S, k < w.heap.size := fun k hk => by
  obtain ⟨cs, t, hc, _⟩ := h.type hk
  exact heap_lt hc
theorem RPlt.below {w w' : World} {r : Nat} {S : List Nat} {N : Nat} {d : Disk} {nw : Nat} (h : RPlt w r S N d nw) (b : Below w.heap.size w w') : RPlt w' r S N d nw := h.keep (fun k hk => b.block k (h.lt k hk))
theorem RPlt.notMem {w : World} {r : Nat} {S : List Nat} {N : Nat} {d : Disk} {nw : Nat} (h : RPlt w r S N d nw) {k : Nat} {cs : Array Value} {t : TypeId} {fr : Nat × Nat} (hk : w.heap[k]? = some (.cells cs t fr)) (h1 : t ≠ 56) (h2 : t ≠ 9) (h3 : t ≠ 91) : k ∉ S := by
  intro hm
  obtain ⟨cs', t', e, ht⟩ := h.type hm
  rw [hk] at e
  cases e
  rcases ht with rfl | rfl | rfl
  · exact h1 rfl
  · exact h2 rfl
  · exact h3 rfl
theorem RPltV.c0 {w : World} {r N : Nat} {dv pv : Value} {d : Disk} {nw : Nat} (h : RPltV w r N dv pv d nw) : w.cell? ⟨r, 0, none⟩ = some dv := cell_of_block h.head
theorem RPltV.c1 {w : World} {r N : Nat} {dv pv : Value} {d : Disk} {nw : Nat} (h : RPltV w r N dv pv d nw) : w.cell? ⟨r, 1, none⟩ = some pv := cell_of_block h.head
theorem RPltV.c2 {w : World} {r N : Nat} {dv pv : Value} {d : Disk} {nw : Nat} (h : RPltV w r N dv pv d nw) : w.cell? ⟨r, 2, none⟩ = some (.int .i64 (nw : Int)) := cell_of_block h.head
theorem RPltV.f {w : World} {r N : Nat} {dv pv : Value} {d : Disk} {nw : Nat} (h : RPltV w r N dv pv d nw) (k : Nat) : w.frozen? ⟨r, k, none⟩ = false := free_of_block h.head
theorem RPltV.ne {w : World} {r N : Nat} {dv pv : Value} {d : Disk} {nw : Nat} (h : RPltV w r N dv pv d nw) : r ∉ pb dv ∧ r ∉ pb pv := by
  have h0 := h.head
  unfold RHead at h0
  refine ⟨fun hm => ?_, fun hm => ?_⟩
  · obtain ⟨cs, hc⟩ := own_mem h.done hm
    rw [h0] at hc; cases hc
  · obtain ⟨cs, hc⟩ := own_mem h.pend hm
    rw [h0] at hc; cases hc
/-- done's place. -/
theorem RPltV.slice {w : World} {r N : Nat} {dv pv : Value} {d : Disk} {nw : Nat} (h : RPltV w r N dv pv d nw) : ∃ g cap, dv = .slice (some ⟨g, 0, none⟩) N cap ∧ ∀ k, k < N → w.cell? ⟨g, k, none⟩ = some (.string (bstr (d.done k))) := by
  have h1 := h.n1
  have hd := h.done
  rcases hd.2 with ⟨_, h0⟩ | ⟨g, cap, cur, rfl, _⟩
  · omega
  · refine ⟨g, cap, rfl, fun k hk => ?_⟩
    have := hd.cells (g := g) rfl k _ (strV_get hk)
    rwa [addr_add, Nat.zero_add] at this
theorem RPltV.form {w : World} {r N : Nat} {dv pv : Value} {d : Disk} {nw : Nat} (h : RPltV w r N dv pv d nw) : ∃ a cap, pv = .slice a d.pend.length cap ∧ (0 < d.pend.length → ∃ q, a = some ⟨q, 0, none⟩) := by
  rcases h.pend.2 with ⟨rfl, h0⟩ | ⟨g, cap, cur, rfl, _⟩
  · exact ⟨none, 0, by rw [h0], fun h => by omega⟩
  · exact ⟨_, cap, rfl, fun _ => ⟨g, rfl⟩⟩
theorem RPltV.at {w : World} {r N q n cap i k : Nat} {dv : Value} {d : Disk} {nw : Nat} {F : Blk} (h : RPltV w r N dv (.slice (some ⟨q, 0, none⟩) n cap) d nw) (hi : d.pend[i]? = some (k, F)) :
    k < N ∧ w.cell? ⟨q, i * 2, none⟩ = some (.int .i64 (k : Int)) ∧ w.cell? ⟨q, i * 2 + 1, none⟩ = some (.string (bstr F)) := by
  obtain ⟨e1, e2⟩ := wV_get _ i k F hi
  rcases h.pend.2 with ⟨h1, _⟩ | ⟨g, cap', cur, e, _, hh, _, _, _, ht⟩
  · cases h1
  · cases e
    have hc : ∀ j u, (wV d.pend)[j]? = some u → w.cell? ⟨q, j, none⟩ = some u := by
      intro j u hu
      rw [cell_of_block hh]
      rw [← ht, List.getElem?_take] at hu
      split at hu
      · simpa using hu
      · cases hu
    exact ⟨h.low (k, F) (List.mem_of_getElem? hi), hc _ _ e1, hc _ _ e2⟩
theorem own_cell {w : World} {B g cap n j : Nat} {t : TypeId} {xs : List Value} {u : Value} (h : w.ownsRow B t 1 (.slice (some ⟨g, 0, none⟩) n cap) n xs) (hj : xs[j]? = some u) : w.cell? ⟨g, j, none⟩ = some u ∧ w.frozen? ⟨g, j, none⟩ = false ∧ B ≤ g := by
  rcases h.2 with ⟨h0, _⟩ | ⟨g', cap', cur, e, hg, hb, h3, _, h5, h6⟩
  · cases h0
  · cases e
    refine ⟨?_, free_of_block hb, hg⟩
    have := h.cells (g := g) rfl j _ hj
    rwa [addr_add, Nat.zero_add] at this
theorem infoStr : (Tryz.prog.info? 9).map (fun i => (i.zero, i.size, i.bytes)) = some (some (.string ⟨#[]⟩), 1, 16) := by kernel_rfl
theorem infoRW : (Tryz.prog.info? 91).map (fun i => (i.zero, i.size, i.bytes)) = some (some (.agg #[.int .i64 0, .string ⟨#[]⟩]), 2, 24) := by kernel_rfl

/-- set: what stands behind it. -/
theorem set_end {w W : World} {r N k g cap : Nat} {dv pv : Value} {d : Disk} {nw : Nat} {F : Blk} (h : RPltV w r N dv pv d nw) (hk : k < N) (hb : Below w.heap.size w W) (own : W.ownsRow w.heap.size 9 1 (.slice (some ⟨g, 0, none⟩) N cap) N (strV N d.done)) :
    RPltV ((W.setCell ⟨g, k, none⟩ (.string (bstr F))).setCell ⟨r, 0, none⟩ (.slice (some ⟨g, 0, none⟩) N cap)) r N (.slice (some ⟨g, 0, none⟩) N cap) pv ⟨upd d.done (k, F), d.pend⟩ nw ∧
    Turn [r] w ((W.setCell ⟨g, k, none⟩ (.string (bstr F))).setCell ⟨r, 0, none⟩ (.slice (some ⟨g, 0, none⟩) N cap)) ∧ w.heap.size ≤ g := by
  obtain ⟨hl, h1 | ⟨g', cap', cur, e, hg, hh, h3, h4, h5, h6⟩⟩ := own
  · cases h1.1
  · cases e
    have hrl : r < w.heap.size := heap_lt h.head
    have hrg : r ≠ g := by omega
    have hcur : ∀ j, j < N → cur[j]? = some (.string (bstr (d.done j))) := fun j hj => by
      have := congrArg (fun l => l[j]?) h6
      rw [Nat.mul_one, List.getElem?_take_of_lt hj, strV_get hj] at this
      simpa using this
    have hset : (W.setCell ⟨g, k, none⟩ (.string (bstr F))).heap[g]? = some (.cells (cur.setIfInBounds k (.string (bstr F))) 9 (0, 0)) := set_block hh k _
    have hr1 : (W.setCell ⟨g, k, none⟩ (.string (bstr F))).heap[r]? = w.heap[r]? := (set_other hrg k _).trans (hb.block r hrl)
    have T : Turn [r] w ((W.setCell ⟨g, k, none⟩ (.string (bstr F))).setCell ⟨r, 0, none⟩ (.slice (some ⟨g, 0, none⟩) N cap)) :=
      (Turn.of (hb.setCell (p := ⟨g, k, none⟩) hg _)).trans (Turn.set _ _ _ _ (by simp))
    refine ⟨⟨set_block (hr1.trans h.head) 0 _, ?_, own_keepB h.pend (fun i hi => ?_), h.n1, h.n2, h.len, h.low⟩, T, hg⟩
    · refine ⟨by rw [strV_len]; omega, Or.inr ⟨g, cap, _, rfl, Nat.zero_le _, (set_other (fun e => hrg e.symm) 0 _).trans hset, h3, h4, by simpa using h5, ?_⟩⟩
      apply List.ext_getElem?
      intro j
      rw [List.getElem?_take, Nat.mul_one]
      by_cases hj : j < N
      · rw [if_pos hj, strV_get hj]
        simp only [upd, Array.toList_setIfInBounds, List.getElem?_set]
        by_cases e : j = k
        · subst e
          have hjc : j < cur.size := by omega
          simp [hjc]
        · rw [if_neg (fun h => e h.symm), if_neg e]
          simpa using hcur j hj
      · rw [if_neg hj, List.getElem?_eq_none (by rw [strV_len]; omega)]
    · obtain ⟨cs, hc⟩ := own_mem h.pend hi
      exact T.block i (heap_lt hc) (by simp; rintro rfl; exact h.ne.2 hi)
def RSetRet (r N : Nat) (pv : Value) (d : Disk) (nw k : Nat) (F : Blk) (w : World) (e : Ending) (w' : World) : Prop :=
  ∃ dv, e = .returned (.tuple #[]) ∧ RPltV w' r N dv pv ⟨upd d.done (k, F), d.pend⟩ nw ∧ Turn [r] w w' ∧ ∀ i ∈ pb dv, w.heap.size ≤ i
theorem rset {w : World} {r N : Nat} {dv pv : Value} {d : Disk} {nw : Nat} (k : Nat) (F : Blk) (h : RPltV w r N dv pv d nw) (hk : k < N) :
    Calls Tryz.prog 54 #[.pointer (some ⟨r, 0, none⟩), .agg #[.int .i64 (k : Int), .string (bstr F)]] w (RSetRet r N pv d nw k F w) := by
  have HP := Lib.hid h
  have hz := heap_lt h.head
  obtain ⟨gd, cd, rfl, hcd⟩ := h.slice
  have c0 := h.c0
  have hkN : (k : Int) < (N : Int) := by omega
  have n2 := h.n2
  have n1 := h.n1
  obtain ⟨i0, hi0, hz0, hz1, hz2⟩ := info_parts infoStr
  have HB : Hid (Below w.heap.size w ((w.alloc (.cells #[.int .i64 (k : Int), .string (bstr F)] 91)).alloc (.cells #[] 9))) := Lib.hid (((Below.refl _ _).alloc (Nat.le_refl _) _).alloc (by simp) _)
  have HE : Hid (((w.alloc (.cells #[.int .i64 (k : Int), .string (bstr F)] 91)).alloc (.cells #[] 9)).ownsRow w.heap.size 9 1 (.slice (some ⟨w.heap.size + 1, 0, none⟩) 0 0) 0 []) := Lib.hid (own_empty (by have := alloc_block (w.alloc (.cells #[.int .i64 (k : Int), .string (bstr F)] 91)) (.cells #[] 9); rwa [alloc_size] at this) (by omega))
  have HN : Hid (∀ W, Below w.heap.size w W → ∀ j u, (strV N d.done)[j]? = some u → W.cell? ((⟨gd, 0, none⟩ : Addr).add j) = some u) := Lib.hid (fun W hW j u hu => by
    have hj : j < N := by have := (List.getElem?_eq_some_iff.1 hu).1; rwa [strV_len] at this
    rw [strV_get hj] at hu
    cases hu
    rw [addr_add, Nat.zero_add]
    exact (hW.cell (p := ⟨gd, j, none⟩) (cell?_lt (hcd j hj))).trans (hcd j hj))
  have HO : Hid (∀ u ∈ strV N d.done, u.oneCell' = true) := Lib.hid (fun u hu => by simp [strV] at hu; obtain ⟨j, _, rfl⟩ := hu; rfl)
  clear h hcd
  go_enter Tryz.func54, Tryz.ntmps54
  go_wp2_with (at_builtin; refine wpList_append_lies _ rfl _ _ 53 rfl w.heap.size 9 i0 (.string ⟨#[]⟩) 1 16 Tryz.underlying53 hi0 hz0 hz1 hz2 rfl (by decide) (.slice (some ⟨w.heap.size + 1, 0, none⟩) 0 0) 0 [] rfl HE.out ⟨gd, 0, none⟩ N cd (strV N d.done) rfl (by rw [strV_len]; omega) (HN.out _ HB.out) HO.out (by omega) (by unfold maxLen; omega) (by omega) (by simp; omega) _ rfl ?_; intro g' cap' w4 hown4 hgrow4 hlies4 hlt4; have HB4 : Hid (Below w.heap.size w w4) := Lib.hid (Below.grown HB.out hgrow4 HB.out.size (fun i hi => by cases hi; simp)); have HO4 : Hid (w4.ownsRow w.heap.size 9 1 (.slice (some ⟨g', 0, none⟩) N cap') N (strV N d.done)) := Lib.hid (by simpa using hown4); have x0 : w4.cell? ⟨w.heap.size, 0, none⟩ = some (.int .i64 (k : Int)) := (hgrow4.cell_far ⟨w.heap.size, 0, none⟩ (by simp; omega) (by simp [Value.ownBlock])).trans (by simp [go_sem]); have x1 : w4.cell? ⟨w.heap.size, 1, none⟩ = some (.string (bstr F)) := (hgrow4.cell_far ⟨w.heap.size, 1, none⟩ (by simp; omega) (by simp [Value.ownBlock])).trans (by simp [go_sem]); have y := own_cell HO4.out (strV_get (D := d.done) hk); have y1 := y.1; have y2 := y.2.1; have y3 : w.heap.size ≤ g' := y.2.2; have z0 : (w4.setCell ⟨g', k, none⟩ (.string (bstr F))).cell? ⟨r, 0, none⟩ = some (.slice (some ⟨gd, 0, none⟩) N cd) := (cell_far (Or.inl (by omega))).trans ((HB4.out.cell (p := ⟨r, 0, none⟩) hz).trans c0); have z1 : w4.frozen? ⟨r, 0, none⟩ = false := (HB4.out.frozen (p := ⟨r, 0, none⟩) hz).trans (HP.out.f 0); clear hown4 hgrow4 hlies4 y)
  go_end0
  obtain ⟨e1, e2, e3⟩ := set_end (F := F) HP.out hk HB4.out HO4.out
  exact ⟨_, rfl, e1, e2, by simpa [pb] using e3⟩
end Go.Proofs.YtofmilkjhnkgjaaGreat
