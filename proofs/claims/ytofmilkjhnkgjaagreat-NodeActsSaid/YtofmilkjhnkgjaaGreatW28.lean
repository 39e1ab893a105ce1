import Derived.Test.YtofmilkjhnkgjaaGreatW27
namespace Go.Proofs.YtofmilkjhnkgjaaGreat
open Go.RowKit Go.Sort
set_option maxRecDepth 100000
set_option maxHeartbeats 2000000

/-- Read. -/
theorem rread {w : World} {r : Nat} {S : List Nat} {N : Nat} {d : Disk} {nw : Nat} (k : Nat) (h : RPlt w r S N d nw) (hk : k < N) (hnw : nw ≤ 1000000000) :
    Calls Tryz.prog 20 #[.pointer (some ⟨r, 0, none⟩), .int .i64 (k : Int)] w fun e w' => e = .returned (.string (bstr (d.now k))) ∧ w' = w := by
  obtain ⟨dv, pv, h, rfl⟩ := h
  have hl := h.len
  have HF := h.form
  obtain ⟨n, hn⟩ : ∃ n, d.pend.length = n := ⟨_, rfl⟩
  rw [hn] at HF hl
  obtain ⟨a, cap, rfl, ha⟩ := HF
  obtain ⟨gd, cd, rfl, hcd⟩ := h.slice
  have c0 := h.c0
  have c1 := h.c1
  have d0 := hcd k hk
  have hkN : (k : Int) < (N : Int) := by omega
  have HA := Lib.hid ha
  have HN := Lib.hid hn
  have HP := Lib.hid h
  have HE : Hid (d.now k = d.pend.foldl upd d.done k) := Lib.hid rfl
  clear h ha hn hcd
  go_enter Tryz.func20, Tryz.ntmps20
  go_wp2_with fail
  go_loopg [5, 6] n (fun q s5 s6 v => ∃ i : Nat, s6 = .int .i64 (i : Int) ∧ i ≤ n ∧ q = n - i ∧ Hid (s5 = .string (bstr ((d.pend.take i).foldl upd d.done k))) ∧ w = v)
  case atStart => exact ⟨0, rfl, by omega, rfl, Lib.hid rfl, rfl⟩
  case round =>
    obtain ⟨i, rfl, hi, rfl, HS, rfl⟩ := hrel
    by_cases hlt : i < n
    · have t1 : (i : Int) < (n : Int) := by omega
      obtain ⟨⟨k', F⟩, hx⟩ : ∃ x, d.pend[i]? = some x := ⟨_, List.getElem?_eq_getElem (by rw [HN.out]; exact hlt)⟩
      obtain ⟨q, rfl⟩ := HA.out (by omega)
      obtain ⟨hk', d1, d2⟩ := HP.out.at hx
      have HX := Lib.hid hx
      clear hx
      by_cases e : k' = k
      · have t2 : ((k' : Int) == (k : Int)) = true := by rw [beq_iff_eq]; omega
        have HEE := Lib.hid e
        clear e
        go_wp2_with fail
        go_roundg (n - (i + 1))
        case measure => omega
        case rel => exact ⟨i + 1, by go_num, by omega, rfl, Lib.hid (by rw [List.take_add_one, HX.out]; simp [List.foldl_append, upd, HEE.out]), rfl⟩
      · have t2 : ((k' : Int) == (k : Int)) = false := by rw [beq_eq_false_iff_ne]; omega
        have HEE := Lib.hid e
        clear e
        go_wp2_with fail
        go_roundg (n - (i + 1))
        case measure => omega
        case rel => exact ⟨i + 1, by go_num, by omega, rfl, Lib.hid (by rw [HS.out, List.take_add_one, HX.out]; simp [List.foldl_append, upd]; rw [if_neg (fun h : k = k' => HEE.out h.symm)]), rfl⟩
    · obtain rfl : i = n := by omega
      have t1 : ¬ (i : Int) < (i : Int) := by omega
      clear hlt
      have h5 := HS.out
      subst h5
      have HL : Hid (d.pend.take i = d.pend) := Lib.hid (List.take_of_length_le (by rw [HN.out]; omega))
      go_wp2_with fail
      go_ret
      exact ⟨by rw [HE.out, HL.out]; rfl, rfl⟩
theorem rwrite_no {w : World} {r : Nat} {S : List Nat} {N : Nat} {d : Disk} {nw : Nat} (k : Int) (A : Option Addr) (n c : Nat) (h : RPlt w r S N d nw) (hk : ¬ (0 ≤ k ∧ k < (N : Int) ∧ n = 160)) :
    Calls Tryz.prog 43 #[.pointer (some ⟨r, 0, none⟩), .int .i64 k, .slice A n c] w fun e w' => e = .returned (.bool false) ∧ w' = w := by
  obtain ⟨dv, pv, h, rfl⟩ := h
  obtain ⟨gd, cd, rfl, hcd⟩ := h.slice
  have c0 := h.c0
  clear h hcd
  by_cases h0 : k < 0
  · clear hk
    go_enter Tryz.func43, Tryz.ntmps43
    go_wp2_with fail
    go_ret
    exact ⟨rfl, rfl⟩
  · by_cases h1 : (N : Int) ≤ k
    · have t1 : decide ((N : Int) ≤ k) = true := decide_eq_true h1
      clear hk
      go_enter Tryz.func43, Tryz.ntmps43
      go_wp2_with fail
      go_ret
      exact ⟨rfl, rfl⟩
    · have t1 : decide ((N : Int) ≤ k) = false := decide_eq_false h1
      have e1 : ((n : Int) != 160) = true := by rw [bne_iff_ne]; omega
      clear hk
      go_enter Tryz.func43, Tryz.ntmps43
      go_wp2_with fail
      go_ret
      exact ⟨rfl, rfl⟩
end Go.Proofs.YtofmilkjhnkgjaaGreat
namespace Go.Proofs.YtofmilkjhnkgjaaGreat
open Go.RowKit Go.Sort
set_option maxRecDepth 100000
set_option maxHeartbeats 4000000

/-- append to a row of one's own, of as many as may be (none, too), as a step of a region. -/
theorem step_append_all {P : Program} (w : World) {ops : Array Oper} {o : Oper} {a : Act} {K : Act → World → Prop} {Q : Exit → Act → World → Prop} {E : Prop} (hgd : o.guard = none) (s x : Operand) (t : TypeId)
    (ho : o.op = .call { callee := .builtin .append, args := #[s, x], argTypes := #[t, t] })
    (base : Nat) (e : TypeId) (i : TypeInfo) (z : Value) (size bytes : Nat) (ht : P.underlying t = some (.slice e)) (hi : P.info? e = some i) (hz : i.zero = some z)
    (hsize : i.size = size) (hby : i.bytes = bytes) (hzs : z.cells.size = size) (hsz : 0 < size)
    (g0 n cap0 : Nat) (xs : List Value) (hs : a.eval s = .slice (some ⟨g0, 0, none⟩) n cap0) (hown : w.ownsRow base e size (.slice (some ⟨g0, 0, none⟩) n cap0) n xs)
    (A : Option Addr) (m c : Nat) (news : List Value) (hx : a.eval x = .slice A m c) (hA : A = none → m = 0 ∧ c = 0) (hl : news.length = m * size) (hnews : ∀ ad j u, A = some ad → news[j]? = some u → w.cell? (ad.add j) = some u) (h1 : ∀ u ∈ news, u.oneCell' = true)
    (h63 : n + m ≤ maxLen) (hbytes : (n + m) * bytes ≤ 140737488355328) (hbase : base ≤ w.heap.size)
    (h : ∀ g cap w', w'.ownsRow base e size (.slice (some ⟨g, 0, none⟩) (n + m) cap) (n + m) (xs ++ news) → w.grownBy w' (some g0) → (g = g0 ∨ g = w.heap.size) → g < w'.heap.size → K (a.put o.dst (.slice (some ⟨g, 0, none⟩) (n + m) cap)) w') :
    if Region.wanted o (yielded ops a.tmps) = true then Oper.wp P o a w K Q else E := by
  have hw : Region.wanted o (yielded ops a.tmps) = true := by simp [Region.wanted, hgd]
  rw [if_pos hw]
  have hle : n ≤ cap0 := by
    rcases hown.2 with ⟨h0, _⟩ | ⟨g, cap, cur, e1, _, _, h3, _⟩
    · cases h0
    · cases e1; exact h3
  have hglt : g0 < w.heap.size := by
    rcases hown.2 with ⟨h0, _⟩ | ⟨g, cap, cur, e1, _, hh, _⟩
    · cases h0
    · cases e1; exact heap_lt hh
  rcases A with _ | ad
  · obtain ⟨rfl, rfl⟩ := hA rfl
    have hn : news = [] := List.eq_nil_of_length_eq_zero (by omega)
    subst hn
    have hrun : (Builtin.append_ #[t, t] o.type #[.slice (some ⟨g0, 0, none⟩) n cap0, .slice none 0 0]).run P w = .ok (.slice (some ⟨g0, 0, none⟩) n cap0) w := by
      simp [Builtin.append_, run_underlying ht, sizeOf, typeInfo, hi, Builtin.lenOf, Builtin.firstCells, hle, storeCells]
    unfold Oper.wp
    simp [execOp, ho, resolve, invoke, builtin, hs, hx, hrun, Result.andThen]
    exact h g0 cap0 w (by simpa using hown) (World.grownBy.refl w _) (Or.inl rfl) hglt
  · by_cases hm : m = 0
    · subst hm
      have hn : news = [] := List.eq_nil_of_length_eq_zero (by omega)
      subst hn
      obtain ⟨w', hrun, r1, r2⟩ := run_append_fits (P := P) w base t o.type e i size ht hi hsize g0 n cap0 xs hown ad 0 c [] (by simp) (fun j u hu => by simp at hu) (fun u hu => by simp at hu) (by omega)
      unfold Oper.wp
      simp [execOp, ho, resolve, invoke, builtin, hs, hx, hrun, Result.andThen]
      exact h g0 cap0 w' r1 r2 (Or.inl rfl) (by
        have := r1.lt g0 rfl
        exact this.2)
    · refine wp_append_lies w s x t ho base e i z size bytes ht hi hz hsize hby hzs hsz _ n xs hs hown ad m c news hx hl (fun j u hu => hnews ad j u rfl hu) h1 (by omega) h63 hbytes hbase w.heap.size rfl (fun g cap w' h2 h3 h4 h5 => h g cap w' h2 h3 ?_ h5)
      rcases h4 with h4 | h4
      · left; simp [Value.ownBlock] at h4; exact h4.symm
      · right; exact h4
end Go.Proofs.YtofmilkjhnkgjaaGreat
namespace Go.Proofs.YtofmilkjhnkgjaaGreat
open Go.RowKit Go.Sort
set_option maxRecDepth 100000
set_option maxHeartbeats 4000000

theorem wV_one (l : List (Nat × Blk)) : ∀ u ∈ wV l, u.oneCell' = true := by
  intro u hu
  simp [wV] at hu
  obtain ⟨k, F, _, rfl | rfl⟩ := hu <;> rfl
theorem own_none {w : World} {base e s : Nat} {t : TypeId} (hb : w.heap[e]? = some (.cells #[] t (0, 0))) (hB : base ≤ e) : w.ownsRow base t s (.slice (some ⟨e, 0, none⟩) 0 0) 0 [] :=
  ⟨by simp, Or.inr ⟨e, 0, #[], rfl, hB, hb, Nat.le_refl _, by unfold maxLen; omega, by simp, by simp⟩⟩
/-- What stands behind a write. -/
theorem rwrite_end {w w6 : World} {r N k g cap : Nat} {dv pv : Value} {d : Disk} {nw : Nat} {F : Blk} (h : RPltV w r N dv pv d nw) (hk : k < N) (hb : Below w.heap.size w w6) (own : w6.ownsRow 0 91 2 (.slice (some ⟨g, 0, none⟩) (d.pend.length + 1) cap) (d.pend.length + 1) (wV d.pend ++ [.int .i64 (k : Int), .string (bstr F)])) (hg : w.heap.size ≤ g) :
    RPltV ((w6.setCell ⟨r, 1, none⟩ (.slice (some ⟨g, 0, none⟩) (d.pend.length + 1) cap)).setCell ⟨r, 2, none⟩ (.int .i64 ((nw + 1 : Nat) : Int))) r N dv (.slice (some ⟨g, 0, none⟩) (d.pend.length + 1) cap) (d.write k F) (nw + 1) ∧
    Step ([r] ++ pb dv ++ pb pv) ([r] ++ pb dv ++ [g]) w ((w6.setCell ⟨r, 1, none⟩ (.slice (some ⟨g, 0, none⟩) (d.pend.length + 1) cap)).setCell ⟨r, 2, none⟩ (.int .i64 ((nw + 1 : Nat) : Int))) := by
  have hrl := heap_lt h.head
  have T : Turn [r] w ((w6.setCell ⟨r, 1, none⟩ (.slice (some ⟨g, 0, none⟩) (d.pend.length + 1) cap)).setCell ⟨r, 2, none⟩ (.int .i64 ((nw + 1 : Nat) : Int))) := ((Turn.of hb).trans (Turn.set _ _ _ _ (by simp))).trans (Turn.set _ _ _ _ (by simp))
  refine ⟨⟨set_block (set_block ((hb.block r hrl).trans h.head) 1 _) 2 _, own_keepB h.done (fun i hi => ?_), ?_, h.n1, h.n2, ?_, ?_⟩, T.mono (by simp), fun i hi => ?_⟩
  · obtain ⟨cs, hc⟩ := own_mem h.done hi
    exact T.block i (heap_lt hc) (by simp; rintro rfl; exact h.ne.1 hi)
  · have hl : (d.write k F).pend.length = d.pend.length + 1 := by simp [Disk.write]
    rw [hl]
    have hw : wV (d.write k F).pend = wV d.pend ++ [.int .i64 (k : Int), .string (bstr F)] := wV_snoc _ _ _
    rw [hw]
    exact own_keepB own (fun i hi => by simp [pb] at hi; subst hi; exact (set_other (by omega) _ _).trans (set_other (by omega) _ _))
  · have := h.len; simp [Disk.write]; omega
  · intro x hx
    simp only [Disk.write, List.mem_append, List.mem_singleton] at hx
    rcases hx with hx | rfl
    · exact h.low x hx
    · exact hk
  · simp only [List.mem_append, List.mem_cons, List.not_mem_nil, or_false] at hi
    rcases hi with (rfl | hi) | rfl
    · exact Or.inl (by simp)
    · exact Or.inl (by simp [hi])
    · exact Or.inr hg
theorem news_some {w : World} {B : Nat} {cs : Array Value} {t : TypeId} {fr : Nat × Nat} {news : List Value} (hb : w.heap[B]? = some (.cells cs t fr)) (hn : cs.toList = news) : ∀ (ad : Addr) (j : Nat) (u : Value), (some ⟨B, 0, none⟩ : Option Addr) = some ad → news[j]? = some u → w.cell? (ad.add j) = some u := by
  intro ad j u e hu
  cases e
  subst hn
  exact World.news_of_block hb j u hu
def RWriteRet (r : Nat) (S : List Nat) (N : Nat) (d : Disk) (k : Nat) (F : Blk) (nw : Nat) (w : World) (e : Ending) (w' : World) : Prop :=
  ∃ S', e = .returned (.bool true) ∧ RPlt w' r S' N (d.write k F) (nw + 1) ∧ Step S S' w w'
theorem rwrite {w : World} {r : Nat} {S : List Nat} {N : Nat} {d : Disk} {nw : Nat} (k : Nat) (A : Option Addr) (c : Nat) (F : Blk) (h : RPlt w r S N d nw) (hk : k < N) (hA : Rd w A 160 F) (hnw : nw ≤ 1000000000) :
    Calls Tryz.prog 43 #[.pointer (some ⟨r, 0, none⟩), .int .i64 (k : Int), .slice A 160 c] w (RWriteRet r S N d k F nw w) := by
  obtain ⟨dv, pv, h, rfl⟩ := h
  have hl := h.len
  have HF := h.form
  obtain ⟨n, hn⟩ : ∃ n, d.pend.length = n := ⟨_, rfl⟩
  rw [hn] at HF hl
  obtain ⟨a, cap, rfl, ha⟩ := HF
  obtain ⟨gd, cd, rfl, hcd⟩ := h.slice
  obtain ⟨i0, hi0, hz0, hz1, hz2⟩ := info_parts infoRW
  have c0 := h.c0
  have c1 := h.c1
  have z0 := heap_lt h.head
  have t0 : ¬ (k : Int) < 0 := by omega
  have t1 : decide (N ≤ k) = false := decide_eq_false (by omega)
  have t1' : decide ((N : Int) ≤ (k : Int)) = false := decide_eq_false (by omega)
  have HW0 : Hid (∀ W, Below w.heap.size w W → ∀ ad j u, a = some ad → (wV d.pend)[j]? = some u → W.cell? (ad.add j) = some u) := Lib.hid (fun W hW ad j u e hu => by
    rcases h.pend.2 with ⟨h0, h0'⟩ | ⟨g, cap', cur, e1, _, hh, _, _, _, ht⟩
    · cases h0; cases e
    · cases e1
      cases e
      rw [addr_add, Nat.zero_add]
      refine (hW.cell (p := ⟨g, j, none⟩) (heap_lt hh)).trans ?_
      rw [cell_of_block hh]
      rw [← ht, List.getElem?_take] at hu
      split at hu
      · simpa using hu
      · cases hu)
  have HA0 : Hid (a = none → n = 0 ∧ cap = 0) := Lib.hid (fun e => by
    rcases h.pend.2 with ⟨h0, h0'⟩ | ⟨g, cap', cur, e1, _⟩
    · cases h0; exact ⟨rfl, rfl⟩
    · cases e1; cases e)
  have HLW : Hid ((wV d.pend).length = n * 2) := Lib.hid (by rw [wV_len, hn])
  have HC : Hid (∀ W, Below w.heap.size w W → Sem.run Tryz.prog (convert 35 9 (.slice A 160 c)) W = .ok (.string (bstr F)) W) := Lib.hid (fun W hW => conv_rd (hA.keep hW))
  have v0 := HC.out w.drew (below_drewN 1 w)
  have v1 := HC.out ((w.alloc (.cells #[] 91)).drew) ((Below.refl _ _).alloc (Nat.le_refl _) _).drew
  have E1 : Hid ((w.alloc (.cells #[] 91)).drew.heap[w.heap.size]? = some (.cells #[] 91 (0, 0))) := Lib.hid (alloc_block _ _)
  have E2 : Hid (((w.alloc (.cells #[] 91)).alloc (.cells #[.int .i64 (k : Int), .string (bstr F)] 91)).drew.heap[w.heap.size]? = some (.cells #[] 91 (0, 0))) := Lib.hid ((alloc_old _ _ (by simp)).trans (alloc_block _ _))
  have C2 : Hid (((w.alloc (.cells #[] 91)).alloc (.cells #[.int .i64 (k : Int), .string (bstr F)] 91)).drew.heap[w.heap.size + 1]? = some (.cells #[.int .i64 (k : Int), .string (bstr F)] 91 (0, 0))) := Lib.hid (by have := alloc_block (w.alloc (.cells #[] 91)) (.cells #[.int .i64 (k : Int), .string (bstr F)] 91); rw [alloc_size] at this; exact this)
  have E3 : Hid (((w.alloc (.cells #[.int .i64 (k : Int), .string (bstr F)] 91)).alloc (.cells #[] 91)).drew.heap[w.heap.size + 1]? = some (.cells #[] 91 (0, 0))) := Lib.hid (by have := alloc_block (w.alloc (.cells #[.int .i64 (k : Int), .string (bstr F)] 91)) (.cells #[] 91); rw [alloc_size] at this; exact this)
  have C3 : Hid (((w.alloc (.cells #[.int .i64 (k : Int), .string (bstr F)] 91)).alloc (.cells #[] 91)).drew.heap[w.heap.size]? = some (.cells #[.int .i64 (k : Int), .string (bstr F)] 91 (0, 0))) := Lib.hid ((alloc_old _ _ (by simp)).trans (alloc_block _ _))
  have B1 : Hid (Below w.heap.size w ((w.alloc (.cells #[] 91)).drew)) := Lib.hid ((Below.refl _ _).alloc (Nat.le_refl _) _).drew
  have B2 : Hid (Below w.heap.size w (((w.alloc (.cells #[] 91)).alloc (.cells #[.int .i64 (k : Int), .string (bstr F)] 91)).drew)) := Lib.hid (((Below.refl _ _).alloc (Nat.le_refl _) _).alloc (by simp) _).drew
  have B3 : Hid (Below w.heap.size w (((w.alloc (.cells #[.int .i64 (k : Int), .string (bstr F)] 91)).alloc (.cells #[] 91)).drew)) := Lib.hid (((Below.refl _ _).alloc (Nat.le_refl _) _).alloc (by simp) _).drew
  have c2 := h.c2
  have HP := Lib.hid h
  have HN := Lib.hid hn
  have HK := Lib.hid hk
  clear h ha hn hcd hk hA
  go_enter Tryz.func43, Tryz.ntmps43
  go_wp2_with fail
  go_region_law (first | (refine step_append_all _ rfl (.tmp 24) (.tmp 28) 54 rfl 0 91 i0 (.agg #[.int .i64 0, .string ⟨#[]⟩]) 2 24 Tryz.underlying54 hi0 hz0 hz1 hz2 rfl (by decide) _ 0 0 [] rfl (by first | exact own_none E1.out (Nat.zero_le _) | exact own_none E2.out (Nat.zero_le _) | exact own_none E3.out (Nat.zero_le _)) a n cap (wV d.pend) rfl HA0.out HLW.out (HW0.out _ (by first | exact B1.out | exact B2.out | exact B3.out)) (wV_one _) (by unfold maxLen; omega) (by omega) (Nat.zero_le _) ?_; intro g5 cap5 w5 own5 gr5 y5 l5; simp only [Nat.zero_add, List.nil_append] at own5; simp only [Nat.zero_add]; have hB5 : Below w.heap.size w w5 := (by first | exact Below.grown B1.out gr5 B1.out.size (fun i hi => by cases hi; omega) | exact Below.grown B2.out gr5 B2.out.size (fun i hi => by cases hi; omega) | exact Below.grown B3.out gr5 B3.out.size (fun i hi => by cases hi; omega)); have hg5 : w.heap.size ≤ g5 := (by rcases y5 with h | h <;> (rw [h]; simp <;> omega)); have y7 : Sem.run Tryz.prog (convert 35 9 (.slice A 160 c)) w5 = .ok (.string (bstr F)) w5 := HC.out _ hB5; have HB5 := Lib.hid hB5; clear hB5) | (refine step_append_all _ rfl (.tmp 29) (.tmp 34) 54 rfl 0 91 i0 (.agg #[.int .i64 0, .string ⟨#[]⟩]) 2 24 Tryz.underlying54 hi0 hz0 hz1 hz2 rfl (by decide) g5 n cap5 (wV d.pend) rfl (by first | exact own5 | exact own5.alloc _) _ 1 1 [.int .i64 (k : Int), .string (bstr F)] rfl (fun h => by cases h) rfl (by first | exact news_some (alloc_block w5 _) rfl | exact news_some ((gr5.block (w.heap.size + 1) (by simp) (by simp)).trans C2.out) rfl | exact news_some ((gr5.block w.heap.size (by simp; omega) (by simp)).trans C3.out) rfl) (by intro u hu; simp at hu; rcases hu with rfl | rfl <;> rfl) (by unfold maxLen; omega) (by omega) (Nat.zero_le _) ?_; intro g6 cap6 w6 own6 gr6 y6 l6; have hB6 : Below w.heap.size w w6 := (by first | exact Below.grown HB5.out gr6 HB5.out.size (fun i hi => by cases hi; omega) | exact Below.grown (HB5.out.alloc HB5.out.size _) gr6 (by have := HB5.out.size; simp; omega) (fun i hi => by cases hi; omega)); have hg6 : w.heap.size ≤ g6 := (by have := HB5.out.size; rcases y6 with h | h <;> (rw [h]; (try simp); omega)); have e0 : w6.cell? ⟨r, 1, none⟩ = some (.slice a n cap) := (hB6.cell (p := ⟨r, 1, none⟩) z0).trans c1; have f0 : w6.frozen? ⟨r, 1, none⟩ = false := (hB6.frozen (p := ⟨r, 1, none⟩) z0).trans (HP.out.f 1); have e2 : w6.cell? ⟨r, 2, none⟩ = some (.int .i64 (nw : Int)) := (hB6.cell (p := ⟨r, 2, none⟩) z0).trans c2; have f2 : w6.frozen? ⟨r, 2, none⟩ = false := (hB6.frozen (p := ⟨r, 2, none⟩) z0).trans (HP.out.f 2); have HB6 := Lib.hid hB6; have HO6 := Lib.hid own6; clear hB6 gr6 own6 y6) | fail)
  all_goals
    clear gr5 y5 own5 y7 v0 v1
    go_wp2_with fail
    go_ret
    have hE := rwrite_end (F := F) HP.out HK.out HB6.out (by rw [HN.out]; exact HO6.out) hg6
    rw [HN.out] at hE
    have e5 : ((nw + 1 : Nat) : Int) = (nw : Int) + 1 := by omega
    rw [e5] at hE
    exact ⟨_, rfl, ⟨_, _, hE.1, rfl⟩, hE.2⟩
end Go.Proofs.YtofmilkjhnkgjaaGreat
