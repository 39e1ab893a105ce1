import Derived.Test.YtofmilkjhnkgjaaA1
import Derived.Test.YtofmilkjhnkgjaaChE
import Derived.Test.YtofmilkjhnkgjaaNd7
import Derived.Maps.OwnOps
namespace Go.Proofs.Ytofmilkjhnkgjaa
open Go.RowKit Go.Sort

/-! A raw request. -/
structure RQ where
  kind : Int
  stripe : Int
  gen : Int
  index : Int
  seed : Int
  bend : Int
def RQsIn (w : World) (a : Option Addr) (L : List RQ) : Prop := ∀ (i : Nat) (x : RQ), L[i]? = some x → ∃ g o, a = some ⟨g, o, none⟩ ∧ g < w.heap.size ∧ w.cell? ⟨g, o + i * 6, none⟩ = some (.int .i64 x.kind) ∧ w.cell? ⟨g, o + i * 6 + 1, none⟩ = some (.int .i64 x.stripe) ∧ w.cell? ⟨g, o + i * 6 + 2, none⟩ = some (.int .i64 x.gen) ∧ w.cell? ⟨g, o + i * 6 + 3, none⟩ = some (.int .i64 x.index) ∧ w.cell? ⟨g, o + i * 6 + 4, none⟩ = some (.int .i64 x.seed) ∧ w.cell? ⟨g, o + i * 6 + 5, none⟩ = some (.int .i64 x.bend)
end Go.Proofs.Ytofmilkjhnkgjaa
namespace Go.Proofs.Ytofmilkjhnkgjaa
open Go.RowKit Go.Sort
set_option maxRecDepth 100000
set_option maxHeartbeats 1000000

/-- SamePiece. -/
theorem rsame (s g i s' g' i' : Int) (A A' : Option Addr) (n c n' c' : Nat) (D D' : Nat → Nat) (w : World) (h1 : Rd w A n D) (h2 : Rd w A' n' D') (b1 : ∀ j, j < n → D j < 256) (b2 : ∀ j, j < n' → D' j < 256)
    (t : Bool) (ht : t = true ↔ s = s' ∧ g = g' ∧ i = i' ∧ n = n' ∧ ∀ j, j < n → D j = D' j) :
    Calls Try.prog 18 #[pv s g i A n c, pv s' g' i' A' n' c'] w fun e w' => e = .returned (.bool t) ∧ Below w.heap.size w w' := by
  have HT := Lib.hid ht
  obtain ⟨w1, hw1⟩ : ∃ w1, (w.alloc (.cells #[.int .i64 s, .int .i64 g, .int .i64 i, .slice A n c] 44)).alloc (.cells #[.int .i64 s', .int .i64 g', .int .i64 i', .slice A' n' c'] 44) = w1 := ⟨_, rfl⟩
  have HB1 : Hid (Below w.heap.size w w1) := Lib.hid (by rw [← hw1]; exact ((Below.refl _ _).alloc (Nat.le_refl _) _).alloc (by simp) _)
  have HW1 := Lib.hid hw1
  have v1 := conv_rd (cap := c) (h1.keep HB1.out)
  have v2 := conv_rd (cap := c') (h2.keep HB1.out)
  have HST := Lib.hid (str_eq b1 b2)
  generalize strOf ((List.range n).map D) = s1 at *
  generalize strOf ((List.range n').map D') = s2 at *
  rw [← hw1] at v1 v2
  clear ht h1 h2 b1 b2 hw1
  unfold pv
  by_cases hs : s = s'
  · have e1 : (s == s') = true := beq_iff_eq.2 hs
    have HS := Lib.hid hs
    clear hs
    by_cases hg : g = g'
    · have e2 : (g == g') = true := beq_iff_eq.2 hg
      have HG := Lib.hid hg
      clear hg
      by_cases hi : i = i'
      · have e3 : (i == i') = true := beq_iff_eq.2 hi
        have HI := Lib.hid hi
        clear hi
        have e4 : (s1.toList == s2.toList) = t := by
          cases ht' : t with
          | true => exact beq_iff_eq.2 (HST.out.2 (HT.out.1 ht').2.2.2)
          | false => exact beq_eq_false_iff_ne.2 (fun e => by have := HT.out.2 ⟨HS.out, HG.out, HI.out, HST.out.1 e⟩; rw [ht'] at this; cases this)
        go_enter Try.func18, Try.ntmps18
        go_wp2_with fail
        go_ret
        rw [HW1.out]
        exact ⟨rfl, HB1.out⟩
      · have e3 : (i == i') = false := beq_eq_false_iff_ne.2 hi
        obtain rfl : t = false := not_true HT.out (fun h => hi h.2.2.1)
        clear hi
        go_enter Try.func18, Try.ntmps18
        go_wp2_with fail
        go_ret
        rw [HW1.out]
        exact ⟨rfl, HB1.out⟩
    · have e2 : (g == g') = false := beq_eq_false_iff_ne.2 hg
      obtain rfl : t = false := not_true HT.out (fun h => hg h.2.1)
      clear hg
      go_enter Try.func18, Try.ntmps18
      go_wp2_with fail
      go_ret
      rw [HW1.out]
      exact ⟨rfl, HB1.out⟩
  · have e1 : (s == s') = false := beq_eq_false_iff_ne.2 hs
    obtain rfl : t = false := not_true HT.out (fun h => hs h.1)
    clear hs
    go_enter Try.func18, Try.ntmps18
    go_wp2_with fail
    go_ret
    rw [HW1.out]
    exact ⟨rfl, HB1.out⟩

/-- SamePiece of pieces that are handed about. -/
theorem rsameV {w : World} {v v' : Value} {p q : Pc} (h : PcV w v p) (h' : PcV w v' q) (hp : ∀ j, j < 32 → p.D j < 256) (hq : ∀ j, j < 32 → q.D j < 256) (t : Bool) (ht : t = true ↔ p.Alike q) :
    Calls Try.prog 18 #[v, v'] w fun e w' => e = .returned (.bool t) ∧ Below w.heap.size w w' := by
  obtain ⟨A, c, rfl, d⟩ := h
  obtain ⟨A', c', rfl, d'⟩ := h'
  refine rsame _ _ _ _ _ _ A A' 32 c 32 c' p.D q.D w d.rd d'.rd hp hq t ?_
  rw [ht]
  unfold Pc.Alike
  constructor
  · rintro ⟨a, b, e, f⟩
    exact ⟨by omega, by omega, by omega, rfl, f⟩
  · rintro ⟨a, b, e, _, f⟩
    exact ⟨by omega, by omega, by omega, f⟩
end Go.Proofs.Ytofmilkjhnkgjaa
namespace Go.Proofs.Ytofmilkjhnkgjaa
open Go.RowKit Go.Sort
set_option maxRecDepth 100000
set_option maxHeartbeats 1000000

/-! Maps from numbers to pieces: map[int]api.Piece. -/
theorem lawInt : Maps.Keyed Try.prog 3 := Maps.int_keyed Try.underlying3
abbrev ikey (c : Nat) : Lit := .int .i64 (c : Int)
def RvP (v : Value) : Option (DataW Value × List MemPlace) := some (.held v, [])
def dOf : Option Value → DataW Value
  | some v => .held v
  | none => .nil
/-- Such a map in memory: what it tells of the numbers up to a thousand. -/
def MP (w : World) (mb n : Nat) (f : Nat → Option Value) : Prop := ∃ D : DataW Value, w.ownsMap Try.prog 3 RvP mb n D ∧ ∀ c, c < 1000 → D.atKey (ikey c) .nil = dOf (f c)
theorem ikey_wf {c : Nat} (h : c < 1000) : (ikey c).wf = true := by
  simp [Lit.wf, IntKind.min, IntKind.max, IntKind.signed, IntKind.bits]
  omega
theorem ikey_inj {a b : Nat} (h : ikey a = ikey b) : a = b := by
  injection h with _ h
  omega
theorem MP.block {w : World} {mb n : Nat} {f : Nat → Option Value} (h : MP w mb n f) : ∃ es clock, w.heap[mb]? = some (.map es clock) := by
  obtain ⟨D, ⟨es, clock, hb, _⟩, _⟩ := h
  exact ⟨es, clock, hb⟩
theorem MP.keep {w w' : World} {mb n : Nat} {f : Nat → Option Value} (h : MP w mb n f) (e : w'.heap[mb]? = w.heap[mb]?) : MP w' mb n f := by
  obtain ⟨D, ⟨es, clock, hb, r⟩, h2⟩ := h
  exact ⟨D, ⟨es, clock, e.trans hb, r⟩, h2⟩
theorem MP.below {w w' : World} {mb n : Nat} {f : Nat → Option Value} (h : MP w mb n f) (b : Below w.heap.size w w') : MP w' mb n f := by
  obtain ⟨es, clock, hb⟩ := h.block
  exact h.keep (b.block mb (heap_lt hb))
theorem MP.keepN {w w' : World} {mb n : Nat} {f : Nat → Option Value} (h : MP w mb n f) (k : KeepN w w') : MP w' mb n f := by
  obtain ⟨es, clock, hb⟩ := h.block
  exact h.keep ((k.2 mb _ hb (fun cs t fr e => by cases e)).trans hb.symm)
theorem MP.made (w : World) : MP (w.alloc (.map #[] 0)) w.heap.size 0 (fun _ => none) :=
  ⟨.map [], World.ownsMap_made w Try.prog _ _, fun _ _ => rfl⟩
theorem MP.store {w : World} {mb n c : Nat} {v : Value} {f : Nat → Option Value} (h : MP w mb n f) (hn : n ≤ 1000000) (hc : c < 1000) :
    ∃ w', (Instr.mapUpdate 47 (.map (some mb)) (.int .i64 (c : Int)) v).run Try.prog w = .ok () w' ∧ MP w' mb (n + 1) (fun x => if x = c then some v else f x) ∧ w.grownBy w' (some mb) := by
  obtain ⟨D, hD, h2⟩ := h
  have hm : Maps.IsMap D := by obtain ⟨es, clock, _, _, _, rfl⟩ := hD; exact ⟨_, rfl⟩
  obtain ⟨w', hrun, h3, h4⟩ := World.ownsMap.store hD lawInt Try.underlying47 (by unfold maxLen; omega) (Maps.keyOf_int_mk Try.underlying3 (ikey_wf hc)) (show RvP v = some (.held v, []) from rfl)
  refine ⟨w', hrun, ⟨_, h3, fun x hx => ?_⟩, h4.grown⟩
  by_cases e : x = c
  · subst e
    have := Maps.atKey_put_same hm (show WideAt.IsKeyLit (ikey x) from trivial) (DataW.held v) DataW.nil
    rw [this]
    dsimp only
    rw [if_pos rfl]
    rfl
  · rw [Maps.atKey_put_other (fun he => e (ikey_inj he))]
    dsimp only
    rw [if_neg e]
    exact h2 x hx
theorem zeroPiece (w : World) : (zeroValue 44).run Try.prog w = .ok (pv 0 0 0 none 0 0) w := by kernel_rfl
/-- v, ok := m[c]. -/
theorem MP.look {w : World} {mb n c : Nat} {f : Nat → Option Value} (h : MP w mb n f) (hc : c < 1000) : (Instr.lookup 47 (.map (some mb)) (.int .i64 (c : Int)) true).run Try.prog w = .ok (match f c with | some v => .tuple #[v, .bool true] | none => .tuple #[pv 0 0 0 none 0 0, .bool false]) w := by
  obtain ⟨D, ⟨es, clock, hb, F, _, rfl⟩, h2⟩ := h
  have h3 := h2 c hc
  rcases Maps.fit_look true lawInt Try.underlying47 (zeroPiece w) hb F (Maps.keyOf_int_mk Try.underlying3 (ikey_wf hc)) with ⟨hrun, _, hat⟩ | ⟨e0, y, _, _, hrun, hRv, hat, _⟩
  · rw [hat] at h3
    cases hf : f c with
    | none => exact hrun
    | some v => rw [hf] at h3; cases h3
  · rw [hat] at h3
    unfold RvP at hRv
    cases hRv
    cases hf : f c with
    | none => rw [hf] at h3; cases h3
    | some v =>
      rw [hf] at h3
      cases h3
      exact hrun
theorem mapP_put (w : World) {ops : Array Oper} {rest : List Oper} {o : Oper} {a : Act} {Q : Exit → Act → World → Prop} (hgd : o.guard = none) (m x v : Operand)
    (ho : o.op = .mapUpdate 47 m x v) (mb n c : Nat) (b : Value) (f : Nat → Option Value) (hm : a.eval m = .map (some mb)) (hx : a.eval x = .int .i64 (c : Int)) (hv : a.eval v = b)
    (hb : MP w mb n f) (hn : n ≤ 1000000) (hc : c < 1000)
    (h : ∀ w', MP w' mb (n + 1) (fun x => if x = c then some b else f x) → w.grownBy w' (some mb) → wpList Try.prog ops Q rest (a.put o.dst undef) w') : wpList Try.prog ops Q (o :: rest) a w := by
  obtain ⟨w', hrun, h1, h2⟩ := hb.store (v := b) hn hc
  refine wpList_plain hgd fun K hK => ?_
  unfold Oper.wp
  simp [execOp, ho, hm, hx, hv, hrun, Result.andThen]
  exact hK _ _ (h w' h1 h2)
/-- A map of pieces. -/
def MPL (w : World) (mb n : Nat) (g : Nat → Option Pc) : Prop := ∃ f, MP w mb n f ∧ ∀ c, c < 1000 → (g c = none ∧ f c = none) ∨ ∃ q v, g c = some q ∧ f c = some v ∧ PcV w v q
theorem MPL.keepN {w w' : World} {mb n : Nat} {g : Nat → Option Pc} (h : MPL w mb n g) (k : KeepN w w') : MPL w' mb n g := by
  obtain ⟨f, h1, h2⟩ := h
  refine ⟨f, h1.keepN k, fun c hc => (h2 c hc).imp (fun h => h) (fun ⟨q, v, a, b, d⟩ => ⟨q, v, a, b, d.keep k.b.bytes⟩)⟩
theorem MPL.below {w w' : World} {mb n : Nat} {g : Nat → Option Pc} (h : MPL w mb n g) (b : Below w.heap.size w w') : MPL w' mb n g := h.keepN (KeepN.of b)
theorem MPL.made (w : World) : MPL (w.alloc (.map #[] 0)) w.heap.size 0 (fun _ => none) := ⟨_, MP.made w, fun _ _ => Or.inl ⟨rfl, rfl⟩⟩
/-- Of a map that is turned nothing else is. -/
theorem keepN_map {w w' : World} {mb : Nat} (g : w.grownBy w' (some mb)) : ∀ k, k < w.heap.size → k ≠ mb → w'.heap[k]? = w.heap[k]? := fun k hk hn => g.block k hk (fun e => hn (by cases e; rfl))
theorem bytes_map {w w' : World} {mb : Nat} {es : Array MapEntry} {clock : Nat} (hb : w.heap[mb]? = some (.map es clock)) (g : w.grownBy w' (some mb)) : ∀ (k : Nat) (cs : Array Value) (t : TypeId) (fr : Nat × Nat), w.heap[k]? = some (Obj.cells cs t fr) → w'.heap[k]? = w.heap[k]? := fun k cs t fr hk => keepN_map g k (heap_lt hk) (by
  rintro rfl
  rw [hb] at hk
  cases hk)
theorem NdL.map {w0 v v' : World} {n p mb : Nat} {a : Ns} {es : Array MapEntry} {clock : Nat} (h : NdL w0 n p a v) (hb : v.heap[mb]? = some (.map es clock)) (hmb : w0.heap.size ≤ mb) (g : v.grownBy v' (some mb)) : NdL w0 n p a v' := by
  obtain ⟨r, sb, S, h1, h2, h3, h4⟩ := h
  refine ⟨r, sb, S, h1.keep (fun k hk => ?_) (fun k cs hk => bytes_map hb g k cs _ _ hk), h2, h3, Below.of_turn h4 (Turn.only (S := [mb]) g (by simp)) (fun k hk => by rw [List.mem_singleton] at hk; omega) h4.size⟩
  obtain ⟨cs, t, hc, _⟩ := h1.type k hk
  exact bytes_map hb g k cs t _ hc
theorem MPL.put {w w' : World} {mb n c : Nat} {g : Nat → Option Pc} {f : Nat → Option Value} {v : Value} {q : Pc} (h : ∀ c, c < 1000 → (g c = none ∧ f c = none) ∨ ∃ q v, g c = some q ∧ f c = some v ∧ PcV w v q) (hb : ∃ es clock, w.heap[mb]? = some (.map es clock)) (hm : MP w' mb n (fun x => if x = c then some v else f x)) (gr : w.grownBy w' (some mb)) (hv : PcV w v q) : MPL w' mb n (fun x => if x = c then some q else g x) := by
  obtain ⟨es, clock, hb⟩ := hb
  have kb : ∀ (k : Nat) (cs : Array Value), w.heap[k]? = some (Obj.cells cs 5 (0, 0)) → w'.heap[k]? = w.heap[k]? := fun k cs hk => bytes_map hb gr k cs _ _ hk
  refine ⟨_, hm, fun x hx => ?_⟩
  by_cases e : x = c
  · dsimp only
    rw [if_pos e, if_pos e]
    exact Or.inr ⟨q, v, rfl, rfl, hv.keep kb⟩
  · dsimp only
    rw [if_neg e, if_neg e]
    exact (h x hx).imp (fun h => h) (fun ⟨q, v, a, b, d⟩ => ⟨q, v, a, b, d.keep kb⟩)
/-- A store into a block of another kind. -/
theorem NdL.set {w0 v : World} {n p b k : Nat} {a : Ns} {cs : Array Value} {t : TypeId} {fr : Nat × Nat} {u : Value} (h : NdL w0 n p a v) (hb : v.heap[b]? = some (.cells cs t fr)) (hw : w0.heap.size ≤ b) (h0 : t ≠ 56) (h1 : t ≠ 71) (h2 : t ≠ 35) (h3 : t ≠ 95) (h4 : t ≠ 85) (h5 : t ≠ 83) (h6 : t ≠ 5) : NdL w0 n p a (v.setCell ⟨b, k, none⟩ u) := by
  obtain ⟨r, sb, S, a1, a2, a3, a4⟩ := h
  exact ⟨r, sb, S, a1.set hb h0 h1 h2 h3 h4 h5 h6, a2, a3, Below.of_turn a4 (Turn.set [b] v ⟨b, k, none⟩ u (by simp)) (fun j hj => by rw [List.mem_singleton] at hj; omega) a4.size⟩
theorem MPL.set {w : World} {mb n b k : Nat} {g : Nat → Option Pc} {cs : Array Value} {t : TypeId} {fr : Nat × Nat} {u : Value} (h : MPL w mb n g) (hb : w.heap[b]? = some (.cells cs t fr)) (ht : t ≠ 5) : MPL (w.setCell ⟨b, k, none⟩ u) mb n g := by
  obtain ⟨f, h1, h2⟩ := h
  obtain ⟨es, clock, hm⟩ := h1.block
  refine ⟨f, h1.keep (set_other (by rintro rfl; rw [hb] at hm; cases hm) _ _), fun c hc => (h2 c hc).imp (fun h => h) (fun ⟨q, v, a, b', d⟩ => ⟨q, v, a, b', d.keep (fun g' cs' hg => set_other (by
    rintro rfl
    rw [hb] at hg
    cases hg
    exact ht rfl) _ _)⟩)⟩
theorem PV.keepN {w w' : World} {b n c : Nat} {s g i : Int} {A : Option Addr} (h : PV w b s g i A n c) (k : KeepN w w') : PV w' b s g i A n c := (k.cells h (notNd (by decide) (by decide) (by decide) (by decide) (by decide) (by decide))).trans h
theorem PV.keepB {w w' : World} {b n c : Nat} {s g i : Int} {A : Option Addr} (h : PV w b s g i A n c) (k : Below w.heap.size w w') : PV w' b s g i A n c := (k.block b (heap_lt h)).trans h
theorem Blk8.keepN {w w' : World} {b n : Nat} {F : Nat → Nat} (h : Blk8 w b n F) (k : KeepN w w') : Blk8 w' b n F := by
  obtain ⟨cs, h1, h2⟩ := h
  exact ⟨cs, (k.cells h1 (notNd (by decide) (by decide) (by decide) (by decide) (by decide) (by decide))).trans h1, h2⟩
end Go.Proofs.Ytofmilkjhnkgjaa
