import Derived.Test.YtjgbfghkiahfaaaGreatDoorV20
import Derived.Test.YtjgbfghkiahfaaaGreatDoorV12
import Derived.Test.YtjgbfghkiahfaaaGreatDoorV08
import Derived.Test.YtjgbfghkiahfaaaGreatDoorV10
namespace Go.Proofs.YtjgbfghkiahfaaaGreatDoor
open Go.RowKit Go.Sort
set_option maxRecDepth 100000
set_option maxHeartbeats 1000000

theorem infoPiece : (Tryz.prog.info? 117).map (fun i => (i.zero, i.size, i.bytes)) = some (some (.agg #[.int .i64 0, .int .i64 0, .int .i64 0, .slice none 0 0]), 4, 48) := by kernel_rfl
/-- A piece's cells, from a place on. -/
def PcX (W : World) (x : Nat → Option Value) (p : Pc) : Prop := ∃ A c, x 0 = some (.int .i64 (p.s : Int)) ∧ x 1 = some (.int .i64 (p.g : Int)) ∧ x 2 = some (.int .i64 (p.i : Int)) ∧ x 3 = some (.slice A 32 c) ∧ Dat W A p.D
theorem PcX.keep {w w' : World} {x : Nat → Option Value} {p : Pc} (h : PcX w x p) (k : ∀ (g : Nat) (cs : Array Value), w.heap[g]? = some (Obj.cells cs 5 (0, 0)) → w'.heap[g]? = w.heap[g]?) : PcX w' x p := by
  obtain ⟨A, c, a, b, d, e, f⟩ := h
  exact ⟨A, c, a, b, d, e, f.keep k⟩
theorem PcX.congr {w : World} {x y : Nat → Option Value} {p : Pc} (h : PcX w x p) (e : ∀ k, k < 4 → y k = x k) : PcX w y p := by
  obtain ⟨A, c, a, b, d, f, g⟩ := h
  exact ⟨A, c, (e 0 (by omega)).trans a, (e 1 (by omega)).trans b, (e 2 (by omega)).trans d, (e 3 (by omega)).trans f, g⟩
/-- Pieces in a row of one's own. -/
def LP (W : World) (B : Nat) (v : Value) (l : List Pc) : Prop := ∃ xs, W.ownsRow B 117 4 v l.length xs ∧ ∀ i p, l[i]? = some p → PcX W (fun k => xs[4 * i + k]?) p
theorem LP.nil {W : World} {B : Nat} : LP W B (.slice none 0 0) [] := ⟨[], ⟨rfl, Or.inl ⟨rfl, rfl⟩⟩, fun i p hi => by simp at hi⟩
theorem LP.below {w w' : World} {B : Nat} {v : Value} {l : List Pc} (h : LP w B v l) (b : Below w.heap.size w w') : LP w' B v l := by
  obtain ⟨xs, ⟨h1, h2⟩, h3⟩ := h
  refine ⟨xs, ⟨h1, ?_⟩, fun i p hi => (h3 i p hi).keep (fun g _ hg => b.block g (heap_lt hg))⟩
  rcases h2 with h2 | ⟨g, cap, cur, hv, hg, hh, r⟩
  · exact Or.inl h2
  · exact Or.inr ⟨g, cap, cur, hv, hg, (b.block _ (heap_lt hh)).trans hh, r⟩
/-- append of one piece to a row of one's own. -/
theorem append_pc (w : World) {ops : Array Oper} {rest : List Oper} {o : Oper} {a : Act} {Q : Exit → Act → World → Prop} (hgd : o.guard = none) (s x : Operand)
    (ho : o.op = .call { callee := .builtin .append, args := #[s, x], argTypes := #[28, 28] })
    (base : Nat) (v : Value) (l : List Pc) (p : Pc) (hs : a.eval s = v) (hl : LP w base v l) (g : Nat) (A : Option Addr) (c : Nat) (hx : a.eval x = .slice (some ⟨g, 0, none⟩) 1 1)
    (hp : PV w g (p.s : Int) (p.g : Int) (p.i : Int) A 32 c) (hd : Dat w A p.D) (hn : l.length ≤ 1000000) (hbase : base ≤ w.heap.size)
    (h : ∀ v' w', LP w' base v' (l ++ [p]) → (∀ w0, Below base w0 w → Below base w0 w') → wpList Tryz.prog ops Q rest (a.put o.dst v') w') : wpList Tryz.prog ops Q (o :: rest) a w := by
  obtain ⟨i0, hi0, hz0, hz1, hz2⟩ := info_parts infoPiece
  obtain ⟨xs, hown, hxs⟩ := hl
  have hlen : xs.length = l.length * 4 := hown.1
  refine wpList_append_lies w hgd s x 28 ho base 117 i0 (.agg #[.int .i64 0, .int .i64 0, .int .i64 0, .slice none 0 0]) 4 48 Tryz.underlying28 hi0 hz0 hz1 hz2 rfl (by decide) v l.length xs hs hown ⟨g, 0, none⟩ 1 1 [.int .i64 (p.s : Int), .int .i64 (p.g : Int), .int .i64 (p.i : Int), .slice A 32 c] hx rfl (fun j u hj => ?_) (fun u hu => ?_) (by omega) (by unfold maxLen; omega) (by omega) hbase w.heap.size rfl (fun g' cap w' h2 h3 h4 h5 => ?_)
  · match j, hj with
    | 0, hj => simp at hj; subst hj; exact hp.c0
    | 1, hj => simp at hj; subst hj; exact hp.c1
    | 2, hj => simp at hj; subst hj; exact hp.c2
    | 3, hj => simp at hj; subst hj; exact hp.c3
  · simp at hu; rcases hu with rfl | rfl | rfl | rfl <;> rfl
  · have hbytes : ∀ (g : Nat) (cs : Array Value), w.heap[g]? = some (Obj.cells cs 5 (0, 0)) → w'.heap[g]? = w.heap[g]? := fun k cs hk => h3.block k (heap_lt hk) (by
      intro e
      rcases hown.2 with ⟨rfl, _⟩ | ⟨g1, cap1, cur, rfl, _, hh, _⟩
      · simp [Value.ownBlock] at e
      · simp [Value.ownBlock] at e; subst e; rw [hh] at hk; cases hk)
    refine h _ w' ⟨_, by simpa using h2, fun i q hi => ?_⟩ (fun w0 hb => Below.grown hb h3 hbase (own_ge hown))
    by_cases hil : i < l.length
    · rw [List.getElem?_append_left hil] at hi
      refine ((hxs i q hi).keep hbytes).congr (fun k hk => ?_)
      show (xs ++ _)[4 * i + k]? = xs[4 * i + k]?
      rw [List.getElem?_append_left (by omega)]
    · rw [List.getElem?_append_right (by omega)] at hi
      have hi0 : i = l.length := by
        have := (List.getElem?_eq_some_iff.1 hi).1
        simp at this
        omega
      subst hi0
      simp at hi
      subst hi
      have e : ∀ k, (xs ++ [Value.int .i64 (p.s : Int), .int .i64 (p.g : Int), .int .i64 (p.i : Int), .slice A 32 c])[4 * l.length + k]? = [Value.int .i64 (p.s : Int), .int .i64 (p.g : Int), .int .i64 (p.i : Int), .slice A 32 c][k]? := fun k => by
        rw [List.getElem?_append_right (by omega), show 4 * l.length + k - xs.length = k by omega]
      exact ⟨A, c, e 0, e 1, e 2, e 3, hd.keep hbytes⟩
/-- Pieces, as they are told. -/
def PL (W : World) (B : Nat) (v : Value) (l : List Pc) : Prop := (l = [] ∧ ∃ A c, v = .slice A 0 c) ∨ ∃ b c cur, v = .slice (some ⟨b, 0, none⟩) l.length c ∧ B ≤ b ∧ W.heap[b]? = some (.cells cur 117 (0, 0)) ∧ ∀ i p, l[i]? = some p → PcX W (fun k => cur[4 * i + k]?) p
theorem LP.pl {W : World} {B : Nat} {v : Value} {l : List Pc} (h : LP W B v l) : PL W B v l := by
  obtain ⟨xs, ⟨h1, h2⟩, h3⟩ := h
  rcases h2 with ⟨rfl, h0⟩ | ⟨g, cap, cur, rfl, hg, hh, hc, _, hsz, htake⟩
  · exact Or.inl ⟨List.length_eq_zero_iff.1 h0, _, _, rfl⟩
  · refine Or.inr ⟨g, cap, cur, rfl, hg, hh, fun i p hi => (h3 i p hi).congr (fun k hk => ?_)⟩
    have hi' := (List.getElem?_eq_some_iff.1 hi).1
    show cur[4 * i + k]? = xs[4 * i + k]?
    rw [← htake, List.getElem?_take_of_lt (by omega), Array.getElem?_toList]
theorem PL.form {W : World} {B : Nat} {v : Value} {l : List Pc} (h : PL W B v l) : ∃ A c, v = .slice A l.length c := by
  rcases h with ⟨rfl, A, c, rfl⟩ | ⟨b, c, cur, rfl, _⟩
  · exact ⟨A, c, rfl⟩
  · exact ⟨_, c, rfl⟩
theorem PL.keep {w w' : World} {B : Nat} {v : Value} {l : List Pc} (h : PL w B v l) (k : ∀ (g : Nat) (cs : Array Value) (t : TypeId), w.heap[g]? = some (Obj.cells cs t (0, 0)) → (t = 5 ∨ t = 117) → w'.heap[g]? = w.heap[g]?) : PL w' B v l := by
  rcases h with h | ⟨b, c, cur, hv, hb, hh, hx⟩
  · exact Or.inl h
  · exact Or.inr ⟨b, c, cur, hv, hb, (k b _ _ hh (Or.inr rfl)).trans hh, fun i p hi => (hx i p hi).keep (fun g cs hg => k g cs _ hg (Or.inl rfl))⟩
theorem PL.below {w w' : World} {B : Nat} {v : Value} {l : List Pc} (h : PL w B v l) (b : Below w.heap.size w w') : PL w' B v l := h.keep (fun g _ _ hg _ => b.block g (heap_lt hg))
theorem PL.mono {w : World} {B B' : Nat} {v : Value} {l : List Pc} (h : PL w B v l) (hB : B' ≤ B) : PL w B' v l := by
  rcases h with h | ⟨b, c, cur, hv, hb, r⟩
  · exact Or.inl h
  · exact Or.inr ⟨b, c, cur, hv, Nat.le_trans hB hb, r⟩
/-- One of them, read. -/
theorem PL.at {w : World} {B : Nat} {v : Value} {l : List Pc} {i : Nat} {p : Pc} (h : PL w B v l) (hi : l[i]? = some p) : ∃ b c A d, v = .slice (some ⟨b, 0, none⟩) l.length c ∧ B ≤ b ∧ b < w.heap.size ∧ w.cell? ⟨b, 4 * i, none⟩ = some (.int .i64 (p.s : Int)) ∧ w.cell? ⟨b, 4 * i + 1, none⟩ = some (.int .i64 (p.g : Int)) ∧ w.cell? ⟨b, 4 * i + 2, none⟩ = some (.int .i64 (p.i : Int)) ∧ w.cell? ⟨b, 4 * i + 3, none⟩ = some (.slice A 32 d) ∧ Dat w A p.D := by
  rcases h with ⟨rfl, _⟩ | ⟨b, c, cur, hv, hb, hh, hx⟩
  · simp at hi
  · obtain ⟨A, d, a0, a1, a2, a3, a4⟩ := hx i p hi
    exact ⟨b, c, A, d, hv, hb, heap_lt hh, (cell_of_block hh).trans a0, (cell_of_block hh).trans a1, (cell_of_block hh).trans a2, (cell_of_block hh).trans a3, a4⟩
/-- The greater gen first. -/
def srt : List Pc → List Pc
  | [p, q] => if p.g < q.g then [q, p] else [p, q]
  | l => l
theorem srt2 (p q : Pc) : srt [p, q] = if p.g < q.g then [q, p] else [p, q] := rfl
def SortRet (l : List Pc) (v : Value) (B : Nat) (w : World) (e : Ending) (w' : World) : Prop := e = .returned (.tuple #[]) ∧ PL w' B v (srt l) ∧ (∀ w0, Below B w0 w → Below B w0 w')
theorem PL.pv2 {w : World} {B : Nat} {v : Value} {p q : Pc} (h : PL w B v [p, q]) : ∃ b c A0 c0 A1 c1, v = .slice (some ⟨b, 0, none⟩) 2 c ∧ B ≤ b ∧ PV2 w b (p.s : Int) (p.g : Int) (p.i : Int) (q.s : Int) (q.g : Int) (q.i : Int) A0 A1 32 c0 32 c1 ∧ Dat w A0 p.D ∧ Dat w A1 q.D := by
  rcases h with ⟨h, _⟩ | ⟨b, c, cur, hv, hb, hh, hx⟩
  · cases h
  · obtain ⟨A0, c0, a0, a1, a2, a3, a4⟩ := hx 0 p rfl
    obtain ⟨A1, c1, b0, b1, b2, b3, b4⟩ := hx 1 q rfl
    exact ⟨b, c, A0, c0, A1, c1, hv, hb, ⟨cur, hh, a0, a1, a2, a3, b0, b1, b2, b3⟩, a4, b4⟩
theorem PL.of_pv2 {w : World} {B b c c0 c1 : Nat} {p q : Pc} {A0 A1 : Option Addr} (hb : B ≤ b) (h : PV2 w b (p.s : Int) (p.g : Int) (p.i : Int) (q.s : Int) (q.g : Int) (q.i : Int) A0 A1 32 c0 32 c1) (d0 : Dat w A0 p.D) (d1 : Dat w A1 q.D) : PL w B (.slice (some ⟨b, 0, none⟩) 2 c) [p, q] := by
  obtain ⟨cur, hh, a0, a1, a2, a3, b0, b1, b2, b3⟩ := h
  refine Or.inr ⟨b, c, cur, rfl, hb, hh, fun i x hi => ?_⟩
  match i, hi with
  | 0, hi => simp at hi; subst hi; exact ⟨A0, c0, a0, a1, a2, a3, d0⟩
  | 1, hi => simp at hi; subst hi; exact ⟨A1, c1, b0, b1, b2, b3, d1⟩
theorem csortl (l : List Pc) (v : Value) (B : Nat) (w : World) (h : PL w B v l) (hl : l.length ≤ 2) (hB : B ≤ w.heap.size) : Calls Tryz.prog 102 #[v, .func (.func 103) #[] #[]] w (SortRet l v B w) := by
  have hbelow : ∀ w' : World, Below w.heap.size w w' → ∀ w0, Below B w0 w → Below B w0 w' := fun w' b w0 h0 => h0.trans (b.mono hB)
  match l, h, hl with
  | [], h, _ =>
    obtain ⟨A, c, rfl⟩ := h.form
    exact csort A 0 c _ w _ (by omega) ((cinsert1 A 0 c _ w (by omega)).mono (by rintro e w' ⟨rfl, rfl⟩; exact ⟨rfl, rfl, h, fun _ h => h⟩))
  | [p], h, _ =>
    obtain ⟨A, c, rfl⟩ := h.form
    exact csort A 1 c _ w _ (by omega) ((cinsert1 A 1 c _ w (by omega)).mono (by rintro e w' ⟨rfl, rfl⟩; exact ⟨rfl, rfl, h, fun _ h => h⟩))
  | [p, q], h, _ =>
    obtain ⟨b, c, A0, c0, A1, c1, rfl, hb, h2, d0, d1⟩ := h.pv2
    by_cases hg : p.g < q.g
    · refine csort _ 2 c _ w _ (by omega) ((cinsert2s b c _ _ _ _ _ _ A0 A1 32 c0 32 c1 w h2 (by omega)).mono ?_)
      rintro e w' ⟨rfl, h3, ht⟩
      have hbyte : ∀ (g : Nat) (cs : Array Value), w.heap[g]? = some (Obj.cells cs 5 (0, 0)) → w'.heap[g]? = w.heap[g]? := fun k cs hk => ht.block k (heap_lt hk) (by
        intro e
        simp at e
        subst e
        obtain ⟨cur, hh, _⟩ := h2
        rw [hh] at hk
        cases hk)
      exact ⟨rfl, rfl, by rw [srt2, if_pos hg]; exact PL.of_pv2 hb h3 (d1.keep hbyte) (d0.keep hbyte), fun w0 h0 => Below.of_turn h0 ht (by intro k hk; simp at hk; omega) hB⟩
    · refine csort _ 2 c _ w _ (by omega) ((cinsert2 b c _ _ _ _ _ _ A0 A1 32 c0 32 c1 w h2 (by omega)).mono ?_)
      rintro e w' ⟨rfl, hb3⟩
      exact ⟨rfl, rfl, by rw [srt2, if_neg hg]; exact h.below hb3, hbelow w' hb3⟩
end Go.Proofs.YtjgbfghkiahfaaaGreatDoor
namespace Go.Proofs.YtjgbfghkiahfaaaGreatDoor
open Go.RowKit Go.Sort
set_option maxRecDepth 100000
set_option maxHeartbeats 1000000

/-- The block of a piece. -/
def atP (p : Pc) : Nat := 2 * p.s + p.g % 2
/-- chunk.Put. -/
def CPutRet (p : Nat) (S : List Nat) (N : Nat) (d : Disk) (x : Pc) (wr : Nat) (w : World) (e : Ending) (w' : World) : Prop :=
  ∃ S', e = .returned (.int .i64 0) ∧ Plt w' p S' N (d.write (atP x) (pcS x)) (wr + 1) ∧ Step S S' w w'
theorem cput {w : World} {p : Nat} {S : List Nat} {N : Nat} {d : Disk} {wr : Nat} (h : Plt w p S N d wr) (hN : 80 ≤ N) (x : Pc) (hx : x.Ok) (A : Option Addr) (c : Nat) (hA : Rd w A 32 x.D) (hwr : wr ≤ 1000000000) :
    Calls Tryz.prog 69 #[.pointer (some ⟨p, 0, none⟩), pv (x.s : Int) (x.g : Int) (x.i : Int) A 32 c] w (CPutRet p S N d x wr w) := by
  obtain ⟨w1, hw1⟩ : ∃ w1, w.alloc (.cells #[.int .i64 (x.s : Int), .int .i64 (x.g : Int), .int .i64 (x.i : Int), .slice A 32 c] 117) = w1 := ⟨_, rfl⟩
  have HW1 := Lib.hid hw1
  obtain ⟨H, hH⟩ : ∃ H, w.heap.size = H := ⟨_, rfl⟩
  have HH := Lib.hid hH
  have HK1 : Hid (PV w1 H (x.s : Int) (x.g : Int) (x.i : Int) A 32 c) := Lib.hid (by rw [← hw1, ← hH]; exact PV.new w _ _ _ _ _ _)
  have HB1 : Hid (Below w.heap.size w w1) := Lib.hid (by rw [← hw1]; exact (Below.refl _ _).alloc (Nat.le_refl _) _)
  have HP1 := Lib.hid (h.below HB1.out)
  have HBL := Lib.hid (dblocks HP1.out)
  have HL := Lib.hid (clay x A c w1 hx (hA.keep HB1.out))
  have HX := Lib.hid hx
  have hn1 : ¬ (N : Int) < 80 := by omega
  have c0 := HK1.out.c0
  have c1 := HK1.out.c1
  have c2 := HK1.out.c2
  have c3 := HK1.out.c3
  clear h hA hw1 hH hx
  unfold pv at HL ⊢
  go_enter Tryz.func69, Tryz.ntmps69
  go_wp2_with fail
  rw [HW1.out, HH.out]
  refine HBL.out.mono ?_
  rintro e w' ⟨rfl, hw⟩
  obtain rfl := hw.symm
  go_wp2_with fail
  refine HL.out.mono ?_
  rintro e w2 ⟨b, rfl, hk2, hb2, hl2⟩
  try dsimp only
  have HP2 := Lib.hid (HP1.out.below hb2)
  have HK2 := Lib.hid (HK1.out.below hb2)
  have HR2 := Lib.hid hk2.rd
  have HB2 : Hid (Below w.heap.size w w2) := Lib.hid (HB1.out.trans (hb2.mono HB1.out.size))
  have HPL := Lib.hid (cplace (x.s : Int) (x.g : Int) w2 (by have := HX.out.2.1; omega) (by have := HX.out.2.2.1; omega) (by omega) (by have := HX.out.1; omega))
  have e1 : (2 * (x.s : Int) + (x.g : Int) % 2) = ((atP x : Nat) : Int) := by unfold atP; omega
  have HAT : Hid (atP x < N) := Lib.hid (by have := HX.out.1; unfold atP; omega)
  rw [e1] at HPL
  have HDW := Lib.hid (dwrite (atP x) (some ⟨b, 0, none⟩) 160 (pcS x) HP2.out HAT.out HR2.out hwr)
  clear c0 c1 c2 c3 hk2 hb2 hl2 e1
  have c0 := HK2.out.c0
  have c1 := HK2.out.c1
  obtain ⟨k, hk⟩ : ∃ k, atP x = k := ⟨_, rfl⟩
  have HKK := Lib.hid hk
  rw [hk] at HPL HDW
  clear hk
  go_wp2_with fail
  refine HPL.out.mono ?_
  rintro e w' ⟨rfl, hw⟩
  obtain rfl := hw.symm
  go_wp2_with fail
  refine HDW.out.mono ?_
  rintro e w3 ⟨S', rfl, hp3, hs3⟩
  try dsimp only
  have HP3 := Lib.hid hp3
  have HS3 := Lib.hid hs3
  clear hp3 hs3
  go_wp2_with fail
  go_ret
  refine ⟨S', rfl, by rw [HKK.out]; exact HP3.out, ⟨(Turn.of HB2.out).trans HS3.out.turn, fun k hk => ?_⟩⟩
  rcases HS3.out.blocks k hk with h1 | h1
  · exact Or.inl h1
  · exact Or.inr (Nat.le_trans HB2.out.size h1)
theorem cput_nil (s g i : Int) (A : Option Addr) (n c : Nat) (w : World) :
    Calls Tryz.prog 69 #[.pointer none, pv s g i A n c] w fun e w' => e = .returned (.int .i64 1) ∧ Below w.heap.size w w' := by
  have HB1 : Hid (Below w.heap.size w (w.alloc (.cells #[.int .i64 s, .int .i64 g, .int .i64 i, .slice A n c] 117))) := Lib.hid ((Below.refl _ _).alloc (Nat.le_refl _) _)
  unfold pv
  go_enter Tryz.func69, Tryz.ntmps69
  go_wp2_with fail
  go_ret
  exact ⟨rfl, HB1.out⟩
theorem cput_small {w : World} {p : Nat} {S : List Nat} {N : Nat} {d : Disk} {wr : Nat} (h : Plt w p S N d wr) (hN : N < 80) (s g i : Int) (A : Option Addr) (n c : Nat) :
    Calls Tryz.prog 69 #[.pointer (some ⟨p, 0, none⟩), pv s g i A n c] w fun e w' => e = .returned (.int .i64 1) ∧ Below w.heap.size w w' := by
  have HB1 : Hid (Below w.heap.size w (w.alloc (.cells #[.int .i64 s, .int .i64 g, .int .i64 i, .slice A n c] 117))) := Lib.hid ((Below.refl _ _).alloc (Nat.le_refl _) _)
  have HBL := Lib.hid (dblocks (h.below HB1.out))
  have hn1 : (N : Int) < 80 := by omega
  clear h
  unfold pv
  go_enter Tryz.func69, Tryz.ntmps69
  go_wp2_with fail
  refine HBL.out.mono ?_
  rintro e w' ⟨rfl, hw⟩
  obtain rfl := hw.symm
  go_wp2_with fail
  go_ret
  exact ⟨rfl, HB1.out⟩
theorem cput_no {w : World} {p : Nat} {S : List Nat} {N : Nat} {d : Disk} {wr : Nat} (h : Plt w p S N d wr) (hN : 80 ≤ N) (s g i : Int) (A : Option Addr) (n c : Nat) (hx : ¬ OkI s g i n) :
    Calls Tryz.prog 69 #[.pointer (some ⟨p, 0, none⟩), pv s g i A n c] w fun e w' => e = .returned (.int .i64 1) ∧ Below w.heap.size w w' := by
  obtain ⟨w1, hw1⟩ : ∃ w1, w.alloc (.cells #[.int .i64 s, .int .i64 g, .int .i64 i, .slice A n c] 117) = w1 := ⟨_, rfl⟩
  have HW1 := Lib.hid hw1
  have HK1 : Hid (PV w1 w.heap.size s g i A n c) := Lib.hid (by rw [← hw1]; exact PV.new w _ _ _ _ _ _)
  have HB1 : Hid (Below w.heap.size w w1) := Lib.hid (by rw [← hw1]; exact (Below.refl _ _).alloc (Nat.le_refl _) _)
  have HBL := Lib.hid (dblocks (h.below HB1.out))
  have HL := Lib.hid (clay_no s g i A n c w1 hx)
  have hn1 : ¬ (N : Int) < 80 := by omega
  have c0 := HK1.out.c0
  have c1 := HK1.out.c1
  have c2 := HK1.out.c2
  have c3 := HK1.out.c3
  clear h hw1 hx
  unfold pv at HL ⊢
  go_enter Tryz.func69, Tryz.ntmps69
  go_wp2_with fail
  rw [HW1.out]
  refine HBL.out.mono ?_
  rintro e w' ⟨rfl, hw⟩
  obtain rfl := hw.symm
  go_wp2_with fail
  refine HL.out.mono ?_
  rintro e w2 ⟨rfl, hb2⟩
  try dsimp only
  have HB2 : Hid (Below w.heap.size w w2) := Lib.hid (HB1.out.trans (hb2.mono HB1.out.size))
  clear c0 c1 c2 c3 hb2
  go_wp2_with fail
  go_ret
  exact ⟨rfl, HB2.out⟩
end Go.Proofs.YtjgbfghkiahfaaaGreatDoor
