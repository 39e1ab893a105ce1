import Derived.Test.YtobkmohoepgfmaaGreatDoorV16
import Derived.Test.YtobkmohoepgfmaaGreatDoorV12
import Derived.Test.YtobkmohoepgfmaaGreatDoorV09
import Derived.Test.YtobkmohoepgfmaaGreatDoorV11
namespace Go.Proofs.YtobkmohoepgfmaaGreatDoor
open Go.RowKit Go.Sort
set_option maxRecDepth 100000
set_option maxHeartbeats 1000000

theorem infoPiece : (Tryz.prog.info? 162).map (fun i => (i.zero, i.size, i.bytes)) = some (some (.agg #[.int .i64 0, .int .i64 0, .int .i64 0, .slice none 0 0]), 4, 48) := by kernel_rfl
def PcX (W : World) (x : Nat → Option Value) (p : Pc) : Prop := ∃ A c, x 0 = some (.int .i64 (p.s : Int)) ∧ x 1 = some (.int .i64 (p.g : Int)) ∧ x 2 = some (.int .i64 (p.i : Int)) ∧ x 3 = some (.slice A 32 c) ∧ Dat W A p.D
theorem PcX.keep {w w' : World} {x : Nat → Option Value} {p : Pc} (h : PcX w x p) (k : ∀ (g : Nat) (cs : Array Value), w.heap[g]? = some (Obj.cells cs 5 (0, 0)) → w'.heap[g]? = w.heap[g]?) : PcX w' x p := by
 obtain ⟨A, c, a, b, d, e, f⟩ := h
 exact ⟨A, c, a, b, d, e, f.keep k⟩
theorem PcX.congr {w : World} {x y : Nat → Option Value} {p : Pc} (h : PcX w x p) (e : ∀ k, k < 4 → y k = x k) : PcX w y p := by
 obtain ⟨A, c, a, b, d, f, g⟩ := h
 exact ⟨A, c, (e 0 (by omega)).trans a, (e 1 (by omega)).trans b, (e 2 (by omega)).trans d, (e 3 (by omega)).trans f, g⟩
def LP (W : World) (B : Nat) (v : Value) (l : List Pc) : Prop := ∃ xs, W.ownsRow B 162 4 v l.length xs ∧ ∀ i p, l[i]? = some p → PcX W (fun k => xs[4 * i + k]?) p
theorem LP.nil {W : World} {B : Nat} : LP W B (.slice none 0 0) [] := ⟨[], ⟨rfl, Or.inl ⟨rfl, rfl⟩⟩, fun i p hi => by simp at hi⟩
theorem LP.below {w w' : World} {B : Nat} {v : Value} {l : List Pc} (h : LP w B v l) (b : Below w.heap.size w w') : LP w' B v l := by
 obtain ⟨xs, ⟨h1, h2⟩, h3⟩ := h
 refine ⟨xs, ⟨h1, ?_⟩, fun i p hi => (h3 i p hi).keep (fun g _ hg => b.block g (heap_lt hg))⟩
 rcases h2 with h2 | ⟨g, cap, cur, hv, hg, hh, r⟩
 ·exact Or.inl h2
 ·exact Or.inr ⟨g, cap, cur, hv, hg, (b.block _ (heap_lt hh)).trans hh, r⟩
theorem append_pc (w : World) {ops : Array Oper} {rest : List Oper} {o : Oper} {a : Act} {Q : Exit → Act → World → Prop} (hgd : o.guard = none) (s x : Operand)
  (ho : o.op = .call { callee := .builtin .append, args := #[s, x], argTypes := #[63, 63] })
  (base : Nat) (v : Value) (l : List Pc) (p : Pc) (hs : a.eval s = v) (hl : LP w base v l) (g : Nat) (A : Option Addr) (c : Nat) (hx : a.eval x = .slice (some ⟨g, 0, none⟩) 1 1)
  (hp : PV w g (p.s : Int) (p.g : Int) (p.i : Int) A 32 c) (hd : Dat w A p.D) (hn : l.length ≤ 1000000) (hbase : base ≤ w.heap.size)
  (h : ∀ v' w', LP w' base v' (l ++ [p]) → (∀ w0, Below base w0 w → Below base w0 w') → wpList Tryz.prog ops Q rest (a.put o.dst v') w') : wpList Tryz.prog ops Q (o :: rest) a w := by
 obtain ⟨i0, hi0, hz0, hz1, hz2⟩ := info_parts infoPiece
 obtain ⟨xs, hown, hxs⟩ := hl
 have hlen : xs.length = l.length * 4 := hown.1
 refine wpList_append_lies w hgd s x 63 ho base 162 i0 (.agg #[.int .i64 0, .int .i64 0, .int .i64 0, .slice none 0 0]) 4 48 Tryz.underlying63 hi0 hz0 hz1 hz2 rfl (by decide) v l.length xs hs hown ⟨g, 0, none⟩ 1 1 [.int .i64 (p.s : Int), .int .i64 (p.g : Int), .int .i64 (p.i : Int), .slice A 32 c] hx rfl (fun j u hj => ?_) (fun u hu => ?_) (by omega) (by unfold maxLen; omega) (by omega) hbase w.heap.size rfl (fun g' cap w' h2 h3 h4 h5 => ?_)
 ·match j, hj with
  | 0, hj => simp at hj; subst hj; exact hp.c0
  | 1, hj => simp at hj; subst hj; exact hp.c1
  | 2, hj => simp at hj; subst hj; exact hp.c2
  | 3, hj => simp at hj; subst hj; exact hp.c3
 ·simp at hu; rcases hu with rfl | rfl | rfl | rfl <;> rfl
 ·have hbytes : ∀ (g : Nat) (cs : Array Value), w.heap[g]? = some (Obj.cells cs 5 (0, 0)) → w'.heap[g]? = w.heap[g]? := fun k cs hk => h3.block k (heap_lt hk) (by
   intro e
   rcases hown.2 with ⟨rfl, _⟩ | ⟨g1, cap1, cur, rfl, _, hh, _⟩
   ·simp [Value.ownBlock] at e
   ·simp [Value.ownBlock] at e; subst e; rw [hh] at hk; cases hk)
  refine h _ w' ⟨_, by simpa using h2, fun i q hi => ?_⟩ (fun w0 hb => Below.grown hb h3 hbase (own_ge hown))
  by_cases hil : i < l.length
  ·rw [List.getElem?_append_left hil] at hi
   refine ((hxs i q hi).keep hbytes).congr (fun k hk => ?_)
   show (xs ++ _)[4 * i + k]? = xs[4 * i + k]?
   rw [List.getElem?_append_left (by omega)]
  ·rw [List.getElem?_append_right (by omega)] at hi
   have hi0 : i = l.length := by
    have := (List.getElem?_eq_some_iff.1 hi).1
    simp at this
    omega
   subst hi0
   simp at hi
   subst hi
   have e : ∀ k, (xs ++ [Value.int .i64 (p.s : Int), .int .i64 (p.g : Int), .int .i64 (p.i : Int), .slice A 32 c])[4 * l.length + k]? = [Value.int .i64 (p.s : Int), .int .i64 (p.g : Int), .int .i64 (p.i : Int), .slice A 32 c][k]? := fun k => by
    rw [List.getElem?_append_right (by omega), show 4 * l.length + k - xs.length = k by omega]
   exact ⟨A, c, e 0, e 1, e 2, e 3, hd.keep hbytes⟩
def PL (W : World) (B : Nat) (v : Value) (l : List Pc) : Prop := (l = [] ∧ ∃ A c, v = .slice A 0 c) ∨ ∃ b c cur, v = .slice (some ⟨b, 0, none⟩) l.length c ∧ B ≤ b ∧ W.heap[b]? = some (.cells cur 162 (0, 0)) ∧ ∀ i p, l[i]? = some p → PcX W (fun k => cur[4 * i + k]?) p
theorem LP.pl {W : World} {B : Nat} {v : Value} {l : List Pc} (h : LP W B v l) : PL W B v l := by
 obtain ⟨xs, ⟨h1, h2⟩, h3⟩ := h
 rcases h2 with ⟨rfl, h0⟩ | ⟨g, cap, cur, rfl, hg, hh, hc, _, hsz, htake⟩
 ·exact Or.inl ⟨List.length_eq_zero_iff.1 h0, _, _, rfl⟩
 ·refine Or.inr ⟨g, cap, cur, rfl, hg, hh, fun i p hi => (h3 i p hi).congr (fun k hk => ?_)⟩
  have hi' := (List.getElem?_eq_some_iff.1 hi).1
  show cur[4 * i + k]? = xs[4 * i + k]?
  rw [← htake, List.getElem?_take_of_lt (by omega), Array.getElem?_toList]
theorem PL.form {W : World} {B : Nat} {v : Value} {l : List Pc} (h : PL W B v l) : ∃ A c, v = .slice A l.length c := by
 rcases h with ⟨rfl, A, c, rfl⟩ | ⟨b, c, cur, rfl, _⟩
 ·exact ⟨A, c, rfl⟩
 ·exact ⟨_, c, rfl⟩
theorem PL.keep {w w' : World} {B : Nat} {v : Value} {l : List Pc} (h : PL w B v l) (k : ∀ (g : Nat) (cs : Array Value) (t : TypeId), w.heap[g]? = some (Obj.cells cs t (0, 0)) → (t = 5 ∨ t = 162) → w'.heap[g]? = w.heap[g]?) : PL w' B v l := by
 rcases h with h | ⟨b, c, cur, hv, hb, hh, hx⟩
 ·exact Or.inl h
 ·exact Or.inr ⟨b, c, cur, hv, hb, (k b _ _ hh (Or.inr rfl)).trans hh, fun i p hi => (hx i p hi).keep (fun g cs hg => k g cs _ hg (Or.inl rfl))⟩
theorem PL.below {w w' : World} {B : Nat} {v : Value} {l : List Pc} (h : PL w B v l) (b : Below w.heap.size w w') : PL w' B v l := h.keep (fun g _ _ hg _ => b.block g (heap_lt hg))
theorem PL.mono {w : World} {B B' : Nat} {v : Value} {l : List Pc} (h : PL w B v l) (hB : B' ≤ B) : PL w B' v l := by
 rcases h with h | ⟨b, c, cur, hv, hb, r⟩
 ·exact Or.inl h
 ·exact Or.inr ⟨b, c, cur, hv, Nat.le_trans hB hb, r⟩
theorem PL.at {w : World} {B : Nat} {v : Value} {l : List Pc} {i : Nat} {p : Pc} (h : PL w B v l) (hi : l[i]? = some p) : ∃ b c A d, v = .slice (some ⟨b, 0, none⟩) l.length c ∧ B ≤ b ∧ b < w.heap.size ∧ w.cell? ⟨b, 4 * i, none⟩ = some (.int .i64 (p.s : Int)) ∧ w.cell? ⟨b, 4 * i + 1, none⟩ = some (.int .i64 (p.g : Int)) ∧ w.cell? ⟨b, 4 * i + 2, none⟩ = some (.int .i64 (p.i : Int)) ∧ w.cell? ⟨b, 4 * i + 3, none⟩ = some (.slice A 32 d) ∧ Dat w A p.D := by
 rcases h with ⟨rfl, _⟩ | ⟨b, c, cur, hv, hb, hh, hx⟩
 ·simp at hi
 ·obtain ⟨A, d, a0, a1, a2, a3, a4⟩ := hx i p hi
  exact ⟨b, c, A, d, hv, hb, heap_lt hh, (cell_of_block hh).trans a0, (cell_of_block hh).trans a1, (cell_of_block hh).trans a2, (cell_of_block hh).trans a3, a4⟩
def srt : List Pc → List Pc
 | [p, q] => if p.g < q.g then [q, p] else [p, q]
 | l => l
theorem srt2 (p q : Pc) : srt [p, q] = if p.g < q.g then [q, p] else [p, q] := rfl
def SortRet (l : List Pc) (v : Value) (B : Nat) (w : World) (e : Ending) (w' : World) : Prop := e = .returned (.tuple #[]) ∧ PL w' B v (srt l) ∧ (∀ w0, Below B w0 w → Below B w0 w')
theorem PL.pv2 {w : World} {B : Nat} {v : Value} {p q : Pc} (h : PL w B v [p, q]) : ∃ b c A0 c0 A1 c1, v = .slice (some ⟨b, 0, none⟩) 2 c ∧ B ≤ b ∧ PV2 w b (p.s : Int) (p.g : Int) (p.i : Int) (q.s : Int) (q.g : Int) (q.i : Int) A0 A1 32 c0 32 c1 ∧ Dat w A0 p.D ∧ Dat w A1 q.D := by
 rcases h with ⟨h, _⟩ | ⟨b, c, cur, hv, hb, hh, hx⟩
 ·cases h
 ·obtain ⟨A0, c0, a0, a1, a2, a3, a4⟩ := hx 0 p rfl
  obtain ⟨A1, c1, b0, b1, b2, b3, b4⟩ := hx 1 q rfl
  exact ⟨b, c, A0, c0, A1, c1, hv, hb, ⟨cur, hh, a0, a1, a2, a3, b0, b1, b2, b3⟩, a4, b4⟩
theorem PL.of_pv2 {w : World} {B b c c0 c1 : Nat} {p q : Pc} {A0 A1 : Option Addr} (hb : B ≤ b) (h : PV2 w b (p.s : Int) (p.g : Int) (p.i : Int) (q.s : Int) (q.g : Int) (q.i : Int) A0 A1 32 c0 32 c1) (d0 : Dat w A0 p.D) (d1 : Dat w A1 q.D) : PL w B (.slice (some ⟨b, 0, none⟩) 2 c) [p, q] := by
 obtain ⟨cur, hh, a0, a1, a2, a3, b0, b1, b2, b3⟩ := h
 refine Or.inr ⟨b, c, cur, rfl, hb, hh, fun i x hi => ?_⟩
 match i, hi with
 | 0, hi => simp at hi; subst hi; exact ⟨A0, c0, a0, a1, a2, a3, d0⟩
 | 1, hi => simp at hi; subst hi; exact ⟨A1, c1, b0, b1, b2, b3, d1⟩
theorem csortl (l : List Pc) (v : Value) (B : Nat) (w : World) (h : PL w B v l) (hl : l.length ≤ 2) (hB : B ≤ w.heap.size) : Calls Tryz.prog 191 #[v, .func (.func 192) #[] #[]] w (SortRet l v B w) := by
 have hbelow : ∀ w' : World, Below w.heap.size w w' → ∀ w0, Below B w0 w → Below B w0 w' := fun w' b w0 h0 => h0.trans (b.mono hB)
 match l, h, hl with
 | [], h, _ =>
  obtain ⟨A, c, rfl⟩ := h.form
  exact csort A 0 c _ w _ (by omega) ((cinsert1 A 0 c _ w (by omega)).mono (by rintro e w' ⟨rfl, rfl⟩; exact ⟨rfl, rfl, h, fun _ h => h⟩))
 | [p], h, _ =>
  obtain ⟨A, c, rfl⟩ := h.form
  exact csort A 1 c _ w _ (by omega) ((cinsert1 A 1 c _ w (by omega)).mono (by rintro e w' ⟨rfl, rfl⟩; exact ⟨rfl, rfl, h, fun _ h => h⟩))
 | [p, q], h, _ =>
  obtain ⟨b, c, A0, c0, A1, c1, rfl, hb, h2, d0, d1⟩ := h.pv2
  by_cases hg : p.g < q.g
  ·refine csort _ 2 c _ w _ (by omega) ((cinsert2s b c _ _ _ _ _ _ A0 A1 32 c0 32 c1 w h2 (by omega)).mono ?_)
   rintro e w' ⟨rfl, h3, ht⟩
   have hbyte : ∀ (g : Nat) (cs : Array Value), w.heap[g]? = some (Obj.cells cs 5 (0, 0)) → w'.heap[g]? = w.heap[g]? := fun k cs hk => ht.block k (heap_lt hk) (by
    intro e
    simp at e
    subst e
    obtain ⟨cur, hh, _⟩ := h2
    rw [hh] at hk
    cases hk)
   exact ⟨rfl, rfl, by rw [srt2, if_pos hg]; exact PL.of_pv2 hb h3 (d1.keep hbyte) (d0.keep hbyte), fun w0 h0 => Below.of_turn h0 ht (by intro k hk; simp at hk; omega) hB⟩
  ·refine csort _ 2 c _ w _ (by omega) ((cinsert2 b c _ _ _ _ _ _ A0 A1 32 c0 32 c1 w h2 (by omega)).mono ?_)
   rintro e w' ⟨rfl, hb3⟩
   exact ⟨rfl, rfl, by rw [srt2, if_neg hg]; exact h.below hb3, hbelow w' hb3⟩
end Go.Proofs.YtobkmohoepgfmaaGreatDoor
namespace Go.Proofs.YtobkmohoepgfmaaGreatDoor
open Go.RowKit Go.Sort
set_option maxRecDepth 100000
set_option maxHeartbeats 1000000

def atP (p : Pc) : Nat := 2 * p.s + p.g % 2
def CPutRet (p : Nat) (S : List Nat) (N : Nat) (d : Disk) (x : Pc) (wr : Nat) (w : World) (e : Ending) (w' : World) : Prop :=
 ∃ S', e = .returned (.int .i64 0) ∧ Plt w' p S' N (d.write (atP x) (pcS x)) (wr + 1) ∧ Step S S' w w'
theorem cput {w : World} {p : Nat} {S : List Nat} {N : Nat} {d : Disk} {wr : Nat} (h : Plt w p S N d wr) (hN : 80 ≤ N) (x : Pc) (hx : x.Ok) (A : Option Addr) (c : Nat) (hA : Rd w A 32 x.D) (hwr : wr ≤ 1000000000) :
  Calls Tryz.prog 146 #[.pointer (some ⟨p, 0, none⟩), pv (x.s : Int) (x.g : Int) (x.i : Int) A 32 c] w (CPutRet p S N d x wr w) := by
 obtain ⟨w1, hw1⟩ : ∃ w1, w.alloc (.cells #[.int .i64 (x.s : Int), .int .i64 (x.g : Int), .int .i64 (x.i : Int), .slice A 32 c] 162) = w1 := ⟨_, rfl⟩
 have HW1 := Lib.hid hw1
 obtain ⟨H, hH⟩ : ∃ H, w.heap.size = H := ⟨_, rfl⟩
 have HH := Lib.hid hH
 have HK1 : Hid (PV w1 H (x.s : Int) (x.g : Int) (x.i : Int) A 32 c) := Lib.hid (by rw [← hw1, ← hH]; exact PV.new w _ _ _ _ _ _)
 have HB1 : Hid (Below w.heap.size w w1) := Lib.hid (by rw [← hw1]; exact (Below.refl _ _).alloc (Nat.le_refl _) _)
 have HP1 := Lib.hid (h.below HB1.out)
 have HBL := Lib.hid (dblocks HP1.out)
 have HL := Lib.hid (clay x A c w1 hx (hA.keep HB1.out))
 have HX := Lib.hid hx
 have hn1 : ¬ (N : Int) < 80 := by omega
 have c0 := HK1.out.c0
 have c1 := HK1.out.c1
 have c2 := HK1.out.c2
 have c3 := HK1.out.c3
 clear h hA hw1 hH hx
 unfold pv at HL ⊢
 go_enter Tryz.func146, Tryz.ntmps146
 go_wp2_with fail
 rw [HW1.out, HH.out]
 refine HBL.out.mono ?_
 rintro e w' ⟨rfl, hw⟩
 obtain rfl := hw.symm
 go_wp2_with fail
 refine HL.out.mono ?_
 rintro e w2 ⟨b, rfl, hk2, hb2, hl2⟩
 try dsimp only
 have HP2 := Lib.hid (HP1.out.below hb2)
 have HK2 := Lib.hid (HK1.out.below hb2)
 have HR2 := Lib.hid hk2.rd
 have HB2 : Hid (Below w.heap.size w w2) := Lib.hid (HB1.out.trans (hb2.mono HB1.out.size))
 have HPL := Lib.hid (cplace (x.s : Int) (x.g : Int) w2 (by have := HX.out.2.1; omega) (by have := HX.out.2.2.1; omega) (by omega) (by have := HX.out.1; omega))
 have e1 : (2 * (x.s : Int) + (x.g : Int) % 2) = ((atP x : Nat) : Int) := by unfold atP; omega
 have HAT : Hid (atP x < N) := Lib.hid (by have := HX.out.1; unfold atP; omega)
 rw [e1] at HPL
 have HDW := Lib.hid (dwrite (atP x) (some ⟨b, 0, none⟩) 160 (pcS x) HP2.out HAT.out HR2.out hwr)
 clear c0 c1 c2 c3 hk2 hb2 hl2 e1
 have c0 := HK2.out.c0
 have c1 := HK2.out.c1
 obtain ⟨k, hk⟩ : ∃ k, atP x = k := ⟨_, rfl⟩
 have HKK := Lib.hid hk
 rw [hk] at HPL HDW
 clear hk
 go_wp2_with fail
 refine HPL.out.mono ?_
 rintro e w' ⟨rfl, hw⟩
 obtain rfl := hw.symm
 go_wp2_with fail
 refine HDW.out.mono ?_
 rintro e w3 ⟨S', rfl, hp3, hs3⟩
 try dsimp only
 have HP3 := Lib.hid hp3
 have HS3 := Lib.hid hs3
 clear hp3 hs3
 go_wp2_with fail
 go_ret
 refine ⟨S', rfl, by rw [HKK.out]; exact HP3.out, ⟨(Turn.of HB2.out).trans HS3.out.turn, fun k hk => ?_⟩⟩
 rcases HS3.out.blocks k hk with h1 | h1
 ·exact Or.inl h1
 ·exact Or.inr (Nat.le_trans HB2.out.size h1)
theorem cput_no {w : World} {p : Nat} {S : List Nat} {N : Nat} {d : Disk} {wr : Nat} (h : Plt w p S N d wr) (hN : 80 ≤ N) (s g i : Int) (A : Option Addr) (n c : Nat) (hx : ¬ OkI s g i n) :
  Calls Tryz.prog 146 #[.pointer (some ⟨p, 0, none⟩), pv s g i A n c] w fun e w' => e = .returned (.int .i64 1) ∧ Below w.heap.size w w' := by
 obtain ⟨w1, hw1⟩ : ∃ w1, w.alloc (.cells #[.int .i64 s, .int .i64 g, .int .i64 i, .slice A n c] 162) = w1 := ⟨_, rfl⟩
 have HW1 := Lib.hid hw1
 have HK1 : Hid (PV w1 w.heap.size s g i A n c) := Lib.hid (by rw [← hw1]; exact PV.new w _ _ _ _ _ _)
 have HB1 : Hid (Below w.heap.size w w1) := Lib.hid (by rw [← hw1]; exact (Below.refl _ _).alloc (Nat.le_refl _) _)
 have HBL := Lib.hid (dblocks (h.below HB1.out))
 have HL := Lib.hid (clay_no s g i A n c w1 hx)
 have hn1 : ¬ (N : Int) < 80 := by omega
 have c0 := HK1.out.c0
 have c1 := HK1.out.c1
 have c2 := HK1.out.c2
 have c3 := HK1.out.c3
 clear h hw1 hx
 unfold pv at HL ⊢
 go_enter Tryz.func146, Tryz.ntmps146
 go_wp2_with fail
 rw [HW1.out]
 refine HBL.out.mono ?_
 rintro e w' ⟨rfl, hw⟩
 obtain rfl := hw.symm
 go_wp2_with fail
 refine HL.out.mono ?_
 rintro e w2 ⟨rfl, hb2⟩
 try dsimp only
 have HB2 : Hid (Below w.heap.size w w2) := Lib.hid (HB1.out.trans (hb2.mono HB1.out.size))
 clear c0 c1 c2 c3 hb2
 go_wp2_with fail
 go_ret
 exact ⟨rfl, HB2.out⟩
end Go.Proofs.YtobkmohoepgfmaaGreatDoor
namespace Go.Proofs.YtobkmohoepgfmaaGreatDoor
open Go.RowKit Go.Sort
set_option maxRecDepth 100000
set_option maxHeartbeats 1000000

def HasP (F : Nat → Nat) (s t : Nat) : Prop := IsPc F ∧ (rdP F).s = s ∧ (rdP F).g % 2 = t
def ReadRet (p : Pc) (w : World) (e : Ending) (w' : World) : Prop := ∃ A c, e = .returned (.tuple #[pv (p.s : Int) (p.g : Int) (p.i : Int) A 32 c, .bool true]) ∧ Dat w' A p.D ∧ Below w.heap.size w w'
theorem cread_yes (g q cap : Nat) (F : Nat → Nat) (w : World) (h : Rd w (some ⟨g, q, none⟩) 160 F) (hc : 160 ≤ cap) (hF : ∀ j, j < 160 → F j < 256) (hP : IsPc F) :
  Calls Tryz.prog 190 #[.slice (some ⟨g, q, none⟩) 160 cap] w (ReadRet (rdP F) w) :=
 cread g q cap F w _ h hc hF (fun n => absurd hP n) (fun _ A c _ hd _ hb => ⟨A, c, rfl, hd, hb⟩)
theorem cread_no (g q cap : Nat) (F : Nat → Nat) (w : World) (h : Rd w (some ⟨g, q, none⟩) 160 F) (hc : 160 ≤ cap) (hF : ∀ j, j < 160 → F j < 256) (hP : ¬ IsPc F) :
  Calls Tryz.prog 190 #[.slice (some ⟨g, q, none⟩) 160 cap] w fun e w' => e = .returned (.tuple #[pv 0 0 0 none 0 0, .bool false]) ∧ Below w.heap.size w w' :=
 cread g q cap F w _ h hc hF (fun _ _ hb => ⟨rfl, hb⟩) (fun n => absurd n hP)
def col (b : Nat → Bool) (P : Nat → Pc) : Nat → List Pc
 | 0 => []
 | k + 1 => if b k then col b P k ++ [P k] else col b P k
theorem col_len (b : Nat → Bool) (P : Nat → Pc) : ∀ k, (col b P k).length ≤ k
 | 0 => Nat.le_refl _
 | k + 1 => by
  have := col_len b P k
  unfold col
  split
  ·simp; omega
  ·omega
def Bd (d : Disk) : Prop := ∀ k j, j < 160 → d.now k j < 256
def CGetRet (l : List Pc) (w : World) (e : Ending) (w' : World) : Prop := ∃ v, e = .returned v ∧ PL w' w.heap.size v l ∧ Below w.heap.size w w'
theorem cget {w : World} {p : Nat} {S : List Nat} {N : Nat} {d : Disk} {nw : Nat} (h : Plt w p S N d nw) (hbd : Bd d) (s : Nat) (hs : 2 * s + 1 < N) (b_ : Nat → Bool) (hb : ∀ k, k < 2 → (b_ k = true ↔ HasP (d.now (2 * s + k)) s k)) :
  Calls Tryz.prog 170 #[.pointer (some ⟨p, 0, none⟩), .int .i64 (s : Int)] w (CGetRet (srt (col b_ (fun k => rdP (d.now (2 * s + k))) 2)) w) := by
 have hN : N ≤ 1000 := by obtain ⟨db, nb, pv, h1, _, _⟩ := h; exact h1.n2
 have HP := Lib.hid h
 have HBD := Lib.hid hbd
 have HBB := Lib.hid hb
 obtain ⟨H, hH⟩ : ∃ H, w.heap.size = H := ⟨_, rfl⟩
 have HH := Lib.hid hH
 rw [show CGetRet (srt (col b_ (fun k => rdP (d.now (2 * s + k))) 2)) w = fun e w' => ∃ v, e = .returned v ∧ PL w' H v (srt (col b_ (fun k => rdP (d.now (2 * s + k))) 2)) ∧ Below H w w' by rw [← hH]; rfl]
 obtain ⟨L, hL⟩ : ∃ L : Nat → List Pc, L = col b_ (fun k => rdP (d.now (2 * s + k))) := ⟨_, rfl⟩
 have HL := Lib.hid hL
 rw [← hL]
 clear h hbd hb hH hL
 go_enter Tryz.func170, Tryz.ntmps170
 go_wp2_with fail
 go_loopg [5, 14] 2 (fun q s5 s14 v => ∃ i : Nat, s14 = .int .i64 (i : Int) ∧ i ≤ 2 ∧ q = 2 - i ∧ Hid (LP v H s5 (L i) ∧ Below H w v))
 case atStart => exact ⟨0, rfl, by omega, rfl, Lib.hid ⟨by rw [HL.out]; exact LP.nil, by rw [← HH.out]; exact Below.refl _ _⟩⟩
 case round =>
  obtain ⟨i, rfl, hi, rfl, HV⟩ := hrel
  by_cases hlt : i < 2
  ·have hl : (i : Int) < 2 := by omega
   have HB1 : Hid (Below w.heap.size w wr) := Lib.hid (by rw [HH.out]; exact HV.out.2)
   have HP1 := Lib.hid (HP.out.below HB1.out)
   have HPL := Lib.hid (cplace (s : Int) (i : Int) wr (by omega) (by omega) (by omega) (by omega))
   have e1 : 2 * (s : Int) + (i : Int) % 2 = ((2 * s + i : Nat) : Int) := by omega
   rw [e1] at HPL
   clear e1
   obtain ⟨at_, hat⟩ : ∃ at_, 2 * s + i = at_ := ⟨_, rfl⟩
   have HAT := Lib.hid hat
   have HRD := Lib.hid (dread at_ HP1.out (by omega))
   have hbi := HBB.out i hlt
   have HFB : Hid (∀ j, j < 160 → d.now at_ j < 256) := Lib.hid (HBD.out at_)
   rw [hat] at hbi HPL
   have HLS : Hid (L (i + 1) = if b_ i then L i ++ [rdP (d.now at_)] else L i) := Lib.hid (by rw [HL.out, ← hat]; rfl)
   obtain ⟨F, hF⟩ : ∃ F, d.now at_ = F := ⟨_, rfl⟩
   rw [hF] at HRD hbi HFB HLS
   clear hat hF
   have HBI := Lib.hid hbi
   clear hbi
   go_wp2_with fail
   refine HPL.out.mono ?_
   rintro e w' ⟨rfl, hw⟩
   obtain rfl := hw.symm
   go_wp2_with fail
   refine HRD.out.mono ?_
   rintro e w2 ⟨g2, cap2, rfl, k2, b2, l2, hc2⟩
   try dsimp only
   have HB2 : Hid (Below H w w2) := Lib.hid (HV.out.2.trans (b2.mono (by rw [← HH.out]; exact HB1.out.size)))
   have HLP2 := Lib.hid (HV.out.1.below b2)
   have HRD2 := Lib.hid k2.rd
   clear k2 b2 l2
   have h160 : 160 ≤ cap2 := hc2
   clear hc2
   by_cases hP : IsPc F
   ·have HRY := Lib.hid (cread_yes g2 0 cap2 F w2 HRD2.out h160 HFB.out hP)
    have HPP := Lib.hid hP
    clear hP
    obtain ⟨x, hx⟩ : ∃ x, rdP F = x := ⟨_, rfl⟩
    have HX := Lib.hid hx
    rw [hx] at HRY HLS
    clear hx
    go_wp2_with fail
    refine HRY.out.mono ?_
    rintro e w3 ⟨A3, c3, rfl, d3, b3⟩
    try dsimp only
    have HB3 : Hid (Below H w w3) := Lib.hid (HB2.out.trans (b3.mono (by rw [← HH.out]; exact HB2.out.size)))
    have HLP3 := Lib.hid (HLP2.out.below b3)
    have HD3 := Lib.hid d3
    have bg : x.g ≤ 1099511627776 := by have h := HPP.out; unfold IsPc at h; have := h.2.2.2.2.2.2.1; rw [HX.out] at this; exact this
    clear b3 d3
    obtain ⟨w4, hw4⟩ : ∃ w4, w3.alloc (.cells #[.int .i64 (x.s : Int), .int .i64 (x.g : Int), .int .i64 (x.i : Int), .slice A3 32 c3] 162) = w4 := ⟨_, rfl⟩
    have HW4 := Lib.hid hw4
    have b4 : Below w3.heap.size w3 w4 := by rw [← hw4]; exact (Below.refl _ _).alloc (Nat.le_refl _) _
    have HK4 : Hid (PV w4 w3.heap.size (x.s : Int) (x.g : Int) (x.i : Int) A3 32 c3) := Lib.hid (by rw [← hw4]; exact PV.new w3 _ _ _ _ _ _)
    have HB4 : Hid (Below H w w4) := Lib.hid (HB3.out.trans (b4.mono (by rw [← HH.out]; exact HB3.out.size)))
    have HLP4 := Lib.hid (HLP3.out.below b4)
    have HD4 := Lib.hid (HD3.out.below b4)
    have z0 := HK4.out.c0
    have z1 := HK4.out.c1
    have z2 := HK4.out.c2
    have z3 := HK4.out.c3
    obtain ⟨b, hb3⟩ : ∃ b, w3.heap.size = b := ⟨_, rfl⟩
    have HB3S := Lib.hid hb3
    rw [hb3] at z0 z1 z2 z3 HK4
    clear hw4 b4 hb3
    by_cases hs' : x.s = s
    ·have es : ((x.s : Int) == (s : Int)) = true := beq_iff_eq.2 (by omega)
     have HPL2 := Lib.hid (cplace (s : Int) (x.g : Int) w4 (by omega) (by omega) (by omega) (by omega))
     have HSS := Lib.hid hs'
     clear hs'
     obtain ⟨k2, hk2⟩ : ∃ k2 : Nat, 2 * s + x.g % 2 = k2 := ⟨_, rfl⟩
     have e2 : 2 * (s : Int) + (x.g : Int) % 2 = (k2 : Int) := by omega
     rw [e2] at HPL2
     clear e2
     have HK2 := Lib.hid hk2
     clear hk2
     by_cases hk : k2 = at_
     ·have ek : ((k2 : Int) == (at_ : Int)) = true := beq_iff_eq.2 (by omega)
      have HBT : Hid (b_ i = true) := Lib.hid (HBI.out.2 ⟨HPP.out, by rw [HX.out]; exact HSS.out, by rw [HX.out]; have := HK2.out; have := HAT.out; omega⟩)
      rw [HBT.out] at HLS
      clear hk
      go_wp2_with fail
      rw [HW4.out, HB3S.out]
      have b5 : Below w4.heap.size w4 (w4.alloc (.cells #[.int .i64 (x.s : Int), .int .i64 (x.g : Int), .int .i64 (x.i : Int), .slice A3 32 c3] 162)) := (Below.refl _ _).alloc (Nat.le_refl _) _
      have HK5 := Lib.hid (PV.new w4 (x.s : Int) (x.g : Int) (x.i : Int) A3 32 c3)
      have HB5 : Hid (Below H w (w4.alloc (.cells #[.int .i64 (x.s : Int), .int .i64 (x.g : Int), .int .i64 (x.i : Int), .slice A3 32 c3] 162))) := Lib.hid (HB4.out.trans (b5.mono (by rw [← HH.out]; exact HB4.out.size)))
      have HL5 := Lib.hid (HLP4.out.below b5)
      have HD5 := Lib.hid (HD4.out.below b5)
      have hlen : Hid ((L i).length ≤ 1000000) := Lib.hid (by rw [HL.out]; exact Nat.le_trans (col_len _ _ _) (by omega))
      clear b5
      refine HPL2.out.mono ?_
      rintro e w' ⟨rfl, hw⟩
      obtain rfl := hw.symm
      go_wp2_with (at_builtin; refine append_pc _ rfl (.tmp 46) (.tmp 48) rfl H u5 (L i) x rfl HL5.out w4.heap.size A3 c3 rfl HK5.out HD5.out hlen.out (by rw [← HH.out]; exact HB5.out.size) ?_; intro v' w' hl' hb'; have HLE := Lib.hid hl'; have HBE := Lib.hid (hb' w HB5.out); clear hl' hb')
      go_roundg (2 - (i + 1))
      case measure => omega
      case rel => exact ⟨i + 1, by go_num, by omega, rfl, Lib.hid ⟨by rw [HLS.out]; exact HLE.out, HBE.out⟩⟩
     ·have ek : ((k2 : Int) == (at_ : Int)) = false := beq_eq_false_iff_ne.2 (by omega)
      have HBF : Hid (b_ i = false) := Lib.hid (by
       rcases hbv : b_ i with _ | _
       ·rfl
       ·have := (HBI.out.1 hbv).2.2
        rw [HX.out] at this
        exact absurd (by have := HK2.out; have := HAT.out; omega) hk)
      rw [HBF.out] at HLS
      clear hk
      go_wp2_with fail
      rw [HW4.out, HB3S.out]
      refine HPL2.out.mono ?_
      rintro e w' ⟨rfl, hw⟩
      obtain rfl := hw.symm
      go_wp2_with fail
      go_roundg (2 - (i + 1))
      case measure => omega
      case rel => exact ⟨i + 1, by go_num, by omega, rfl, Lib.hid ⟨by rw [HLS.out]; exact HLP4.out, HB4.out⟩⟩
    ·have es : ((x.s : Int) == (s : Int)) = false := beq_eq_false_iff_ne.2 (by omega)
     have HBF : Hid (b_ i = false) := Lib.hid (by
      rcases hbv : b_ i with _ | _
      ·rfl
      ·have := (HBI.out.1 hbv).2.1
       rw [HX.out] at this
       exact absurd this hs')
     rw [HBF.out] at HLS
     clear hs'
     go_wp2_with fail
     go_roundg (2 - (i + 1))
     case measure => omega
     case rel => exact ⟨i + 1, by go_num, by omega, rfl, Lib.hid ⟨by rw [HLS.out, HW4.out]; exact HLP4.out, by rw [HW4.out]; exact HB4.out⟩⟩
   ·have HRN := Lib.hid (cread_no g2 0 cap2 F w2 HRD2.out h160 HFB.out hP)
    have HBF : Hid (b_ i = false) := Lib.hid (by
     rcases hbv : b_ i with _ | _
     ·rfl
     ·exact absurd (HBI.out.1 hbv).1 hP)
    rw [HBF.out] at HLS
    clear hP
    go_wp2_with fail
    refine HRN.out.mono ?_
    rintro e w3 ⟨rfl, b3⟩
    try dsimp only
    have HB3 : Hid (Below H w w3) := Lib.hid (HB2.out.trans (b3.mono (by rw [← HH.out]; exact HB2.out.size)))
    have HLP3 := Lib.hid (HLP2.out.below b3)
    clear b3
    go_wp2_with fail
    go_roundg (2 - (i + 1))
    case measure => omega
    case rel => exact ⟨i + 1, by go_num, by omega, rfl, Lib.hid ⟨by rw [HLS.out]; exact HLP3.out.below ((Below.refl _ _).alloc (Nat.le_refl _) _), HB3.out.alloc (by rw [← HH.out]; exact HB3.out.size) _⟩⟩
  ·obtain rfl : i = 2 := by omega
   have HS := Lib.hid (csortl (L 2) u5 H wr HV.out.1.pl (by rw [HL.out]; exact col_len _ _ _) (by rw [← HH.out]; exact HV.out.2.size))
   go_wp2_with fail
   refine HS.out.mono ?_
   rintro e w2 ⟨rfl, hp2, hb2⟩
   try dsimp only
   have HP2 := Lib.hid hp2
   have HB2 : Hid (Below H w w2) := Lib.hid (hb2 w HV.out.2)
   clear hp2 hb2
   go_wp2_with fail
   go_ret
   exact ⟨_, rfl, HP2.out, HB2.out⟩
end Go.Proofs.YtobkmohoepgfmaaGreatDoor
namespace Go.Proofs.YtobkmohoepgfmaaGreatDoor
open Go.RowKit Go.Sort
set_option maxRecDepth 100000
set_option maxHeartbeats 1000000

end Go.Proofs.YtobkmohoepgfmaaGreatDoor
namespace Go.Proofs.YtobkmohoepgfmaaGreatDoor
open Go.RowKit Go.Sort
set_option maxRecDepth 100000
set_option maxHeartbeats 1000000

def Slot (F : Nat → Nat) (s k : Nat) : Option Pc → Prop
 | some p => p.Ok ∧ (∀ j, j < 160 → F j = pcS p j) ∧ p.s = s ∧ p.g % 2 = k
 | none => ¬ HasP F s k
theorem Slot.has {F : Nat → Nat} {s k : Nat} {o : Option Pc} (h : Slot F s k o) : o.isSome = true ↔ HasP F s k := by
 cases o with
 | none => exact ⟨fun e => (by cases e), fun e => absurd e h⟩
 | some p =>
  obtain ⟨a, b, c, d⟩ := h
  obtain ⟨e1, e2⟩ := rdP_pcS a b
  exact ⟨fun _ => ⟨e1, e2.1.trans c, by rw [e2.2.1]; exact d⟩, fun _ => rfl⟩
theorem Slot.alike {F : Nat → Nat} {s k : Nat} {p : Pc} (h : Slot F s k (some p)) : (rdP F).Alike p := (rdP_pcS h.1 h.2.1).2
theorem not_isPc_zero {F : Nat → Nat} (h : F 0 = 0) : ¬ IsPc F := fun e => by
 unfold IsPc at e
 have := e.1.1
 omega
theorem Slot.blank {s k : Nat} : Slot (fun _ => 0) s k none := fun h => not_isPc_zero rfl h.1
theorem Slot.of_pc {p : Pc} (h : p.Ok) : Slot (pcS p) p.s (p.g % 2) (some p) := ⟨h, fun _ _ => rfl, rfl, rfl⟩
theorem PcX.alike {w : World} {x : Nat → Option Value} {p q : Pc} (h : PcX w x p) (e : p.Alike q) : PcX w x q := by
 obtain ⟨A, c, a, b, d, f, g⟩ := h
 obtain ⟨e1, e2, e3, e4⟩ := e
 exact ⟨A, c, by rw [← e1]; exact a, by rw [← e2]; exact b, by rw [← e3]; exact d, f, g.congr e4⟩
theorem PL.alike {w : World} {B : Nat} {v : Value} {l l' : List Pc} (h : PL w B v l) (hl : l.length = l'.length) (e : ∀ (i : Nat) (p q : Pc), l[i]? = some p → l'[i]? = some q → p.Alike q) : PL w B v l' := by
 rcases h with ⟨rfl, h⟩ | ⟨b, c, cur, hv, hb, hh, hx⟩
 ·exact Or.inl ⟨List.length_eq_zero_iff.1 hl.symm, h⟩
 ·refine Or.inr ⟨b, c, cur, by rw [← hl]; exact hv, hb, hh, fun i q hi => ?_⟩
  have hi' : i < l.length := by rw [hl]; exact (List.getElem?_eq_some_iff.1 hi).1
  exact (hx i _ (List.getElem?_eq_getElem hi')).alike (e i _ q (List.getElem?_eq_getElem hi') hi)
def two (a b : Option Pc) : List Pc := srt (a.toList ++ b.toList)
theorem two_alike {F G : Nat → Nat} {s : Nat} {a b : Option Pc} (ha : Slot F s 0 a) (hb : Slot G s 1 b) (P : Nat → Pc) (h0 : P 0 = rdP F) (h1 : P 1 = rdP G) (f : Nat → Bool) (f0 : f 0 = a.isSome) (f1 : f 1 = b.isSome) :
  (srt (col f P 2)).length = (two a b).length ∧ ∀ (i : Nat) (p q : Pc), (srt (col f P 2))[i]? = some p → (two a b)[i]? = some q → p.Alike q := by
 unfold two
 cases a with
 | none =>
  cases b with
  | none => simp [col, f0, f1, srt]
  | some q =>
   have e := hb.alike
   simp only [col, f0, f1, h1, srt, Option.isSome, Option.toList, if_true, List.nil_append, Bool.false_eq_true, if_false]
   refine ⟨rfl, fun i x y hx hy => ?_⟩
   match i, hx, hy with
   | 0, hx, hy => simp at hx hy; subst hx; subst hy; exact e
 | some p =>
  have ep := ha.alike
  cases b with
  | none =>
   simp only [col, f0, f1, h0, srt, Option.isSome, Option.toList, if_true, List.nil_append, Bool.false_eq_true, if_false, List.append_nil]
   refine ⟨rfl, fun i x y hx hy => ?_⟩
   match i, hx, hy with
   | 0, hx, hy => simp at hx hy; subst hx; subst hy; exact ep
  | some q =>
   have eq := hb.alike
   have eg : ((rdP F).g < (rdP G).g) ↔ p.g < q.g := by rw [ep.2.1, eq.2.1]
   simp only [col, f0, f1, h0, h1, Option.isSome, Option.toList, if_true, List.nil_append, List.cons_append, srt2]
   by_cases h : p.g < q.g
   ·rw [if_pos (eg.2 h), if_pos h]
    refine ⟨rfl, fun i x y hx hy => ?_⟩
    match i, hx, hy with
    | 0, hx, hy => simp at hx hy; subst hx; subst hy; exact eq
    | 1, hx, hy => simp at hx hy; subst hx; subst hy; exact ep
   ·rw [if_neg (fun x => h (eg.1 x)), if_neg h]
    refine ⟨rfl, fun i x y hx hy => ?_⟩
    match i, hx, hy with
    | 0, hx, hy => simp at hx hy; subst hx; subst hy; exact ep
    | 1, hx, hy => simp at hx hy; subst hx; subst hy; exact eq
theorem cgetM {w : World} {p : Nat} {S : List Nat} {N : Nat} {d : Disk} {wr : Nat} (h : Plt w p S N d wr) (hbd : Bd d) (s : Nat) (hs : 2 * s + 1 < N) (a b : Option Pc) (ha : Slot (d.now (2 * s)) s 0 a) (hb : Slot (d.now (2 * s + 1)) s 1 b) :
  Calls Tryz.prog 170 #[.pointer (some ⟨p, 0, none⟩), .int .i64 (s : Int)] w (CGetRet (two a b) w) := by
 refine (cget h hbd s hs (fun k => if k = 0 then a.isSome else b.isSome) (fun k hk => ?_)).mono ?_
 ·match k, hk with
  | 0, _ => exact ha.has
  | 1, _ => exact hb.has
 ·rintro e w' ⟨v, rfl, hp, hbl⟩
  obtain ⟨e1, e2⟩ := two_alike ha hb (fun k => rdP (d.now (2 * s + k))) rfl rfl (fun k => if k = 0 then a.isSome else b.isSome) rfl rfl
  exact ⟨v, rfl, hp.alike e1 e2, hbl⟩
structure CD (d : Disk) (M : Nat → Option Pc) : Prop where
 bd : Bd d
 slot : ∀ k, k < 80 → Slot (d.now k) (k / 2) (k % 2) (M k)
theorem CD.at {d : Disk} {M : Nat → Option Pc} (h : CD d M) {s : Nat} (hs : s < 40) : Slot (d.now (2 * s)) s 0 (M (2 * s)) ∧ Slot (d.now (2 * s + 1)) s 1 (M (2 * s + 1)) := by
 have h0 := h.slot (2 * s) (by omega)
 have h1 := h.slot (2 * s + 1) (by omega)
 rw [show 2 * s / 2 = s by omega, show 2 * s % 2 = 0 by omega] at h0
 rw [show (2 * s + 1) / 2 = s by omega, show (2 * s + 1) % 2 = 1 by omega] at h1
 exact ⟨h0, h1⟩
theorem cgetD {w : World} {p : Nat} {S : List Nat} {N : Nat} {d : Disk} {wr : Nat} {M : Nat → Option Pc} (h : Plt w p S N d wr) (hd : CD d M) (hN : 80 ≤ N) (s : Nat) (hs : s < 40) :
  Calls Tryz.prog 170 #[.pointer (some ⟨p, 0, none⟩), .int .i64 (s : Int)] w (CGetRet (two (M (2 * s)) (M (2 * s + 1))) w) :=
 cgetM h hd.bd s (by omega) _ _ (hd.at hs).1 (hd.at hs).2
end Go.Proofs.YtobkmohoepgfmaaGreatDoor
