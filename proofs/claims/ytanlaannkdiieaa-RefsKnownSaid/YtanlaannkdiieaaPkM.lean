import Derived.Test.YtanlaannkdiieaaPkL
import Derived.Laws.ResultCell
namespace Go.Proofs.Ytanlaannkdiieaa.Pk
open Go.RowKit Go.Sort

def itv (x : It) : Value := .agg #[.int .i64 x.1, .int .i64 x.2]

theorem new8 (w : World) : Calls Try.prog 16 #[] w fun e w' => e = .returned (.pointer (some ⟨w.heap.size, 0, none⟩)) ∧ IsHeap w' w.heap.size [w.heap.size] [] ∧ Below w.heap.size w w' := by
  go_enter Try.func16, Try.ntmps16
  go_wp2
  go_ret
  refine ⟨rfl, Or.inl ⟨?_, rfl, rfl⟩, (Below.refl _ _).alloc (Nat.le_refl _) _⟩
  show (w.heap.push _)[w.heap.size]? = _
  rw [Array.getElem?_push, if_pos rfl]

theorem len15 (hb : Nat) (F : List Nat) (S : List It) (w : World) (h : IsHeap w hb F S) :
    Calls Try.prog 20 #[.pointer (some ⟨hb, 0, none⟩)] w fun e w' => e = .returned (.int .i64 S.length) ∧ w' = w := by
  obtain ⟨a, cap, hc⟩ : ∃ a cap, w.cell? ⟨hb, 0, none⟩ = some (.slice a S.length cap) := by
    rcases h with ⟨h, rfl, _⟩ | ⟨g, mb, cap, l, R, _, p, _, _⟩
    · exact ⟨_, _, headCell h⟩
    · exact ⟨_, cap, by rw [headCell R.head, p.length_eq]⟩
  clear h
  go_enter Try.func20, Try.ntmps20
  go_wp2_with (go_at_call 24; refine (len25 hb _ _ _ w hc).mono ?_; rintro e w2 ⟨rfl, rfl⟩)
  go_ret
  exact ⟨rfl, rfl⟩

def hd (S : List It) : It × Bool := match S with | [] => ((0, 0), false) | x :: _ => (x, true)

set_option maxHeartbeats 1000000 in
set_option maxRecDepth 100000 in
theorem peek10 (hb : Nat) (F : List Nat) (S : List It) (w : World) (h : IsHeap w hb F S) :
    Calls Try.prog 22 #[.pointer (some ⟨hb, 0, none⟩)] w fun e w' => e = .returned (.tuple #[itv (hd S).1, .bool (hd S).2]) ∧ Below w.heap.size w w' := by
  cases S with
  | nil =>
    have HH := Lib.hid h
    clear h
    go_enter Try.func22, Try.ntmps22
    go_wp2_with fail
    refine (len15 hb F [] _ (HH.out.keep (Turn.alloc [] _ _) (by simp))).mono ?_
    rintro e w2 ⟨rfl, rfl⟩
    go_wp2_with fail
    refine bodyPost_ret (v := .tuple #[itv (0, 0), .bool false]) ?_ rfl ⟨rfl, (Below.refl _ _).alloc (Nat.le_refl _) _⟩
    rw [results_cell_tmp rfl]
    unfold itv
    go_simp
  | cons x S =>
    rcases h with ⟨_, h, _⟩ | ⟨g, mb, cap, l, R, hH, p, hs, hF⟩
    · cases h
    have ex := head_eq hH p hs
    have hl : l.length = S.length + 1 := p.length_eq
    have HH : Hid (IsHeap w hb F (x :: S)) := Lib.hid (Or.inr ⟨g, mb, cap, l, R, hH, p, hs, hF⟩)
    have T := Turn.alloc [] w (.cells #[.int .i64 0, .int .i64 0] 41)
    have R1 := R.keep (w' := w.alloc (.cells #[.int .i64 0, .int .i64 0] 41)) (fun k hk _ => T.block k hk (by simp))
    have c0 := headCell R1.head
    have a1 := R1.row.id 0 (by omega)
    have a2 := R1.row.key 0 (by omega)
    rw [ex] at a1 a2
    rw [hl] at c0
    obtain ⟨cur0, hg0, _⟩ := R.row.block
    have hgl := lt_size hg0
    have hbl := lt_size R.head
    have k0 : w.cell? ⟨hb, 0, none⟩ = some (.slice (some ⟨g, 0, none⟩) (S.length + 1) cap) := by rw [headCell R.head, hl]
    have k1 := R.row.id 0 (by omega)
    have k2 := R.row.key 0 (by omega)
    rw [ex] at k1 k2
    simp only [Nat.zero_mul, Nat.zero_add] at k1 k2
    have hz : ((S.length : Int) + 1 == 0) = false := beq_eq_false_iff_ne.2 (by omega)
    have hp : (0 : Int) < (S.length : Int) + 1 := by omega
    obtain ⟨x1, x2⟩ := x
    clear R R1 hH p hs hF ex hl T hg0 c0 a1 a2
    go_enter Try.func22, Try.ntmps22
    go_wp2_with fail
    refine (len15 hb F ((x1, x2) :: S) _ (HH.out.keep (Turn.alloc [] _ _) (by simp))).mono ?_
    rintro e w2 ⟨rfl, rfl⟩
    go_wp2_with fail
    refine bodyPost_ret (v := .tuple #[itv (x1, x2), .bool true]) ?_ rfl ⟨rfl, ?_⟩
    · rw [results_cell_tmp rfl]
      unfold itv
      go_simp
    · exact (Below.refl _ _).alloc (Nat.le_refl _) _

/-- An act behind which the heap has S. -/
def HeapPost (hb : Nat) (F : List Nat) (S : List It) (v : Value) (w : World) (e : Ending) (w' : World) : Prop :=
  e = .returned v ∧ ∃ F', IsHeap w' hb F' S ∧ Step F F' w w'

theorem Step.refl (F : List Nat) (w : World) : Step F F w w := ⟨Turn.refl _ _, fun _ h => Or.inl h⟩
theorem Step.trans {F G H : List Nat} {a b c : World} (h : Step F G a b) (k : Step G H b c) : Step F H a c :=
  ⟨h.turn.fresh k.turn h.blocks, fun x hx => by
    rcases k.blocks x hx with y | y
    · exact h.blocks x y
    · exact Or.inr (Nat.le_trans h.turn.size y)⟩
theorem Step.of {F : List Nat} {a b : World} (h : Below a.heap.size a b) : Step F F a b := ⟨Turn.of h, fun _ h => Or.inl h⟩

theorem IsHeap.below {w w' : World} {hb : Nat} {F : List Nat} {S : List It} (h : IsHeap w hb F S) (b : Below w.heap.size w w') : IsHeap w' hb F S := h.keep (Turn.of (S := []) b) (by simp)

theorem gone_heap {hb g mb cap i : Nat} {l S : List It} {w w' : World} {e : Ending} (h : GonePost hb g mb cap i l w e w') (hs : Srt S) (p : ∀ l', (l' ++ [at' l i]).Perm l → l'.Perm S) : ∃ F', IsHeap w' hb F' S ∧ Step [hb, g, mb] F' w w' := by
  obtain ⟨_, l', R, T, P, H⟩ := h
  exact ⟨_, Or.inr ⟨g, mb, cap, l', R, H, p l' P, hs, rfl⟩, T, fun _ h => Or.inl h⟩

theorem local_ok {w w' : World} {hb : Nat} {F G : List Nat} {S : List It} (h : IsHeap w hb F S) (t : Turn G w w') (hG : ∀ k ∈ G, w.heap.size ≤ k) : IsHeap w' hb F S ∧ Step F F w w' :=
  ⟨h.keep t (fun k hk hg => by have := h.lt k hk; have := hG k hg; omega), (Turn.refl F w).fresh t (fun k hk => Or.inr (hG k hk)), fun _ h => Or.inl h⟩

theorem Turn.cell {S : List Nat} {w w' : World} (t : Turn S w w') {b o : Nat} (hb : b < w.heap.size) (hs : b ∉ S) : w'.cell? ⟨b, o, none⟩ = w.cell? ⟨b, o, none⟩ := World.cell?_of_block (w := w) (a := ⟨b, o, none⟩) (t.block b hb hs)
theorem Turn.froz {S : List Nat} {w w' : World} (t : Turn S w w') {b o : Nat} (hb : b < w.heap.size) (hs : b ∉ S) : w'.frozen? ⟨b, o, none⟩ = w.frozen? ⟨b, o, none⟩ := World.frozen?_of_block (w := w) (a := ⟨b, o, none⟩) (t.block b hb hs)

set_option maxHeartbeats 1000000 in
set_option maxRecDepth 100000 in
theorem popH18 (hb : Nat) (F : List Nat) (S : List It) (w : World) (h : IsHeap w hb F S) :
    Calls Try.prog 19 #[.pointer (some ⟨hb, 0, none⟩)] w (HeapPost hb F S.tail (.tuple #[itv (hd S).1, .bool (hd S).2]) w) := by
  cases S with
  | nil =>
    have HH := Lib.hid h
    clear h
    go_enter Try.func19, Try.ntmps19
    go_wp2_with fail
    refine (peek10 hb F [] _ (HH.out.keep (Turn.alloc [] _ _) (by simp))).mono ?_
    rintro e w2 ⟨rfl, b2⟩
    have b0 : Below w.heap.size w w2 := ((Below.refl _ _).alloc (Nat.le_refl _) _).trans (b2.mono (by simp))
    have c1 : w2.cell? ⟨w.heap.size, 0, none⟩ = some (.int .i64 0) := (b2.cell (p := ⟨w.heap.size, 0, none⟩) (by simp)).trans (by simp [go_sem])
    have c2 : w2.cell? ⟨w.heap.size, 1, none⟩ = some (.int .i64 0) := (b2.cell (p := ⟨w.heap.size, 1, none⟩) (by simp)).trans (by simp [go_sem])
    have f1 : w2.frozen? ⟨w.heap.size, 0, none⟩ = false := (b2.frozen (p := ⟨w.heap.size, 0, none⟩) (by simp)).trans (by simp [go_sem])
    have f2 : w2.frozen? ⟨w.heap.size, 1, none⟩ = false := (b2.frozen (p := ⟨w.heap.size, 1, none⟩) (by simp)).trans (by simp [go_sem])
    have HB := Lib.hid b0
    have hlt := cell?_lt c1
    clear b2 b0
    unfold hd itv
    go_wp2_with fail
    refine bodyPost_ret (v := .tuple #[itv (0, 0), .bool false]) ?_ rfl ⟨rfl, F, local_ok HH.out (G := [w.heap.size]) ((((Turn.of HB.out).trans (Turn.set _ _ _ _ (by simp))).trans (Turn.set _ _ _ _ (by simp))).trans (Turn.alloc _ _ _)) (by simp)⟩
    rw [results_cell_tmp rfl]
    unfold itv
    go_simp
  | cons x S =>
    rcases h with ⟨_, h, _⟩ | ⟨g, mb, cap, l, R, hH, p, hs, hF⟩
    · cases h
    have ex := head_eq hH p hs
    have hl : 0 < l.length := by rw [p.length_eq]; simp
    have HX : Hid (∀ l', (l' ++ [at' l 0]).Perm l → l'.Perm S) := Lib.hid (fun l' q => by
      rw [ex] at q
      exact ((List.perm_append_comm (l₁ := [x]) (l₂ := l')).trans (q.trans p)).cons_inv)
    have HS := Lib.hid (List.pairwise_cons.1 hs).2
    have h : IsHeap w hb F (x :: S) := Or.inr ⟨g, mb, cap, l, R, hH, p, hs, hF⟩
    have HH := Lib.hid h
    have HR := Lib.hid R
    have HHp := Lib.hid hH
    have HF := Lib.hid hF
    have HE := Lib.hid ex
    have HLT := Lib.hid h.lt
    have e1 : hb < w.heap.size := lt_size R.head
    have e2 : g < w.heap.size := h.lt g (by rw [hF]; simp)
    have e3 : mb < w.heap.size := h.lt mb (by rw [hF]; simp)
    clear R hH p hs hF h ex
    obtain ⟨x1, x2⟩ := x
    go_enter Try.func19, Try.ntmps19
    go_wp2_with fail
    refine (peek10 hb F ((x1, x2) :: S) _ (HH.out.keep (Turn.alloc [] _ _) (by simp))).mono ?_
    rintro e w2 ⟨rfl, b2⟩
    have b0 : Below w.heap.size w w2 := ((Below.refl _ _).alloc (Nat.le_refl _) _).trans (b2.mono (by simp))
    have c1 : w2.cell? ⟨w.heap.size, 0, none⟩ = some (.int .i64 0) := (b2.cell (p := ⟨w.heap.size, 0, none⟩) (by simp)).trans (by simp [go_sem])
    have c2 : w2.cell? ⟨w.heap.size, 1, none⟩ = some (.int .i64 0) := (b2.cell (p := ⟨w.heap.size, 1, none⟩) (by simp)).trans (by simp [go_sem])
    have f1 : w2.frozen? ⟨w.heap.size, 0, none⟩ = false := (b2.frozen (p := ⟨w.heap.size, 0, none⟩) (by simp)).trans (by simp [go_sem])
    have f2 : w2.frozen? ⟨w.heap.size, 1, none⟩ = false := (b2.frozen (p := ⟨w.heap.size, 1, none⟩) (by simp)).trans (by simp [go_sem])
    have HB := Lib.hid b0
    have hlt := cell?_lt c1
    have HC1 := Lib.hid c1
    have HC2 := Lib.hid c2
    have HF1 := Lib.hid f1
    have HF2 := Lib.hid f2
    clear b2 b0 c1 c2 f1 f2
    unfold hd itv
    go_wp2_with fail
    refine (pop26 hb g mb cap l _ ((HR.out.below HB.out).below ((Below.refl _ _).alloc (Nat.le_refl _) _)) hl HHp.out).mono ?_
    intro e w4 hG
    have T4 : Turn [hb, g, mb] (w2.alloc (.cells #[.int .i64 x1, .int .i64 x2] 41)) w4 := by obtain ⟨_, l', _, T, _⟩ := hG; exact T
    have he : e = _ := hG.1
    have HG := Lib.hid (gone_heap hG HS.out HX.out)
    subst he
    have hns : w.heap.size ∉ [hb, g, mb] := by simp; omega
    have hns2 : w2.heap.size ∉ [hb, g, mb] := by simp; omega
    have A := Turn.alloc [] w2 (.cells #[.int .i64 x1, .int .i64 x2] 41)
    have c1 : w4.cell? ⟨w.heap.size, 0, none⟩ = some (.int .i64 0) := ((T4.cell (by simp; omega) hns).trans (A.cell hlt (by simp))).trans HC1.out
    have c2 : w4.cell? ⟨w.heap.size, 1, none⟩ = some (.int .i64 0) := ((T4.cell (by simp; omega) hns).trans (A.cell hlt (by simp))).trans HC2.out
    have f1 : w4.frozen? ⟨w.heap.size, 0, none⟩ = false := ((T4.froz (by simp; omega) hns).trans (A.froz hlt (by simp))).trans HF1.out
    have f2 : w4.frozen? ⟨w.heap.size, 1, none⟩ = false := ((T4.froz (by simp; omega) hns).trans (A.froz hlt (by simp))).trans HF2.out
    have k1 : w4.cell? ⟨w2.heap.size, 0, none⟩ = some (.int .i64 x1) := (T4.cell (by simp) hns2).trans (by simp [go_sem])
    have k2 : w4.cell? ⟨w2.heap.size, 1, none⟩ = some (.int .i64 x2) := (T4.cell (by simp) hns2).trans (by simp [go_sem])
    have HT4 := Lib.hid T4
    have hsz : w2.heap.size < w4.heap.size := cell?_lt k1
    have hsz2 : w.heap.size < w4.heap.size := cell?_lt c1
    clear hG T4 A HC1 HC2 HF1 HF2 HX HE
    go_wp2_with fail
    obtain ⟨F', hI, st⟩ := HG.out
    have hw' := (Turn.set [w.heap.size] w4 ⟨w.heap.size, 0, none⟩ (.int .i64 x1) (by simp)).trans (Turn.set [w.heap.size] _ ⟨w.heap.size, 1, none⟩ (.int .i64 x2) (by simp))
    have b5 : Below w.heap.size w (w2.alloc (.cells #[.int .i64 x1, .int .i64 x2] 41)) := HB.out.trans ((Below.refl _ _).alloc (by omega) _)
    have st1 : Step F F' w w4 := ⟨by rw [HF.out]; exact (Turn.of b5).trans st.turn, fun k hk => by
      rcases st.blocks k hk with y | y
      · exact Or.inl (by rw [HF.out]; exact y)
      · exact Or.inr (Nat.le_trans b5.size y)⟩
    refine bodyPost_ret (v := .tuple #[itv (x1, x2), .bool true]) ?_ rfl ⟨rfl, F', hI.keep hw' (fun k hk hm => ?_), st1.turn.fresh hw' (fun k hk => Or.inr (by rw [List.mem_singleton.1 hk]; exact Nat.le_refl _)), st1.blocks⟩
    · rw [results_cell_tmp rfl]
      unfold itv
      go_simp
    · rw [List.mem_singleton.1 hm] at hk
      rcases st.blocks _ hk with y | y
      · exact hns y
      · simp at y; omega
end Go.Proofs.Ytanlaannkdiieaa.Pk
