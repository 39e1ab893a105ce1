import Derived.Test.YtbifpjdkljibeaaDoorK5
namespace Go.Proofs.YtbifpjdkljibeaaDoor
open Go.RowKit Go.Extern.Stop Go.Stop Go.Extern Go.Extern.Rtype

theorem Rest_any2 {w w' : World} {k : Nat} {c : Array Value} {t : TypeId} {f : Nat × Nat} (h : Below w.heap.size w w') (hk : w.heap[k]? = some (.cells c t f)) : w'.heap[k]? = some (.cells c t f) := by
  have hlt : k < w.heap.size := by
    by_cases hk' : k < w.heap.size
    · exact hk'
    · rw [Array.getElem?_eq_none (by omega)] at hk; cases hk
  rw [h.block k hlt]; exact hk

theorem owns_below2 {w w' : World} {base n : Nat} {t : TypeId} {v : Value} {xs : List Value} (h : w.ownsRow base t 1 v n xs) (hb : Below w.heap.size w w') : w'.ownsRow base t 1 v n xs := by
  obtain ⟨h1, h2⟩ := h
  refine ⟨h1, ?_⟩
  rcases h2 with h2 | ⟨g, cap, cur, hv, hg, hh, r⟩
  · exact Or.inl h2
  · exact Or.inr ⟨g, cap, cur, hv, hg, Rest_any2 hb hh, r⟩

theorem builder_stays {B b : Nat} {bs : List Value} {w w' : World} (h : Lib.IsBuilder 94 5 B b bs w) (hw : Below w.heap.size w w') : Lib.IsBuilder 94 5 B b bs w' := by
  rcases h with ⟨h1, v, h2, h3, h4⟩ | ⟨h1, v, h2, h3, h4⟩
  · exact .inl ⟨h1, v, Rest_any2 hw h2, owns_below2 h3 hw, h4⟩
  · exact .inr ⟨h1, v, Rest_any2 hw h2, owns_below2 h3 hw, h4⟩

set_option maxHeartbeats 2000000 in
set_option maxRecDepth 100000 in
theorem tell37 (d : Nat) (ih : ∀ k, k < d → Tell37 k) : Tell37 d := by
  intro v t w B b l ht hb hB hlen
  cases d with
  | zero => exact ht.elim
  | succ d =>
    have HB := Lib.hid hb
    have IH := Lib.hid (ih d (by omega))
    clear hb ih
    have a3 := taN32
    have a4 := taN55
    have a5 := taN33
    rcases ht with ⟨rfl, rfl⟩ | ⟨n, rfl, h0, h9, rfl⟩ | ⟨b1, s1, rfl, e2, e3, rfl⟩ | ⟨b1, n, x, t', rfl, e2, e3, e4, e5, e6, rfl⟩ | ⟨b1, n, x, t', rfl, e2, e3, e4, e5, e6, rfl⟩ | ⟨b1, g, m, cap, row, vs, rfl, e2, e3, e4, e5, e6, e7, e8, rfl⟩
    · go_enter Tryd.func37, Tryd.ntmps37
      go_wp2_with fail
      refine (saidNil _).mono ?_
      rintro e w1 ⟨rfl, hw1⟩
      have H1 := Lib.hid hw1
      have hs1 := hw1.size
      clear hw1
      go_wp2_with fail
      refine (write_list B b l _ _ (builder_stays HB.out H1.out) (by omega) (by omega)).mono ?_
      rintro e w2 ⟨k2, rfl, hb2, hw2⟩
      have H2 := Lib.hid (And.intro hb2 ((H1.out.mono hB).trans hw2))
      clear hb2 hw2
      go_wp2_with fail
      go_end0
      exact ⟨rfl, H2.out.1, H2.out.2⟩
    · have a6 := taO32 26 (by decide)
      have a7 := taO55 26 (by decide)
      have a8 := taO33 26 (by decide)
      go_enter Tryd.func37, Tryd.ntmps37
      go_wp2_with fail
      refine (saidE n h0 h9 _).mono ?_
      rintro e w1 ⟨rfl, hw1⟩
      have H1 := Lib.hid hw1
      have hs1 := hw1.size
      clear hw1
      go_wp2_with fail
      refine (write_list B b l _ _ (builder_stays HB.out H1.out) (by omega) (by omega)).mono ?_
      rintro e w2 ⟨k2, rfl, hb2, hw2⟩
      have H2 := Lib.hid (And.intro hb2 ((H1.out.mono hB).trans hw2))
      clear hb2 hw2
      go_wp2_with fail
      go_end0
      exact ⟨rfl, H2.out.1, H2.out.2⟩
    · have a6 := taO32 64 (by decide)
      have a7 := taO55 64 (by decide)
      have a8 := taO33 64 (by decide)
      have E3 := Lib.hid e3
      clear e3
      go_enter Tryd.func37, Tryd.ntmps37
      go_wp2_with fail
      refine (saidS b1 s1 _ (by omega) E3.out).mono ?_
      rintro e w1 ⟨rfl, hw1⟩
      have H1 := Lib.hid hw1
      have hs1 := hw1.size
      clear hw1
      go_wp2_with fail
      refine (write_list B b l _ _ (builder_stays HB.out H1.out) (by omega) (by omega)).mono ?_
      rintro e w2 ⟨k2, rfl, hb2, hw2⟩
      have H2 := Lib.hid (And.intro hb2 ((H1.out.mono hB).trans hw2))
      clear hb2 hw2
      go_wp2_with fail
      go_end0
      exact ⟨rfl, H2.out.1, H2.out.2⟩
    · have a1 := taY32
      skip
      have hq : ∀ w : World, (binOp .eql 32 (.pointer (some ⟨b1, 0, none⟩)) (.pointer none)).run Tryd.prog w = .ok (.bool false) w := fun _ => by kernel_rfl
      have hc0 : w.cell? ⟨b1, 0, none⟩ = some (.int .i64 n) := by simp [World.cell?, e3]
      have hc1 : w.cell? ⟨b1, 1, none⟩ = some x := by simp [World.cell?, e3]
      have HX := Lib.hid e6
      have hl3 : l.length + ([110, 111, 100, 101, 32] : List UInt8).length + 3 + t'.length ≤ 1000000 := by simp [tNode] at hlen ⊢; omega
      clear e3 e6
      go_enter Tryd.func37, Tryd.ntmps37
      go_wp2_with fail
      first
        | (go_region_held (fun w' => w'.cell? ⟨b1, 0, none⟩ = some (.int .i64 n) ∧ w'.cell? ⟨b1, 1, none⟩ = some x)
            (first | exact ⟨hc0, hc1⟩ | exact ⟨(hw9.cell (p := ⟨b1, 0, none⟩) e2).trans hc0, (hw9.cell (p := ⟨b1, 1, none⟩) e2).trans hc1⟩ | go_keep)
            ((first | (go_at_call 43; refine (tellUnder43 d IH.out [110, 111, 100, 101, 32] n e4 e5 x t' _ B b l (HX.out.below (Below.refl _ _).drew (Nat.le_refl _)) (builder_stays HB.out (Below.refl _ _).drew) hB hl3).mono ?_; rintro e w9 ⟨rfl, hb9, hw9⟩))))
        | fail
      go_wp2_with fail
      go_end0
      exact ⟨rfl, by have := hb9; simpa [tNode, List.append_assoc] using this, (Below.refl _ _).drew.trans hw9⟩
    · have a1 := taY55
      have a0 := taO32 55 (by decide)
      have hq : ∀ w : World, (binOp .eql 55 (.pointer (some ⟨b1, 0, none⟩)) (.pointer none)).run Tryd.prog w = .ok (.bool false) w := fun _ => by kernel_rfl
      have hc0 : w.cell? ⟨b1, 0, none⟩ = some (.int .i64 n) := by simp [World.cell?, e3]
      have hc1 : w.cell? ⟨b1, 1, none⟩ = some x := by simp [World.cell?, e3]
      have HX := Lib.hid e6
      have hl3 : l.length + ([115, 116, 114, 105, 112, 101, 32] : List UInt8).length + 3 + t'.length ≤ 1000000 := by simp [tStripe] at hlen ⊢; omega
      clear e3 e6
      go_enter Tryd.func37, Tryd.ntmps37
      go_wp2_with fail
      first
        | (go_region_held (fun w' => w'.cell? ⟨b1, 0, none⟩ = some (.int .i64 n) ∧ w'.cell? ⟨b1, 1, none⟩ = some x)
            (first | exact ⟨hc0, hc1⟩ | exact ⟨(hw9.cell (p := ⟨b1, 0, none⟩) e2).trans hc0, (hw9.cell (p := ⟨b1, 1, none⟩) e2).trans hc1⟩ | go_keep)
            ((first | (go_at_call 43; refine (tellUnder43 d IH.out [115, 116, 114, 105, 112, 101, 32] n e4 e5 x t' _ B b l (HX.out.below (Below.refl _ _).drew (Nat.le_refl _)) (builder_stays HB.out (Below.refl _ _).drew) hB hl3).mono ?_; rintro e w9 ⟨rfl, hb9, hw9⟩))))
        | fail
      go_wp2_with fail
      go_end0
      exact ⟨rfl, by have := hb9; simpa [tStripe, List.append_assoc] using this, (Below.refl _ _).drew.trans hw9⟩
    · have a1 := taY33
      have a2 := taO32 33 (by decide)
      have a6 := taO55 33 (by decide)
      have hq : ∀ w : World, (binOp .eql 33 (.pointer (some ⟨b1, 0, none⟩)) (.pointer none)).run Tryd.prog w = .ok (.bool false) w := fun _ => by kernel_rfl
      have hc0 : w.cell? ⟨b1, 0, none⟩ = some (.slice (some ⟨g, 0, none⟩) m cap) := by simp [World.cell?, e4]
      have HX := Lib.hid (And.intro e5 (And.intro e6 (And.intro e7 e8)))
      clear e4 e5 e6 e7 e8
      go_enter Tryd.func37, Tryd.ntmps37
      go_wp2_with fail
      refine (tellAll44 d IH.out g m cap row vs _ B b l e3 HX.out.1 HX.out.2.1.1 HX.out.2.2.1 HX.out.2.2.2 HB.out hB HX.out.2.1.2 hlen).mono ?_
      rintro e w9 ⟨rfl, hb9, hw9⟩
      have H9 := Lib.hid (And.intro hb9 hw9)
      clear hb9 hw9
      go_wp2_with fail
      go_end0
      exact ⟨rfl, H9.out.1, H9.out.2⟩

theorem tell37_all (d : Nat) : Tell37 d := by
  induction d using Nat.strongRecOn with
  | _ d ih => exact tell37 d ih


set_option maxHeartbeats 2000000 in
set_option maxRecDepth 100000 in
theorem text26 (d : Nat) (v : Value) (t : List UInt8) (w : World) (ht : Txt w w.heap.size d v t) (hlen : t.length ≤ 1000000) :
    Calls Tryd.prog 26 #[v] w fun e w' => e = .returned (.string ⟨t.toArray⟩) ∧ Below w.heap.size w w' := by
  have HT := Lib.hid ht
  clear ht
  go_enter Tryd.func26, Tryd.ntmps26
  go_wp2_with fail
  have hfresh : Lib.IsBuilder 94 5 w.heap.size w.heap.size (Lib.byteCells []) (w.alloc (.cells #[.pointer none, .slice none 0 0] 94)) :=
    .inl ⟨Nat.le_refl _, .slice none 0 0, heap_new _ _, World.ownsRow_nil _ _ _ _, by intro e; cases e⟩
  have HF := Lib.hid hfresh
  clear hfresh
  refine (tell37_all d v t _ w.heap.size w.heap.size [] (HT.out.below ((Below.refl _ w).alloc (Nat.le_refl _) _) (Nat.le_refl _)) HF.out (by simp) (by simpa using hlen)).mono ?_
  rintro e w1 ⟨rfl, hb1, hw1⟩
  rw [List.nil_append] at hb1
  have H1 := Lib.hid (And.intro hb1 hw1)
  have hs1 : w.heap.size ≤ w1.heap.size := by have := hw1.size; simp at this; omega
  clear hb1 hw1
  go_wp2_with fail
  refine (Tryd.Builder_String_any w.heap.size w.heap.size t _ (.inr H1.out.1) hs1).mono ?_
  rintro e w2 ⟨rfl, hw2⟩
  have H2 := Lib.hid hw2
  clear hw2
  go_wp2_with fail
  go_ret
  exact ⟨rfl, (((Below.refl _ w).alloc (Nat.le_refl _) _).trans H1.out.2).trans H2.out⟩

end Go.Proofs.YtbifpjdkljibeaaDoor
