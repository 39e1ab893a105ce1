import Derived.Test.YtoofgcdilgfclaaU05
import Derived.Test.YtoofgcdilgfclaaU22
namespace Go.Proofs.Ytoofgcdilgfclaa
open Go.RowKit Go.Sort
set_option maxRecDepth 100000
set_option maxHeartbeats 1000000

/-! Bytes in memory, as a list. -/
def BL (w : World) (A : Option Addr) (L : List Nat) : Prop := DatN w A L.length (gt L)
theorem BL.rd {w : World} {A : Option Addr} {L : List Nat} (h : BL w A L) : Rd w A L.length (gt L) := DatN.rd h
theorem BL.below {w w' : World} {A : Option Addr} {L : List Nat} (h : BL w A L) (b : Below w.heap.size w w') : BL w' A L := DatN.below h b
theorem BL.nil {w : World} {A : Option Addr} : BL w A [] := Or.inl rfl
theorem BL.set {w : World} {A : Option Addr} {L : List Nat} {b j : Nat} {cs : Array Value} {t : TypeId} {fr : Nat × Nat} {v : Value} (h : BL w A L) (hb : w.heap[b]? = some (.cells cs t fr)) (ht : t ≠ 5) : BL (w.setCell ⟨b, j, none⟩ v) A L := DatN.set h hb ht
theorem BL.turn {w w' : World} {A : Option Addr} {L : List Nat} {b : Nat} {cs : Array Value} {t : TypeId} {fr : Nat × Nat} (h : BL w A L) (hb : w.heap[b]? = some (.cells cs t fr)) (ht : t ≠ 5) (k : Turn [b] w w') : BL w' A L :=
  DatN.keep h (fun g cs' hg => k.block g (heap_lt hg) (fun hm => by
    obtain rfl : g = b := by simpa using hm
    rw [hb] at hg
    cases hg
    exact ht rfl))
theorem BL.drew {w : World} {A : Option Addr} {L : List Nat} (h : BL w A L) : BL w.drew A L := h.below (below_drewN 1 w)
theorem BL.of {w : World} {A : Option Addr} {n : Nat} {F : Nat → Nat} {L : List Nat} (h : DatN w A n F) (hn : L.length = n) (hF : ∀ j, j < n → F j = gt L j) : BL w A L := by
  subst hn
  rcases h with h | ⟨g, o, cs, h1, h2, h3⟩
  · exact Or.inl h
  · exact Or.inr ⟨g, o, cs, h1, h2, fun j hj => by rw [← hF j hj]; exact h3 j hj⟩
theorem BL.blk {w : World} {g : Nat} {n : Nat} {F : Nat → Nat} {L : List Nat} (h : Blk8 w g n F) (hn : L.length = n) (hF : ∀ j, j < n → F j = gt L j) : BL w (some ⟨g, 0, none⟩) L := BL.of (DatN.blk h) hn hF
theorem BL.own {w : World} {B n cap : Nat} {A : Option Addr} {F : Nat → Nat} {L : List Nat} (h : w.ownsRow B 5 1 (.slice A n cap) n (rowL n F)) (hn : L.length = n) (hF : ∀ j, j < n → F j = gt L j) : BL w A L := by
  cases n with
  | zero => exact Or.inl hn
  | succ k =>
    obtain ⟨g, cap', e⟩ := own_succ h
    cases e
    exact BL.blk (own_blk h) hn hF
theorem BL.take {w : World} {A : Option Addr} {L : List Nat} (h : BL w A L) (k : Nat) : BL w A (L.take k) := by
  rcases h with h | ⟨g, o, cs, h1, h2, h3⟩
  · exact Or.inl (by rw [List.length_take, h]; omega)
  · exact Or.inr ⟨g, o, cs, h1, h2, fun j hj => by rw [List.length_take] at hj; rw [gt_take (by omega)]; exact h3 j (by omega)⟩
theorem BL.drop {w : World} {A : Option Addr} {L : List Nat} (h : BL w A L) (k : Nat) (B : Option Addr) (hB : k < L.length → ∀ g o, A = some ⟨g, o, none⟩ → B = some ⟨g, o + k, none⟩) : BL w B (L.drop k) := by
  by_cases hk : k < L.length
  · rcases h with h | ⟨g, o, cs, h1, h2, h3⟩
    · omega
    · exact Or.inr ⟨g, o + k, cs, hB hk g o h1, h2, fun j hj => by rw [List.length_drop] at hj; rw [gt_drop, Nat.add_assoc]; exact h3 (k + j) (by omega)⟩
  · exact Or.inl (by rw [List.length_drop]; omega)

/-! The reader. -/
def RdV (w : World) (r : Nat) (A : Option Addr) (n c : Nat) (t : Bool) : Prop := w.heap[r]? = some (.cells #[.slice A n c, .bool t] 69 (0, 0))
section
variable {w w' : World} {r n c : Nat} {t : Bool} {A : Option Addr}
theorem RdV.c0 (h : RdV w r A n c t) : w.cell? ⟨r, 0, none⟩ = some (.slice A n c) := cell_of_block h
theorem RdV.c1 (h : RdV w r A n c t) : w.cell? ⟨r, 1, none⟩ = some (.bool t) := cell_of_block h
theorem RdV.f (h : RdV w r A n c t) (k : Nat) : w.frozen? ⟨r, k, none⟩ = false := free_of_block h
theorem RdV.lt (h : RdV w r A n c t) : r < w.heap.size := heap_lt h
theorem RdV.put0 (h : RdV w r A n c t) {B : Option Addr} {m d : Nat} : RdV (w.setCell ⟨r, 0, none⟩ (.slice B m d)) r B m d t := set_block h 0 _
theorem RdV.put1 (h : RdV w r A n c t) {u : Bool} : RdV (w.setCell ⟨r, 1, none⟩ (.bool u)) r A n c u := set_block h 1 _
theorem RdV.keep (h : RdV w r A n c t) (e : w'.heap[r]? = w.heap[r]?) : RdV w' r A n c t := e.trans h
end
def RdS (w : World) (r : Nat) (s : St) : Prop := ∃ A c, RdV w r A s.1.length c s.2 ∧ s.1.length ≤ c ∧ BL w A s.1 ∧ By s.1
theorem RdS.keep {w w' : World} {r : Nat} {s : St} (h : RdS w r s) (b : Below w.heap.size w w') : RdS w' r s := by
  obtain ⟨A, c, h1, h2, h3, h4⟩ := h
  exact ⟨A, c, h1.keep (b.block r h1.lt), h2, h3.below b, h4⟩
theorem RdS.by_ {w : World} {r : Nat} {s : St} (h : RdS w r s) : By s.1 := by obtain ⟨A, c, h1, h2, h3, h4⟩ := h; exact h4
theorem RdS.set {w : World} {r b j : Nat} {s : St} {cs : Array Value} {t : TypeId} {fr : Nat × Nat} {v : Value} (h : RdS w r s) (hb : w.heap[b]? = some (.cells cs t fr)) (h1 : t ≠ 5) (h2 : t ≠ 69) : RdS (w.setCell ⟨b, j, none⟩ v) r s := by
  obtain ⟨A, c, k1, k2, k3, k4⟩ := h
  exact ⟨A, c, k1.keep (set_other (by rintro rfl; unfold RdV at k1; rw [hb] at k1; cases k1; exact h2 rfl) j v), k2, k3.set hb h1, k4⟩
/-- A slice of some bytes is told. -/
def BRet (r : Nat) (L : List Nat) (s : St) (w : World) (e : Ending) (w' : World) : Prop :=
  ∃ B c, e = .returned (.slice B L.length c) ∧ L.length ≤ c ∧ BL w' B L ∧ RdS w' r s ∧ Turn [r] w w'
theorem rnext {w : World} {r : Nat} {s : St} (h : RdS w r s) (k : Nat) (hk : k ≤ 1000000) (hl : s.1.length ≤ 9223372036854775807) :
    Calls Try.prog 54 #[.pointer (some ⟨r, 0, none⟩), .int .i64 (k : Int)] w (BRet r (nx k s).1 (nx k s).2 w) := by
  obtain ⟨L, t⟩ := s
  obtain ⟨A, c, h1, h2, h3, h4⟩ := h
  dsimp only at h1 h2 h3 h4 hl
  have c0 := h1.c0
  have c1 := h1.c1
  have fz := h1.f
  have H1 := Lib.hid h1
  have H3 := Lib.hid h3
  have H4 := Lib.hid h4
  clear h1 h3 h4
  obtain ⟨n, hn⟩ : ∃ n, L.length = n := ⟨_, rfl⟩
  rw [hn] at c0 h2 hl
  by_cases hlt : n < k
  · have e1 : (n : Int) < (k : Int) := by omega
    rw [nx_lt (show L.length < k by omega)]
    have HN := Lib.hid hn
    clear hn
    go_enter Try.func54, Try.ntmps54
    go_wp2_with fail
    go_ret
    exact ⟨none, 0, rfl, Nat.le_refl _, BL.nil, ⟨A, c, H1.out.put1, by dsimp only; rw [HN.out]; exact h2, H3.out.set H1.out (by decide), H4.out⟩, Turn.set _ _ _ _ (by simp)⟩
  · have e1 : ¬ (n : Int) < (k : Int) := by omega
    have e2 : k ≤ c := by omega
    have e3 : (k : Int) ≤ (c : Int) := by omega
    have e4 : (k : Int) ≤ (n : Int) := by omega
    have e5 : (n : Int) ≤ (c : Int) := by omega
    have HE : Hid (nx k (L, t) = (L.take k, L.drop k, t)) := Lib.hid (nx_ge (show k ≤ L.length by omega))
    have HN := Lib.hid hn
    have HK : Hid (k ≤ n) := Lib.hid (by omega)
    clear hn
    rw [HE.out]
    go_enter Try.func54, Try.ntmps54
    by_cases ck : c = k
    · subst ck
      go_wp2_with fail
      go_ret
      refine ⟨A, c, by rw [List.length_take, HN.out, Nat.min_eq_left HK.out]; rfl, by rw [List.length_take, HN.out, Nat.min_eq_left HK.out]; exact e2, ?_, ?_, Turn.set _ _ _ _ (by simp)⟩
      · exact (H3.out.take c).set H1.out (by decide)
      · refine ⟨A, 0, by dsimp only; rw [List.length_drop, HN.out, show n - c = 0 by omega]; exact H1.out.put0, by dsimp only; rw [List.length_drop, HN.out]; omega, ?_, H4.out.drop c⟩
        exact (H3.out.drop c _ (fun hk' g o ho => absurd hk' (by have := HN.out; omega))).set H1.out (by decide)
    · go_wp2_with fail
      go_ret
      refine ⟨A, c, by rw [List.length_take, HN.out, Nat.min_eq_left HK.out]; rfl, by rw [List.length_take, HN.out, Nat.min_eq_left HK.out]; exact e2, ?_, ?_, Turn.set _ _ _ _ (by simp)⟩
      · exact (H3.out.take k).set H1.out (by decide)
      · refine ⟨_, c - k, by dsimp only; rw [List.length_drop, HN.out]; exact H1.out.put0, by dsimp only; rw [List.length_drop, HN.out]; omega, ?_, H4.out.drop k⟩
        exact (H3.out.drop k _ (fun hk' g o ho => by rw [ho, Option.map_some, addr_add])).set H1.out (by decide)
theorem nof_L {w : World} {A : Option Addr} {L : List Nat} (c : Nat) (h : BL w A L) (hL : By L) (hn : L.length ≤ 7) :
    Calls Try.prog 53 #[.slice A L.length c] w fun e w' => e = .returned (.int .i64 (numL L : Nat)) ∧ w' = w :=
  nof A L.length c (gt L) w h.rd (fun j _ => hL.gt j) hn
/-- (*reader).number. -/
theorem rnumber {w : World} {r : Nat} {s : St} (h : RdS w r s) (k : Nat) (hk : k ≤ 7) (hl : s.1.length ≤ 9223372036854775807) :
    Calls Try.prog 30 #[.pointer (some ⟨r, 0, none⟩), .int .i64 (k : Int)] w fun e w' => e = .returned (.int .i64 (numL (nx k s).1 : Nat)) ∧ RdS w' r (nx k s).2 ∧ Turn [r] w w' := by
  have HN := Lib.hid (rnext h k (by omega) hl)
  have HB : Hid (By (nx k s).1 ∧ (nx k s).1.length ≤ 7) := Lib.hid ⟨(nx_by h.by_).1, by have := (nx_len k s).1; omega⟩
  clear h
  go_enter Try.func30, Try.ntmps30
  go_wp2_with fail
  refine HN.out.mono ?_
  rintro e w2 ⟨B, c, rfl, hc, hb, hr, ht⟩
  try dsimp only
  have HO := Lib.hid (nof_L c hb HB.out.1 HB.out.2)
  have HR := Lib.hid hr
  have HT := Lib.hid ht
  clear hb hr ht
  go_wp2_with fail
  refine HO.out.mono ?_
  rintro e w3 ⟨rfl, hw⟩
  obtain rfl := hw.symm
  try dsimp only
  go_wp2_with fail
  go_ret
  exact ⟨rfl, HR.out, HT.out⟩
/-- bytes.Clone of any bytes. -/
def NewB (L : List Nat) (w : World) (e : Ending) (w' : World) : Prop := ∃ B c, e = .returned (.slice B L.length c) ∧ L.length ≤ c ∧ BL w' B L ∧ Below w.heap.size w w'
theorem bclone_none (n c : Nat) (w : World) : Calls Try.prog 55 #[.slice none n c] w fun e w' => e = .returned (.slice none 0 0) ∧ w' = w := by
  have heq : Sem.run Try.prog (binOp .eql 22 (.slice none n c) (.slice none 0 0)) w = .ok (.bool true) w := Lib.run_eql_slice_nil w 22 5 none n c 0 0 Try.underlying22
  go_enter Try.func55, Try.ntmps55
  go_wp2_with fail
  go_ret
  exact ⟨rfl, rfl⟩
theorem bclone_L {w : World} {A : Option Addr} {L : List Nat} (c : Nat) (h : BL w A L) (hn : L.length ≤ 140737488355328) :
    Calls Try.prog 55 #[.slice A L.length c] w (NewB L w) := by
  cases A with
  | none =>
    refine (bclone_none L.length c w).mono ?_
    rintro e w' ⟨rfl, hw⟩
    obtain rfl := hw.symm
    have e0 : L = [] := by
      rcases h with h | ⟨g, o, cs, h1, _⟩
      · exact List.length_eq_zero_iff.1 h
      · cases h1
    subst e0
    exact ⟨none, 0, rfl, Nat.le_refl _, BL.nil, Below.refl _ _⟩
  | some a =>
    refine (bclone a L.length c (gt L) w h.rd hn).mono ?_
    rintro e w' ⟨g, cap, rfl, ho, hb, _, _, hc⟩
    exact ⟨some ⟨g, 0, none⟩, cap, rfl, hc, BL.own ho rfl (fun _ _ => rfl), hb⟩
/-- (*reader).data. -/
theorem rdata {w : World} {r : Nat} {s : St} (h : RdS w r s) (k : Nat) (hk : k ≤ 1000000) (hl : s.1.length ≤ 9223372036854775807) :
    Calls Try.prog 31 #[.pointer (some ⟨r, 0, none⟩), .int .i64 (k : Int)] w (BRet r (nx k s).1 (nx k s).2 w) := by
  have HN := Lib.hid (rnext h k (by omega) hl)
  have HB : Hid ((nx k s).1.length ≤ 140737488355328) := Lib.hid (by have := (nx_len k s).1; omega)
  clear h
  go_enter Try.func31, Try.ntmps31
  go_wp2_with fail
  refine HN.out.mono ?_
  rintro e w2 ⟨B, c, rfl, hc, hb, hr, ht⟩
  try dsimp only
  have HO := Lib.hid (bclone_L c hb HB.out)
  have HR := Lib.hid hr
  have HT := Lib.hid ht
  clear hb hr ht
  go_wp2_with fail
  refine HO.out.mono ?_
  rintro e w3 ⟨B3, c3, rfl, hc3, hb3, hw⟩
  try dsimp only
  have H3 := Lib.hid hb3
  have HW := Lib.hid hw
  clear hb3 hw
  go_wp2_with fail
  go_ret
  exact ⟨B3, c3, rfl, hc3, H3.out, HR.out.keep HW.out, HT.out.trans (Turn.of HW.out)⟩
/-- (*reader).done. -/
theorem rdone {w : World} {r : Nat} {s : St} (h : RdS w r s) (t : Bool) (ht : t = true ↔ s.2 = false ∧ s.1 = []) :
    Calls Try.prog 32 #[.pointer (some ⟨r, 0, none⟩)] w fun e w' => e = .returned (.bool t) ∧ w' = w := by
  obtain ⟨A, c, h1, _, _, _⟩ := h
  have c0 := h1.c0
  have c1 := h1.c1
  obtain ⟨L, u⟩ := s
  dsimp only at c0 c1 ht
  cases u with
  | true =>
    obtain rfl : t = false := not_true ht (fun h => by cases h.1)
    clear h1 ht
    go_enter Try.func32, Try.ntmps32
    go_wp2_with fail
    go_ret
    exact ⟨rfl, rfl⟩
  | false =>
    obtain ⟨n, hn⟩ : ∃ n, L.length = n := ⟨_, rfl⟩
    rw [hn] at c0
    have e1 : ((n : Int) == 0) = t := by
      cases t with
      | true => rw [beq_iff_eq]; have := ht.1 rfl; rw [this.2] at hn; simp at hn; omega
      | false => rw [beq_eq_false_iff_ne]; intro e; have h9 := ht.2 ⟨rfl, List.length_eq_zero_iff.1 (by omega)⟩; cases h9
    clear h1 ht hn
    go_enter Try.func32, Try.ntmps32
    go_wp2_with fail
    go_ret
    exact ⟨rfl, rfl⟩
end Go.Proofs.Ytoofgcdilgfclaa
