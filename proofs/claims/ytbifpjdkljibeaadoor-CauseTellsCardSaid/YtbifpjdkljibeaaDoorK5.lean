import Derived.Test.YtbifpjdkljibeaaDoorK4
namespace Go.Proofs.YtbifpjdkljibeaaDoor
open Go.RowKit Go.Extern.Stop Go.Stop Go.Extern Go.Extern.Rtype

theorem tAll_snoc (ts : List (List UInt8)) (t : List UInt8) (h : ts ≠ []) : tAll (ts ++ [t]) = tAll ts ++ [59, 32] ++ t := by
  induction ts with
  | nil => exact absurd rfl h
  | cons a r ih =>
    cases r with
    | nil => rfl
    | cons b r' =>
      have := ih (by simp)
      show a ++ [59, 32] ++ tAll (b :: r' ++ [t]) = a ++ [59, 32] ++ tAll (b :: r') ++ [59, 32] ++ t
      rw [this]; simp [List.append_assoc]

theorem tAll_take (vs : List (Value × List UInt8)) (i : Nat) (z : Value × List UInt8) (h : vs[i]? = some z) (h0 : 0 < i) : tAll ((vs.take (i + 1)).map (·.2)) = tAll ((vs.take i).map (·.2)) ++ [59, 32] ++ z.2 := by
  rw [List.take_add_one, h]
  show tAll ((vs.take i ++ [z]).map (·.2)) = _
  rw [List.map_append]
  refine tAll_snoc _ _ ?_
  intro e
  have : vs.take i = [] := List.map_eq_nil_iff.1 e
  have h2 : (vs.take i).length = 0 := by rw [this]; rfl
  have h3 := (List.getElem?_eq_some_iff.1 h).1
  rw [List.length_take] at h2; omega

theorem tAll_first (vs : List (Value × List UInt8)) (z : Value × List UInt8) (h : vs[0]? = some z) : tAll ((vs.take 1).map (·.2)) = z.2 := by
  match vs, h with
  | a :: r, h => cases h; rfl

theorem tAll_le (ts : List (List UInt8)) : ∀ r, (tAll ts).length ≤ (tAll (ts ++ r)).length := by
  induction ts with
  | nil => intro r; simp [tAll]
  | cons a r ih =>
    intro q
    cases r with
    | nil =>
      cases q with
      | nil => simp [tAll]
      | cons b q' => simp [tAll]
    | cons b r' =>
      have := ih q
      simp only [tAll, List.cons_append, List.length_append] at *
      omega

theorem tAll_take_le (vs : List (Value × List UInt8)) (i : Nat) : (tAll ((vs.take i).map (·.2))).length ≤ (tAll (vs.map (·.2))).length := by
  have := tAll_le ((vs.take i).map (·.2)) ((vs.drop i).map (·.2))
  rwa [← List.map_append, List.take_append_drop] at this

set_option maxHeartbeats 2000000 in
set_option maxRecDepth 100000 in
theorem tellAll44 (d : Nat) (ih : Tell37 d) (g m cap : Nat) (row : Array Value) (vs : List (Value × List UInt8)) (w : World) (B b : Nat) (l : List UInt8) (hg : g < B) (hr : w.heap[g]? = some (.cells row 24 (0, 0))) (hm : m ≤ 1000) (hl : vs.length = m)
    (hv : ∀ (i : Nat) (x : Value × List UInt8), vs[i]? = some x → row[i]? = some x.1 ∧ Txt w B d x.1 x.2) (hb : Lib.IsBuilder 94 5 B b (Lib.byteCells l) w) (hB : B ≤ w.heap.size) (h0 : 0 < m)
    (hlen : l.length + (tAll (vs.map (·.2))).length ≤ 1000000) :
    Calls Tryd.prog 44 #[.pointer (some ⟨b, 0, none⟩), .slice (some ⟨g, 0, none⟩) m cap] w (Wrote B b l (tAll (vs.map (·.2))) w) := by
  have HT := Lib.hid (And.intro hr (And.intro hv (And.intro hb ih)))
  have hl1 : vs.length ≤ m := Nat.le_of_eq hl
  have hl2 : m ≤ vs.length := Nat.le_of_eq hl.symm
  clear hr hv hb ih hl
  go_enter Tryd.func44, Tryd.ntmps44
  go_wp2
  go_loopg [8] m (fun q s8 wr => ∃ i : Nat, s8 = .int .i64 i ∧ i ≤ m ∧ q = m - i ∧ Hid (Lib.IsBuilder 94 5 B b (Lib.byteCells (l ++ tAll ((vs.take i).map (·.2)))) wr ∧ (0 < i → Lib.BuilderAt 94 5 B b (.pointer (some ⟨b, 0, none⟩)) (Lib.byteCells (l ++ tAll ((vs.take i).map (·.2)))) wr) ∧ Below B w wr))
  case atStart => exact ⟨0, rfl, Nat.zero_le _, rfl, Lib.hid ⟨by simpa [tAll] using HT.out.2.2.1, fun h => absurd h (by omega), Below.refl _ _⟩⟩
  case round =>
    obtain ⟨i, rfl, hi, rfl, HR⟩ := hrel
    have hmx : m ≤ 9223372036854775807 := by omega
    have hsz := HR.out.2.2.size
    have htl := tAll_take_le vs i
    have htl2 := tAll_take_le vs (i + 1)
    by_cases hlt : i < m
    · have hz : vs[i]? = some vs[i] := List.getElem?_eq_getElem (by omega)
      generalize vs[i] = z at hz
      have hcell : wr.cell? ⟨g, i, none⟩ = some z.1 := by
        have h1 := (HT.out.2.1 i z hz).1
        have h2 := (HR.out.2.2.block g hg).trans HT.out.1
        simp [World.cell?, h2, h1]
      have HZ := Lib.hid hz
      clear hz
      by_cases hi0 : i = 0
      · subst hi0
        have HF := Lib.hid (tAll_first vs z HZ.out)
        have hzl : z.2.length ≤ (tAll (vs.map (·.2))).length := by rw [← HF.out]; exact htl2
        clear htl htl2
        go_wp2_with fail
        refine (HT.out.2.2.2 z.1 z.2 _ B b l ((HT.out.2.1 0 z HZ.out).2.below HR.out.2.2 (Nat.le_refl _)) (by have := HR.out.1; simpa [tAll] using this) (by omega) (by omega)).mono ?_
        rintro e w2 ⟨rfl, hb2, hw2⟩
        have H2 := Lib.hid (And.intro hb2 (HR.out.2.2.trans hw2))
        clear hb2 hw2
        go_wp2_with fail
        go_roundg (m - (0 + 1))
        case measure => omega
        case rel => exact ⟨1, rfl, by omega, rfl, Lib.hid ⟨.inr (by rw [HF.out]; exact H2.out.1), fun _ => by rw [HF.out]; exact H2.out.1, H2.out.2⟩⟩
      · have hpos : 0 < i := by omega
        have HF := Lib.hid (tAll_take vs i z HZ.out hpos)
        have hzl : (tAll ((vs.take i).map (·.2))).length + 2 + z.2.length ≤ (tAll (vs.map (·.2))).length := by
          rw [HF.out] at htl2; simp only [List.length_append, List.length_cons, List.length_nil] at htl2; omega
        clear htl htl2
        generalize tAll ((vs.take i).map (·.2)) = pre at HR HF hzl
        go_wp2_with fail
        refine (write_list B b (l ++ pre) [59, 32] _ HR.out.1 (by simp; omega) (by omega)).mono ?_
        rintro e w1 ⟨k1, rfl, hb1, hw1⟩
        have H1 := Lib.hid (And.intro hb1 (HR.out.2.2.trans hw1))
        have hs1 := hw1.size
        clear hb1 hw1
        go_wp2_with fail
        refine (HT.out.2.2.2 z.1 z.2 _ B b (l ++ pre ++ [59, 32]) ((HT.out.2.1 i z HZ.out).2.below H1.out.2 (Nat.le_refl _)) (.inr H1.out.1) (by omega) (by simp; omega)).mono ?_
        rintro e w2 ⟨rfl, hb2, hw2⟩
        have H2 := Lib.hid (And.intro hb2 (H1.out.2.trans hw2))
        clear hb2 hw2
        go_wp2_with fail
        go_roundg (m - (i + 1))
        case measure => omega
        case rel =>
          have h3 := H2.out.1
          rw [show l ++ pre ++ [59, 32] ++ z.2 = l ++ (pre ++ [59, 32] ++ z.2) from by simp [List.append_assoc], ← HF.out] at h3
          exact ⟨i + 1, by go_num, by omega, rfl, Lib.hid ⟨.inr h3, fun _ => h3, H2.out.2⟩⟩
    · obtain rfl : i = m := by omega
      have hr := HR.out
      rw [List.take_of_length_le (by omega)] at hr
      have HR2 := Lib.hid hr
      clear hr HR htl htl2
      go_wp2_with fail
      go_end0
      exact ⟨rfl, HR2.out.2.1 h0, HR2.out.2.2⟩

end Go.Proofs.YtbifpjdkljibeaaDoor
