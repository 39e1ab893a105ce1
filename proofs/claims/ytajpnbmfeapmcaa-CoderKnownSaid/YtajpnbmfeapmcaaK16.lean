import Derived.Test.YtajpnbmfeapmcaaK15
import Derived.Laws.BytesArg
import Derived.Laws.Strings
namespace Go.Proofs.Ytajpnbmfeapmcaa
open Go.RowKit Go.Sort
set_option maxRecDepth 100000
set_option maxHeartbeats 1000000

/-- No bytes, as a text. -/
theorem conv_empty (g : Option Addr) (cap : Nat) (w : World) : Sem.run Try.prog (convert 29 9 (.slice g 0 cap)) w = .ok (.string (strOf [])) w := by
  cases g with
  | none => exact run_convert_bytes_nil w 29 5 Try.underlying29 Try.underlying5 0 cap 9 Try.underlying9
  | some a =>
    have hl : (loadCells a 0).run Try.prog w = .ok (([] : List Int).map (Value.int .u8)).toArray w := run_loadCells_list (P := Try.prog) w a [] (fun j v hj => by simp at hj)
    rw [run_convert_bytes_string w 29 9 5 (some a) 0 cap Try.underlying29 Try.underlying5 Try.underlying9, run_bytesToString w a 0 cap [] hl]
    rfl
/-- A row that came in, converted; it may be empty. -/
theorem RawIn.strA {w : World} {a : Option Addr} {xss : List (List Nat)} (h : RawIn w a xss) {i : Nat} {xs : List Nat} (hi : xss[i]? = some xs) :
    ∃ b o g cap, a = some ⟨b, o, none⟩ ∧ b < w.heap.size ∧ w.cell? ⟨b, o + i, none⟩ = some (.slice g xs.length cap) ∧
      ∀ W : World, (∀ k o, k < w.heap.size → W.cell? ⟨k, o, none⟩ = w.cell? ⟨k, o, none⟩) → Sem.run Try.prog (convert 29 9 (.slice g xs.length cap)) W = .ok (.string (strOf xs)) W := by
  by_cases hne : 0 < xs.length
  · obtain ⟨b, o, g, q, cap, e, hb, hg, hc, hW⟩ := h.str hi hne
    exact ⟨b, o, some ⟨g, q, none⟩, cap, e, hb, hc, fun W h => hW W (fun o => h g o hg)⟩
  · obtain ⟨b, o, e, hb, g, cap, hc, _⟩ := h i xs hi
    obtain rfl : xs = [] := List.eq_nil_of_length_eq_zero (by omega)
    exact ⟨b, o, g, cap, e, hb, hc, fun W _ => conv_empty g cap W⟩

theorem mequalsA (a b : Option Addr) (xss yss : List (List Nat)) (ca cb : Nat) (w : World) (hx : RawIn w a xss) (hy : RawIn w b yss) (lx : xss.length ≤ 9223372036854775807)
    (t : Bool) (ht : t = true ↔ xss.length = yss.length ∧ ∀ (i : Nat) (xs ys : List Nat), xss[i]? = some xs → yss[i]? = some ys → (strOf xs).toList = (strOf ys).toList) :
    Calls Try.prog 51 #[.slice a xss.length ca, .slice b yss.length cb, .func (.func 52) #[] #[]] w fun e w' => e = .returned (.bool t) ∧ w' = w := by
  have HX := Lib.hid hx
  have HY := Lib.hid hy
  have HT := Lib.hid ht
  clear hx hy ht
  by_cases hl : xss.length = yss.length
  · have e1 : ((xss.length : Int) != (yss.length : Int)) = false := by rw [bne_eq_false_iff_eq]; omega
    obtain ⟨r, hr⟩ : ∃ r, xss.length = r := ⟨_, rfl⟩
    have hr2 : yss.length = r := by omega
    have HR := Lib.hid (And.intro hr hr2)
    have hrb : r ≤ 9223372036854775807 := by omega
    rw [hr, hr2] at e1 ⊢
    clear hl hr hr2
    go_enter Try.func51, Try.ntmps51
    go_wp2_with fail
    go_loop [7, 8, 9, 17] (fun _ _ _ s => ∃ k : Nat, s = .int .i64 (k : Int) ∧ k ≤ r ∧ Hid (∀ (i : Nat) (xs ys : List Nat), i < k → xss[i]? = some xs → yss[i]? = some ys → (strOf xs).toList = (strOf ys).toList)) (fun _ _ _ s => r - (intOf s).toNat)
    case atStart => exact ⟨0, rfl, Nat.zero_le _, Lib.hid (fun i xs ys hi => absurd hi (Nat.not_lt_zero _))⟩
    case round =>
      obtain ⟨k, rfl, hk, HK⟩ := hrel
      by_cases hlt : k < r
      · obtain ⟨xs, hxs⟩ : ∃ xs, xss[k]? = some xs := ⟨_, List.getElem?_eq_getElem (by have := HR.out.1; omega)⟩
        obtain ⟨ys, hys⟩ : ∃ ys, yss[k]? = some ys := ⟨_, List.getElem?_eq_getElem (by have := HR.out.2; omega)⟩
        obtain ⟨b1, o1, g1, c1, rfl, hb1, d1, v1⟩ := HX.out.strA hxs
        obtain ⟨b2, o2, g2, c2, rfl, hb2, d2, v2⟩ := HY.out.strA hys
        have hk' : (k : Int) < (r : Int) := by omega
        have HXS := Lib.hid hxs
        have HYS := Lib.hid hys
        have HQ := Lib.hid (fun t ht => mequal _ _ _ _ w (v1 w (fun _ _ _ => rfl)) (v2 w (fun _ _ _ => rfl)) t ht)
        clear hxs hys v1 v2
        by_cases he : (strOf xs).toList = (strOf ys).toList
        · have HE := Lib.hid he
          have HQ2 := Lib.hid (HQ.out true (beq_iff_eq.2 he))
          clear he HQ
          go_wp2_with fail
          refine HQ2.out.mono ?_
          rintro e w' ⟨rfl, hw⟩
          obtain rfl := hw.symm
          go_wp2_with fail
          go_round
          case measure => simp [intOf]; omega
          case rel => exact ⟨k + 1, by go_num, by omega, Lib.hid (fun i xs' ys' hi h1 h2 => by
            by_cases e : i = k
            · subst e
              rw [HXS.out] at h1
              rw [HYS.out] at h2
              cases h1
              cases h2
              exact HE.out
            · exact HK.out i xs' ys' (by omega) h1 h2)⟩
        · have HN : Hid (t = false) := Lib.hid (not_true HT.out (fun h => he (h.2 k xs ys HXS.out HYS.out)))
          have HQ2 := Lib.hid (HQ.out false (beq_eq_false_iff_ne.2 he))
          clear he HQ
          go_wp2_with fail
          refine HQ2.out.mono ?_
          rintro e w' ⟨rfl, hw⟩
          obtain rfl := hw.symm
          go_wp2_with fail
          go_ret
          rw [HN.out]
          exact ⟨rfl, rfl⟩
      · have hge : ¬ (k : Int) < (r : Int) := by omega
        have HN : Hid (t = true) := Lib.hid (HT.out.2 ⟨by have := HR.out; omega, fun i xs ys h1 h2 => HK.out i xs ys (by
          have := (List.getElem?_eq_some_iff.1 h1).1
          have := HR.out.1
          omega) h1 h2⟩)
        clear hlt hk
        go_wp2_with fail
        go_ret
        rw [HN.out]
        exact ⟨rfl, rfl⟩
  · have e1 : ((xss.length : Int) != (yss.length : Int)) = true := by rw [bne_iff_ne]; omega
    have HN : Hid (t = false) := Lib.hid (not_true HT.out (fun h => hl h.1))
    clear hl
    go_enter Try.func51, Try.ntmps51
    go_wp2_with fail
    go_ret
    rw [HN.out]
    exact ⟨rfl, rfl⟩

/-- Same: alike, byte by byte. -/
theorem msameA (a b : Option Addr) (xss yss : List (List Nat)) (ca cb : Nat) (w : World) (hx : RawIn w a xss) (hy : RawIn w b yss) (lx : xss.length ≤ 9223372036854775807) (bx : Bytes xss) (bY : Bytes yss)
    (t : Bool) (ht : t = true ↔ xss = yss) :
    Calls Try.prog 33 #[.slice a xss.length ca, .slice b yss.length cb] w fun e w' => e = .returned (.bool t) ∧ w' = w := by
  have HC := Lib.hid (mequalsA a b xss yss ca cb w hx hy lx t (by
    rw [ht]
    constructor
    · rintro rfl
      exact ⟨rfl, fun i xs ys h1 h2 => by rw [h1] at h2; cases h2; rfl⟩
    · rintro ⟨hl, h⟩
      apply List.ext_getElem?
      intro i
      by_cases hi : i < xss.length
      · obtain ⟨xs, hxs⟩ : ∃ xs, xss[i]? = some xs := ⟨_, List.getElem?_eq_getElem hi⟩
        obtain ⟨ys, hys⟩ : ∃ ys, yss[i]? = some ys := ⟨_, List.getElem?_eq_getElem (by omega)⟩
        rw [hxs, hys, strOf_inj (bx i xs hxs) (bY i ys hys) (h i xs ys hxs hys)]
      · rw [List.getElem?_eq_none (by omega), List.getElem?_eq_none (by omega)]))
  clear hx hy bx bY ht
  go_enter Try.func33, Try.ntmps33
  go_wp2_with fail
  refine HC.out.mono ?_
  rintro e w' ⟨rfl, hw⟩
  obtain rfl := hw.symm
  go_wp2_with fail
  go_ret
  exact ⟨rfl, rfl⟩

/-- What Decode answers. -/
def DecRet (xss : List (List Nat)) (w : World) (e : Ending) (w' : World) : Prop :=
  (e = .returned (.tuple #[.slice none 0 0, .bool false]) ∧ Below w.heap.size w w' ∧ ¬ Whole xss) ∨
  (∃ g cap', e = .returned (.tuple #[.slice (some ⟨g, 0, none⟩) 128 cap', .bool true]) ∧ Below w.heap.size w w' ∧ Whole xss ∧ Row8 w' g 128 (outF xss) ∧ 128 ≤ cap')
theorem cdecodeR (c f o cap0 : Nat) (a : Option Addr) (xss : List (List Nat)) (cap : Nat) (w : World) (hc : Cdr w c f o cap0) (h : RawIn w a xss) (hl : xss.length ≤ 9223372036854775807) (hby : Bytes xss) :
    Calls Try.prog 13 #[.pointer (some ⟨c, 0, none⟩), .slice a xss.length cap] w (DecRet xss w) :=
  cdecode c f o cap0 a xss cap w hc h hl hby _ (fun _ h1 h2 => .inl ⟨rfl, h1, h2⟩) (fun _ g cap' h1 h2 h3 h4 => .inr ⟨g, cap', rfl, h1, h2, h3, h4⟩)
theorem outF_lt (xss : List (List Nat)) (j : Nat) : outF xss j < 256 := by
  have h : Bd (j / 32 + 1) (j % 32 + 1) (mm 4 (adjM 4 (fm (pres xss 6))) (fun l k => ent xss ((pres xss 6).getD l 0) k)) := mm_bd _ _ _ _ _
  exact h _ (Nat.lt_succ_self _) _ (Nat.lt_succ_self _)

theorem ccheck (c f o cap0 : Nat) (a : Option Addr) (xss : List (List Nat)) (cap : Nat) (w : World) (hc : Cdr w c f o cap0) (h : RawIn w a xss) (hl : xss.length ≤ 9223372036854775807) (hby : Bytes xss) (t : Bool)
    (ht : t = true ↔ Whole xss ∧ xss = rowsOf 6 32 (enc (parts (outF xss)))) :
    Calls Try.prog 15 #[.pointer (some ⟨c, 0, none⟩), .slice a xss.length cap] w fun e w' => e = .returned (.bool t) ∧ Below w.heap.size w w' := by
  have HD := Lib.hid (cdecodeR c f o cap0 a xss cap w hc h hl hby)
  have HC := Lib.hid hc
  have HI := Lib.hid h
  have HBY := Lib.hid hby
  have HT := Lib.hid ht
  have HL := Lib.hid hl
  clear hc h hby ht hl
  obtain ⟨n, hn⟩ : ∃ n, xss.length = n := ⟨_, rfl⟩
  have HN := Lib.hid hn
  rw [hn] at HD ⊢
  clear hn
  go_enter Try.func15, Try.ntmps15
  go_wp2_with fail
  refine HD.out.mono ?_
  rintro e w1 (⟨rfl, hb, hw⟩ | ⟨g, cap', rfl, hb, hw, hr, hcp⟩)
  · obtain rfl : t = false := not_true HT.out (fun h => hw h.1)
    have HB := Lib.hid hb
    clear hb hw HT HD
    go_wp2_with fail
    go_ret
    exact ⟨rfl, HB.out⟩
  · have hr0 := hr.cell
    have HE := Lib.hid (cencode c f o cap0 g 0 cap' (outF xss) w1 (HC.out.keep hb) hcp (fun j hj => by rw [Nat.zero_add]; exact hr0 j hj) (fun j _ => outF_lt xss j))
    have HB := Lib.hid hb
    have HW := Lib.hid hw
    clear hb hw hr hr0 HD
    go_wp2_with fail
    refine HE.out.mono ?_
    rintro e w2 ⟨b, rfl, ho, hbl, hb2⟩
    have hbb := enc_bd 6 32 (parts (outF xss))
    have hs := msameA a (some ⟨b, 0, none⟩) xss (rowsOf 6 32 (enc (parts (outF xss)))) cap 6 w2 ((HI.out.keep HB.out).keep hb2) ho.raw HL.out HBY.out (rowsOf_bytes hbb) t (HT.out.trans ⟨fun h => h.2, fun h => ⟨HW.out, h⟩⟩)
    rw [rowsOf_len, HN.out] at hs
    have HS := Lib.hid hs
    have HB2 : Hid (Below w.heap.size w w2) := Lib.hid (HB.out.trans (hb2.mono HB.out.size))
    clear ho hb2 hbl hbb hs HE HT
    go_wp2_with fail
    refine HS.out.mono ?_
    rintro e w3 ⟨rfl, hw⟩
    obtain rfl := hw.symm
    go_wp2_with fail
    go_ret
    exact ⟨rfl, HB2.out⟩
end Go.Proofs.Ytajpnbmfeapmcaa
