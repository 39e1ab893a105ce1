import Derived.Deep.CutBlock
import Derived.Deep.CutRange
import Derived.Test.YtbifpjdkljibeaaDoorG4b
import Derived.Test.YtbifpjdkljibeaaDoorG4c
import Derived.Test.YtbifpjdkljibeaaDoorG4d
import Derived.Test.YtbifpjdkljibeaaDoorG4e
import Derived.Test.YtbifpjdkljibeaaDoorG4f
import Derived.Test.YtbifpjdkljibeaaDoorG4g
import Derived.Test.YtbifpjdkljibeaaDoorG4h
import Derived.Test.YtbifpjdkljibeaaDoorG4k
namespace Go.Proofs.YtbifpjdkljibeaaDoor
open Go.RowKit Go.Extern.Stop Go.Stop Go.Extern Go.Extern.Rtype

set_option linter.unusedVariables false
set_option maxRecDepth 100000 in
set_option maxHeartbeats 8000000 in
theorem grow19 (a : Option Addr) (xs : List (Int × Int)) (c : Nat) (w : World) (hn : Raws w a xs) :
    Calls Tryd.prog 19 #[.slice a xs.length c] w (GrowPost w) := by
  have HN := Lib.hid hn
  clear hn
  obtain ⟨i0, hi, hz0, hz1, hz2⟩ := info_parts info24
  obtain ⟨j0, hj, hy0, hy1, hy2⟩ := info_parts info48
  obtain ⟨p0, hp, hq0, hq1, hq2⟩ := info_parts info3
  go_enter Tryd.func19, Tryd.ntmps19
  go_wp2_with fail
  have hW0 : Below w.heap.size w (w.alloc (.cells #[.int .i64 0, .slice none 0 0, .int .i64 0, .bool false, .string ⟨#[]⟩] 48)) := alloc_below _ _
  have hB3 : (w.alloc (.cells #[.int .i64 0, .slice none 0 0, .int .i64 0, .bool false, .string ⟨#[]⟩] 48)).heap[w.heap.size]? = some (.cells #[.int .i64 0, .slice none 0 0, .int .i64 0, .bool false, .string ⟨#[]⟩] 48 (0, 0)) := heap_new _ _
  revert hW0 hB3
  generalize w.alloc (.cells #[.int .i64 0, .slice none 0 0, .int .i64 0, .bool false, .string ⟨#[]⟩] 48) = w0
  intro hW0 hB3
  have HW := Lib.hid (And.intro hW0 hB3)
  clear hW0 hB3
  go_loopg [4, 5, 6] 25 (fun q s4 s5 s6 wr => ∃ (i : Nat) (ks : List GK) (d : Nat), s6 = .int .i64 i ∧ i ≤ xs.length ∧ i ≤ 25 ∧ q = 25 - i ∧ Hid (GrowP w0 s4 s5 wr i d ks))
  case atStart =>
    exact ⟨0, [], 0, rfl, Nat.zero_le _, by omega, rfl, Lib.hid (GrowP.start _)⟩
  case round =>
    obtain ⟨i, ks, d, rfl, hi1, hi2, rfl, HG⟩ := hrel
    by_cases hlt : i < xs.length
    · by_cases h25 : i < 25
      · obtain ⟨⟨x1, x2⟩, hz⟩ : ∃ y, xs[i]? = some y := ⟨_, List.getElem?_eq_getElem hlt⟩
        obtain ⟨g, o, rfl, hg, k1, k2⟩ := HN.out i _ hz
        dsimp only at k1 k2
        have hb := HW.out.1.trans (HG.out.two.below.mono HW.out.1.size)
        have c1 : wr.cell? ⟨g, o + i * 2, none⟩ = some (.int .i64 x1) := (hb.cell (p := ⟨g, o + i * 2, none⟩) hg).trans k1
        have c2 : wr.cell? ⟨g, o + i * 2 + 1, none⟩ = some (.int .i64 x2) := (hb.cell (p := ⟨g, o + i * 2 + 1, none⟩) hg).trans k2
        have q1 : (i : Int) < (xs.length : Int) := by omega
        have q2 : (i : Int) < 25 := by omega
        clear k1 k2 hb hz hg
        go_upto_block 1 with fail
        go_cut [4, 5, 7, 8, 9, 10, 11, 12, 14] from 15 to 221 (fun s4 s5 s7 s8 s9 s10 s11 s12 s14 wx => ∃ (ks' : List GK) (d' : Nat), Hid (GrowP w0 s4 s5 wx (i + 1) d' ks'))
        case first =>
          go_wp2_with fail
          refine (pick_any x2 9 (by omega) (by omega) _).mono ?_
          rintro e w' ⟨rfl, rfl⟩
          obtain ⟨n, hn⟩ : ∃ n, x2 % 9 = n := ⟨_, rfl⟩
          have n0 : 0 ≤ n := by omega
          have n9 : n < 9 := by omega
          rw [hn]
          clear hn
          go_wp2_with fail
          refine (pick_any x1 7 (by omega) (by omega) _).mono ?_
          rintro e w' ⟨rfl, rfl⟩
          obtain ⟨k, hk⟩ : ∃ k, x1 % 7 = k := ⟨_, rfl⟩
          have k0 : 0 ≤ k := by omega
          have k7 : k < 7 := by omega
          rw [hk]
          clear hk
          have hl25 : ks.length ≤ i := HG.out.len
          rcases (show k < 3 ∨ (3 ≤ k ∧ ks.length = 0) ∨ (3 ≤ k ∧ ∃ m, ks.length = m + 1) by
            by_cases h : k < 3
            · exact .inl h
            · by_cases h0 : ks.length = 0
              · exact .inr (.inl ⟨by omega, h0⟩)
              · exact .inr (.inr ⟨by omega, ks.length - 1, by omega⟩)) with hA | ⟨hA, hks⟩ | ⟨hA, m, hm⟩
          · obtain ⟨a4, c4, rfl⟩ := own_form HG.out.two.own4
            obtain ⟨a5, c5, rfl⟩ := own_form HG.out.two.own5
            have hl25' : (0 : Int) ≤ (ks.length : Int) := by omega
            go_upto_block 2 with fail
            exact armA2 HW HG hi1 hi2 hlt h25 HN c1 c2 q1 q2 n0 n9 hl25 hA (by assumption) (by assumption)
          · have hd0 : decide ((ks.length : Int) - 1 < 0) = true := decide_eq_true (by omega)
            have hd1 : (ks.length : Int) - 1 < 0 := by omega
            clear hks
            obtain ⟨a4, c4, rfl⟩ := own_form HG.out.two.own4
            obtain ⟨a5, c5, rfl⟩ := own_form HG.out.two.own5
            have hl25' : (0 : Int) ≤ (ks.length : Int) := by omega
            go_upto_block 2 with fail
            exact armB2 HW HG hi1 hi2 hlt h25 HN c1 c2 q1 q2 n0 n9 hl25 hA hd0 hd1 (by assumption) (by assumption)
          · have hg4 : ∃ g4 c4, u4 = .slice (some ⟨g4, 0, none⟩) (m + 1) c4 := by
              have hT := HG.out.two
              rw [hm] at hT
              obtain ⟨g4, c4, e, _⟩ := hT.own4.form (by omega)
              exact ⟨g4, c4, e⟩
            have hg5 : ∃ g5 c5, u5 = .slice (some ⟨g5, 0, none⟩) (m + 1) c5 := by
              have hT := HG.out.two
              rw [hm] at hT
              obtain ⟨g5, c5, e, _⟩ := hT.own5.form (by omega)
              exact ⟨g5, c5, e⟩
            obtain ⟨g4, c4, rfl⟩ := hg4
            obtain ⟨g5, c5, rfl⟩ := hg5
            have HMM := Lib.hid hm
            have hl25' : m < 25 := by omega
            clear hm
            go_upto_block 2 with fail
            rcases (show k = 3 ∨ k = 4 ∨ k = 5 ∨ k = 6 by omega) with rfl | rfl | rfl | rfl
            · exact arm32 HW HG hi1 hi2 hlt h25 HN c1 c2 q1 q2 n0 n9 hl25 HMM.out (by assumption) (by assumption)
            · exact arm42 HW HG hi1 hi2 hlt h25 HN c1 c2 q1 q2 n0 n9 hl25 HMM.out (by assumption) (by assumption)
            · exact arm52 HW HG hi1 hi2 hlt h25 HN c1 c2 q1 q2 n0 n9 hl25 HMM.out (by assumption) (by assumption)
            · exact arm62 HW HG hi1 hi2 hlt h25 HN c1 c2 q1 q2 n0 n9 hl25 HMM.out (by assumption) (by assumption)
        case rest =>
          obtain ⟨ks', d', HP⟩ := hcut
          go_wp2_with fail
          go_roundg (25 - (i + 1))
          case measure => omega
          case rel => exact ⟨i + 1, _, _, by go_num, by omega, by omega, rfl, HP⟩
      · have qe : ¬ (i : Int) < 25 := by omega
        have qe1 : (i : Int) < (xs.length : Int) := by omega
        have hl25 := HG.out.len
        rcases (show ks.length = 0 ∨ ∃ m, ks.length = m + 1 by
          by_cases h0 : ks.length = 0
          · exact .inl h0
          · exact .inr ⟨ks.length - 1, by omega⟩) with hm | ⟨m, hm⟩
        · have hT := HG.out.two
          rw [hm] at hT
          obtain ⟨a4, c4, rfl⟩ := own_form hT.own4
          obtain ⟨a5, c5, rfl⟩ := own_form hT.own5
          clear hT
          go_upto_region 40 with fail
          exact outA HW HG hi1 hi2 hl25 hm (by assumption) (by assumption)
        · have hT := HG.out.two
          rw [hm] at hT
          obtain ⟨g4, c4, rfl, hgl4⟩ := hT.own4.form (by omega)
          obtain ⟨g5, c5, rfl, hgl5⟩ := hT.own5.form (by omega)
          clear hT hgl4 hgl5
          have HMM := Lib.hid hm
          clear hm
          go_upto_region 40 with fail
          exact outB HW HG hi1 hi2 hl25 HMM.out (by assumption) (by assumption)
    · have qe : ¬ (i : Int) < (xs.length : Int) := by omega
      have hl25 := HG.out.len
      rcases (show ks.length = 0 ∨ ∃ m, ks.length = m + 1 by
        by_cases h0 : ks.length = 0
        · exact .inl h0
        · exact .inr ⟨ks.length - 1, by omega⟩) with hm | ⟨m, hm⟩
      · have hT := HG.out.two
        rw [hm] at hT
        obtain ⟨a4, c4, rfl⟩ := own_form hT.own4
        obtain ⟨a5, c5, rfl⟩ := own_form hT.own5
        clear hT
        go_upto_region 40 with fail
        exact outA HW HG hi1 hi2 hl25 hm (by assumption) (by assumption)
      · have hT := HG.out.two
        rw [hm] at hT
        obtain ⟨g4, c4, rfl, hgl4⟩ := hT.own4.form (by omega)
        obtain ⟨g5, c5, rfl, hgl5⟩ := hT.own5.form (by omega)
        clear hT hgl4 hgl5
        have HMM := Lib.hid hm
        clear hm
        go_upto_region 40 with fail
        exact outB HW HG hi1 hi2 hl25 HMM.out (by assumption) (by assumption)

end Go.Proofs.YtbifpjdkljibeaaDoor
