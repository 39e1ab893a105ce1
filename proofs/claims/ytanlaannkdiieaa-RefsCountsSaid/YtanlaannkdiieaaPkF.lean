import Derived.Test.YtanlaannkdiieaaPkE
namespace Go.Proofs.Ytanlaannkdiieaa.Pk
open Go.RowKit Go.Sort

theorem Raw.less {w : World} {hb g mb cap : Nat} {l : List It} (h : Raw w hb g mb cap l) (i j : Nat) (hi : i < l.length) (hj : j < l.length) :
    Calls Try.prog 45 #[.pointer (some ⟨hb, 0, none⟩), .int .i64 i, .int .i64 j] w fun e w' => e = .returned (.bool (ltIt (at' l i) (at' l j))) ∧ Below w.heap.size w w' :=
  less66 hb g cap i j _ l w h.head h.row hi hj

theorem Raw.below {w w' : World} {hb g mb cap : Nat} {l : List It} (h : Raw w hb g mb cap l) (b : Below w.heap.size w w') : Raw w' hb g mb cap l := h.keep (fun k hk _ => b.block k hk)

set_option maxHeartbeats 2000000 in
set_option maxRecDepth 100000 in
theorem up28 (hb g mb cap j0 n : Nat) (l : List It) (w : World) (h : Raw w hb g mb cap l) (hj : j0 < n) (hn : n ≤ l.length) (hP : Pu l n j0) :
    Calls Try.prog 28 #[.iface 51 (.pointer (some ⟨hb, 0, none⟩)), .int .i64 j0] w fun e w' => e = .returned (.tuple #[]) ∧ ∃ l', Raw w' hb g mb cap l' ∧ Turn [g, mb] w w' ∧ l'.Perm l ∧ Heapy l' n ∧ (∀ k, n ≤ k → at' l' k = at' l k) := by
  have m1 := fun w' => mLess ⟨hb, 0, none⟩ w'
  have m2 := fun w' => naLess ⟨hb, 0, none⟩ w'
  have m3 := fun w' => mSwap ⟨hb, 0, none⟩ w'
  have m4 := fun w' => naSwap ⟨hb, 0, none⟩ w'
  have HL := Lib.hid h
  have HP := Lib.hid hP
  have hsh := h.short
  have hn1 : n ≤ 1000 := by omega
  have HN := Lib.hid hn
  clear h hP hn hsh
  go_enter Try.func28, Try.ntmps28
  go_wp2_with fail
  go_loopg [1] (j0 + 1) (fun gh sj wr => ∃ (j : Nat) (l1 : List It), sj = .int .i64 j ∧ j + 1 ≤ gh ∧ j < n ∧ Hid (n ≤ l1.length) ∧ Hid (∀ k, n ≤ k → at' l1 k = at' l k) ∧ Hid (Raw wr hb g mb cap l1) ∧ Hid (Turn [g, mb] w wr) ∧ Hid (l1.Perm l) ∧ Hid (Pu l1 n j))
  case atStart => exact ⟨j0, l, rfl, Nat.le_refl _, hj, HN, Lib.hid (fun _ _ => rfl), HL, Lib.hid (Turn.refl _ _), Lib.hid (List.Perm.refl _), HP⟩
  case round =>
    obtain ⟨j, l1, rfl, hg, hjl, HN1, HTL, HR, HT, HPm, HU⟩ := hrel
    clear HL HP HN
    by_cases hz : j = 0
    · subst hz
      go_wp2_with fail
      go_end0
      exact ⟨rfl, l1, HR.out, HT.out, HPm.out, heapy_of HU.out (fun h0 => absurd h0 (Nat.lt_irrefl 0)), HTL.out⟩
    · have hpl : par j < j := by unfold par; omega
      have ep : ((j : Int) - 1) / 2 = ((par j : Nat) : Int) := by unfold par; omega
      have HC := Lib.hid (HR.out.less j (par j) (by have := HN1.out; omega) (by have := HN1.out; omega))
      have HU2 := fun hlt => up_step (l := l1) (n := n) (j := j) HU.out hjl HN1.out (by omega) hlt
      have HU3 : ltIt (at' l1 j) (at' l1 (par j)) = false → Heapy l1 n := fun e => heapy_of HU.out (fun _ => e)
      have HV2 := Lib.hid HU2
      have HV3 := Lib.hid HU3
      have HSW := Lib.hid (fun w1 R => swap69 hb g mb cap (par j) j l1 w1 R (by have := HN1.out; omega) (by have := HN1.out; omega))
      have HSP := Lib.hid (swp_perm (l := l1) (i := par j) (j := j) (by have := HN1.out; omega) (by have := HN1.out; omega))
      clear HU2 HU3 HU
      revert ep HC HV2 HV3 HSW HSP hpl
      generalize par j = p
      intro hpl ep HC HV2 HV3 HSW HSP
      have hne : ((p : Int) == (j : Int)) = false := beq_eq_false_iff_ne.2 (by omega)
      go_wp2_with fail

      cases hlt : ltIt (at' l1 j) (at' l1 p)
      · refine HC.out.mono ?_
        rintro e w1 ⟨rfl, b1⟩
        rw [hlt]
        go_wp2_with fail
        go_end0
        exact ⟨rfl, l1, HR.out.below b1, HT.out.trans (Turn.of b1), HPm.out, HV3.out hlt, HTL.out⟩
      · refine HC.out.mono ?_
        rintro e w1 ⟨rfl, b1⟩
        rw [hlt]
        have HB := Lib.hid b1
        clear b1
        go_wp2_with fail
        refine (HSW.out w1 (HR.out.below HB.out)).mono ?_
        rintro e w2 ⟨rfl, R2, T2⟩
        have HR2 := Lib.hid R2
        have HT2 := Lib.hid T2
        clear R2 T2
        go_wp2_with fail
        go_roundg (p + 1)
        case measure => omega
        case rel => exact ⟨p, swp l1 p j, rfl, Nat.le_refl _, by omega, Lib.hid (by rw [length_swp]; exact HN1.out), Lib.hid (fun k hk => by rw [at_swp _ _ _ _ (by have := HN1.out; omega) (by have := HN1.out; omega), if_neg (by omega), if_neg (by omega)]; exact HTL.out k hk), HR2, Lib.hid ((HT.out.trans (Turn.of HB.out)).trans HT2.out), Lib.hid (HSP.out.trans HPm.out), Lib.hid (HV2.out hlt)⟩
end Go.Proofs.Ytanlaannkdiieaa.Pk
