import Derived.Test.YtjbicpekpgaokaaA5
import Derived.Lib.SlBytesConst
namespace Go.Proofs.Ytjbicpekpgaokaa
open Go.RowKit Go.Sort
set_option maxRecDepth 100000
set_option maxHeartbeats 1000000

/-- mark.Open of what was sealed. -/
def OpenedRet (kind n : Nat) (B : Nat → Nat) (w : World) (e : Ending) (w' : World) : Prop := ∃ g cap, e = .returned (.tuple #[.int .i64 (kind : Int), .slice (some ⟨g, 0, none⟩) n cap, .int .i64 0]) ∧ Rd w' (some ⟨g, 0, none⟩) n B ∧ Below w.heap.size w w'
theorem mopened (g q cap kind n : Nat) (B : Nat → Nat) (w : World) (h : Rd w (some ⟨g, q, none⟩) 160 (sealF kind n B)) (hc : 160 ≤ cap) (hk1 : 1 ≤ kind) (hk2 : kind < 256) (hn : n ≤ 153) (hB : ∀ j, j < n → B j < 256) :
    Calls Try.prog 14 #[.slice (some ⟨g, q, none⟩) 160 cap] w (OpenedRet kind n B w) := by
  obtain ⟨h1, h2, h3, h4, h5⟩ := openOk_seal (B := B) (F := sealF kind n B) hk1 hn (fun _ _ => rfl)
  refine mopen_rest g q cap (sealF kind n B) w _ h hc (fun j _ => sealF_lt hk2 hB j) h2 (fun h => absurd h1 h) ?_
  rintro _ e w' ⟨b, cb, rfl, hrb, hb, _⟩
  have hr := hrb.rd
  rw [h4] at hr
  exact ⟨b, cb, by rw [h3, h4], hr.congr h5, hb⟩
theorem sum_two : sumF (fun _ => 2) 1 = 42 := by rw [sumF_succ, sumF_zero]
/-- corbellaw6.known. -/
theorem lknown (w : World) : Calls Try.prog 13 #[] w fun e w' => e = .returned (.bool true) ∧ Below w.heap.size w w' := by
  have HRD : Hid (Rd (w.alloc (.cells #[.int .u8 97, .int .u8 98] 5 (2, 3))) (some ⟨w.heap.size, 0, none⟩) 2 (fun j => if j = 0 then 97 else 98)) := Lib.hid (Rd.mk_ fun j hj => by
    rw [Nat.zero_add, cell_of_block (alloc_block w _)]
    match j, hj with
    | 0, _ => rfl
    | 1, _ => rfl)
  have kc := Lib.run_convert_bytes_const (P := Try.prog) w 22 5 #[.int .u8 97, .int .u8 98] 2 2 Try.underlying22 Try.underlying5
  have HB0 : Hid (Below w.heap.size w (w.alloc (.cells #[.int .u8 97, .int .u8 98] 5 (2, 3)))) := Lib.hid ((Below.refl _ _).alloc (Nat.le_refl _) _)
  have hab : ∀ j, j < 2 → (fun j => if j = 0 then 97 else 98) j < 256 := fun j _ => by dsimp only; split <;> decide
  have HAB := Lib.hid hab
  have HSE := Lib.hid (mseal 3 2 2 _ _ _ (by omega) (by omega) (by omega) HRD.out hab)
  have hstr : (strOf ((List.range 2).map (fun j => if j = 0 then 97 else 98))).toList = [97, 98] := by rw [strOf_list]; rfl
  clear hab
  go_enter Try.func13, Try.ntmps13
  go_wp2_with fail
  refine HSE.out.mono ?_
  rintro e w2 ⟨gs, rfl, k2, hb2, _⟩
  try dsimp only
  have HB2 : Hid (Below w.heap.size w w2) := Lib.hid (HB0.out.trans (hb2.mono HB0.out.size))
  have HOP := Lib.hid (mopened gs 0 160 3 2 _ w2 k2.rd (by omega) (by omega) (by omega) (by omega) HAB.out)
  clear k2 hb2
  go_wp2_with fail
  refine HOP.out.mono ?_
  rintro e w3 ⟨g, cg, rfl, hr, hb⟩
  try dsimp only
  have HB3 : Hid (Below w.heap.size w w3) := Lib.hid (HB2.out.trans (hb.mono HB2.out.size))
  have HS1 := Lib.hid (msum none 0 0 (fun _ => 0) w3 Rd.none_ (fun j hj => absurd hj (Nat.not_lt_zero _)) (by omega))
  have HS2 := Lib.hid (msum (some ⟨w3.heap.size, 0, none⟩) 1 1 (fun _ => 2) (w3.alloc (.cells #[.int .u8 2] 5)) (own_rd (own_of_block (base := 0) (alloc_block w3 _) (Nat.zero_le _) (by omega) rfl)) (fun j _ => (show (2 : Nat) < 256 by decide)) (by omega))
  have v1 := conv_rd (cap := cg) (hr.keep ((Below.refl w3.heap.size w3).alloc (Nat.le_refl _) (.cells #[.int .u8 2] 5)))
  rw [sumF_zero] at HS1
  rw [sum_two] at HS2
  generalize strOf ((List.range 2).map (fun j => if j = 0 then 97 else 98)) = s1 at *
  clear hr hb
  go_wp2_with fail
  refine HS1.out.mono ?_
  rintro e w4 ⟨rfl, hw⟩
  obtain rfl := hw.symm
  go_wp2_with fail
  refine HS2.out.mono ?_
  rintro e w4 ⟨rfl, hw⟩
  obtain rfl := hw.symm
  go_wp2_with fail
  go_ret
  exact ⟨rfl, HB3.out.alloc HB3.out.size _⟩
end Go.Proofs.Ytjbicpekpgaokaa
