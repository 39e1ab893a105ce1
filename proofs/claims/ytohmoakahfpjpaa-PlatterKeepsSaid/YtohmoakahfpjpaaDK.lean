import Derived.Test.YtohmoakahfpjpaaD9
namespace Go.Proofs.Ytohmoakahfpjpaa
open Go.RowKit Go.Sort
set_option maxRecDepth 100000
set_option maxHeartbeats 1000000

theorem nums_one {w : World} {g : Nat} {x : Int} (h : w.cell? ⟨g, 0, none⟩ = some (.int .i64 x)) : Nums w (some ⟨g, 0, none⟩) [x] := fun i y hi => by
  match i, hi with
  | 0, hi => simp at hi; subst hi; exact ⟨g, 0, rfl, cell?_lt h, h⟩
theorem known_now (F G : Blk) : (((Disk.blank.write 0 F).write 0 G).crash (keepF [0])).now 0 = F := by
  simp [Disk.blank, Disk.write, Disk.crash, Disk.now, keptAt, keepF, upd]
/-- corbellaw7.known. -/
theorem dknown (w : World) : Calls Try.prog 8 #[] w fun e w' => e = .returned (.bool true) ∧ Below w.heap.size w w' := by
  have HN := Lib.hid (dnew_of w 4 4 (by omega) (by rfl))
  go_enter Try.func8, Try.ntmps8
  go_wp2_with fail
  refine HN.out.mono ?_
  rintro e w1 ⟨p, S1, rfl, P1, B1, E1⟩
  try dsimp only
  have HP1 := Lib.hid P1
  have HB1 : Hid (Below w.heap.size w w1 ∧ ∀ k ∈ S1, w.heap.size ≤ k) := Lib.hid ⟨B1, E1⟩
  clear P1 B1 E1
  go_wp2_with fail
  refine (lall 1 w1).mono ?_
  rintro e w2 ⟨g1, rfl, K1, B2, _⟩
  try dsimp only
  have HK1 := Lib.hid K1
  have HP2 := Lib.hid (HP1.out.below B2)
  have HB2 : Hid (Below w.heap.size w w2 ∧ ∀ k ∈ S1, w.heap.size ≤ k) := Lib.hid ⟨HB1.out.1.trans (B2.mono HB1.out.1.size), HB1.out.2⟩
  clear K1 B2 HP1 HB1
  go_wp2_with fail
  refine (dwrite 0 (some ⟨g1, 0, none⟩) 160 _ HP2.out (by omega) HK1.out.rd (by omega)).mono ?_
  rintro e w3 ⟨S3, rfl, P3, T3⟩
  try dsimp only
  have HP3 := Lib.hid P3
  have HB3 := Lib.hid (Below.step HB2.out.1 T3 HB2.out.2 HB2.out.1.size)
  clear P3 T3 HP2 HB2 HK1
  go_wp2_with fail
  refine (lall 2 w3).mono ?_
  rintro e w4 ⟨g2, rfl, K2, B4, _⟩
  try dsimp only
  have HK2 := Lib.hid K2
  have HP4 := Lib.hid (HP3.out.below B4)
  have HB4 : Hid (Below w.heap.size w w4 ∧ ∀ k ∈ S3, w.heap.size ≤ k) := Lib.hid ⟨HB3.out.1.trans (B4.mono HB3.out.1.size), HB3.out.2⟩
  clear K2 B4 HP3 HB3
  go_wp2_with fail
  refine (dwrite 0 (some ⟨g2, 0, none⟩) 160 _ HP4.out (by omega) HK2.out.rd (by omega)).mono ?_
  rintro e w5 ⟨S5, rfl, P5, T5⟩
  try dsimp only
  have HP5 := Lib.hid P5
  have HB5 := Lib.hid (Below.step HB4.out.1 T5 HB4.out.2 HB4.out.1.size)
  clear P5 T5 HP4 HB4 HK2
  have HP6 := Lib.hid (HP5.out.below ((Below.refl _ _).alloc (Nat.le_refl _) (.cells #[.int .i64 0] 3)))
  have HB6 : Hid (Below w.heap.size w (w5.alloc (.cells #[.int .i64 0] 3)) ∧ ∀ k ∈ S5, w.heap.size ≤ k) := Lib.hid ⟨HB5.out.1.alloc HB5.out.1.size _, HB5.out.2⟩
  have HC := Lib.hid (dcrash (some ⟨w5.heap.size, 0, none⟩) [0] 1 HP6.out (nums_one (cell_of_block (alloc_block _ _))) (by simp) (by omega))
  go_wp2_with fail
  refine HC.out.mono ?_
  rintro e w7 ⟨S7, rfl, P7, T7⟩
  try dsimp only
  have HP7 := Lib.hid P7
  have HB7 := Lib.hid (Below.step HB6.out.1 T7 HB6.out.2 HB6.out.1.size)
  clear P7 T7 HP6 HB6 HP5 HB5 HC
  go_wp2_with fail
  refine (dread 0 HP7.out (by omega)).mono ?_
  rintro e w8 ⟨g8, c8, rfl, K8, B8, _, hc8⟩
  try dsimp only
  have HK8 := Lib.hid K8
  have HP8 := Lib.hid (HP7.out.below B8)
  have HB8 : Hid (Below w.heap.size w w8 ∧ ∀ k ∈ S7, w.heap.size ≤ k) := Lib.hid ⟨HB7.out.1.trans (B8.mono HB7.out.1.size), HB7.out.2⟩
  clear K8 B8 HP7 HB7
  go_wp2_with fail
  have K8 := HK8.out
  rw [known_now] at K8
  have v8 : Sem.run Try.prog (convert 26 9 (.slice (some ⟨g8, 0, none⟩) 160 c8)) w8.drew = .ok (.string (strOf ((List.range 160).map (fun _ => byteOf 1)))) w8.drew := conv_rd (w := w8.drew) K8.rd
  have HK9 := Lib.hid K8
  have HC9 : Hid (∀ W, Below w8.heap.size w8 W → Sem.run Try.prog (convert 26 9 (.slice (some ⟨g8, 0, none⟩) 160 c8)) W = .ok (.string (strOf ((List.range 160).map (fun _ => byteOf 1)))) W) := Lib.hid (fun W hW => conv_rd (K8.below hW).rd)
  have HD9 : Hid (∀ g W, Blk8 W g 160 (fun _ => byteOf 1) → Sem.run Try.prog (convert 26 9 (.slice (some ⟨g, 0, none⟩) 160 160)) W = .ok (.string (strOf ((List.range 160).map (fun _ => byteOf 1)))) W) := Lib.hid (fun g W hW => conv_rd hW.rd)
  have HL := Lib.hid (lall 1 w8.drew)
  have HPD := Lib.hid (HP8.out.below (below_drewN 1 w8))
  clear K8 HK8
  generalize strOf ((List.range 160).map (fun _ => byteOf 1)) = str at *
  go_region_with (first | (go_at_call 10; refine HL.out.mono ?_; rintro e w9 ⟨g9, rfl, K9, B9, _⟩; (try dsimp only); have v9 := HD9.out g9 w9 K9; have y9 := HC9.out w9 ((below_drewN 1 w8).trans B9); have HP9 := Lib.hid (HPD.out.below B9); have HB9 : Hid (Below w.heap.size w w9) := Lib.hid (HB8.out.1.trans (((below_drewN 1 w8).trans B9).mono HB8.out.1.size)); clear K9 B9) | (go_at_call 18; refine (dblocks HP9.out).mono ?_; rintro e w10 ⟨rfl, hw⟩; obtain rfl := hw.symm) | (go_at_call 11; refine (show Calls Try.prog _ _ _ (DPendRet [] _) from dpending HP9.out (by omega)).mono ?_; rintro e w11 ⟨a11, c11, rfl, _, B11⟩; (try dsimp only [List.length]); have HB11 : Hid (Below w.heap.size w w11) := Lib.hid (HB9.out.trans (B11.mono HB9.out.size)); clear B11) | fail)
  all_goals
    go_wp2_with fail
    go_ret
    exact ⟨rfl, HB11.out⟩
end Go.Proofs.Ytohmoakahfpjpaa
