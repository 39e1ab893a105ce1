import Derived.Test.YtjbicpekpgaokaaIn11
import Derived.Test.YtjbicpekpgaokaaD8
namespace Go.Proofs.Ytjbicpekpgaokaa
open Go.RowKit Go.Sort
set_option maxRecDepth 100000
set_option maxHeartbeats 2000000

theorem lone9I (a b : Int) (s g : Nat) (x : Int) (w : World) (ha : a = (s : Int)) (hb : b = (g : Int)) : Calls Try.prog 49 #[.int .i64 a, .int .i64 b, .int .i64 x] w (LOneI s g x w) := by
  subst ha
  subst hb
  exact lone9 s g x w
/-- The first logs of a law. -/
def Ts (f : Nat → It) (n : Nat) : List Nt := (List.range n).map (fun k => (k + 1, f k))
theorem Ts_succ (f : Nat → It) (n : Nat) : Ts f (n + 1) = Ts f n ++ [(n + 1, f n)] := by
  unfold Ts
  rw [List.range_succ, List.map_append]
  rfl
theorem Ts_len (f : Nat → It) (n : Nat) : (Ts f n).length = n := by
  unfold Ts
  simp
theorem Ts_mem {f : Nat → It} {n : Nat} {e : Nt} (h : e ∈ Ts f n) : ∃ k, k < n ∧ e = (k + 1, f k) := by
  unfold Ts at h
  rw [List.mem_map] at h
  obtain ⟨k, hk, rfl⟩ := h
  exact ⟨k, List.mem_range.1 hk, rfl⟩
theorem Ts_far {g : Nat} {x : Nat → Int} {n : Nat} {y : It} (h : n ≤ y.s) : ∀ e ∈ Ts (fun k => oneI k g (x k)) n, ¬ e.2.Alike y := by
  intro e he ha
  obtain ⟨k, hk, rfl⟩ := Ts_mem he
  have h1 : k = y.s := ha.1
  omega
theorem Ts_rel : ((Ts (fun k => oneI k 1 (k : Int)) 16).filter (keepsR 3 1)).length = 15 := by kernel_rfl
theorem lknown9 (w : World) : Calls Try.prog 47 #[] w fun e w' => e = .returned (.bool true) ∧ Below w.heap.size w w' := by
  have HN := Lib.hid (dnew_of w 96 96 (by omega) rfl)
  go_enter Try.func47, Try.ntmps47
  go_wp2_with fail
  refine HN.out.mono ?_
  rintro e w1 ⟨p, S1, rfl, hp1, hb1, hS1⟩
  try dsimp only
  have HOP := Lib.hid (rs_open (w0 := w) hp1 hS1 hb1)
  clear hp1 hb1 hS1 HN
  go_wp2_with fail
  refine HOP.out.mono ?_
  rintro e w2 ⟨r, sb, rfl, hr2⟩
  try dsimp only
  have HR2 := Lib.hid hr2
  have HFR : Hid (Calls Try.prog 50 #[.pointer (some ⟨r, 0, none⟩)] w2 fun e w' => e = .returned (.int .i64 16) ∧ Below w2.heap.size w2 w') := Lib.hid (rs_free hr2)
  clear hr2 HOP
  go_wp2_with fail
  refine HFR.out.mono ?_
  rintro e w3 ⟨rfl, hb3⟩
  try dsimp only
  have HR3 : Hid (RS w r p sb (Ts (fun k => oneI k 1 (k : Int)) 0) 0 w3) := Lib.hid (HR2.out.below hb3)
  clear hb3 HFR HR2
  go_wp2_with fail
  go_loopg [4] 16 (fun q s4 v => ∃ i : Nat, s4 = .int .i64 (i : Int) ∧ i ≤ 16 ∧ q = 16 - i ∧ Hid (RS w r p sb (Ts (fun k => oneI k 1 (k : Int)) i) i v))
  case atStart => exact ⟨0, rfl, by omega, rfl, HR3⟩
  case round =>
    obtain ⟨i, rfl, hi, rfl, HV⟩ := hrel
    clear HR3
    by_cases hlt : i < 16
    · have hl : (i : Int) < 16 := by omega
      have HON := Lib.hid (lone9I (i : Int) 1 i 1 (i : Int) wr rfl rfl)
      go_wp2_with fail
      refine HON.out.mono ?_
      rintro e w4 ⟨b, rfl, kb, hb4, _⟩
      try dsimp only
      have HR4 := Lib.hid (HV.out.below hb4)
      have HLG := Lib.hid (rs_log HR4.out (oneI i 1 (i : Int)) (some ⟨b, 0, none⟩) 128 (oneI_ok (by omega) (by omega) (by omega)) (DatI.blk kb) (Ts_far (by show i ≤ i; omega)) (by rw [Ts_len]; exact hlt) (by omega))
      clear kb hb4 HON
      go_wp2_with fail
      refine HLG.out.mono ?_
      rintro e w5 ⟨rfl, hr5, _⟩
      try dsimp only
      have HR5 : Hid (RS w r p sb (Ts (fun k => oneI k 1 (k : Int)) (i + 1)) (i + 1) w5) := Lib.hid (by rw [Ts_succ]; exact hr5)
      clear hr5 HLG
      go_wp2_with fail
      go_roundg (16 - (i + 1))
      case measure => omega
      case rel => exact ⟨i + 1, by go_num, by omega, rfl, HR5⟩
    · obtain rfl : i = 16 := by omega
      have HON := Lib.hid (lone9I 30 1 30 1 1 wr rfl rfl)
      go_wp2_with fail
      refine HON.out.mono ?_
      rintro e w4 ⟨b, rfl, kb, hb4, _⟩
      try dsimp only
      have HR4 := Lib.hid (HV.out.below hb4)
      have HLG := Lib.hid (rs_full HR4.out (oneI 30 1 1) (some ⟨b, 0, none⟩) 128 (oneI_ok (by omega) (by omega) (by omega)) (DatI.blk kb) (Ts_far (by show 16 ≤ 30; omega)) (Ts_len _ _))
      clear kb hb4 HON HV
      go_wp2_with fail
      refine HLG.out.mono ?_
      rintro e w5 ⟨rfl, hb5⟩
      try dsimp only
      have HR5 := Lib.hid (HR4.out.below hb5)
      have HLV := Lib.hid (rs_live HR5.out)
      clear hb5 HLG HR4
      go_wp2_with fail
      refine HLV.out.mono ?_
      rintro e w6 ⟨u, rfl, hu, hb6⟩
      try dsimp only
      have HR6 := Lib.hid (HR5.out.below hb6)
      obtain ⟨A6, c6, hu6⟩ := hu.form
      rw [List.length_map, Ts_len] at hu6
      subst hu6
      have HRL : Hid (Calls Try.prog 51 #[.pointer (some ⟨r, 0, none⟩), .int .i64 3, .int .i64 1] w6 (RRelRet w r p sb ((Ts (fun k => oneI k 1 (k : Int)) 16).filter (keepsR 3 1)) 16 1 w6)) := Lib.hid (by
        have h := rs_rel HR6.out 3 1
        rw [Ts_rel, Ts_len] at h
        exact h)
      clear hu hb6 HLV HR5
      go_wp2_with fail
      refine HRL.out.mono ?_
      rintro e w7 ⟨rfl, hr7, _⟩
      try dsimp only
      have HR7 := Lib.hid hr7
      have HON := Lib.hid (lone9I 30 1 30 1 1 w7 rfl rfl)
      clear hr7 HRL HR6
      go_wp2_with fail
      refine HON.out.mono ?_
      rintro e w8 ⟨b8, rfl, kb, hb8, _⟩
      try dsimp only
      have HR8 := Lib.hid (HR7.out.below hb8)
      have HLG := Lib.hid (rs_log HR8.out (oneI 30 1 1) (some ⟨b8, 0, none⟩) 128 (oneI_ok (by omega) (by omega) (by omega)) (DatI.blk kb) (fun e he => Ts_far (by show 16 ≤ 30; omega) e (List.mem_filter.1 he).1) (by rw [Ts_rel]; omega) (by omega))
      clear kb hb8 HON HR7
      go_wp2_with fail
      refine HLG.out.mono ?_
      rintro e w9 ⟨rfl, hr9, _⟩
      try dsimp only
      have HB9 := Lib.hid hr9.blw
      clear hr9 HLG HR8
      go_wp2_with fail
      go_ret
      exact ⟨rfl, HB9.out⟩
end Go.Proofs.Ytjbicpekpgaokaa
