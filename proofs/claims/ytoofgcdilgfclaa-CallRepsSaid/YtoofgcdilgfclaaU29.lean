import Derived.Test.YtoofgcdilgfclaaU28
import Derived.Test.YtoofgcdilgfclaaU26
namespace Go.Proofs.Ytoofgcdilgfclaa
open Go.RowKit Go.Sort
set_option maxRecDepth 100000
set_option maxHeartbeats 2000000

/-- corbel/call.layPiece. -/
theorem clayPiece (s g i : Nat) (D : List Nat) (A : Option Addr) (c : Nat) (w : World) (hn : D.length = 32) (h : BL w A D) :
    Calls Try.prog 35 #[pv (s : Int) (g : Int) (i : Int) A 32 c] w (CatRet (byteL s 1 ++ (byteL g 6 ++ (byteL i 1 ++ D))) w) := by
  obtain ⟨w1, hw1⟩ : ∃ w1, w.alloc (.cells #[.int .i64 (s : Int), .int .i64 (g : Int), .int .i64 (i : Int), .slice A 32 c] 31) = w1 := ⟨_, rfl⟩
  obtain ⟨H, hH⟩ : ∃ H, w.heap.size = H := ⟨_, rfl⟩
  have HW1 := Lib.hid hw1
  have HH := Lib.hid hH
  have hv : PV w1 H (s : Int) (g : Int) (i : Int) A 32 c := by rw [← hw1, ← hH]; exact PV.new w _ _ _ _ _ _
  have hb1 : Below H w w1 := by rw [← hw1, ← hH]; exact (Below.refl _ _).alloc (Nat.le_refl _) _
  have HB1 := Lib.hid hb1
  have HQ := Lib.hid hv
  have HD1 := Lib.hid (h.below (by rw [hH]; exact hb1))
  have HN := Lib.hid hn
  have hZ : H ≤ w1.heap.size := Nat.le_of_lt hv.lt
  have HZ := Lib.hid hZ
  have hb0 : Below w1.heap.size w1 w1.drew := below_drewN 1 w1
  have HS : Hid (∀ W, Below w1.heap.size w1 W → W.cell? ⟨H, 0, none⟩ = some (.int .i64 (s : Int)) ∧ W.cell? ⟨H, 1, none⟩ = some (.int .i64 (g : Int)) ∧ W.cell? ⟨H, 2, none⟩ = some (.int .i64 (i : Int)) ∧ W.cell? ⟨H, 3, none⟩ = some (.slice A 32 c)) := Lib.hid (fun W hW => by
    have := HQ.out.below hW
    exact ⟨this.c0, this.c1, this.c2, this.c3⟩)
  have HB2d : Hid (Below w1.heap.size w1 w1.drew) := Lib.hid hb0
  have HZd : Hid (w1.heap.size ≤ w1.drew.heap.size) := Lib.hid hb0.size
  obtain ⟨T, hT⟩ : ∃ T, byteL s 1 ++ (byteL g 6 ++ (byteL i 1 ++ D)) = T := ⟨_, rfl⟩
  have HT : Hid (T = [byteL s 1, byteL g 6, byteL i 1, D].flatten) := Lib.hid (by rw [← hT]; simp)
  have HTL : Hid (T.length = 40) := Lib.hid (by rw [← hT]; simp only [List.length_append, byteL_len, HN.out])
  rw [hT]
  have HRW : Hid (∀ {W : World} {g3 g4 g5 : Nat}, BL W (some ⟨g3, 0, none⟩) (byteL s 1) → BL W (some ⟨g4, 0, none⟩) (byteL g 6) → BL W (some ⟨g5, 0, none⟩) (byteL i 1) → BL W A D → RowsB W [.slice (some ⟨g3, 0, none⟩) 1 1, .slice (some ⟨g4, 0, none⟩) 6 6, .slice (some ⟨g5, 0, none⟩) 1 1, .slice A 32 c] [byteL s 1, byteL g 6, byteL i 1, D]) := Lib.hid (fun a b d f =>
    ⟨⟨_, _, by rw [byteL_len], a⟩, ⟨_, _, by rw [byteL_len], b⟩, ⟨_, _, by rw [byteL_len], d⟩, ⟨_, _, by rw [HN.out], f⟩, trivial⟩)
  clear hw1 hH hb1 hv h hn hT
  unfold pv
  go_enter Try.func35, Try.ntmps35
  go_wp2_with fail
  rw [HW1.out, HH.out]
  go_region_held (fun W => W.cell? ⟨H, 0, none⟩ = some (.int .i64 (s : Int)) ∧ W.cell? ⟨H, 1, none⟩ = some (.int .i64 (g : Int)) ∧ W.cell? ⟨H, 2, none⟩ = some (.int .i64 (i : Int)) ∧ W.cell? ⟨H, 3, none⟩ = some (.slice A 32 c))
    (first | (with_reducible assumption) | (with_reducible exact HS.out _ hb0) | (with_reducible exact HS.out _ hbW) | (with_reducible exact HS.out _ (hbW.alloc hbW.size _)))
    (first
      | (go_at_call 29; (with_reducible refine (nbytesL s 1 1 rfl _ (by omega) HB2d.out HZd.out).mono ?_); rintro e w3 ⟨g3, rfl, k3, hbW, b3, z3⟩; (try dsimp only); have K3 := Lib.hid k3; have HB3 := Lib.hid hbW; have HZ3 := Lib.hid z3; clear k3 b3 z3)
      | (go_at_call 29; (with_reducible refine (nbytesL g 6 6 rfl _ (by omega) HB3.out HZ3.out).mono ?_); rintro e w4 ⟨g4, rfl, k4, hbV, b4, z4⟩; (try dsimp only); have K4 := Lib.hid k4; have HB4 := Lib.hid hbV; have K3_4 := Lib.hid (K3.out.below b4); have HZ4 := Lib.hid z4; clear k4 b4 z4 hbW; have hbW := hbV)
      | (go_at_call 29; (with_reducible refine (nbytesL i 1 1 rfl _ (by omega) HB4.out HZ4.out).mono ?_); rintro e w5 ⟨g5, rfl, k5, hbV, b5, z5⟩; (try dsimp only); have K5 := Lib.hid k5; have HB5 := Lib.hid hbV; have K3_5 := Lib.hid (K3_4.out.below b5); have K4_5 := Lib.hid (K4.out.below b5); have HD5 := Lib.hid (HD1.out.below hbV); have HZ5 := Lib.hid z5; clear k5 b5 z5 hbW; have hbW := hbV)
      | (go_at_call 28; (with_reducible refine (mconcatL w5 [.slice (some ⟨g3, 0, none⟩) 1 1, .slice (some ⟨g4, 0, none⟩) 6 6, .slice (some ⟨g5, 0, none⟩) 1 1, .slice A 32 c] [byteL s 1, byteL g 6, byteL i 1, D] (HRW.out K3_5.out K4_5.out K5.out HD5.out) 4 rfl (by omega) T HT.out (by rw [HTL.out]; omega) (by rw [HTL.out]; omega)).mono ?_); rintro e w8 ⟨g8, c8, rfl, k8, b8, z8, y8⟩; (try dsimp only); have K8 := Lib.hid k8; have HZ8 := Lib.hid z8; have hbV := hbW.trans (b8.mono hbW.size); have HB8 := Lib.hid hbV; have HG8 : Hid (w5.heap.size ≤ g8) := Lib.hid y8; clear k8 b8 z8 y8 hbW; have hbW := hbV)
      | fail)
  go_wp2_with fail
  go_ret
  exact ⟨g8, c8, rfl, K8.out, by rw [HH.out]; exact HB1.out.trans (HB8.out.mono HZ.out), HZ8.out, by rw [HH.out]; have h1 := HZ5.out; have h2 := HG8.out; omega⟩
/-- corbel/call.layIntent. -/
theorem clayIntent (s g : Nat) (D : List Nat) (A : Option Addr) (c : Nat) (w : World) (hn : D.length = 128) (h : BL w A D) :
    Calls Try.prog 36 #[iv (s : Int) (g : Int) A 128 c] w (CatRet (byteL s 1 ++ (byteL g 6 ++ D)) w) := by
  obtain ⟨w1, hw1⟩ : ∃ w1, w.alloc (.cells #[.int .i64 (s : Int), .int .i64 (g : Int), .slice A 128 c] 35) = w1 := ⟨_, rfl⟩
  obtain ⟨H, hH⟩ : ∃ H, w.heap.size = H := ⟨_, rfl⟩
  have HW1 := Lib.hid hw1
  have HH := Lib.hid hH
  have hv : IV w1 H (s : Int) (g : Int) A 128 c := by rw [← hw1, ← hH]; exact IV.new w _ _ _ _ _
  have hb1 : Below H w w1 := by rw [← hw1, ← hH]; exact (Below.refl _ _).alloc (Nat.le_refl _) _
  have HB1 := Lib.hid hb1
  have HQ := Lib.hid hv
  have HD1 := Lib.hid (h.below (by rw [hH]; exact hb1))
  have HN := Lib.hid hn
  have hZ : H ≤ w1.heap.size := Nat.le_of_lt hv.lt
  have HZ := Lib.hid hZ
  have hb0 : Below w1.heap.size w1 w1.drew := below_drewN 1 w1
  have HS : Hid (∀ W, Below w1.heap.size w1 W → W.cell? ⟨H, 0, none⟩ = some (.int .i64 (s : Int)) ∧ W.cell? ⟨H, 1, none⟩ = some (.int .i64 (g : Int)) ∧ W.cell? ⟨H, 2, none⟩ = some (.slice A 128 c)) := Lib.hid (fun W hW => by
    have := HQ.out.below hW
    exact ⟨this.c0, this.c1, this.c2⟩)
  have HB2d : Hid (Below w1.heap.size w1 w1.drew) := Lib.hid hb0
  have HZd : Hid (w1.heap.size ≤ w1.drew.heap.size) := Lib.hid hb0.size
  obtain ⟨T, hT⟩ : ∃ T, byteL s 1 ++ (byteL g 6 ++ D) = T := ⟨_, rfl⟩
  have HT : Hid (T = [byteL s 1, byteL g 6, D].flatten) := Lib.hid (by rw [← hT]; simp)
  have HTL : Hid (T.length = 135) := Lib.hid (by rw [← hT]; simp only [List.length_append, byteL_len, HN.out])
  rw [hT]
  have HRW : Hid (∀ {W : World} {g3 g4 : Nat}, BL W (some ⟨g3, 0, none⟩) (byteL s 1) → BL W (some ⟨g4, 0, none⟩) (byteL g 6) → BL W A D → RowsB W [.slice (some ⟨g3, 0, none⟩) 1 1, .slice (some ⟨g4, 0, none⟩) 6 6, .slice A 128 c] [byteL s 1, byteL g 6, D]) := Lib.hid (fun a b f =>
    ⟨⟨_, _, by rw [byteL_len], a⟩, ⟨_, _, by rw [byteL_len], b⟩, ⟨_, _, by rw [HN.out], f⟩, trivial⟩)
  clear hw1 hH hb1 hv h hn hT
  unfold iv
  go_enter Try.func36, Try.ntmps36
  go_wp2_with fail
  rw [HW1.out, HH.out]
  go_region_held (fun W => W.cell? ⟨H, 0, none⟩ = some (.int .i64 (s : Int)) ∧ W.cell? ⟨H, 1, none⟩ = some (.int .i64 (g : Int)) ∧ W.cell? ⟨H, 2, none⟩ = some (.slice A 128 c))
    (first | (with_reducible assumption) | (with_reducible exact HS.out _ hb0) | (with_reducible exact HS.out _ hbW) | (with_reducible exact HS.out _ (hbW.alloc hbW.size _)))
    (first
      | (go_at_call 29; (with_reducible refine (nbytesL s 1 1 rfl _ (by omega) HB2d.out HZd.out).mono ?_); rintro e w3 ⟨g3, rfl, k3, hbW, b3, z3⟩; (try dsimp only); have K3 := Lib.hid k3; have HB3 := Lib.hid hbW; have HZ3 := Lib.hid z3; clear k3 b3 z3)
      | (go_at_call 29; (with_reducible refine (nbytesL g 6 6 rfl _ (by omega) HB3.out HZ3.out).mono ?_); rintro e w4 ⟨g4, rfl, k4, hbV, b4, z4⟩; (try dsimp only); have K4 := Lib.hid k4; have HB4 := Lib.hid hbV; have K3_4 := Lib.hid (K3.out.below b4); have HD4 := Lib.hid (HD1.out.below hbV); have HZ4 := Lib.hid z4; clear k4 b4 z4 hbW; have hbW := hbV)
      | (go_at_call 28; (with_reducible refine (mconcatL w4 [.slice (some ⟨g3, 0, none⟩) 1 1, .slice (some ⟨g4, 0, none⟩) 6 6, .slice A 128 c] [byteL s 1, byteL g 6, D] (HRW.out K3_4.out K4.out HD4.out) 3 rfl (by omega) T HT.out (by rw [HTL.out]; omega) (by rw [HTL.out]; omega)).mono ?_); rintro e w8 ⟨g8, c8, rfl, k8, b8, z8, y8⟩; (try dsimp only); have K8 := Lib.hid k8; have HZ8 := Lib.hid z8; have hbV := hbW.trans (b8.mono hbW.size); have HB8 := Lib.hid hbV; have HG8 : Hid (w4.heap.size ≤ g8) := Lib.hid y8; clear k8 b8 z8 y8 hbW; have hbW := hbV)
      | fail)
  go_wp2_with fail
  go_ret
  exact ⟨g8, c8, rfl, K8.out, by rw [HH.out]; exact HB1.out.trans (HB8.out.mono HZ.out), HZ8.out, by rw [HH.out]; have h1 := HZ4.out; have h2 := HG8.out; omega⟩
end Go.Proofs.Ytoofgcdilgfclaa
