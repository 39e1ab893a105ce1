import Derived.Test.YtofmilkjhnkgjaaCh3
import Derived.Test.YtofmilkjhnkgjaaCh4
import Derived.Test.YtofmilkjhnkgjaaA4
import Derived.Deep.RegionHeld
namespace Go.Proofs.Ytofmilkjhnkgjaa
open Go.RowKit Go.Sort
set_option maxRecDepth 100000
set_option maxHeartbeats 1000000

theorem nbytesB {B : Nat} {w0 : World} (x m : Nat) (s : Int) (hs : s = (m : Int)) (w : World) (hm : m ≤ 7) (hB : Below B w0 w) (hl : B ≤ w.heap.size) :
    Calls Try.prog 59 #[.int .i64 (x : Int), .int .i64 s] w fun e w' => ∃ g, e = .returned (.slice (some ⟨g, 0, none⟩) m m) ∧ Blk8 w' g m (byteAt x m) ∧ Below B w0 w' ∧ Below w.heap.size w w' ∧ B ≤ g ∧ B ≤ w'.heap.size :=
  (nbytes x m s hs w hm).mono (by
    rintro e w' ⟨g, rfl, k, b, l⟩
    exact ⟨g, rfl, k, hB.trans (b.mono hl), b, Nat.le_trans hl l, Nat.le_trans hl b.size⟩)
theorem Below.bytes {w w' : World} {A : Option Addr} {n : Nat} {F : Nat → Nat} (b : Below w.heap.size w w') (h : Rd w A n F) : Rd w' A n F := h.keep b
theorem mseal1 (n cap : Nat) (A : Option Addr) (B : Nat → Nat) (w : World) (hn : n ≤ 153) (h : Rd w A n B) (hB : ∀ j, j < n → B j < 256) :
    Calls Try.prog 57 #[.int .i64 1, .slice A n cap] w (SealRet 1 n B w) := mseal 1 n cap A B w (by decide) (by decide) hn h hB
/-- chunk.Lay of a piece that may be. -/
def CLayRet (p : Pc) (w : World) (e : Ending) (w' : World) : Prop :=
  ∃ g, e = .returned (.tuple #[.slice (some ⟨g, 0, none⟩) 160 160, .int .i64 0]) ∧ Blk8 w' g 160 (pcS p) ∧ Below w.heap.size w w' ∧ w.heap.size ≤ g
theorem clay (p : Pc) (A : Option Addr) (cap : Nat) (w : World) (hp : p.Ok) (h : Rd w A 32 p.D) :
    Calls Try.prog 34 #[pv (p.s : Int) (p.g : Int) (p.i : Int) A 32 cap] w (CLayRet p w) := by
  obtain ⟨w1, hw1⟩ : ∃ w1, w.alloc (.cells #[.int .i64 (p.s : Int), .int .i64 (p.g : Int), .int .i64 (p.i : Int), .slice A 32 cap] 44) = w1 := ⟨_, rfl⟩
  have hk : w1.heap[w.heap.size]? = some (.cells #[.int .i64 (p.s : Int), .int .i64 (p.g : Int), .int .i64 (p.i : Int), .slice A 32 cap] 44) := by rw [← hw1]; exact alloc_block w _
  have hb1 : Below w.heap.size w w1 := by rw [← hw1]; exact (Below.refl _ _).alloc (Nat.le_refl _) _
  have hs1 : w.heap.size < w1.heap.size := heap_lt hk
  have HLT := Lib.hid (pcF_lt hp)
  obtain ⟨o1, o2, o3, o4, o5⟩ := hp
  have HR := Lib.hid (cright (p.s : Int) (p.g : Int) (p.i : Int) A 32 cap w1 true ⟨fun _ => ⟨by omega, by omega, by omega, by omega, by omega, by omega, rfl⟩, fun _ => rfl⟩)
  have HRD := Lib.hid h
  have HW := Lib.hid hw1
  have HB1 := Lib.hid hb1
  have HF : Hid (∀ j, j < 40 → pcF p j = if j < 1 then byteAt p.s 1 j else if j < 1 + 6 then byteAt p.g 6 (j - 1) else if j < 1 + 6 + 1 then byteAt p.i 1 (j - (1 + 6)) else p.D (j - (1 + 6 + 1))) := Lib.hid (by
    intro j hj
    unfold pcF
    by_cases e0 : j = 0
    · subst e0; rw [if_pos rfl, if_pos (by omega)]; exact (byte1 p.s (by omega)).symm
    · rw [if_neg e0, if_neg (by omega : ¬ j < 1)]
      by_cases e1 : j < 7
      · rw [if_pos e1, if_pos (by omega)]
      · rw [if_neg e1, if_neg (by omega : ¬ j < 1 + 6)]
        by_cases e2 : j = 7
        · subst e2; rw [if_pos rfl, if_pos (by omega)]; exact (byte1 p.i (by omega)).symm
        · rw [if_neg e2, if_neg (by omega)])
  obtain ⟨H, hH⟩ : ∃ H, w.heap.size = H := ⟨_, rfl⟩
  have HH := Lib.hid hH
  rw [hH] at hk hs1
  have HK := Lib.hid hk
  have HS1 := Lib.hid hs1
  clear hw1 hb1 h hk hs1 o5
  unfold pv
  go_enter Try.func34, Try.ntmps34
  go_wp2_with fail
  rw [HW.out]
  refine HR.out.mono ?_
  rintro e w2 ⟨rfl, hb2⟩
  try dsimp only
  have hb2H : Below H w w2 := by rw [← HH.out]; exact HB1.out.trans (hb2.mono (by rw [HH.out]; exact Nat.le_of_lt HS1.out))
  have hk2 : w2.heap[H]? = some (.cells #[.int .i64 (p.s : Int), .int .i64 (p.g : Int), .int .i64 (p.i : Int), .slice A 32 cap] 44) := (hb2.block H (by have := HS1.out; omega)).trans HK.out
  have hs2 : H < w2.heap.size := heap_lt hk2
  have HB2 : Hid (Below H w w2.drew) := Lib.hid hb2H.drew
  have HS : Hid (∀ W, Below w2.heap.size w2 W → W.cell? ⟨H, 0, none⟩ = some (.int .i64 (p.s : Int)) ∧ W.cell? ⟨H, 1, none⟩ = some (.int .i64 (p.g : Int)) ∧ W.cell? ⟨H, 2, none⟩ = some (.int .i64 (p.i : Int)) ∧ W.cell? ⟨H, 3, none⟩ = some (.slice A 32 cap)) := Lib.hid (fun W hW => by
    have hk3 := (hW.block H hs2).trans hk2
    exact ⟨cell_of_block hk3, cell_of_block hk3, cell_of_block hk3, cell_of_block hk3⟩)
  have HRW : Hid (Rd w2.drew A 32 p.D) := Lib.hid (HRD.out.keep (by rw [HH.out]; exact HB2.out))
  have hb0 := below_drewN 1 w2
  have hS0 := HS.out _ hb0
  have HS2 := Lib.hid hs2
  have HBL := Lib.hid hb2H
  clear hb2 hk2 hb2H HK HB1 HR hS0
  go_wp2_with fail
  have hsz : Hid (H ≤ w2.drew.heap.size) := Lib.hid (Nat.le_of_lt HS2.out)
  go_region_held (fun W => W.cell? ⟨H, 0, none⟩ = some (.int .i64 (p.s : Int)) ∧ W.cell? ⟨H, 1, none⟩ = some (.int .i64 (p.g : Int)) ∧ W.cell? ⟨H, 2, none⟩ = some (.int .i64 (p.i : Int)) ∧ W.cell? ⟨H, 3, none⟩ = some (.slice A 32 cap))
    (first | assumption | exact HS.out _ hb0 | exact HS.out _ hbW | exact HS.out _ (hbW.alloc (by have := hbW.size; omega) _))
    (first
      | (go_at_call 59; (with_reducible refine (nbytesB p.s 1 1 rfl _ (by omega) HB2.out hsz.out).mono ?_); rintro e w3 ⟨g3, rfl, k3, B3, b3, l3, z3⟩; (try dsimp only); have K3 := Lib.hid k3; have HB3 := Lib.hid B3; have hbW := hb0.trans (b3.mono hb0.size); have Hz := Lib.hid z3; have HR3 := Lib.hid (HRW.out.keep b3); clear k3 B3 b3 l3 z3)
      | (go_at_call 59; (with_reducible refine (nbytesB p.g 6 6 rfl _ (by omega) HB3.out Hz.out).mono ?_); rintro e w4 ⟨g4, rfl, k4, B4, b4, l4, z4⟩; (try dsimp only); have K4 := Lib.hid k4; have HB4 := Lib.hid B4; have hbW4 := hbW.trans (b4.mono hbW.size); have K34 := Lib.hid (K3.out.below b4); have Hz4 := Lib.hid z4; have HR4 := Lib.hid (HR3.out.keep b4); clear k4 B4 b4 l4 z4 hbW; have hbW := hbW4)
      | (go_at_call 59; (with_reducible refine (nbytesB p.i 1 1 rfl _ (by omega) HB4.out Hz4.out).mono ?_); rintro e w5 ⟨g5, rfl, k5, B5, b5, l5, z5⟩; (try dsimp only); have K5 := Lib.hid k5; have HB5 := Lib.hid B5; have hbW5 := hbW.trans (b5.mono hbW.size); have K35 := Lib.hid (K34.out.below b5); have K45 := Lib.hid (K4.out.below b5); have Hz5 := Lib.hid z5; have HR5 := Lib.hid (HR4.out.keep b5); clear k5 B5 b5 l5 z5 hbW; have hbW := hbW5)
      | (go_at_call 58; (with_reducible refine (mconcat4L w5 _ _ _ A 1 6 1 32 1 6 1 cap 40 _ _ _ p.D (pcF p) K35.out.rd K45.out.rd K5.out.rd HR5.out rfl (by omega) (by omega) HF.out).mono ?_); rintro e w6 ⟨g6, c6, rfl, r6, b6, _, _⟩; (try dsimp only); have HR6 := Lib.hid r6; have HB6 : Hid (Below H w w6) := Lib.hid (HB5.out.trans (b6.mono Hz5.out)); have hbW6 := hbW.trans (b6.mono hbW.size); clear r6 b6 hbW; have hbW := hbW6)
      | (go_at_call 57; (with_reducible refine (mseal1 40 c6 (some ⟨g6, 0, none⟩) (pcF p) w6 (by omega) HR6.out HLT.out).mono ?_); rintro e w7 ⟨g7, rfl, k7, b7, l7⟩; (try dsimp only); have K7 := Lib.hid k7; have Hz6 : Hid (H ≤ w6.heap.size) := Lib.hid (Nat.le_trans (Nat.le_of_lt HS2.out) hbW.size); have HB7 : Hid (Below H w w7) := Lib.hid (HB6.out.trans (b7.mono Hz6.out)); have HL7 : Hid (H ≤ g7) := Lib.hid (Nat.le_trans Hz6.out l7); have hbW7 := hbW.trans (b7.mono hbW.size); clear k7 b7 l7 hbW; have hbW := hbW7)
      | fail)
  go_wp2_with fail
  go_ret2
  exact ⟨g7, rfl, by unfold pcS; exact K7.out, by rw [HH.out]; exact HB7.out, by rw [HH.out]; exact HL7.out⟩
theorem clay_no (s g i : Int) (A : Option Addr) (n cap : Nat) (w : World) (h : ¬ OkI s g i n) :
    Calls Try.prog 34 #[pv s g i A n cap] w fun e w' => e = .returned (.tuple #[.slice none 0 0, .int .i64 1]) ∧ Below w.heap.size w w' := by
  obtain ⟨w1, hw1⟩ : ∃ w1, w.alloc (.cells #[.int .i64 s, .int .i64 g, .int .i64 i, .slice A n cap] 44) = w1 := ⟨_, rfl⟩
  have hb1 : Below w.heap.size w w1 := by rw [← hw1]; exact (Below.refl _ _).alloc (Nat.le_refl _) _
  have HR := Lib.hid (cright s g i A n cap w1 false ⟨fun e => (by cases e), fun e => absurd e h⟩)
  have HW := Lib.hid hw1
  have HB1 := Lib.hid hb1
  clear hw1 hb1 h
  unfold pv
  go_enter Try.func34, Try.ntmps34
  go_wp2_with fail
  rw [HW.out]
  refine HR.out.mono ?_
  rintro e w2 ⟨rfl, hb2⟩
  try dsimp only
  go_wp2_with fail
  go_ret2
  exact ⟨rfl, HB1.out.trans (hb2.mono HB1.out.size)⟩
end Go.Proofs.Ytofmilkjhnkgjaa
