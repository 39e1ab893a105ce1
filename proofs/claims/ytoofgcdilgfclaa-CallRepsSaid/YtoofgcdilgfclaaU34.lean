import Derived.Test.YtoofgcdilgfclaaU19
namespace Go.Proofs.Ytoofgcdilgfclaa
open Go.RowKit Go.Sort
set_option maxRecDepth 100000
set_option maxHeartbeats 1000000

/-- corbelhand.Piece: what it answers. -/
def GPRet (s g i : Int) (n : Nat) (x : Int) (w : World) (e : Ending) (w' : World) : Prop := ∃ b, e = .returned (pv s g i (some ⟨b, 0, none⟩) n n) ∧ Blk8 w' b n (bytesF x) ∧ Below w.heap.size w w' ∧ w.heap.size ≤ b
theorem PV.put_s {w : World} {b n c : Nat} {s g i s' : Int} {A : Option Addr} (h : PV w b s g i A n c) : PV (w.setCell ⟨b, 0, none⟩ (.int .i64 s')) b s' g i A n c := by
  unfold PV at h ⊢
  rw [set_block h 0 _]
  rfl
theorem PV.put_g {w : World} {b n c : Nat} {s g i g' : Int} {A : Option Addr} (h : PV w b s g i A n c) : PV (w.setCell ⟨b, 1, none⟩ (.int .i64 g')) b s g' i A n c := by
  unfold PV at h ⊢
  rw [set_block h 1 _]
  rfl
theorem PV.put_i {w : World} {b n c : Nat} {s g i i' : Int} {A : Option Addr} (h : PV w b s g i A n c) : PV (w.setCell ⟨b, 2, none⟩ (.int .i64 i')) b s g i' A n c := by
  unfold PV at h ⊢
  rw [set_block h 2 _]
  rfl
theorem PV.put_d {w : World} {b n c n' c' : Nat} {s g i : Int} {A A' : Option Addr} (h : PV w b s g i A n c) : PV (w.setCell ⟨b, 3, none⟩ (.slice A' n' c')) b s g i A' n' c' := by
  unfold PV at h ⊢
  rw [set_block h 3 _]
  rfl
theorem PV.other {w : World} {b n c b' k : Nat} {s g i : Int} {A : Option Addr} {v : Value} (h : PV w b s g i A n c) (hne : b ≠ b') : PV (w.setCell ⟨b', k, none⟩ v) b s g i A n c := (set_other hne k v).trans h
theorem Blk8.far {w : World} {g n b k : Nat} {F : Nat → Nat} {cs : Array Value} {t : TypeId} {fr : Nat × Nat} {v : Value} (h : Blk8 w g n F) (hb : w.heap[b]? = some (.cells cs t fr)) (ht : t ≠ 5) : Blk8 (w.setCell ⟨b, k, none⟩ v) g n F :=
  h.keep (set_other (by rintro rfl; obtain ⟨cs', h1, _⟩ := h; rw [hb] at h1; cases h1; exact ht rfl) k v)
theorem Blk8.far4 {w : World} {q m : Nat} {D : Nat → Nat} {b n c : Nat} {s g i : Int} {B : Option Addr} (h : Blk8 w q m D) (k : PV w b s g i B n c) {v0 v1 v2 v3 : Value} :
    Blk8 ((((w.setCell ⟨b, 0, none⟩ v0).setCell ⟨b, 1, none⟩ v1).setCell ⟨b, 2, none⟩ v2).setCell ⟨b, 3, none⟩ v3) q m D := by
  have h1 := set_block k 0 v0
  have h2 := set_block h1 1 v1
  have h3 := set_block h2 2 v2
  exact (((h.far k (by decide)).far h1 (by decide)).far h2 (by decide)).far h3 (by decide)
/-- What stands behind the switch. -/
theorem gpiece_end {w w3 : World} {H b n : Nat} {s g i : Int} {x : Int} (hH : w.heap.size = H) (k0 : PV w3 H 0 0 0 none 0 0) (kb : Blk8 w3 b n (bytesF x)) (hb : Below H w w3) (hl : H ≤ b) :
    PV ((((w3.setCell ⟨H, 0, none⟩ (.int .i64 s)).setCell ⟨H, 1, none⟩ (.int .i64 g)).setCell ⟨H, 2, none⟩ (.int .i64 i)).setCell ⟨H, 3, none⟩ (.slice (some ⟨b, 0, none⟩) n n)) H s g i (some ⟨b, 0, none⟩) n n ∧
    GPRet s g i n x w (.returned (pv s g i (some ⟨b, 0, none⟩) n n)) ((((w3.setCell ⟨H, 0, none⟩ (.int .i64 s)).setCell ⟨H, 1, none⟩ (.int .i64 g)).setCell ⟨H, 2, none⟩ (.int .i64 i)).setCell ⟨H, 3, none⟩ (.slice (some ⟨b, 0, none⟩) n n)) :=
  ⟨k0.put, b, rfl, kb.far4 k0, by rw [hH]; exact below_put4 hb (Nat.le_refl _) _ _ _ _, by rw [hH]; exact hl⟩
theorem gpiece0 (x0 x1 x2 x3 x4 : Int) (w : World) (p1 : (x4 % 24 == 19) = false) (p2 : (x4 % 24 == 20) = false) (p3 : (x4 % 24 == 21) = false) (p4 : (x4 % 24 == 22) = false) (p5 : (x4 % 24 == 23) = false) :
    Calls Try.prog 10 #[.int .i64 x0, .int .i64 x1, .int .i64 x2, .int .i64 x3, .int .i64 x4] w (GPRet (x0 % 40) (1 + x1 % 9) (x2 % 6) 32 x3 w) := by
  have HP := Lib.hid (rpick x4 24 (by omega) (by omega))
  have H0 := Lib.hid (rpick x0 40 (by omega) (by omega))
  have H1 := Lib.hid (rpick x1 9 (by omega) (by omega))
  have H2 := Lib.hid (rpick x2 6 (by omega) (by omega))
  obtain ⟨s0, hs0⟩ : ∃ s0, x0 % 40 = s0 := ⟨_, rfl⟩
  obtain ⟨g0, hg0⟩ : ∃ g0, x1 % 9 = g0 := ⟨_, rfl⟩
  obtain ⟨i0, hi0⟩ : ∃ i0, x2 % 6 = i0 := ⟨_, rfl⟩
  have hgl : 0 ≤ g0 := by omega
  have hgu : g0 < 9 := by omega
  rw [hs0] at H0
  rw [hg0] at H1
  rw [hi0] at H2
  have HS := Lib.hid hs0
  have HG := Lib.hid hg0
  have HI := Lib.hid hi0
  obtain ⟨w1, hw1⟩ : ∃ w1, w.alloc (.cells #[.int .i64 0, .int .i64 0, .int .i64 0, .slice none 0 0] 31) = w1 := ⟨_, rfl⟩
  have HW1 := Lib.hid hw1
  obtain ⟨H, hH⟩ : ∃ H, w.heap.size = H := ⟨_, rfl⟩
  have HH := Lib.hid hH
  have HK1 : Hid (PV w1 H 0 0 0 none 0 0) := Lib.hid (by rw [← hw1]; exact PV.of_new hH)
  have HB1 : Hid (Below H w w1) := Lib.hid (by rw [← hw1, ← hH]; exact (Below.refl _ _).alloc (Nat.le_refl _) _)
  have HC := Lib.hid (cbytes x3 32 32 rfl w1 (by omega))
  clear hw1 hH hs0 hg0 hi0
  go_enter Try.func10, Try.ntmps10
  go_wp2_with fail
  rw [HW1.out, HH.out]
  refine (H0.out w1).mono ?_
  rintro e w' ⟨rfl, hw⟩
  obtain rfl := hw.symm
  go_wp2_with fail
  refine (H1.out w1).mono ?_
  rintro e w' ⟨rfl, hw⟩
  obtain rfl := hw.symm
  go_wp2_with fail
  refine (H2.out w1).mono ?_
  rintro e w' ⟨rfl, hw⟩
  obtain rfl := hw.symm
  go_wp2_with fail
  refine HC.out.mono ?_
  rintro e w2 ⟨b, rfl, hk2, hb2, hl2⟩
  try dsimp only
  have HKB := Lib.hid hk2
  have HK2 := Lib.hid (HK1.out.below hb2)
  have HB2 : Hid (Below H w w2) := Lib.hid (HB1.out.trans (hb2.mono (Nat.le_of_lt HK1.out.lt)))
  have HL2 : Hid (H ≤ b) := Lib.hid (Nat.le_trans (Nat.le_of_lt HK1.out.lt) hl2)
  have hHl : H < w2.heap.size := HK2.out.lt
  clear hk2 hb2 hl2 HK1 HB1
  go_wp2_with fail
  obtain ⟨w3, hw3⟩ : ∃ w3, w2.alloc (.cells #[.int .i64 s0, .int .i64 (1 + g0), .int .i64 i0, .slice (some ⟨b, 0, none⟩) 32 32] 31) = w3 := ⟨_, rfl⟩
  have HB23 : Hid (Below w2.heap.size w2 w3) := Lib.hid (by rw [← hw3]; exact (Below.refl _ _).alloc (Nat.le_refl _) _)
  have HQ3 : Hid (PV w3 w2.heap.size s0 (1 + g0) i0 (some ⟨b, 0, none⟩) 32 32) := Lib.hid (by rw [← hw3]; exact PV.new w2 _ _ _ _ _ _)
  rw [hw3]
  clear hw3
  obtain ⟨q, hq⟩ : ∃ q, w2.heap.size = q := ⟨_, rfl⟩
  have HB3 : Hid (Below H w w3) := Lib.hid (HB2.out.trans (HB23.out.mono (Nat.le_of_lt hHl)))
  have HK3 := Lib.hid (HK2.out.below HB23.out)
  have HKB3 := Lib.hid (HKB.out.below HB23.out)
  rw [hq] at HQ3 hHl ⊢
  clear hq HB23 HK2 HKB HB2
  refine (HP.out w3).mono ?_
  rintro e w' ⟨rfl, hw⟩
  obtain rfl := hw.symm
  have HKE := HK3
  have HKBE := HKB3
  have HBE := HB3
  have HLE := HL2
  have q0 := HQ3.out.c0
  have q1 := HQ3.out.c1
  have q2 := HQ3.out.c2
  have q3 := HQ3.out.c3
  have z0 := HKE.out.c0
  have z1 := HKE.out.c1
  have z2 := HKE.out.c2
  have z3 := HKE.out.c3
  have fz := HKE.out.f
  go_wp2_with fail
  refine bodyPost_ret (v := pv s0 (1 + g0) i0 (some ⟨b, 0, none⟩) 32 32) ?_ rfl ?_
  · rw [results_cell1 rfl]
    simp [(gpiece_end (x := x3) HH.out HKE.out HKBE.out HBE.out HLE.out).1.load, Result.andThen, asAddr]
  have hr := (gpiece_end (s := s0) (g := 1 + g0) (i := i0) (x := x3) HH.out HKE.out HKBE.out HBE.out HLE.out).2
  rw [HS.out, HG.out, HI.out]
  exact hr
theorem gpiece19 (x0 x1 x2 x3 x4 : Int) (w : World) (p1 : x4 % 24 = 19) :
    Calls Try.prog 10 #[.int .i64 x0, .int .i64 x1, .int .i64 x2, .int .i64 x3, .int .i64 x4] w (GPRet (x0) (1 + x1 % 9) (x2 % 6) 32 x3 w) := by
  have HP := Lib.hid (rpick x4 24 (by omega) (by omega))
  have H0 := Lib.hid (rpick x0 40 (by omega) (by omega))
  have H1 := Lib.hid (rpick x1 9 (by omega) (by omega))
  have H2 := Lib.hid (rpick x2 6 (by omega) (by omega))
  obtain ⟨s0, hs0⟩ : ∃ s0, x0 % 40 = s0 := ⟨_, rfl⟩
  obtain ⟨g0, hg0⟩ : ∃ g0, x1 % 9 = g0 := ⟨_, rfl⟩
  obtain ⟨i0, hi0⟩ : ∃ i0, x2 % 6 = i0 := ⟨_, rfl⟩
  have hgl : 0 ≤ g0 := by omega
  have hgu : g0 < 9 := by omega
  rw [hs0] at H0
  rw [hg0] at H1
  rw [hi0] at H2
  have HS := Lib.hid hs0
  have HG := Lib.hid hg0
  have HI := Lib.hid hi0
  obtain ⟨w1, hw1⟩ : ∃ w1, w.alloc (.cells #[.int .i64 0, .int .i64 0, .int .i64 0, .slice none 0 0] 31) = w1 := ⟨_, rfl⟩
  have HW1 := Lib.hid hw1
  obtain ⟨H, hH⟩ : ∃ H, w.heap.size = H := ⟨_, rfl⟩
  have HH := Lib.hid hH
  have HK1 : Hid (PV w1 H 0 0 0 none 0 0) := Lib.hid (by rw [← hw1]; exact PV.of_new hH)
  have HB1 : Hid (Below H w w1) := Lib.hid (by rw [← hw1, ← hH]; exact (Below.refl _ _).alloc (Nat.le_refl _) _)
  have HC := Lib.hid (cbytes x3 32 32 rfl w1 (by omega))
  clear hw1 hH hs0 hg0 hi0
  go_enter Try.func10, Try.ntmps10
  go_wp2_with fail
  rw [HW1.out, HH.out]
  refine (H0.out w1).mono ?_
  rintro e w' ⟨rfl, hw⟩
  obtain rfl := hw.symm
  go_wp2_with fail
  refine (H1.out w1).mono ?_
  rintro e w' ⟨rfl, hw⟩
  obtain rfl := hw.symm
  go_wp2_with fail
  refine (H2.out w1).mono ?_
  rintro e w' ⟨rfl, hw⟩
  obtain rfl := hw.symm
  go_wp2_with fail
  refine HC.out.mono ?_
  rintro e w2 ⟨b, rfl, hk2, hb2, hl2⟩
  try dsimp only
  have HKB := Lib.hid hk2
  have HK2 := Lib.hid (HK1.out.below hb2)
  have HB2 : Hid (Below H w w2) := Lib.hid (HB1.out.trans (hb2.mono (Nat.le_of_lt HK1.out.lt)))
  have HL2 : Hid (H ≤ b) := Lib.hid (Nat.le_trans (Nat.le_of_lt HK1.out.lt) hl2)
  have hHl : H < w2.heap.size := HK2.out.lt
  clear hk2 hb2 hl2 HK1 HB1
  go_wp2_with fail
  obtain ⟨w3, hw3⟩ : ∃ w3, w2.alloc (.cells #[.int .i64 s0, .int .i64 (1 + g0), .int .i64 i0, .slice (some ⟨b, 0, none⟩) 32 32] 31) = w3 := ⟨_, rfl⟩
  have HB23 : Hid (Below w2.heap.size w2 w3) := Lib.hid (by rw [← hw3]; exact (Below.refl _ _).alloc (Nat.le_refl _) _)
  have HQ3 : Hid (PV w3 w2.heap.size s0 (1 + g0) i0 (some ⟨b, 0, none⟩) 32 32) := Lib.hid (by rw [← hw3]; exact PV.new w2 _ _ _ _ _ _)
  rw [hw3]
  clear hw3
  obtain ⟨q, hq⟩ : ∃ q, w2.heap.size = q := ⟨_, rfl⟩
  have HB3 : Hid (Below H w w3) := Lib.hid (HB2.out.trans (HB23.out.mono (Nat.le_of_lt hHl)))
  have HK3 := Lib.hid (HK2.out.below HB23.out)
  have HKB3 := Lib.hid (HKB.out.below HB23.out)
  rw [hq] at HQ3 hHl ⊢
  clear hq HB23 HK2 HKB HB2
  rw [p1] at HP
  refine (HP.out w3).mono ?_
  rintro e w' ⟨rfl, hw⟩
  obtain rfl := hw.symm
  have y0 := HQ3.out.c0
  have y1 := HQ3.out.c1
  have y2 := HQ3.out.c2
  have y3 := HQ3.out.c3
  have yf := HQ3.out.f
  have hne : H ≠ q := Nat.ne_of_lt hHl
  have hne2 : ¬ q = H := fun e => hne e.symm
  have v0 := HK3.out.c0
  have v1 := HK3.out.c1
  have v2 := HK3.out.c2
  have v3 := HK3.out.c3
  have vf := HK3.out.f
  have HQ4 : Hid (PV (w3.setCell ⟨q, 0, none⟩ (.int .i64 x0)) q x0 (1 + g0) i0 (some ⟨b, 0, none⟩) 32 32) := Lib.hid (HQ3.out.put_s)
  have HKE : Hid (PV (w3.setCell ⟨q, 0, none⟩ (.int .i64 x0)) H 0 0 0 none 0 0) := Lib.hid (HK3.out.other hne)
  have HKBE : Hid (Blk8 (w3.setCell ⟨q, 0, none⟩ (.int .i64 x0)) b 32 (bytesF x3)) := Lib.hid (HKB3.out.far HQ3.out (by decide))
  have HBE : Hid (Below H w (w3.setCell ⟨q, 0, none⟩ (.int .i64 x0))) := Lib.hid (HB3.out.setCell (Nat.le_of_lt hHl) _)
  have HLE := HL2
  have q0 := HQ4.out.c0
  have q1 := HQ4.out.c1
  have q2 := HQ4.out.c2
  have q3 := HQ4.out.c3
  have z0 := HKE.out.c0
  have z1 := HKE.out.c1
  have z2 := HKE.out.c2
  have z3 := HKE.out.c3
  have fz := HKE.out.f
  go_wp2_with fail
  refine bodyPost_ret (v := pv x0 (1 + g0) i0 (some ⟨b, 0, none⟩) 32 32) ?_ rfl ?_
  · rw [results_cell1 rfl]
    simp [(gpiece_end (x := x3) HH.out HKE.out HKBE.out HBE.out HLE.out).1.load, Result.andThen, asAddr]
  have hr := (gpiece_end (s := x0) (g := (1 + g0)) (i := i0) (x := x3) HH.out HKE.out HKBE.out HBE.out HLE.out).2
  rw [HG.out, HI.out]
  exact hr
theorem gpiece20 (x0 x1 x2 x3 x4 : Int) (w : World) (p1 : x4 % 24 = 20) :
    Calls Try.prog 10 #[.int .i64 x0, .int .i64 x1, .int .i64 x2, .int .i64 x3, .int .i64 x4] w (GPRet (x0 % 40) (x1) (x2 % 6) 32 x3 w) := by
  have HP := Lib.hid (rpick x4 24 (by omega) (by omega))
  have H0 := Lib.hid (rpick x0 40 (by omega) (by omega))
  have H1 := Lib.hid (rpick x1 9 (by omega) (by omega))
  have H2 := Lib.hid (rpick x2 6 (by omega) (by omega))
  obtain ⟨s0, hs0⟩ : ∃ s0, x0 % 40 = s0 := ⟨_, rfl⟩
  obtain ⟨g0, hg0⟩ : ∃ g0, x1 % 9 = g0 := ⟨_, rfl⟩
  obtain ⟨i0, hi0⟩ : ∃ i0, x2 % 6 = i0 := ⟨_, rfl⟩
  have hgl : 0 ≤ g0 := by omega
  have hgu : g0 < 9 := by omega
  rw [hs0] at H0
  rw [hg0] at H1
  rw [hi0] at H2
  have HS := Lib.hid hs0
  have HG := Lib.hid hg0
  have HI := Lib.hid hi0
  obtain ⟨w1, hw1⟩ : ∃ w1, w.alloc (.cells #[.int .i64 0, .int .i64 0, .int .i64 0, .slice none 0 0] 31) = w1 := ⟨_, rfl⟩
  have HW1 := Lib.hid hw1
  obtain ⟨H, hH⟩ : ∃ H, w.heap.size = H := ⟨_, rfl⟩
  have HH := Lib.hid hH
  have HK1 : Hid (PV w1 H 0 0 0 none 0 0) := Lib.hid (by rw [← hw1]; exact PV.of_new hH)
  have HB1 : Hid (Below H w w1) := Lib.hid (by rw [← hw1, ← hH]; exact (Below.refl _ _).alloc (Nat.le_refl _) _)
  have HC := Lib.hid (cbytes x3 32 32 rfl w1 (by omega))
  clear hw1 hH hs0 hg0 hi0
  go_enter Try.func10, Try.ntmps10
  go_wp2_with fail
  rw [HW1.out, HH.out]
  refine (H0.out w1).mono ?_
  rintro e w' ⟨rfl, hw⟩
  obtain rfl := hw.symm
  go_wp2_with fail
  refine (H1.out w1).mono ?_
  rintro e w' ⟨rfl, hw⟩
  obtain rfl := hw.symm
  go_wp2_with fail
  refine (H2.out w1).mono ?_
  rintro e w' ⟨rfl, hw⟩
  obtain rfl := hw.symm
  go_wp2_with fail
  refine HC.out.mono ?_
  rintro e w2 ⟨b, rfl, hk2, hb2, hl2⟩
  try dsimp only
  have HKB := Lib.hid hk2
  have HK2 := Lib.hid (HK1.out.below hb2)
  have HB2 : Hid (Below H w w2) := Lib.hid (HB1.out.trans (hb2.mono (Nat.le_of_lt HK1.out.lt)))
  have HL2 : Hid (H ≤ b) := Lib.hid (Nat.le_trans (Nat.le_of_lt HK1.out.lt) hl2)
  have hHl : H < w2.heap.size := HK2.out.lt
  clear hk2 hb2 hl2 HK1 HB1
  go_wp2_with fail
  obtain ⟨w3, hw3⟩ : ∃ w3, w2.alloc (.cells #[.int .i64 s0, .int .i64 (1 + g0), .int .i64 i0, .slice (some ⟨b, 0, none⟩) 32 32] 31) = w3 := ⟨_, rfl⟩
  have HB23 : Hid (Below w2.heap.size w2 w3) := Lib.hid (by rw [← hw3]; exact (Below.refl _ _).alloc (Nat.le_refl _) _)
  have HQ3 : Hid (PV w3 w2.heap.size s0 (1 + g0) i0 (some ⟨b, 0, none⟩) 32 32) := Lib.hid (by rw [← hw3]; exact PV.new w2 _ _ _ _ _ _)
  rw [hw3]
  clear hw3
  obtain ⟨q, hq⟩ : ∃ q, w2.heap.size = q := ⟨_, rfl⟩
  have HB3 : Hid (Below H w w3) := Lib.hid (HB2.out.trans (HB23.out.mono (Nat.le_of_lt hHl)))
  have HK3 := Lib.hid (HK2.out.below HB23.out)
  have HKB3 := Lib.hid (HKB.out.below HB23.out)
  rw [hq] at HQ3 hHl ⊢
  clear hq HB23 HK2 HKB HB2
  rw [p1] at HP
  refine (HP.out w3).mono ?_
  rintro e w' ⟨rfl, hw⟩
  obtain rfl := hw.symm
  have y0 := HQ3.out.c0
  have y1 := HQ3.out.c1
  have y2 := HQ3.out.c2
  have y3 := HQ3.out.c3
  have yf := HQ3.out.f
  have hne : H ≠ q := Nat.ne_of_lt hHl
  have hne2 : ¬ q = H := fun e => hne e.symm
  have v0 := HK3.out.c0
  have v1 := HK3.out.c1
  have v2 := HK3.out.c2
  have v3 := HK3.out.c3
  have vf := HK3.out.f
  have HQ4 : Hid (PV (w3.setCell ⟨q, 1, none⟩ (.int .i64 x1)) q s0 x1 i0 (some ⟨b, 0, none⟩) 32 32) := Lib.hid (HQ3.out.put_g)
  have HKE : Hid (PV (w3.setCell ⟨q, 1, none⟩ (.int .i64 x1)) H 0 0 0 none 0 0) := Lib.hid (HK3.out.other hne)
  have HKBE : Hid (Blk8 (w3.setCell ⟨q, 1, none⟩ (.int .i64 x1)) b 32 (bytesF x3)) := Lib.hid (HKB3.out.far HQ3.out (by decide))
  have HBE : Hid (Below H w (w3.setCell ⟨q, 1, none⟩ (.int .i64 x1))) := Lib.hid (HB3.out.setCell (Nat.le_of_lt hHl) _)
  have HLE := HL2
  have q0 := HQ4.out.c0
  have q1 := HQ4.out.c1
  have q2 := HQ4.out.c2
  have q3 := HQ4.out.c3
  have z0 := HKE.out.c0
  have z1 := HKE.out.c1
  have z2 := HKE.out.c2
  have z3 := HKE.out.c3
  have fz := HKE.out.f
  go_wp2_with fail
  refine bodyPost_ret (v := pv s0 x1 i0 (some ⟨b, 0, none⟩) 32 32) ?_ rfl ?_
  · rw [results_cell1 rfl]
    simp [(gpiece_end (x := x3) HH.out HKE.out HKBE.out HBE.out HLE.out).1.load, Result.andThen, asAddr]
  have hr := (gpiece_end (s := s0) (g := x1) (i := i0) (x := x3) HH.out HKE.out HKBE.out HBE.out HLE.out).2
  rw [HS.out, HI.out]
  exact hr
theorem gpiece21 (x0 x1 x2 x3 x4 : Int) (w : World) (p1 : x4 % 24 = 21) :
    Calls Try.prog 10 #[.int .i64 x0, .int .i64 x1, .int .i64 x2, .int .i64 x3, .int .i64 x4] w (GPRet (x0 % 40) (1 + x1 % 9) (x2) 32 x3 w) := by
  have HP := Lib.hid (rpick x4 24 (by omega) (by omega))
  have H0 := Lib.hid (rpick x0 40 (by omega) (by omega))
  have H1 := Lib.hid (rpick x1 9 (by omega) (by omega))
  have H2 := Lib.hid (rpick x2 6 (by omega) (by omega))
  obtain ⟨s0, hs0⟩ : ∃ s0, x0 % 40 = s0 := ⟨_, rfl⟩
  obtain ⟨g0, hg0⟩ : ∃ g0, x1 % 9 = g0 := ⟨_, rfl⟩
  obtain ⟨i0, hi0⟩ : ∃ i0, x2 % 6 = i0 := ⟨_, rfl⟩
  have hgl : 0 ≤ g0 := by omega
  have hgu : g0 < 9 := by omega
  rw [hs0] at H0
  rw [hg0] at H1
  rw [hi0] at H2
  have HS := Lib.hid hs0
  have HG := Lib.hid hg0
  have HI := Lib.hid hi0
  obtain ⟨w1, hw1⟩ : ∃ w1, w.alloc (.cells #[.int .i64 0, .int .i64 0, .int .i64 0, .slice none 0 0] 31) = w1 := ⟨_, rfl⟩
  have HW1 := Lib.hid hw1
  obtain ⟨H, hH⟩ : ∃ H, w.heap.size = H := ⟨_, rfl⟩
  have HH := Lib.hid hH
  have HK1 : Hid (PV w1 H 0 0 0 none 0 0) := Lib.hid (by rw [← hw1]; exact PV.of_new hH)
  have HB1 : Hid (Below H w w1) := Lib.hid (by rw [← hw1, ← hH]; exact (Below.refl _ _).alloc (Nat.le_refl _) _)
  have HC := Lib.hid (cbytes x3 32 32 rfl w1 (by omega))
  clear hw1 hH hs0 hg0 hi0
  go_enter Try.func10, Try.ntmps10
  go_wp2_with fail
  rw [HW1.out, HH.out]
  refine (H0.out w1).mono ?_
  rintro e w' ⟨rfl, hw⟩
  obtain rfl := hw.symm
  go_wp2_with fail
  refine (H1.out w1).mono ?_
  rintro e w' ⟨rfl, hw⟩
  obtain rfl := hw.symm
  go_wp2_with fail
  refine (H2.out w1).mono ?_
  rintro e w' ⟨rfl, hw⟩
  obtain rfl := hw.symm
  go_wp2_with fail
  refine HC.out.mono ?_
  rintro e w2 ⟨b, rfl, hk2, hb2, hl2⟩
  try dsimp only
  have HKB := Lib.hid hk2
  have HK2 := Lib.hid (HK1.out.below hb2)
  have HB2 : Hid (Below H w w2) := Lib.hid (HB1.out.trans (hb2.mono (Nat.le_of_lt HK1.out.lt)))
  have HL2 : Hid (H ≤ b) := Lib.hid (Nat.le_trans (Nat.le_of_lt HK1.out.lt) hl2)
  have hHl : H < w2.heap.size := HK2.out.lt
  clear hk2 hb2 hl2 HK1 HB1
  go_wp2_with fail
  obtain ⟨w3, hw3⟩ : ∃ w3, w2.alloc (.cells #[.int .i64 s0, .int .i64 (1 + g0), .int .i64 i0, .slice (some ⟨b, 0, none⟩) 32 32] 31) = w3 := ⟨_, rfl⟩
  have HB23 : Hid (Below w2.heap.size w2 w3) := Lib.hid (by rw [← hw3]; exact (Below.refl _ _).alloc (Nat.le_refl _) _)
  have HQ3 : Hid (PV w3 w2.heap.size s0 (1 + g0) i0 (some ⟨b, 0, none⟩) 32 32) := Lib.hid (by rw [← hw3]; exact PV.new w2 _ _ _ _ _ _)
  rw [hw3]
  clear hw3
  obtain ⟨q, hq⟩ : ∃ q, w2.heap.size = q := ⟨_, rfl⟩
  have HB3 : Hid (Below H w w3) := Lib.hid (HB2.out.trans (HB23.out.mono (Nat.le_of_lt hHl)))
  have HK3 := Lib.hid (HK2.out.below HB23.out)
  have HKB3 := Lib.hid (HKB.out.below HB23.out)
  rw [hq] at HQ3 hHl ⊢
  clear hq HB23 HK2 HKB HB2
  rw [p1] at HP
  refine (HP.out w3).mono ?_
  rintro e w' ⟨rfl, hw⟩
  obtain rfl := hw.symm
  have y0 := HQ3.out.c0
  have y1 := HQ3.out.c1
  have y2 := HQ3.out.c2
  have y3 := HQ3.out.c3
  have yf := HQ3.out.f
  have hne : H ≠ q := Nat.ne_of_lt hHl
  have hne2 : ¬ q = H := fun e => hne e.symm
  have v0 := HK3.out.c0
  have v1 := HK3.out.c1
  have v2 := HK3.out.c2
  have v3 := HK3.out.c3
  have vf := HK3.out.f
  have HQ4 : Hid (PV (w3.setCell ⟨q, 2, none⟩ (.int .i64 x2)) q s0 (1 + g0) x2 (some ⟨b, 0, none⟩) 32 32) := Lib.hid (HQ3.out.put_i)
  have HKE : Hid (PV (w3.setCell ⟨q, 2, none⟩ (.int .i64 x2)) H 0 0 0 none 0 0) := Lib.hid (HK3.out.other hne)
  have HKBE : Hid (Blk8 (w3.setCell ⟨q, 2, none⟩ (.int .i64 x2)) b 32 (bytesF x3)) := Lib.hid (HKB3.out.far HQ3.out (by decide))
  have HBE : Hid (Below H w (w3.setCell ⟨q, 2, none⟩ (.int .i64 x2))) := Lib.hid (HB3.out.setCell (Nat.le_of_lt hHl) _)
  have HLE := HL2
  have q0 := HQ4.out.c0
  have q1 := HQ4.out.c1
  have q2 := HQ4.out.c2
  have q3 := HQ4.out.c3
  have z0 := HKE.out.c0
  have z1 := HKE.out.c1
  have z2 := HKE.out.c2
  have z3 := HKE.out.c3
  have fz := HKE.out.f
  go_wp2_with fail
  refine bodyPost_ret (v := pv s0 (1 + g0) x2 (some ⟨b, 0, none⟩) 32 32) ?_ rfl ?_
  · rw [results_cell1 rfl]
    simp [(gpiece_end (x := x3) HH.out HKE.out HKBE.out HBE.out HLE.out).1.load, Result.andThen, asAddr]
  have hr := (gpiece_end (s := s0) (g := (1 + g0)) (i := x2) (x := x3) HH.out HKE.out HKBE.out HBE.out HLE.out).2
  rw [HS.out, HG.out]
  exact hr
theorem gpiece23 (x0 x1 x2 x3 x4 : Int) (w : World) (p1 : x4 % 24 = 23) :
    Calls Try.prog 10 #[.int .i64 x0, .int .i64 x1, .int .i64 x2, .int .i64 x3, .int .i64 x4] w (GPRet (x0 % 40) (1 + x1 % 1099511627776) (x2 % 6) 32 x3 w) := by
  have HP := Lib.hid (rpick x4 24 (by omega) (by omega))
  have H0 := Lib.hid (rpick x0 40 (by omega) (by omega))
  have H1 := Lib.hid (rpick x1 9 (by omega) (by omega))
  have H2 := Lib.hid (rpick x2 6 (by omega) (by omega))
  have H5 := Lib.hid (rpick x1 1099511627776 (by omega) (by omega))
  obtain ⟨g5, hg5⟩ : ∃ g5, x1 % 1099511627776 = g5 := ⟨_, rfl⟩
  have h5l : 0 ≤ g5 := by omega
  have h5u : g5 < 1099511627776 := by omega
  rw [hg5] at H5
  have HG5 := Lib.hid hg5
  clear hg5
  obtain ⟨s0, hs0⟩ : ∃ s0, x0 % 40 = s0 := ⟨_, rfl⟩
  obtain ⟨g0, hg0⟩ : ∃ g0, x1 % 9 = g0 := ⟨_, rfl⟩
  obtain ⟨i0, hi0⟩ : ∃ i0, x2 % 6 = i0 := ⟨_, rfl⟩
  have hgl : 0 ≤ g0 := by omega
  have hgu : g0 < 9 := by omega
  rw [hs0] at H0
  rw [hg0] at H1
  rw [hi0] at H2
  have HS := Lib.hid hs0
  have HG := Lib.hid hg0
  have HI := Lib.hid hi0
  obtain ⟨w1, hw1⟩ : ∃ w1, w.alloc (.cells #[.int .i64 0, .int .i64 0, .int .i64 0, .slice none 0 0] 31) = w1 := ⟨_, rfl⟩
  have HW1 := Lib.hid hw1
  obtain ⟨H, hH⟩ : ∃ H, w.heap.size = H := ⟨_, rfl⟩
  have HH := Lib.hid hH
  have HK1 : Hid (PV w1 H 0 0 0 none 0 0) := Lib.hid (by rw [← hw1]; exact PV.of_new hH)
  have HB1 : Hid (Below H w w1) := Lib.hid (by rw [← hw1, ← hH]; exact (Below.refl _ _).alloc (Nat.le_refl _) _)
  have HC := Lib.hid (cbytes x3 32 32 rfl w1 (by omega))
  clear hw1 hH hs0 hg0 hi0
  go_enter Try.func10, Try.ntmps10
  go_wp2_with fail
  rw [HW1.out, HH.out]
  refine (H0.out w1).mono ?_
  rintro e w' ⟨rfl, hw⟩
  obtain rfl := hw.symm
  go_wp2_with fail
  refine (H1.out w1).mono ?_
  rintro e w' ⟨rfl, hw⟩
  obtain rfl := hw.symm
  go_wp2_with fail
  refine (H2.out w1).mono ?_
  rintro e w' ⟨rfl, hw⟩
  obtain rfl := hw.symm
  go_wp2_with fail
  refine HC.out.mono ?_
  rintro e w2 ⟨b, rfl, hk2, hb2, hl2⟩
  try dsimp only
  have HKB := Lib.hid hk2
  have HK2 := Lib.hid (HK1.out.below hb2)
  have HB2 : Hid (Below H w w2) := Lib.hid (HB1.out.trans (hb2.mono (Nat.le_of_lt HK1.out.lt)))
  have HL2 : Hid (H ≤ b) := Lib.hid (Nat.le_trans (Nat.le_of_lt HK1.out.lt) hl2)
  have hHl : H < w2.heap.size := HK2.out.lt
  clear hk2 hb2 hl2 HK1 HB1
  go_wp2_with fail
  obtain ⟨w3, hw3⟩ : ∃ w3, w2.alloc (.cells #[.int .i64 s0, .int .i64 (1 + g0), .int .i64 i0, .slice (some ⟨b, 0, none⟩) 32 32] 31) = w3 := ⟨_, rfl⟩
  have HB23 : Hid (Below w2.heap.size w2 w3) := Lib.hid (by rw [← hw3]; exact (Below.refl _ _).alloc (Nat.le_refl _) _)
  have HQ3 : Hid (PV w3 w2.heap.size s0 (1 + g0) i0 (some ⟨b, 0, none⟩) 32 32) := Lib.hid (by rw [← hw3]; exact PV.new w2 _ _ _ _ _ _)
  rw [hw3]
  clear hw3
  obtain ⟨q, hq⟩ : ∃ q, w2.heap.size = q := ⟨_, rfl⟩
  have HB3 : Hid (Below H w w3) := Lib.hid (HB2.out.trans (HB23.out.mono (Nat.le_of_lt hHl)))
  have HK3 := Lib.hid (HK2.out.below HB23.out)
  have HKB3 := Lib.hid (HKB.out.below HB23.out)
  rw [hq] at HQ3 hHl ⊢
  clear hq HB23 HK2 HKB HB2
  rw [p1] at HP
  refine (HP.out w3).mono ?_
  rintro e w' ⟨rfl, hw⟩
  obtain rfl := hw.symm
  have y0 := HQ3.out.c0
  have y1 := HQ3.out.c1
  have y2 := HQ3.out.c2
  have y3 := HQ3.out.c3
  have yf := HQ3.out.f
  have hne : H ≠ q := Nat.ne_of_lt hHl
  have hne2 : ¬ q = H := fun e => hne e.symm
  have v0 := HK3.out.c0
  have v1 := HK3.out.c1
  have v2 := HK3.out.c2
  have v3 := HK3.out.c3
  have vf := HK3.out.f
  have HQ4 : Hid (PV (w3.setCell ⟨q, 1, none⟩ (.int .i64 (1 + g5))) q s0 (1 + g5) i0 (some ⟨b, 0, none⟩) 32 32) := Lib.hid (HQ3.out.put_g)
  have HKE : Hid (PV (w3.setCell ⟨q, 1, none⟩ (.int .i64 (1 + g5))) H 0 0 0 none 0 0) := Lib.hid (HK3.out.other hne)
  have HKBE : Hid (Blk8 (w3.setCell ⟨q, 1, none⟩ (.int .i64 (1 + g5))) b 32 (bytesF x3)) := Lib.hid (HKB3.out.far HQ3.out (by decide))
  have HBE : Hid (Below H w (w3.setCell ⟨q, 1, none⟩ (.int .i64 (1 + g5)))) := Lib.hid (HB3.out.setCell (Nat.le_of_lt hHl) _)
  have HLE := HL2
  go_wp2_with fail
  refine (H5.out w3).mono ?_
  rintro e w' ⟨rfl, hw⟩
  obtain rfl := hw.symm
  have q0 := HQ4.out.c0
  have q1 := HQ4.out.c1
  have q2 := HQ4.out.c2
  have q3 := HQ4.out.c3
  have z0 := HKE.out.c0
  have z1 := HKE.out.c1
  have z2 := HKE.out.c2
  have z3 := HKE.out.c3
  have fz := HKE.out.f
  go_wp2_with fail
  refine bodyPost_ret (v := pv s0 (1 + g5) i0 (some ⟨b, 0, none⟩) 32 32) ?_ rfl ?_
  · rw [results_cell1 rfl]
    simp [(gpiece_end (x := x3) HH.out HKE.out HKBE.out HBE.out HLE.out).1.load, Result.andThen, asAddr]
  have hr := (gpiece_end (s := s0) (g := (1 + g5)) (i := i0) (x := x3) HH.out HKE.out HKBE.out HBE.out HLE.out).2
  rw [HS.out, HI.out, HG5.out]
  exact hr
theorem tdiv24 (x : Int) (h : -9223372036854775808 ≤ x) (h2 : x ≤ 9223372036854775807) : IntKind.i64.wrap (x.tdiv 24) = x.tdiv 24 := by
  refine IntWalk.i64_in _ ?_
  rcases Int.le_total 0 x with h0 | h0
  · rw [Int.tdiv_eq_ediv_of_nonneg h0]; omega
  · have e : x.tdiv 24 = -((-x) / 24) := by
      rw [← Int.tdiv_eq_ediv_of_nonneg (by omega), Int.neg_tdiv, Int.neg_neg]
    rw [e]; omega
theorem gpiece22 (x0 x1 x2 x3 x4 : Int) (w : World) (hx4 : -9223372036854775808 ≤ x4 ∧ x4 ≤ 9223372036854775807) (p1 : x4 % 24 = 22) (m : Nat) (hm : m < 40) (h5 : ∀ w : World, Calls Try.prog 20 #[.int .i64 (x4.tdiv 24), .int .i64 40] w fun e w' => e = .returned (.int .i64 (m : Int)) ∧ w' = w) :
    Calls Try.prog 10 #[.int .i64 x0, .int .i64 x1, .int .i64 x2, .int .i64 x3, .int .i64 x4] w (GPRet (x0 % 40) (1 + x1 % 9) (x2 % 6) m x3 w) := by
  have H5 := Lib.hid h5
  clear h5
  have wq := tdiv24 x4 hx4.1 hx4.2
  have wq2 : ¬ (24 : Int) = 0 := by decide
  clear hx4
  have HP := Lib.hid (rpick x4 24 (by omega) (by omega))
  have H0 := Lib.hid (rpick x0 40 (by omega) (by omega))
  have H1 := Lib.hid (rpick x1 9 (by omega) (by omega))
  have H2 := Lib.hid (rpick x2 6 (by omega) (by omega))
  obtain ⟨s0, hs0⟩ : ∃ s0, x0 % 40 = s0 := ⟨_, rfl⟩
  obtain ⟨g0, hg0⟩ : ∃ g0, x1 % 9 = g0 := ⟨_, rfl⟩
  obtain ⟨i0, hi0⟩ : ∃ i0, x2 % 6 = i0 := ⟨_, rfl⟩
  have hgl : 0 ≤ g0 := by omega
  have hgu : g0 < 9 := by omega
  rw [hs0] at H0
  rw [hg0] at H1
  rw [hi0] at H2
  have HS := Lib.hid hs0
  have HG := Lib.hid hg0
  have HI := Lib.hid hi0
  obtain ⟨w1, hw1⟩ : ∃ w1, w.alloc (.cells #[.int .i64 0, .int .i64 0, .int .i64 0, .slice none 0 0] 31) = w1 := ⟨_, rfl⟩
  have HW1 := Lib.hid hw1
  obtain ⟨H, hH⟩ : ∃ H, w.heap.size = H := ⟨_, rfl⟩
  have HH := Lib.hid hH
  have HK1 : Hid (PV w1 H 0 0 0 none 0 0) := Lib.hid (by rw [← hw1]; exact PV.of_new hH)
  have HB1 : Hid (Below H w w1) := Lib.hid (by rw [← hw1, ← hH]; exact (Below.refl _ _).alloc (Nat.le_refl _) _)
  have HC := Lib.hid (cbytes x3 32 32 rfl w1 (by omega))
  clear hw1 hH hs0 hg0 hi0
  go_enter Try.func10, Try.ntmps10
  go_wp2_with fail
  rw [HW1.out, HH.out]
  refine (H0.out w1).mono ?_
  rintro e w' ⟨rfl, hw⟩
  obtain rfl := hw.symm
  go_wp2_with fail
  refine (H1.out w1).mono ?_
  rintro e w' ⟨rfl, hw⟩
  obtain rfl := hw.symm
  go_wp2_with fail
  refine (H2.out w1).mono ?_
  rintro e w' ⟨rfl, hw⟩
  obtain rfl := hw.symm
  go_wp2_with fail
  refine HC.out.mono ?_
  rintro e w2 ⟨b, rfl, hk2, hb2, hl2⟩
  try dsimp only
  have HKB := Lib.hid hk2
  have HK2 := Lib.hid (HK1.out.below hb2)
  have HB2 : Hid (Below H w w2) := Lib.hid (HB1.out.trans (hb2.mono (Nat.le_of_lt HK1.out.lt)))
  have HL2 : Hid (H ≤ b) := Lib.hid (Nat.le_trans (Nat.le_of_lt HK1.out.lt) hl2)
  have hHl : H < w2.heap.size := HK2.out.lt
  clear hk2 hb2 hl2 HK1 HB1
  go_wp2_with fail
  obtain ⟨w3, hw3⟩ : ∃ w3, w2.alloc (.cells #[.int .i64 s0, .int .i64 (1 + g0), .int .i64 i0, .slice (some ⟨b, 0, none⟩) 32 32] 31) = w3 := ⟨_, rfl⟩
  have HB23 : Hid (Below w2.heap.size w2 w3) := Lib.hid (by rw [← hw3]; exact (Below.refl _ _).alloc (Nat.le_refl _) _)
  have HQ3 : Hid (PV w3 w2.heap.size s0 (1 + g0) i0 (some ⟨b, 0, none⟩) 32 32) := Lib.hid (by rw [← hw3]; exact PV.new w2 _ _ _ _ _ _)
  rw [hw3]
  clear hw3
  obtain ⟨q, hq⟩ : ∃ q, w2.heap.size = q := ⟨_, rfl⟩
  have HB3 : Hid (Below H w w3) := Lib.hid (HB2.out.trans (HB23.out.mono (Nat.le_of_lt hHl)))
  have HK3 := Lib.hid (HK2.out.below HB23.out)
  have HKB3 := Lib.hid (HKB.out.below HB23.out)
  rw [hq] at HQ3 hHl ⊢
  clear hq HB23 HK2 HKB HB2
  rw [p1] at HP
  refine (HP.out w3).mono ?_
  rintro e w' ⟨rfl, hw⟩
  obtain rfl := hw.symm
  go_wp2_with fail
  refine (H5.out w3).mono ?_
  rintro e w' ⟨rfl, hw⟩
  obtain rfl := hw.symm
  go_wp2_with fail
  refine (cbytes x3 m (m : Int) rfl w3 (by omega)).mono ?_
  rintro e w4 ⟨b5, rfl, k5, hb5, l5⟩
  try dsimp only
  have HQ5 := Lib.hid (HQ3.out.below hb5)
  have HK5 := Lib.hid (HK3.out.below hb5)
  have HB5 : Hid (Below H w w4) := Lib.hid (HB3.out.trans (hb5.mono (Nat.le_of_lt HK3.out.lt)))
  have HKB5 := Lib.hid k5
  have hne : H ≠ q := Nat.ne_of_lt hHl
  have hne2 : ¬ q = H := fun e => hne e.symm
  have y3 := HQ5.out.c3
  have y0 := HQ5.out.c0
  have y1 := HQ5.out.c1
  have y2 := HQ5.out.c2
  have yf := HQ5.out.f
  have v0 := HK5.out.c0
  have v1 := HK5.out.c1
  have v2 := HK5.out.c2
  have v3 := HK5.out.c3
  have vf := HK5.out.f
  have HLE : Hid (H ≤ b5) := Lib.hid (Nat.le_trans (Nat.le_of_lt HK3.out.lt) l5)
  have HQ4 : Hid (PV (w4.setCell ⟨q, 3, none⟩ (.slice (some ⟨b5, 0, none⟩) m m)) q s0 (1 + g0) i0 (some ⟨b5, 0, none⟩) m m) := Lib.hid (HQ5.out.put_d)
  have HKE : Hid (PV (w4.setCell ⟨q, 3, none⟩ (.slice (some ⟨b5, 0, none⟩) m m)) H 0 0 0 none 0 0) := Lib.hid (HK5.out.other hne)
  have HKBE : Hid (Blk8 (w4.setCell ⟨q, 3, none⟩ (.slice (some ⟨b5, 0, none⟩) m m)) b5 m (bytesF x3)) := Lib.hid (HKB5.out.far HQ5.out (by decide))
  have HBE : Hid (Below H w (w4.setCell ⟨q, 3, none⟩ (.slice (some ⟨b5, 0, none⟩) m m))) := Lib.hid (HB5.out.setCell (Nat.le_of_lt hHl) _)
  clear k5 hb5 l5
  have q0 := HQ4.out.c0
  have q1 := HQ4.out.c1
  have q2 := HQ4.out.c2
  have q3 := HQ4.out.c3
  have z0 := HKE.out.c0
  have z1 := HKE.out.c1
  have z2 := HKE.out.c2
  have z3 := HKE.out.c3
  have fz := HKE.out.f
  go_wp2_with fail
  refine bodyPost_ret (v := pv s0 (1 + g0) i0 (some ⟨b5, 0, none⟩) m m) ?_ rfl ?_
  · rw [results_cell1 rfl]
    simp [(gpiece_end (x := x3) HH.out HKE.out HKBE.out HBE.out HLE.out).1.load, Result.andThen, asAddr]
  have hr := (gpiece_end (s := s0) (g := (1 + g0)) (i := i0) (x := x3) HH.out HKE.out HKBE.out HBE.out HLE.out).2
  rw [HS.out, HG.out, HI.out]
  exact hr
/-- corbelhand.Piece: some piece, whatever is asked. -/
theorem gpiece (x0 x1 x2 x3 x4 : Int) (hx4 : -9223372036854775808 ≤ x4 ∧ x4 ≤ 9223372036854775807) : ∃ (s g i : Int) (n : Nat), n ≤ 40 ∧ ∀ w, Calls Try.prog 10 #[.int .i64 x0, .int .i64 x1, .int .i64 x2, .int .i64 x3, .int .i64 x4] w (GPRet s g i n x3 w) := by
  by_cases h1 : x4 % 24 = 19
  · exact ⟨_, _, _, _, by omega, fun w => gpiece19 x0 x1 x2 x3 x4 w h1⟩
  · by_cases h2 : x4 % 24 = 20
    · exact ⟨_, _, _, _, by omega, fun w => gpiece20 x0 x1 x2 x3 x4 w h2⟩
    · by_cases h3 : x4 % 24 = 21
      · exact ⟨_, _, _, _, by omega, fun w => gpiece21 x0 x1 x2 x3 x4 w h3⟩
      · by_cases h4 : x4 % 24 = 22
        · obtain ⟨m, hm, hp⟩ := rpickN (x4.tdiv 24) 40 (by omega) (by omega)
          exact ⟨_, _, _, _, by omega, fun w => gpiece22 x0 x1 x2 x3 x4 w hx4 h4 m hm hp⟩
        · by_cases h5 : x4 % 24 = 23
          · exact ⟨_, _, _, _, by omega, fun w => gpiece23 x0 x1 x2 x3 x4 w h5⟩
          · exact ⟨_, _, _, _, by omega, fun w => gpiece0 x0 x1 x2 x3 x4 w (beq_eq_false_iff_ne.2 h1) (beq_eq_false_iff_ne.2 h2) (beq_eq_false_iff_ne.2 h3) (beq_eq_false_iff_ne.2 h4) (beq_eq_false_iff_ne.2 h5)⟩
end Go.Proofs.Ytoofgcdilgfclaa
