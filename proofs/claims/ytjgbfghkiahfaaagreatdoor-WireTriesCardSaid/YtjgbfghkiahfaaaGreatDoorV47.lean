import Derived.Test.YtjgbfghkiahfaaaGreatDoorV46
namespace Go.Proofs.YtjgbfghkiahfaaaGreatDoor
open Go.RowKit Go.Sort
set_option maxRecDepth 100000
set_option maxHeartbeats 1000000

def GIRet (s g : Int) (n : Nat) (x : Int) (w : World) (e : Ending) (w' : World) : Prop := ∃ b, e = .returned (iv s g (some ⟨b, 0, none⟩) n n) ∧ Blk8 w' b n (bytesF x) ∧ Below w.heap.size w w' ∧ w.heap.size ≤ b
theorem IV.other {w : World} {b n c b' k : Nat} {s g : Int} {A : Option Addr} {v : Value} (h : IV w b s g A n c) (hne : b ≠ b') : IV (w.setCell ⟨b', k, none⟩ v) b s g A n c := (set_other hne k v).trans h
theorem gintent_end {w w3 : World} {H b n : Nat} {s g : Int} {x : Int} (hH : w.heap.size = H) (k0 : IV w3 H 0 0 none 0 0) (kb : Blk8 w3 b n (bytesF x)) (hb : Below H w w3) (hl : H ≤ b) :
    IV (((w3.setCell ⟨H, 0, none⟩ (.int .i64 s)).setCell ⟨H, 1, none⟩ (.int .i64 g)).setCell ⟨H, 2, none⟩ (.slice (some ⟨b, 0, none⟩) n n)) H s g (some ⟨b, 0, none⟩) n n ∧
    GIRet s g n x w (.returned (iv s g (some ⟨b, 0, none⟩) n n)) (((w3.setCell ⟨H, 0, none⟩ (.int .i64 s)).setCell ⟨H, 1, none⟩ (.int .i64 g)).setCell ⟨H, 2, none⟩ (.slice (some ⟨b, 0, none⟩) n n)) :=
  ⟨k0.put, b, rfl, kb.far3 k0, by rw [hH]; exact below_put3 hb (Nat.le_refl _) _ _ _, by rw [hH]; exact hl⟩
theorem gintent0 (x0 x1 x2 x3 : Int) (w : World) (p2 : (x3 % 24 == 20) = false) (p3 : (x3 % 24 == 21) = false) (p4 : (x3 % 24 == 22) = false) (p5 : (x3 % 24 == 23) = false) :
    Calls Tryz.prog 27 #[.int .i64 x0, .int .i64 x1, .int .i64 x2, .int .i64 x3] w (GIRet (x0 % 40) (1 + x1 % 9) 128 x2 w) := by
  have HP := Lib.hid (rpick x3 24 (by omega) (by omega))
  have H0 := Lib.hid (rpick x0 40 (by omega) (by omega))
  have H1 := Lib.hid (rpick x1 9 (by omega) (by omega))
  obtain ⟨s0, hs0⟩ : ∃ s0, x0 % 40 = s0 := ⟨_, rfl⟩
  obtain ⟨g0, hg0⟩ : ∃ g0, x1 % 9 = g0 := ⟨_, rfl⟩
  have hgl : 0 ≤ g0 := by omega
  have hgu : g0 < 9 := by omega
  rw [hs0] at H0
  rw [hg0] at H1
  have HS := Lib.hid hs0
  have HG := Lib.hid hg0
  obtain ⟨w1, hw1⟩ : ∃ w1, w.alloc (.cells #[.int .i64 0, .int .i64 0, .slice none 0 0] 56) = w1 := ⟨_, rfl⟩
  have HW1 := Lib.hid hw1
  obtain ⟨H, hH⟩ : ∃ H, w.heap.size = H := ⟨_, rfl⟩
  have HH := Lib.hid hH
  have HK1 : Hid (IV w1 H 0 0 none 0 0) := Lib.hid (by rw [← hw1]; exact IV.of_new hH)
  have HB1 : Hid (Below H w w1) := Lib.hid (by rw [← hw1, ← hH]; exact (Below.refl _ _).alloc (Nat.le_refl _) _)
  have HC := Lib.hid (cbytes x2 128 128 rfl w1 (by omega))
  clear hw1 hH hs0 hg0
  go_enter Tryz.func27, Tryz.ntmps27
  go_wp2_with fail
  rw [HW1.out, HH.out]
  refine (H0.out w1).mono ?_
  rintro e w' ⟨rfl, hw⟩
  obtain rfl := hw.symm
  go_wp2_with fail
  refine (H1.out w1).mono ?_
  rintro e w' ⟨rfl, hw⟩
  obtain rfl := hw.symm
  go_wp2_with fail
  refine HC.out.mono ?_
  rintro e w2 ⟨b, rfl, hk2, hb2, hl2⟩
  try dsimp only
  have HKB := Lib.hid hk2
  have HK2 := Lib.hid (HK1.out.below hb2)
  have HB2 : Hid (Below H w w2) := Lib.hid (HB1.out.trans (hb2.mono (Nat.le_of_lt HK1.out.lt)))
  have HL2 : Hid (H ≤ b) := Lib.hid (Nat.le_trans (Nat.le_of_lt HK1.out.lt) hl2)
  have hHl : H < w2.heap.size := HK2.out.lt
  clear hk2 hb2 hl2 HK1 HB1
  go_wp2_with fail
  obtain ⟨w3, hw3⟩ : ∃ w3, w2.alloc (.cells #[.int .i64 s0, .int .i64 (1 + g0), .slice (some ⟨b, 0, none⟩) 128 128] 56) = w3 := ⟨_, rfl⟩
  have HB23 : Hid (Below w2.heap.size w2 w3) := Lib.hid (by rw [← hw3]; exact (Below.refl _ _).alloc (Nat.le_refl _) _)
  have HQ3 : Hid (IV w3 w2.heap.size s0 (1 + g0) (some ⟨b, 0, none⟩) 128 128) := Lib.hid (by rw [← hw3]; exact IV.new w2 _ _ _ _ _)
  rw [hw3]
  clear hw3
  obtain ⟨q, hq⟩ : ∃ q, w2.heap.size = q := ⟨_, rfl⟩
  have HB3 : Hid (Below H w w3) := Lib.hid (HB2.out.trans (HB23.out.mono (Nat.le_of_lt hHl)))
  have HK3 := Lib.hid (HK2.out.below HB23.out)
  have HKB3 := Lib.hid (HKB.out.below HB23.out)
  rw [hq] at HQ3 hHl ⊢
  clear hq HB23 HK2 HKB HB2
  refine (HP.out w3).mono ?_
  rintro e w' ⟨rfl, hw⟩
  obtain rfl := hw.symm
  have HKE := HK3
  have HKBE := HKB3
  have HBE := HB3
  have HLE := HL2
  have q0 := HQ3.out.c0
  have q1 := HQ3.out.c1
  have q2 := HQ3.out.c2
  have z0 := HKE.out.c0
  have z1 := HKE.out.c1
  have z2 := HKE.out.c2
  have fz := HKE.out.f
  go_wp2_with fail
  refine bodyPost_ret (v := iv s0 (1 + g0) (some ⟨b, 0, none⟩) 128 128) ?_ rfl ?_
  · rw [results_cell1 rfl]
    simp [(gintent_end (x := x2) HH.out HKE.out HKBE.out HBE.out HLE.out).1.load, Result.andThen, asAddr]
  have hr := (gintent_end (s := s0) (g := 1 + g0) (x := x2) HH.out HKE.out HKBE.out HBE.out HLE.out).2
  rw [HS.out, HG.out]
  exact hr
theorem gintent20 (x0 x1 x2 x3 : Int) (w : World) (p1 : x3 % 24 = 20) :
    Calls Tryz.prog 27 #[.int .i64 x0, .int .i64 x1, .int .i64 x2, .int .i64 x3] w (GIRet (x0) (1 + x1 % 9) 128 x2 w) := by
  have HP := Lib.hid (rpick x3 24 (by omega) (by omega))
  have H0 := Lib.hid (rpick x0 40 (by omega) (by omega))
  have H1 := Lib.hid (rpick x1 9 (by omega) (by omega))
  obtain ⟨s0, hs0⟩ : ∃ s0, x0 % 40 = s0 := ⟨_, rfl⟩
  obtain ⟨g0, hg0⟩ : ∃ g0, x1 % 9 = g0 := ⟨_, rfl⟩
  have hgl : 0 ≤ g0 := by omega
  have hgu : g0 < 9 := by omega
  rw [hs0] at H0
  rw [hg0] at H1
  have HS := Lib.hid hs0
  have HG := Lib.hid hg0
  obtain ⟨w1, hw1⟩ : ∃ w1, w.alloc (.cells #[.int .i64 0, .int .i64 0, .slice none 0 0] 56) = w1 := ⟨_, rfl⟩
  have HW1 := Lib.hid hw1
  obtain ⟨H, hH⟩ : ∃ H, w.heap.size = H := ⟨_, rfl⟩
  have HH := Lib.hid hH
  have HK1 : Hid (IV w1 H 0 0 none 0 0) := Lib.hid (by rw [← hw1]; exact IV.of_new hH)
  have HB1 : Hid (Below H w w1) := Lib.hid (by rw [← hw1, ← hH]; exact (Below.refl _ _).alloc (Nat.le_refl _) _)
  have HC := Lib.hid (cbytes x2 128 128 rfl w1 (by omega))
  clear hw1 hH hs0 hg0
  go_enter Tryz.func27, Tryz.ntmps27
  go_wp2_with fail
  rw [HW1.out, HH.out]
  refine (H0.out w1).mono ?_
  rintro e w' ⟨rfl, hw⟩
  obtain rfl := hw.symm
  go_wp2_with fail
  refine (H1.out w1).mono ?_
  rintro e w' ⟨rfl, hw⟩
  obtain rfl := hw.symm
  go_wp2_with fail
  refine HC.out.mono ?_
  rintro e w2 ⟨b, rfl, hk2, hb2, hl2⟩
  try dsimp only
  have HKB := Lib.hid hk2
  have HK2 := Lib.hid (HK1.out.below hb2)
  have HB2 : Hid (Below H w w2) := Lib.hid (HB1.out.trans (hb2.mono (Nat.le_of_lt HK1.out.lt)))
  have HL2 : Hid (H ≤ b) := Lib.hid (Nat.le_trans (Nat.le_of_lt HK1.out.lt) hl2)
  have hHl : H < w2.heap.size := HK2.out.lt
  clear hk2 hb2 hl2 HK1 HB1
  go_wp2_with fail
  obtain ⟨w3, hw3⟩ : ∃ w3, w2.alloc (.cells #[.int .i64 s0, .int .i64 (1 + g0), .slice (some ⟨b, 0, none⟩) 128 128] 56) = w3 := ⟨_, rfl⟩
  have HB23 : Hid (Below w2.heap.size w2 w3) := Lib.hid (by rw [← hw3]; exact (Below.refl _ _).alloc (Nat.le_refl _) _)
  have HQ3 : Hid (IV w3 w2.heap.size s0 (1 + g0) (some ⟨b, 0, none⟩) 128 128) := Lib.hid (by rw [← hw3]; exact IV.new w2 _ _ _ _ _)
  rw [hw3]
  clear hw3
  obtain ⟨q, hq⟩ : ∃ q, w2.heap.size = q := ⟨_, rfl⟩
  have HB3 : Hid (Below H w w3) := Lib.hid (HB2.out.trans (HB23.out.mono (Nat.le_of_lt hHl)))
  have HK3 := Lib.hid (HK2.out.below HB23.out)
  have HKB3 := Lib.hid (HKB.out.below HB23.out)
  rw [hq] at HQ3 hHl ⊢
  clear hq HB23 HK2 HKB HB2
  rw [p1] at HP
  refine (HP.out w3).mono ?_
  rintro e w' ⟨rfl, hw⟩
  obtain rfl := hw.symm
  have y0 := HQ3.out.c0
  have y1 := HQ3.out.c1
  have y2 := HQ3.out.c2
  have yf := HQ3.out.f
  have hne : H ≠ q := Nat.ne_of_lt hHl
  have hne2 : ¬ q = H := fun e => hne e.symm
  have v0 := HK3.out.c0
  have v1 := HK3.out.c1
  have v2 := HK3.out.c2
  have vf := HK3.out.f
  have HQ4 : Hid (IV (w3.setCell ⟨q, 0, none⟩ (.int .i64 x0)) q x0 (1 + g0) (some ⟨b, 0, none⟩) 128 128) := Lib.hid (HQ3.out.put_s x0)
  have HKE : Hid (IV (w3.setCell ⟨q, 0, none⟩ (.int .i64 x0)) H 0 0 none 0 0) := Lib.hid (HK3.out.other hne)
  have HKBE : Hid (Blk8 (w3.setCell ⟨q, 0, none⟩ (.int .i64 x0)) b 128 (bytesF x2)) := Lib.hid (HKB3.out.far HQ3.out (by decide))
  have HBE : Hid (Below H w (w3.setCell ⟨q, 0, none⟩ (.int .i64 x0))) := Lib.hid (HB3.out.setCell (Nat.le_of_lt hHl) _)
  have HLE := HL2
  have q0 := HQ4.out.c0
  have q1 := HQ4.out.c1
  have q2 := HQ4.out.c2
  have z0 := HKE.out.c0
  have z1 := HKE.out.c1
  have z2 := HKE.out.c2
  have fz := HKE.out.f
  go_wp2_with fail
  refine bodyPost_ret (v := iv x0 (1 + g0) (some ⟨b, 0, none⟩) 128 128) ?_ rfl ?_
  · rw [results_cell1 rfl]
    simp [(gintent_end (x := x2) HH.out HKE.out HKBE.out HBE.out HLE.out).1.load, Result.andThen, asAddr]
  have hr := (gintent_end (s := x0) (g := (1 + g0)) (x := x2) HH.out HKE.out HKBE.out HBE.out HLE.out).2
  rw [HG.out]
  exact hr
theorem gintent21 (x0 x1 x2 x3 : Int) (w : World) (p1 : x3 % 24 = 21) :
    Calls Tryz.prog 27 #[.int .i64 x0, .int .i64 x1, .int .i64 x2, .int .i64 x3] w (GIRet (x0 % 40) (x1) 128 x2 w) := by
  have HP := Lib.hid (rpick x3 24 (by omega) (by omega))
  have H0 := Lib.hid (rpick x0 40 (by omega) (by omega))
  have H1 := Lib.hid (rpick x1 9 (by omega) (by omega))
  obtain ⟨s0, hs0⟩ : ∃ s0, x0 % 40 = s0 := ⟨_, rfl⟩
  obtain ⟨g0, hg0⟩ : ∃ g0, x1 % 9 = g0 := ⟨_, rfl⟩
  have hgl : 0 ≤ g0 := by omega
  have hgu : g0 < 9 := by omega
  rw [hs0] at H0
  rw [hg0] at H1
  have HS := Lib.hid hs0
  have HG := Lib.hid hg0
  obtain ⟨w1, hw1⟩ : ∃ w1, w.alloc (.cells #[.int .i64 0, .int .i64 0, .slice none 0 0] 56) = w1 := ⟨_, rfl⟩
  have HW1 := Lib.hid hw1
  obtain ⟨H, hH⟩ : ∃ H, w.heap.size = H := ⟨_, rfl⟩
  have HH := Lib.hid hH
  have HK1 : Hid (IV w1 H 0 0 none 0 0) := Lib.hid (by rw [← hw1]; exact IV.of_new hH)
  have HB1 : Hid (Below H w w1) := Lib.hid (by rw [← hw1, ← hH]; exact (Below.refl _ _).alloc (Nat.le_refl _) _)
  have HC := Lib.hid (cbytes x2 128 128 rfl w1 (by omega))
  clear hw1 hH hs0 hg0
  go_enter Tryz.func27, Tryz.ntmps27
  go_wp2_with fail
  rw [HW1.out, HH.out]
  refine (H0.out w1).mono ?_
  rintro e w' ⟨rfl, hw⟩
  obtain rfl := hw.symm
  go_wp2_with fail
  refine (H1.out w1).mono ?_
  rintro e w' ⟨rfl, hw⟩
  obtain rfl := hw.symm
  go_wp2_with fail
  refine HC.out.mono ?_
  rintro e w2 ⟨b, rfl, hk2, hb2, hl2⟩
  try dsimp only
  have HKB := Lib.hid hk2
  have HK2 := Lib.hid (HK1.out.below hb2)
  have HB2 : Hid (Below H w w2) := Lib.hid (HB1.out.trans (hb2.mono (Nat.le_of_lt HK1.out.lt)))
  have HL2 : Hid (H ≤ b) := Lib.hid (Nat.le_trans (Nat.le_of_lt HK1.out.lt) hl2)
  have hHl : H < w2.heap.size := HK2.out.lt
  clear hk2 hb2 hl2 HK1 HB1
  go_wp2_with fail
  obtain ⟨w3, hw3⟩ : ∃ w3, w2.alloc (.cells #[.int .i64 s0, .int .i64 (1 + g0), .slice (some ⟨b, 0, none⟩) 128 128] 56) = w3 := ⟨_, rfl⟩
  have HB23 : Hid (Below w2.heap.size w2 w3) := Lib.hid (by rw [← hw3]; exact (Below.refl _ _).alloc (Nat.le_refl _) _)
  have HQ3 : Hid (IV w3 w2.heap.size s0 (1 + g0) (some ⟨b, 0, none⟩) 128 128) := Lib.hid (by rw [← hw3]; exact IV.new w2 _ _ _ _ _)
  rw [hw3]
  clear hw3
  obtain ⟨q, hq⟩ : ∃ q, w2.heap.size = q := ⟨_, rfl⟩
  have HB3 : Hid (Below H w w3) := Lib.hid (HB2.out.trans (HB23.out.mono (Nat.le_of_lt hHl)))
  have HK3 := Lib.hid (HK2.out.below HB23.out)
  have HKB3 := Lib.hid (HKB.out.below HB23.out)
  rw [hq] at HQ3 hHl ⊢
  clear hq HB23 HK2 HKB HB2
  rw [p1] at HP
  refine (HP.out w3).mono ?_
  rintro e w' ⟨rfl, hw⟩
  obtain rfl := hw.symm
  have y0 := HQ3.out.c0
  have y1 := HQ3.out.c1
  have y2 := HQ3.out.c2
  have yf := HQ3.out.f
  have hne : H ≠ q := Nat.ne_of_lt hHl
  have hne2 : ¬ q = H := fun e => hne e.symm
  have v0 := HK3.out.c0
  have v1 := HK3.out.c1
  have v2 := HK3.out.c2
  have vf := HK3.out.f
  have HQ4 : Hid (IV (w3.setCell ⟨q, 1, none⟩ (.int .i64 x1)) q s0 x1 (some ⟨b, 0, none⟩) 128 128) := Lib.hid (HQ3.out.put_g x1)
  have HKE : Hid (IV (w3.setCell ⟨q, 1, none⟩ (.int .i64 x1)) H 0 0 none 0 0) := Lib.hid (HK3.out.other hne)
  have HKBE : Hid (Blk8 (w3.setCell ⟨q, 1, none⟩ (.int .i64 x1)) b 128 (bytesF x2)) := Lib.hid (HKB3.out.far HQ3.out (by decide))
  have HBE : Hid (Below H w (w3.setCell ⟨q, 1, none⟩ (.int .i64 x1))) := Lib.hid (HB3.out.setCell (Nat.le_of_lt hHl) _)
  have HLE := HL2
  have q0 := HQ4.out.c0
  have q1 := HQ4.out.c1
  have q2 := HQ4.out.c2
  have z0 := HKE.out.c0
  have z1 := HKE.out.c1
  have z2 := HKE.out.c2
  have fz := HKE.out.f
  go_wp2_with fail
  refine bodyPost_ret (v := iv s0 x1 (some ⟨b, 0, none⟩) 128 128) ?_ rfl ?_
  · rw [results_cell1 rfl]
    simp [(gintent_end (x := x2) HH.out HKE.out HKBE.out HBE.out HLE.out).1.load, Result.andThen, asAddr]
  have hr := (gintent_end (s := s0) (g := x1) (x := x2) HH.out HKE.out HKBE.out HBE.out HLE.out).2
  rw [HS.out]
  exact hr
theorem gintent23 (x0 x1 x2 x3 : Int) (w : World) (p1 : x3 % 24 = 23) :
    Calls Tryz.prog 27 #[.int .i64 x0, .int .i64 x1, .int .i64 x2, .int .i64 x3] w (GIRet (x0 % 40) (1 + x1 % 1099511627776) 128 x2 w) := by
  have HP := Lib.hid (rpick x3 24 (by omega) (by omega))
  have H0 := Lib.hid (rpick x0 40 (by omega) (by omega))
  have H1 := Lib.hid (rpick x1 9 (by omega) (by omega))
  have H5 := Lib.hid (rpick x1 1099511627776 (by omega) (by omega))
  obtain ⟨g5, hg5⟩ : ∃ g5, x1 % 1099511627776 = g5 := ⟨_, rfl⟩
  have h5l : 0 ≤ g5 := by omega
  have h5u : g5 < 1099511627776 := by omega
  rw [hg5] at H5
  have HG5 := Lib.hid hg5
  clear hg5
  obtain ⟨s0, hs0⟩ : ∃ s0, x0 % 40 = s0 := ⟨_, rfl⟩
  obtain ⟨g0, hg0⟩ : ∃ g0, x1 % 9 = g0 := ⟨_, rfl⟩
  have hgl : 0 ≤ g0 := by omega
  have hgu : g0 < 9 := by omega
  rw [hs0] at H0
  rw [hg0] at H1
  have HS := Lib.hid hs0
  have HG := Lib.hid hg0
  obtain ⟨w1, hw1⟩ : ∃ w1, w.alloc (.cells #[.int .i64 0, .int .i64 0, .slice none 0 0] 56) = w1 := ⟨_, rfl⟩
  have HW1 := Lib.hid hw1
  obtain ⟨H, hH⟩ : ∃ H, w.heap.size = H := ⟨_, rfl⟩
  have HH := Lib.hid hH
  have HK1 : Hid (IV w1 H 0 0 none 0 0) := Lib.hid (by rw [← hw1]; exact IV.of_new hH)
  have HB1 : Hid (Below H w w1) := Lib.hid (by rw [← hw1, ← hH]; exact (Below.refl _ _).alloc (Nat.le_refl _) _)
  have HC := Lib.hid (cbytes x2 128 128 rfl w1 (by omega))
  clear hw1 hH hs0 hg0
  go_enter Tryz.func27, Tryz.ntmps27
  go_wp2_with fail
  rw [HW1.out, HH.out]
  refine (H0.out w1).mono ?_
  rintro e w' ⟨rfl, hw⟩
  obtain rfl := hw.symm
  go_wp2_with fail
  refine (H1.out w1).mono ?_
  rintro e w' ⟨rfl, hw⟩
  obtain rfl := hw.symm
  go_wp2_with fail
  refine HC.out.mono ?_
  rintro e w2 ⟨b, rfl, hk2, hb2, hl2⟩
  try dsimp only
  have HKB := Lib.hid hk2
  have HK2 := Lib.hid (HK1.out.below hb2)
  have HB2 : Hid (Below H w w2) := Lib.hid (HB1.out.trans (hb2.mono (Nat.le_of_lt HK1.out.lt)))
  have HL2 : Hid (H ≤ b) := Lib.hid (Nat.le_trans (Nat.le_of_lt HK1.out.lt) hl2)
  have hHl : H < w2.heap.size := HK2.out.lt
  clear hk2 hb2 hl2 HK1 HB1
  go_wp2_with fail
  obtain ⟨w3, hw3⟩ : ∃ w3, w2.alloc (.cells #[.int .i64 s0, .int .i64 (1 + g0), .slice (some ⟨b, 0, none⟩) 128 128] 56) = w3 := ⟨_, rfl⟩
  have HB23 : Hid (Below w2.heap.size w2 w3) := Lib.hid (by rw [← hw3]; exact (Below.refl _ _).alloc (Nat.le_refl _) _)
  have HQ3 : Hid (IV w3 w2.heap.size s0 (1 + g0) (some ⟨b, 0, none⟩) 128 128) := Lib.hid (by rw [← hw3]; exact IV.new w2 _ _ _ _ _)
  rw [hw3]
  clear hw3
  obtain ⟨q, hq⟩ : ∃ q, w2.heap.size = q := ⟨_, rfl⟩
  have HB3 : Hid (Below H w w3) := Lib.hid (HB2.out.trans (HB23.out.mono (Nat.le_of_lt hHl)))
  have HK3 := Lib.hid (HK2.out.below HB23.out)
  have HKB3 := Lib.hid (HKB.out.below HB23.out)
  rw [hq] at HQ3 hHl ⊢
  clear hq HB23 HK2 HKB HB2
  rw [p1] at HP
  refine (HP.out w3).mono ?_
  rintro e w' ⟨rfl, hw⟩
  obtain rfl := hw.symm
  have y0 := HQ3.out.c0
  have y1 := HQ3.out.c1
  have y2 := HQ3.out.c2
  have yf := HQ3.out.f
  have hne : H ≠ q := Nat.ne_of_lt hHl
  have hne2 : ¬ q = H := fun e => hne e.symm
  have v0 := HK3.out.c0
  have v1 := HK3.out.c1
  have v2 := HK3.out.c2
  have vf := HK3.out.f
  have HQ4 : Hid (IV (w3.setCell ⟨q, 1, none⟩ (.int .i64 (1 + g5))) q s0 (1 + g5) (some ⟨b, 0, none⟩) 128 128) := Lib.hid (HQ3.out.put_g (1 + g5))
  have HKE : Hid (IV (w3.setCell ⟨q, 1, none⟩ (.int .i64 (1 + g5))) H 0 0 none 0 0) := Lib.hid (HK3.out.other hne)
  have HKBE : Hid (Blk8 (w3.setCell ⟨q, 1, none⟩ (.int .i64 (1 + g5))) b 128 (bytesF x2)) := Lib.hid (HKB3.out.far HQ3.out (by decide))
  have HBE : Hid (Below H w (w3.setCell ⟨q, 1, none⟩ (.int .i64 (1 + g5)))) := Lib.hid (HB3.out.setCell (Nat.le_of_lt hHl) _)
  have HLE := HL2
  go_wp2_with fail
  refine (H5.out w3).mono ?_
  rintro e w' ⟨rfl, hw⟩
  obtain rfl := hw.symm
  have q0 := HQ4.out.c0
  have q1 := HQ4.out.c1
  have q2 := HQ4.out.c2
  have z0 := HKE.out.c0
  have z1 := HKE.out.c1
  have z2 := HKE.out.c2
  have fz := HKE.out.f
  go_wp2_with fail
  refine bodyPost_ret (v := iv s0 (1 + g5) (some ⟨b, 0, none⟩) 128 128) ?_ rfl ?_
  · rw [results_cell1 rfl]
    simp [(gintent_end (x := x2) HH.out HKE.out HKBE.out HBE.out HLE.out).1.load, Result.andThen, asAddr]
  have hr := (gintent_end (s := s0) (g := (1 + g5)) (x := x2) HH.out HKE.out HKBE.out HBE.out HLE.out).2
  rw [HS.out, HG5.out]
  exact hr
theorem gintent22 (x0 x1 x2 x3 : Int) (w : World) (hx3 : -9223372036854775808 ≤ x3 ∧ x3 ≤ 9223372036854775807) (p1 : x3 % 24 = 22) (m : Nat) (hm : m < 140) (h5 : ∀ w : World, Calls Tryz.prog 26 #[.int .i64 (x3.tdiv 24), .int .i64 140] w fun e w' => e = .returned (.int .i64 (m : Int)) ∧ w' = w) :
    Calls Tryz.prog 27 #[.int .i64 x0, .int .i64 x1, .int .i64 x2, .int .i64 x3] w (GIRet (x0 % 40) (1 + x1 % 9) m x2 w) := by
  have H5 := Lib.hid h5
  clear h5
  have wq := tdiv24 x3 hx3.1 hx3.2
  have wq2 : ¬ (24 : Int) = 0 := by decide
  clear hx3
  have HP := Lib.hid (rpick x3 24 (by omega) (by omega))
  have H0 := Lib.hid (rpick x0 40 (by omega) (by omega))
  have H1 := Lib.hid (rpick x1 9 (by omega) (by omega))
  obtain ⟨s0, hs0⟩ : ∃ s0, x0 % 40 = s0 := ⟨_, rfl⟩
  obtain ⟨g0, hg0⟩ : ∃ g0, x1 % 9 = g0 := ⟨_, rfl⟩
  have hgl : 0 ≤ g0 := by omega
  have hgu : g0 < 9 := by omega
  rw [hs0] at H0
  rw [hg0] at H1
  have HS := Lib.hid hs0
  have HG := Lib.hid hg0
  obtain ⟨w1, hw1⟩ : ∃ w1, w.alloc (.cells #[.int .i64 0, .int .i64 0, .slice none 0 0] 56) = w1 := ⟨_, rfl⟩
  have HW1 := Lib.hid hw1
  obtain ⟨H, hH⟩ : ∃ H, w.heap.size = H := ⟨_, rfl⟩
  have HH := Lib.hid hH
  have HK1 : Hid (IV w1 H 0 0 none 0 0) := Lib.hid (by rw [← hw1]; exact IV.of_new hH)
  have HB1 : Hid (Below H w w1) := Lib.hid (by rw [← hw1, ← hH]; exact (Below.refl _ _).alloc (Nat.le_refl _) _)
  have HC := Lib.hid (cbytes x2 128 128 rfl w1 (by omega))
  clear hw1 hH hs0 hg0
  go_enter Tryz.func27, Tryz.ntmps27
  go_wp2_with fail
  rw [HW1.out, HH.out]
  refine (H0.out w1).mono ?_
  rintro e w' ⟨rfl, hw⟩
  obtain rfl := hw.symm
  go_wp2_with fail
  refine (H1.out w1).mono ?_
  rintro e w' ⟨rfl, hw⟩
  obtain rfl := hw.symm
  go_wp2_with fail
  refine HC.out.mono ?_
  rintro e w2 ⟨b, rfl, hk2, hb2, hl2⟩
  try dsimp only
  have HKB := Lib.hid hk2
  have HK2 := Lib.hid (HK1.out.below hb2)
  have HB2 : Hid (Below H w w2) := Lib.hid (HB1.out.trans (hb2.mono (Nat.le_of_lt HK1.out.lt)))
  have HL2 : Hid (H ≤ b) := Lib.hid (Nat.le_trans (Nat.le_of_lt HK1.out.lt) hl2)
  have hHl : H < w2.heap.size := HK2.out.lt
  clear hk2 hb2 hl2 HK1 HB1
  go_wp2_with fail
  obtain ⟨w3, hw3⟩ : ∃ w3, w2.alloc (.cells #[.int .i64 s0, .int .i64 (1 + g0), .slice (some ⟨b, 0, none⟩) 128 128] 56) = w3 := ⟨_, rfl⟩
  have HB23 : Hid (Below w2.heap.size w2 w3) := Lib.hid (by rw [← hw3]; exact (Below.refl _ _).alloc (Nat.le_refl _) _)
  have HQ3 : Hid (IV w3 w2.heap.size s0 (1 + g0) (some ⟨b, 0, none⟩) 128 128) := Lib.hid (by rw [← hw3]; exact IV.new w2 _ _ _ _ _)
  rw [hw3]
  clear hw3
  obtain ⟨q, hq⟩ : ∃ q, w2.heap.size = q := ⟨_, rfl⟩
  have HB3 : Hid (Below H w w3) := Lib.hid (HB2.out.trans (HB23.out.mono (Nat.le_of_lt hHl)))
  have HK3 := Lib.hid (HK2.out.below HB23.out)
  have HKB3 := Lib.hid (HKB.out.below HB23.out)
  rw [hq] at HQ3 hHl ⊢
  clear hq HB23 HK2 HKB HB2
  rw [p1] at HP
  refine (HP.out w3).mono ?_
  rintro e w' ⟨rfl, hw⟩
  obtain rfl := hw.symm
  go_wp2_with fail
  refine (H5.out w3).mono ?_
  rintro e w' ⟨rfl, hw⟩
  obtain rfl := hw.symm
  go_wp2_with fail
  refine (cbytes x2 m (m : Int) rfl w3 (by omega)).mono ?_
  rintro e w4 ⟨b5, rfl, k5, hb5, l5⟩
  try dsimp only
  have HQ5 := Lib.hid (HQ3.out.below hb5)
  have HK5 := Lib.hid (HK3.out.below hb5)
  have HB5 : Hid (Below H w w4) := Lib.hid (HB3.out.trans (hb5.mono (Nat.le_of_lt HK3.out.lt)))
  have HKB5 := Lib.hid k5
  have hne : H ≠ q := Nat.ne_of_lt hHl
  have hne2 : ¬ q = H := fun e => hne e.symm
  have y2 := HQ5.out.c2
  have y0 := HQ5.out.c0
  have y1 := HQ5.out.c1
  have yf := HQ5.out.f
  have v0 := HK5.out.c0
  have v1 := HK5.out.c1
  have v2 := HK5.out.c2
  have vf := HK5.out.f
  have HLE : Hid (H ≤ b5) := Lib.hid (Nat.le_trans (Nat.le_of_lt HK3.out.lt) l5)
  have HQ4 : Hid (IV (w4.setCell ⟨q, 2, none⟩ (.slice (some ⟨b5, 0, none⟩) m m)) q s0 (1 + g0) (some ⟨b5, 0, none⟩) m m) := Lib.hid (HQ5.out.put_d)
  have HKE : Hid (IV (w4.setCell ⟨q, 2, none⟩ (.slice (some ⟨b5, 0, none⟩) m m)) H 0 0 none 0 0) := Lib.hid (HK5.out.other hne)
  have HKBE : Hid (Blk8 (w4.setCell ⟨q, 2, none⟩ (.slice (some ⟨b5, 0, none⟩) m m)) b5 m (bytesF x2)) := Lib.hid (HKB5.out.far HQ5.out (by decide))
  have HBE : Hid (Below H w (w4.setCell ⟨q, 2, none⟩ (.slice (some ⟨b5, 0, none⟩) m m))) := Lib.hid (HB5.out.setCell (Nat.le_of_lt hHl) _)
  clear k5 hb5 l5
  have q0 := HQ4.out.c0
  have q1 := HQ4.out.c1
  have q2 := HQ4.out.c2
  have z0 := HKE.out.c0
  have z1 := HKE.out.c1
  have z2 := HKE.out.c2
  have fz := HKE.out.f
  go_wp2_with fail
  refine bodyPost_ret (v := iv s0 (1 + g0) (some ⟨b5, 0, none⟩) m m) ?_ rfl ?_
  · rw [results_cell1 rfl]
    simp [(gintent_end (x := x2) HH.out HKE.out HKBE.out HBE.out HLE.out).1.load, Result.andThen, asAddr]
  have hr := (gintent_end (s := s0) (g := (1 + g0)) (x := x2) HH.out HKE.out HKBE.out HBE.out HLE.out).2
  rw [HS.out, HG.out]
  exact hr
/-- corbelhand.Intent: some intent, whatever is asked. -/
theorem gintent (x0 x1 x2 x3 : Int) (hx3 : -9223372036854775808 ≤ x3 ∧ x3 ≤ 9223372036854775807) : ∃ (s g : Int) (n : Nat), n ≤ 140 ∧ ∀ w, Calls Tryz.prog 27 #[.int .i64 x0, .int .i64 x1, .int .i64 x2, .int .i64 x3] w (GIRet s g n x2 w) := by
  by_cases h2 : x3 % 24 = 20
  · exact ⟨_, _, _, by omega, fun w => gintent20 x0 x1 x2 x3 w h2⟩
  · by_cases h3 : x3 % 24 = 21
    · exact ⟨_, _, _, by omega, fun w => gintent21 x0 x1 x2 x3 w h3⟩
    · by_cases h4 : x3 % 24 = 22
      · obtain ⟨m, hm, hp⟩ := rpickN (x3.tdiv 24) 140 (by omega) (by omega)
        exact ⟨_, _, _, by omega, fun w => gintent22 x0 x1 x2 x3 w hx3 h4 m hm hp⟩
      · by_cases h5 : x3 % 24 = 23
        · exact ⟨_, _, _, by omega, fun w => gintent23 x0 x1 x2 x3 w h5⟩
        · exact ⟨_, _, _, by omega, fun w => gintent0 x0 x1 x2 x3 w (beq_eq_false_iff_ne.2 h2) (beq_eq_false_iff_ne.2 h3) (beq_eq_false_iff_ne.2 h4) (beq_eq_false_iff_ne.2 h5)⟩
/-! As Px and Ix. -/
def bytesL (x : Int) (n : Nat) : List Nat := (List.range n).map (bytesF x)
theorem bytesL_len (x : Int) (n : Nat) : (bytesL x n).length = n := by unfold bytesL; simp
theorem bytesL_by (x : Int) (n : Nat) : By (bytesL x n) := fun y hy => by
  obtain ⟨j, _, rfl⟩ := List.mem_map.1 hy
  exact bytesF_lt x j
theorem BL.bytes {w : World} {b n : Nat} {x : Int} (h : Blk8 w b n (bytesF x)) : BL w (some ⟨b, 0, none⟩) (bytesL x n) := BL.blk h (bytesL_len x n) (fun j hj => by
  rw [gt_of (by rw [bytesL_len]; exact hj)]
  simp [bytesL])
theorem GPRet.px {s g i x : Int} {n : Nat} {w : World} {e : Ending} {w' : World} (h : GPRet s g i n x w e w') : ∃ v, e = .returned v ∧ PxV w' v ⟨s, g, i, bytesL x n⟩ ∧ Below w.heap.size w w' := by
  obtain ⟨b, rfl, hk, hb, _⟩ := h
  exact ⟨_, rfl, ⟨some ⟨b, 0, none⟩, n, by dsimp only; rw [bytesL_len], BL.bytes hk, bytesL_by x n⟩, hb⟩
theorem GIRet.ix {s g x : Int} {n : Nat} {w : World} {e : Ending} {w' : World} (h : GIRet s g n x w e w') : ∃ v, e = .returned v ∧ IxV w' v ⟨s, g, bytesL x n⟩ ∧ Below w.heap.size w w' := by
  obtain ⟨b, rfl, hk, hb, _⟩ := h
  exact ⟨_, rfl, ⟨some ⟨b, 0, none⟩, n, by dsimp only; rw [bytesL_len], BL.bytes hk, bytesL_by x n⟩, hb⟩
def HPRet (p : Px) (w : World) (e : Ending) (w' : World) : Prop := ∃ v, e = .returned v ∧ PxV w' v p ∧ Below w.heap.size w w'
def HIRet (p : Ix) (w : World) (e : Ending) (w' : World) : Prop := ∃ v, e = .returned v ∧ IxV w' v p ∧ Below w.heap.size w w'
theorem hintent (x0 x1 x2 x3 : Int) (hx3 : -9223372036854775808 ≤ x3 ∧ x3 ≤ 9223372036854775807) : ∃ p : Ix, By p.D ∧ ∀ w, Calls Tryz.prog 27 #[.int .i64 x0, .int .i64 x1, .int .i64 x2, .int .i64 x3] w (HIRet p w) := by
  obtain ⟨s, g, n, _, h⟩ := gintent x0 x1 x2 x3 hx3
  exact ⟨⟨s, g, bytesL x2 n⟩, bytesL_by x2 n, fun w => (h w).mono fun e w' h => h.ix⟩
theorem hintent0 (x0 x1 x2 : Int) : ∃ p : Ix, p.Right ∧ By p.D ∧ ∀ w, Calls Tryz.prog 27 #[.int .i64 x0, .int .i64 x1, .int .i64 x2, .int .i64 0] w (HIRet p w) :=
  ⟨⟨x0 % 40, 1 + x1 % 9, bytesL x2 128⟩, ⟨by dsimp only; omega, by dsimp only; omega, by dsimp only; omega, by dsimp only; omega, bytesL_len x2 128⟩, bytesL_by x2 128, fun w => (gintent0 x0 x1 x2 0 w (by decide) (by decide) (by decide) (by decide)).mono fun e w' h => h.ix⟩
end Go.Proofs.YtjgbfghkiahfaaaGreatDoor
