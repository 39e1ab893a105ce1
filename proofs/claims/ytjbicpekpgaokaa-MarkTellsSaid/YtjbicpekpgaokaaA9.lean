import Derived.Test.YtjbicpekpgaokaaA8
import Derived.Test.YtjbicpekpgaokaaA1f
namespace Go.Proofs.Ytjbicpekpgaokaa
open Go.RowKit Go.Sort
set_option maxRecDepth 100000
set_option maxHeartbeats 600000

theorem markTurns (x0 x1 x4 : Int) (a2 a3 : Option Addr) (n2 c2 n3 c3 y : Nat) (F2 F3 : Nat → Nat) (w : World) (h2 : Rd w a2 n2 F2) (b2 : ∀ j, j < n2 → F2 j < 256) (l2 : n2 ≤ c2) (m2 : n2 ≤ 9223372036854775807)
    (h3 : Rd w a3 n3 F3) (b3 : ∀ j, j < n3 → F3 j < 256) (l3 : n3 ≤ c3) (m3 : n3 ≤ 9223372036854775807) (hy : y < 256) :
    Calls Try.prog 5 #[.int .i64 x0, .int .i64 x1, .slice a2 n2 c2, .slice a3 n3 c3, .int .i64 x4, .int .u8 (y : Int)] w fun e w' => e = .returned (.bool true) ∧ Below w.heap.size w w' := by
  obtain ⟨p0, lp0, hp0⟩ := rpickN x0 255 (by omega) (by omega)
  obtain ⟨p1, lp1, hp1⟩ := rpickN x1 255 (by omega) (by omega)
  obtain ⟨p4, lp4, hp4⟩ := rpickN x4 160 (by omega) (by omega)
  obtain ⟨k2, hk2⟩ : ∃ k2, k2 = min n2 153 := ⟨_, rfl⟩
  obtain ⟨k3, hk3⟩ : ∃ k3, k3 = min n3 153 := ⟨_, rfl⟩
  have P0 := Lib.hid hp0
  have P1 := Lib.hid hp1
  have P4 := Lib.hid hp4
  have q2 : k2 ≤ 153 := by omega
  have q3 : k3 ≤ 153 := by omega
  have H3 := Lib.hid h3
  have HF2 := Lib.hid (rfew a2 n2 c2 153 k2 F2 w h2 l2 (by omega) (by omega) hk2)
  have HK3 := Lib.hid hk3
  have B2 : Hid (∀ j, j < k2 → F2 j < 256) := Lib.hid (fun j hj => b2 j (by omega))
  have B3 : Hid (∀ j, j < k3 → F3 j < 256) := Lib.hid (fun j hj => b3 j (by omega))
  clear hp0 hp1 hp4 h2 h3 b2 b3 hk2 hk3
  have gp : (p4 : Int) < 160 := by omega
  have np : (0 : Int) ≤ (p4 : Int) := by omega
  have e0 : (1 : Int) + (p0 : Int) = ((1 + p0 : Nat) : Int) := by omega
  have e1 : (1 : Int) + (p1 : Int) = ((1 + p1 : Nat) : Int) := by omega
  obtain ⟨kd, hkd⟩ : ∃ kd, 1 + p0 = kd := ⟨_, rfl⟩
  obtain ⟨ot, hot⟩ : ∃ ot, 1 + p1 = ot := ⟨_, rfl⟩
  rw [hkd] at e0
  rw [hot] at e1
  have k0 : 1 ≤ kd ∧ kd < 256 := by omega
  have k1 : 1 ≤ ot ∧ ot < 256 := by omega
  clear hkd hot lp0 lp1
  go_enter Try.func5, Try.ntmps5
  go_wp2_with fail
  refine (P0.out w).mono ?_
  rintro e w' ⟨rfl, hw⟩
  obtain rfl := hw.symm
  go_wp2_with fail
  refine (P1.out w).mono ?_
  rintro e w' ⟨rfl, hw⟩
  obtain rfl := hw.symm
  go_wp2_with fail
  clear e0 e1
  refine HF2.out.mono ?_
  rintro e w1 ⟨g1, d1, rfl, o1, hb1, _, _, _⟩
  try dsimp only
  have R1 := Lib.hid (own_rd o1)
  have W1 := Lib.hid hb1
  have HF3 := Lib.hid (rfew a3 n3 c3 153 k3 F3 w1 (H3.out.keep hb1) l3 (by omega) (by omega) HK3.out)
  clear o1 hb1 HF2
  go_wp2_with fail
  refine HF3.out.mono ?_
  rintro e w2 ⟨g2, d2, rfl, o2, hb2, _, _, _⟩
  try dsimp only
  have R2 := Lib.hid (own_rd o2)
  have W2 : Hid (Below w.heap.size w w2) := Lib.hid (W1.out.trans (hb2.mono W1.out.size))
  have R12 := Lib.hid (R1.out.keep hb2)
  clear o2 hb2 HF3 W1 R1
  have S1 := Lib.hid (mseal kd k2 d1 (some ⟨g1, 0, none⟩) F2 w2 k0.1 k0.2 q2 R12.out B2.out)
  go_wp2_with fail
  refine S1.out.mono ?_
  rintro e w3 ⟨ga, rfl, ka, hb3, hga'⟩
  try dsimp only
  have W3 : Hid (Below w.heap.size w w3) := Lib.hid (W2.out.trans (hb3.mono W2.out.size))
  have KA3 := Lib.hid ka
  have hga : w.heap.size ≤ ga := Nat.le_trans W2.out.size hga'
  clear hga'
  have R13 := Lib.hid (R12.out.keep hb3)
  have R23 := Lib.hid (R2.out.keep hb3)
  clear ka hb3 W2 R12 R2 S1
  have S2 := Lib.hid (mseal ot k3 d2 (some ⟨g2, 0, none⟩) F3 w3 k1.1 k1.2 q3 R23.out B3.out)
  go_wp2_with fail
  refine S2.out.mono ?_
  rintro e w4 ⟨gb, rfl, kb, hb4, _⟩
  try dsimp only
  have W4 : Hid (Below w.heap.size w w4) := Lib.hid (W3.out.trans (hb4.mono W3.out.size))
  have KA4 := Lib.hid (KA3.out.below hb4)
  have KB4 := Lib.hid kb
  have R14 := Lib.hid (R13.out.keep hb4)
  have R24 := Lib.hid (R23.out.keep hb4)
  clear kb hb4 W3 R13 R23 S2 KA3
  go_wp2_with fail
  refine (lknown w4).mono ?_
  rintro e w5 ⟨rfl, hb5⟩
  try dsimp only
  have W5 : Hid (Below w.heap.size w w5) := Lib.hid (W4.out.trans (hb5.mono W4.out.size))
  have KA5 := Lib.hid (KA4.out.below hb5)
  have KB5 := Lib.hid (KB4.out.below hb5)
  have R15 := Lib.hid (R14.out.keep hb5)
  have R25 := Lib.hid (R24.out.keep hb5)
  clear hb5 W4 R14 R24 KA4 KB4
  have O1 := Lib.hid (mopened ga 0 160 kd k2 F2 w5 KA5.out.rd (by omega) k0.1 k0.2 q2 B2.out)
  go_wp2_with fail
  refine O1.out.mono ?_
  rintro e w6 ⟨gx, cx, rfl, rx, hb6⟩
  try dsimp only
  have W6 : Hid (Below w.heap.size w w6) := Lib.hid (W5.out.trans (hb6.mono W5.out.size))
  have KA6 := Lib.hid (KA5.out.below hb6)
  have v1 := conv_rd (cap := cx) rx
  have v2 := conv_rd (cap := d1) (R15.out.keep hb6)
  have v3 := conv_rd (cap := d2) (R25.out.keep hb6)
  have v4 := conv_rd (cap := 160) KA6.out.rd
  have v5 := conv_rd (cap := 160) (KB5.out.below hb6).rd
  have HSA := Lib.hid (fun j => sealF_lt (j := j) k0.2 B2.out)
  have HSB := Lib.hid (fun j => sealF_lt (j := j) k1.2 B3.out)
  have c1 : ∃ t1 t2 t3 : Bool, ((strOf ((List.range 160).map (sealF kd k2 F2))).toList == (strOf ((List.range 160).map (sealF ot k3 F3))).toList) = t1 ∧ ((kd : Int) == (ot : Int)) = t2 ∧ ((strOf ((List.range k2).map F2)).toList == (strOf ((List.range k3).map F3)).toList) = t3 ∧ t1 = (t2 && t3) := by
    refine ⟨_, _, _, rfl, rfl, rfl, ?_⟩
    rw [Bool.eq_iff_iff, Bool.and_eq_true, beq_iff_eq, beq_iff_eq, beq_iff_eq, str_eq B2.out B3.out, str_eq (fun j _ => HSA.out j) (fun j _ => HSB.out j)]
    constructor
    · rintro ⟨_, h⟩
      obtain ⟨i1, i2, i3⟩ := sealF_inj q2 q3 h
      exact ⟨by omega, i2, i3⟩
    · rintro ⟨i1, i2, i3⟩
      obtain rfl : kd = ot := by omega
      obtain rfl := i2
      exact ⟨rfl, fun j _ => sealF_congr i3 j⟩
  obtain ⟨t1, t2, t3, ht1, ht2, ht3, ht⟩ := c1
  clear rx hb6 W5 R15 R25 KA5 KB5 O1
  generalize strOf ((List.range 160).map (sealF kd k2 F2)) = s1 at *
  generalize strOf ((List.range 160).map (sealF ot k3 F3)) = s2 at *
  generalize strOf ((List.range k2).map F2) = s3 at *
  generalize strOf ((List.range k3).map F3) = s4 at *
  obtain ⟨x, hx⟩ : ∃ x, sealF kd k2 F2 p4 = x := ⟨_, rfl⟩
  have HXE := Lib.hid hx
  have e1 := KA6.out.row8.cell p4 lp4
  have f1 := KA6.out.row8.free p4
  rw [hx] at e1
  have hxl : x < 256 := by rw [← hx]; exact HSA.out p4
  have hxor := bits_xor_u8 x y hxl hy
  clear hx
  have HY : Hid (y < 256) := Lib.hid hy
  subst ht
  have KA7 : Hid (Blk8 (w6.setCell ⟨ga, p4, none⟩ (.int .u8 ((x ^^^ y : Nat) : Int))) ga 160 (fun j => if j = p4 then x ^^^ y else sealF kd k2 F2 j)) := Lib.hid (KA6.out.put lp4)
  have HGA : Hid (w.heap.size ≤ ga) := Lib.hid hga
  have W7 : Hid (Below w.heap.size w (w6.setCell ⟨ga, p4, none⟩ (.int .u8 ((x ^^^ y : Nat) : Int)))) := Lib.hid (W6.out.setCell (p := ⟨ga, p4, none⟩) HGA.out _)
  clear KA6 W6 hga
  by_cases h0 : y = 0
  · have eb : ((y : Int) == 0) = true := beq_iff_eq.2 (by omega)
    have O2 := Lib.hid (mopened ga 0 160 kd k2 F2 _ (KA7.out.rd.congr (fun j _ => by
      by_cases e : j = p4
      · subst e; rw [if_pos rfl, h0, Nat.xor_zero, HXE.out]
      · rw [if_neg e])) (by omega) k0.1 k0.2 q2 B2.out)
    clear KA7 HXE h0
    cases t2 <;> cases t3 <;> simp only [Bool.and_true, Bool.and_false] at ht1
    all_goals
      go_wp2_with fail
      refine (P4.out _).mono ?_
      rintro e w' ⟨rfl, hw⟩
      obtain rfl := hw.symm
      go_wp2_with fail
      refine O2.out.mono ?_
      rintro e w8 ⟨gz, cz, rfl, _, hb8⟩
      try dsimp only
      have W8 : Hid (Below w.heap.size w w8) := Lib.hid (W7.out.trans (hb8.mono W7.out.size))
      clear hb8
      go_wp2_with fail
      go_ret
      exact ⟨rfl, W8.out⟩
  · have eb : ((y : Int) == 0) = false := beq_eq_false_iff_ne.2 (by omega)
    have O2 := Lib.hid (mopen_mark ga 0 160 (fun j => if j = p4 then x ^^^ y else sealF kd k2 F2 j) _ KA7.out.rd (by omega) (fun j _ => by
      try dsimp only
      split
      · exact xor_lt hxl HY.out
      · exact HSA.out j) (by rw [← HXE.out]; exact turn_mark k0.2 B2.out lp4 HY.out h0))
    clear KA7 HXE h0
    cases t2 <;> cases t3 <;> simp only [Bool.and_true, Bool.and_false] at ht1
    all_goals
      go_wp2_with fail
      refine (P4.out _).mono ?_
      rintro e w' ⟨rfl, hw⟩
      obtain rfl := hw.symm
      go_wp2_with fail
      refine O2.out.mono ?_
      rintro e w8 ⟨rfl, hb8⟩
      try dsimp only
      have W8 : Hid (Below w.heap.size w w8) := Lib.hid (W7.out.trans (hb8.mono W7.out.size))
      clear hb8
      go_wp2_with fail
      go_ret
      exact ⟨rfl, W8.out⟩
end Go.Proofs.Ytjbicpekpgaokaa
