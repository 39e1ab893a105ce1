import Derived.Test.YtmnfgbfajhinlaaJ5
namespace Go.Proofs.Ytmnfgbfajhinlaa
open Go.RowKit Go.Sort
set_option maxRecDepth 100000
set_option maxHeartbeats 4000000

/-- What is kept: the field; a, b, s. -/
structure Tl (w0 w : World) (f oa : Nat) (r n : Nat) (A : Mx) (b : Option Addr) (yss : List (List Nat)) (os : Nat) (S : Mx) : Prop where
  fld : Fld w f
  below : Below w0.heap.size w0 w
  a : RawIn w (some ⟨oa, 0, none⟩) (rowsOf r n A)
  b : RawIn w b yss
  s : RawC w (some ⟨os, 0, none⟩) r S
theorem Tl.go {w0 w w' : World} {f oa r n os : Nat} {A S : Mx} {b : Option Addr} {yss : List (List Nat)} (h : Tl w0 w f oa r n A b yss os S) (hb : Below w.heap.size w w') : Tl w0 w' f oa r n A b yss os S :=
  ⟨h.fld.keep hb, h.below.trans (hb.mono h.below.size), h.a.keep hb, h.b.keep hb, h.s.keep hb⟩
/-- What b is: it fits, or it doesn't. -/
def Fits (yss : List (List Nat)) (n : Nat) : Prop := RightP yss ∧ yss.length = n

theorem matrixTells (x0 x1 x2 : Int) (a3 : Option Addr) (xs3 : List Int) (c3 : Nat) (a4 : Option Addr) (xs4 : List Int) (c4 : Nat) (a5 : Option Addr) (xs5 : List (List Nat)) (c5 : Nat) (w : World)
    (hn3 : Nums w a3 xs3) (hl3 : xs3.length ≤ 9223372036854775807) (hn4 : Nums w a4 xs4) (hl4 : xs4.length ≤ 9223372036854775807) (hn5 : RawIn w a5 xs5) (hb5 : Bytes xs5) (hl5 : xs5.length ≤ 9223372036854775807) :
    Calls Try.prog 4 #[.int .i64 x0, .int .i64 x1, .int .i64 x2, .slice a3 xs3.length c3, .slice a4 xs4.length c4, .slice a5 xs5.length c5] w fun e w' => e = .returned (.bool true) ∧ Below w.heap.size w w' := by
  obtain ⟨r, hr⟩ : ∃ r : Nat, (r : Int) = 1 + x0 % 5 := ⟨(1 + x0 % 5).toNat, by omega⟩
  obtain ⟨n, hn⟩ : ∃ n : Nat, (n : Int) = 1 + x1 % 5 := ⟨(1 + x1 % 5).toNat, by omega⟩
  obtain ⟨c, hc⟩ : ∃ c : Nat, (c : Int) = 1 + x2 % 5 := ⟨(1 + x2 % 5).toNat, by omega⟩
  have r1 : 1 ≤ r := by omega
  have r2 : r ≤ 64 := by omega
  have n1 : 1 ≤ n := by omega
  have n2 : n ≤ 64 := by omega
  have c1 : 1 ≤ c := by omega
  have c2 : c ≤ 64 := by omega
  have HRN := Lib.hid hr
  have HNN := Lib.hid hn
  have HCN := Lib.hid hc
  have HP0 := Lib.hid (rpick x0 5 (by omega) (by omega))
  have HP1 := Lib.hid (rpick x1 5 (by omega) (by omega))
  have HP2 := Lib.hid (rpick x2 5 (by omega) (by omega))
  have hm0 : -9223372036854775808 ≤ x0 % 5 ∧ x0 % 5 < 5 ∧ 0 ≤ x0 % 5 := by omega
  have hm1 : -9223372036854775808 ≤ x1 % 5 ∧ x1 % 5 < 5 ∧ 0 ≤ x1 % 5 := by omega
  have hm2 : -9223372036854775808 ≤ x2 % 5 ∧ x2 % 5 < 5 ∧ 0 ≤ x2 % 5 := by omega
  have H3 := Lib.hid hn3
  have H4 := Lib.hid hn4
  have H5 := Lib.hid hn5
  have HB5 := Lib.hid hb5
  obtain ⟨A, hA⟩ : ∃ A, A = ofv xs3 n := ⟨_, rfl⟩
  obtain ⟨M, hM⟩ : ∃ M, M = ofv xs4 c := ⟨_, rfl⟩
  obtain ⟨S, hS⟩ : ∃ S, S = ofv xs4 r := ⟨_, rfl⟩
  have BA : Hid (Bd r n A) := Lib.hid (by rw [hA]; exact ofv_sq _ _ _)
  have BM : Hid (Bd n c M) := Lib.hid (by rw [hM]; exact ofv_sq _ _ _)
  have BS : Hid (Bd r r S) := Lib.hid (by rw [hS]; exact ofv_sq _ _ _)
  have HA := Lib.hid hA
  have HM := Lib.hid hM
  have HS := Lib.hid hS
  have B1 := Lib.hid (one_bd r r)
  clear hA hM hS hr hn hc hn3 hn4 hn5 hb5
  go_enter Try.func4, Try.ntmps4
  go_wp2_with fail
  refine (fnew0 _).mono ?_
  rintro e w1 ⟨f, rfl, HF⟩
  go_wp2_with fail
  refine (HP0.out _).mono ?_
  rintro e w' ⟨rfl, hw⟩
  obtain rfl := hw.symm
  generalize x0 % 5 = m0 at *
  go_wp2_with fail
  generalize hnn : (1 : Int) + m0 = nn at *
  obtain rfl : nn = (r : Int) := by rw [HRN.out]
  clear hnn
  go_wp2_with fail
  refine (HP1.out _).mono ?_
  rintro e w' ⟨rfl, hw⟩
  obtain rfl := hw.symm
  generalize x1 % 5 = m1 at *
  go_wp2_with fail
  generalize hnn : (1 : Int) + m1 = nn at *
  obtain rfl : nn = (n : Int) := by rw [HNN.out]
  clear hnn
  go_wp2_with fail
  refine (HP2.out _).mono ?_
  rintro e w' ⟨rfl, hw⟩
  obtain rfl := hw.symm
  generalize x2 % 5 = m2 at *
  go_wp2_with fail
  generalize hnn : (1 : Int) + m2 = nn at *
  obtain rfl : nn = (c : Int) := by rw [HCN.out]
  clear hnn
  go_wp2_with fail
  refine (ofC r n a3 xs3 c3 w1 r1 r2 n1 n2 (nums_keep H3.out HF.out.2.1) hl3).mono ?_
  rintro e w2 ⟨oa, ca, rfl, HM2⟩
  rw [← HA.out] at HM2
  have K2 : Hid (Fld w2 f ∧ Below w.heap.size w w2 ∧ RawIn w2 (some ⟨oa, 0, none⟩) (rowsOf r n A)) := Lib.hid ⟨HF.out.1.keep HM2.out.2, HF.out.2.1.trans (HM2.out.2.mono HF.out.2.1.size), HM2.out.1⟩
  clear HM2 HF
  go_wp2_with fail
  refine (ofC n c a4 xs4 c4 w2 n1 n2 c1 c2 (nums_keep H4.out K2.out.2.1) hl4).mono ?_
  rintro e w3 ⟨ob, cb, rfl, HM3⟩
  rw [← HM.out] at HM3
  have K3 : Hid (Fld w3 f ∧ Below w.heap.size w w3 ∧ RawIn w3 (some ⟨oa, 0, none⟩) (rowsOf r n A) ∧ RawIn w3 (some ⟨ob, 0, none⟩) (rowsOf n c M) ∧ RawIn w3 a5 xs5) := Lib.hid ⟨K2.out.1.keep HM3.out.2, K2.out.2.1.trans (HM3.out.2.mono K2.out.2.1.size), K2.out.2.2.keep HM3.out.2, HM3.out.1, H5.out.keep (K2.out.2.1.trans (HM3.out.2.mono K2.out.2.1.size))⟩
  clear HM3 K2
  by_cases h5 : c = 5
  · have t5 : ((c : Int) == 5) = true := beq_iff_eq.2 (by omega)
    clear h5
    by_cases hf : Fits xs5 n
    · obtain ⟨py, hln⟩ := hf
      obtain ⟨cy, cy1, cy2, hcy⟩ := py.at
      have PY := Lib.hid (And.intro py (And.intro HB5.out hcy))
      have HLN := Lib.hid hln
      have HCC := Lib.hid cy1
      obtain ⟨tr, htr⟩ : ∃ tr : Bool, tr = true := ⟨_, rfl⟩
      have TR : Hid (tr = true ↔ RightP xs5) := Lib.hid ⟨fun _ => py, fun _ => htr⟩
      have tre : (tr == tr) = true := beq_self_eq_true tr
      clear py hln hcy htr
      go_wp2_with fail
      refine (ofS r a4 xs4 c4 w3 r1 r2 (nums_keep H4.out K3.out.2.1) hl4).mono ?_
      rintro e w4 ⟨os, cs, rfl, HM4⟩
      rw [← HS.out] at HM4
      have K4 : Hid (Tl w w4 f oa r n A a5 xs5 os S) := Lib.hid ⟨K3.out.1.keep HM4.out.2, K3.out.2.1.trans (HM4.out.2.mono K3.out.2.1.size), K3.out.2.2.1.keep HM4.out.2, (K3.out.2.2.2.2).keep HM4.out.2, HM4.out.1⟩
      clear HM4 K3
      go_wp2_with fail
      refine (invC f os cs r S w4 K4.out.fld K4.out.s.raw r1 r2 BS.out).mono ?_
      rintro e w5 (⟨rfl, HM5⟩ | ⟨ox, X, rfl, HM5⟩)
      · skip
        have K5 := Lib.hid (K4.out.go HM5.out.2)
        obtain ⟨X, hX⟩ := HM5.out.1
        have FX := Lib.hid hX
        clear hX
        clear HM5 K4
        go_wp2_with fail
        refine (rinvC r cs os S w5 K5.out.s BS.out r1 r2).mono ?_
        rintro e w6 (⟨rfl, HM6⟩ | ⟨oy, cy6, rfl, HM6⟩)
        · skip
          have K6 := Lib.hid (K5.out.go HM6.out.2)
          clear HM6 K5
          by_cases hsq : r = n
          · skip
            have t1 : ((r : Int) == (n : Int)) = true := beq_iff_eq.2 (by omega)
            have BA2 : Hid (Bd r r A ∧ rowsOf r n A = rowsOf r r A) := Lib.hid ⟨by have := BA.out; rw [← hsq] at this; exact this, by rw [hsq]⟩
            clear hsq
            go_wp2_with fail
            refine (invAny f oa ca r A w6 K6.out.fld (by rw [← BA2.out.2]; exact K6.out.a) r1 r2 BA2.out.1).mono ?_
            rintro e w7 ⟨vo, tq, rfl, hb⟩
            have K7 := Lib.hid (K6.out.go hb.out)
            clear K6
            clear hb
            go_wp2_with fail
            refine (mknown w7).mono ?_
            rintro e w8 ⟨rfl, hb⟩
            have K8 := Lib.hid (K7.out.go hb)
            clear K7
            clear hb
            go_wp2_with fail
            refine (mright _ _ c5 w8 K8.out.b hl5 tr TR.out).mono ?_
            rintro e w' ⟨rfl, hw⟩
            obtain rfl := hw.symm
            go_wp2_with fail
            refine (rright _ _ c5 w8 K8.out.b hl5 tr TR.out).mono ?_
            rintro e w9 ⟨rfl, hb⟩
            have K9 := Lib.hid (K8.out.go hb)
            clear K8
            clear hb
            go_wp2_with fail
            refine (mmulG f oa a5 xs5 ca c5 r n cy A w9 K9.out.fld K9.out.a K9.out.b r1 r2 n1 n2 BA.out PY.out.1 PY.out.2.1 HLN.out PY.out.2.2).mono ?_
            rintro e w10 ⟨op, rfl, HM10⟩
            have K10 := Lib.hid (K9.out.go HM10.out.2)
            clear K9
            have RP10 := Lib.hid HM10.out.1
            clear HM10
            go_wp2_with fail
            refine (rmulC oa a5 xs5 ca c5 r n cy A w10 K10.out.a K10.out.b r1 r2 n1 n2 BA.out PY.out.1 PY.out.2.1 HLN.out PY.out.2.2).mono ?_
            rintro e w11 ⟨oq, cq, rfl, HM11⟩
            have RP11 := Lib.hid (RP10.out.keep HM11.out.2)
            have K11 := Lib.hid (K10.out.go HM11.out.2)
            clear K10
            have RQ11 := Lib.hid HM11.out.1
            clear HM11 RP10
            go_wp2_with fail
            refine (sameC op oq r cq r cy _ _ w11 RP11.out RQ11.out (by omega) HCC.out (mm_bd _ _ _ _ _) (mm_bd _ _ _ _ _) true ⟨fun _ => EqM.refl _ _ _, fun _ => rfl⟩).mono ?_
            rintro e w' ⟨rfl, hw⟩
            obtain rfl := hw
            go_wp2_with fail
            refine (sameNone w11).mono ?_
            rintro e w' ⟨rfl, hw⟩
            obtain rfl := hw
            go_wp2_with fail
            refine (identC r w11 r1 r2).mono ?_
            rintro e wi ⟨oi, rfl, HMi⟩
            go_wp2_with fail
            refine (ridentC r wi r1 r2).mono ?_
            rintro e wj ⟨oj, cj, rfl, HMj⟩
            go_wp2_with fail
            refine (sameC oi oj r cj r r one one wj (HMi.out.1.keep HMj.out.2) HMj.out.1 (by omega) r1 B1.out B1.out true ⟨fun _ => EqM.refl _ _ _, fun _ => rfl⟩).mono ?_
            rintro e w' ⟨rfl, hw⟩
            obtain rfl := hw
            go_wp2_with fail
            go_ret
            exact ⟨rfl, ((K11.out.go HMi.out.2).go HMj.out.2).below⟩
          · skip
            have t1 : ((r : Int) == (n : Int)) = false := beq_eq_false_iff_ne.2 (by omega)
            have HQ := Lib.hid (invNone f oa ca r n A w6 K6.out.a r1 r2 n1 n2 (by omega))
            clear hsq
            go_wp2_with fail
            refine HQ.out.mono ?_
            rintro e w7 ⟨rfl, hw⟩
            have hb : Hid (Below w6.heap.size w6 w7) := Lib.hid (by rw [hw]; exact Below.refl _ _)
            clear hw
            have K7 := Lib.hid (K6.out.go hb.out)
            clear K6
            clear hb HQ
            go_wp2_with fail
            refine (mknown w7).mono ?_
            rintro e w8 ⟨rfl, hb⟩
            have K8 := Lib.hid (K7.out.go hb)
            clear K7
            clear hb
            go_wp2_with fail
            refine (mright _ _ c5 w8 K8.out.b hl5 tr TR.out).mono ?_
            rintro e w' ⟨rfl, hw⟩
            obtain rfl := hw.symm
            go_wp2_with fail
            refine (rright _ _ c5 w8 K8.out.b hl5 tr TR.out).mono ?_
            rintro e w9 ⟨rfl, hb⟩
            have K9 := Lib.hid (K8.out.go hb)
            clear K8
            clear hb
            go_wp2_with fail
            refine (mmulG f oa a5 xs5 ca c5 r n cy A w9 K9.out.fld K9.out.a K9.out.b r1 r2 n1 n2 BA.out PY.out.1 PY.out.2.1 HLN.out PY.out.2.2).mono ?_
            rintro e w10 ⟨op, rfl, HM10⟩
            have K10 := Lib.hid (K9.out.go HM10.out.2)
            clear K9
            have RP10 := Lib.hid HM10.out.1
            clear HM10
            go_wp2_with fail
            refine (rmulC oa a5 xs5 ca c5 r n cy A w10 K10.out.a K10.out.b r1 r2 n1 n2 BA.out PY.out.1 PY.out.2.1 HLN.out PY.out.2.2).mono ?_
            rintro e w11 ⟨oq, cq, rfl, HM11⟩
            have RP11 := Lib.hid (RP10.out.keep HM11.out.2)
            have K11 := Lib.hid (K10.out.go HM11.out.2)
            clear K10
            have RQ11 := Lib.hid HM11.out.1
            clear HM11 RP10
            go_wp2_with fail
            refine (sameC op oq r cq r cy _ _ w11 RP11.out RQ11.out (by omega) HCC.out (mm_bd _ _ _ _ _) (mm_bd _ _ _ _ _) true ⟨fun _ => EqM.refl _ _ _, fun _ => rfl⟩).mono ?_
            rintro e w' ⟨rfl, hw⟩
            obtain rfl := hw
            go_wp2_with fail
            refine (sameNone w11).mono ?_
            rintro e w' ⟨rfl, hw⟩
            obtain rfl := hw
            go_wp2_with fail
            refine (identC r w11 r1 r2).mono ?_
            rintro e wi ⟨oi, rfl, HMi⟩
            go_wp2_with fail
            refine (ridentC r wi r1 r2).mono ?_
            rintro e wj ⟨oj, cj, rfl, HMj⟩
            go_wp2_with fail
            refine (sameC oi oj r cj r r one one wj (HMi.out.1.keep HMj.out.2) HMj.out.1 (by omega) r1 B1.out B1.out true ⟨fun _ => EqM.refl _ _ _, fun _ => rfl⟩).mono ?_
            rintro e w' ⟨rfl, hw⟩
            obtain rfl := hw
            go_wp2_with fail
            go_ret
            exact ⟨rfl, ((K11.out.go HMi.out.2).go HMj.out.2).below⟩
        · skip
          exfalso
          exact absurd ((found_det BS.out FX.out).2 HM6.out.1) (by decide)
      · skip
        have K5 := Lib.hid (K4.out.go HM5.out.2.2)
        have FX := Lib.hid HM5.out.1
        have RX5 := Lib.hid HM5.out.2.1
        clear HM5 K4
        go_wp2_with fail
        refine (rinvC r cs os S w5 K5.out.s BS.out r1 r2).mono ?_
        rintro e w6 (⟨rfl, HM6⟩ | ⟨oy, cy6, rfl, HM6⟩)
        · skip
          exfalso
          exact absurd HM6.out.1 ((found_det BS.out FX.out).1 rfl)
        · skip
          have K6 := Lib.hid (K5.out.go HM6.out.2.2)
          have RX6 := Lib.hid (RX5.out.keep HM6.out.2.2)
          have RY6 := Lib.hid HM6.out.2.1
          clear HM6 K5
          by_cases hsq : r = n
          · skip
            have t1 : ((r : Int) == (n : Int)) = true := beq_iff_eq.2 (by omega)
            have BA2 : Hid (Bd r r A ∧ rowsOf r n A = rowsOf r r A) := Lib.hid ⟨by have := BA.out; rw [← hsq] at this; exact this, by rw [hsq]⟩
            clear hsq
            go_wp2_with fail
            refine (invAny f oa ca r A w6 K6.out.fld (by rw [← BA2.out.2]; exact K6.out.a) r1 r2 BA2.out.1).mono ?_
            rintro e w7 ⟨vo, tq, rfl, hb⟩
            have K7 := Lib.hid (K6.out.go hb.out)
            have RX7 := Lib.hid (RX6.out.keep hb.out)
            have RY7 := Lib.hid (RY6.out.keep hb.out)
            clear K6 RX6 RY6
            clear hb
            go_wp2_with fail
            refine (mknown w7).mono ?_
            rintro e w8 ⟨rfl, hb⟩
            have K8 := Lib.hid (K7.out.go hb)
            have RX8 := Lib.hid (RX7.out.keep hb)
            have RY8 := Lib.hid (RY7.out.keep hb)
            clear K7 RX7 RY7
            clear hb
            go_wp2_with fail
            refine (mright _ _ c5 w8 K8.out.b hl5 tr TR.out).mono ?_
            rintro e w' ⟨rfl, hw⟩
            obtain rfl := hw.symm
            go_wp2_with fail
            refine (rright _ _ c5 w8 K8.out.b hl5 tr TR.out).mono ?_
            rintro e w9 ⟨rfl, hb⟩
            have K9 := Lib.hid (K8.out.go hb)
            have RX9 := Lib.hid (RX8.out.keep hb)
            have RY9 := Lib.hid (RY8.out.keep hb)
            clear K8 RX8 RY8
            clear hb
            go_wp2_with fail
            refine (mmulG f oa a5 xs5 ca c5 r n cy A w9 K9.out.fld K9.out.a K9.out.b r1 r2 n1 n2 BA.out PY.out.1 PY.out.2.1 HLN.out PY.out.2.2).mono ?_
            rintro e w10 ⟨op, rfl, HM10⟩
            have K10 := Lib.hid (K9.out.go HM10.out.2)
            have RX10 := Lib.hid (RX9.out.keep HM10.out.2)
            have RY10 := Lib.hid (RY9.out.keep HM10.out.2)
            clear K9 RX9 RY9
            have RP10 := Lib.hid HM10.out.1
            clear HM10
            go_wp2_with fail
            refine (rmulC oa a5 xs5 ca c5 r n cy A w10 K10.out.a K10.out.b r1 r2 n1 n2 BA.out PY.out.1 PY.out.2.1 HLN.out PY.out.2.2).mono ?_
            rintro e w11 ⟨oq, cq, rfl, HM11⟩
            have RP11 := Lib.hid (RP10.out.keep HM11.out.2)
            have K11 := Lib.hid (K10.out.go HM11.out.2)
            have RX11 := Lib.hid (RX10.out.keep HM11.out.2)
            have RY11 := Lib.hid (RY10.out.keep HM11.out.2)
            clear K10 RX10 RY10
            have RQ11 := Lib.hid HM11.out.1
            clear HM11 RP10
            go_wp2_with fail
            refine (sameC op oq r cq r cy _ _ w11 RP11.out RQ11.out (by omega) HCC.out (mm_bd _ _ _ _ _) (mm_bd _ _ _ _ _) true ⟨fun _ => EqM.refl _ _ _, fun _ => rfl⟩).mono ?_
            rintro e w' ⟨rfl, hw⟩
            obtain rfl := hw
            go_wp2_with fail
            refine (sameC ox oy r cy6 r r X (adjM r S) w11 RX11.out RY11.out (by omega) r1 (FX.out.yes BS.out).1.bx (fun _ _ _ _ => mul_lt _ _) true ⟨fun _ => inv_alike BS.out r1 FX.out, fun _ => rfl⟩).mono ?_
            rintro e w' ⟨rfl, hw⟩
            obtain rfl := hw
            go_wp2_with fail
            refine (identC r w11 r1 r2).mono ?_
            rintro e wi ⟨oi, rfl, HMi⟩
            go_wp2_with fail
            refine (ridentC r wi r1 r2).mono ?_
            rintro e wj ⟨oj, cj, rfl, HMj⟩
            go_wp2_with fail
            refine (sameC oi oj r cj r r one one wj (HMi.out.1.keep HMj.out.2) HMj.out.1 (by omega) r1 B1.out B1.out true ⟨fun _ => EqM.refl _ _ _, fun _ => rfl⟩).mono ?_
            rintro e w' ⟨rfl, hw⟩
            obtain rfl := hw
            go_wp2_with fail
            go_ret
            exact ⟨rfl, ((K11.out.go HMi.out.2).go HMj.out.2).below⟩
          · skip
            have t1 : ((r : Int) == (n : Int)) = false := beq_eq_false_iff_ne.2 (by omega)
            have HQ := Lib.hid (invNone f oa ca r n A w6 K6.out.a r1 r2 n1 n2 (by omega))
            clear hsq
            go_wp2_with fail
            refine HQ.out.mono ?_
            rintro e w7 ⟨rfl, hw⟩
            have hb : Hid (Below w6.heap.size w6 w7) := Lib.hid (by rw [hw]; exact Below.refl _ _)
            clear hw
            have K7 := Lib.hid (K6.out.go hb.out)
            have RX7 := Lib.hid (RX6.out.keep hb.out)
            have RY7 := Lib.hid (RY6.out.keep hb.out)
            clear K6 RX6 RY6
            clear hb HQ
            go_wp2_with fail
            refine (mknown w7).mono ?_
            rintro e w8 ⟨rfl, hb⟩
            have K8 := Lib.hid (K7.out.go hb)
            have RX8 := Lib.hid (RX7.out.keep hb)
            have RY8 := Lib.hid (RY7.out.keep hb)
            clear K7 RX7 RY7
            clear hb
            go_wp2_with fail
            refine (mright _ _ c5 w8 K8.out.b hl5 tr TR.out).mono ?_
            rintro e w' ⟨rfl, hw⟩
            obtain rfl := hw.symm
            go_wp2_with fail
            refine (rright _ _ c5 w8 K8.out.b hl5 tr TR.out).mono ?_
            rintro e w9 ⟨rfl, hb⟩
            have K9 := Lib.hid (K8.out.go hb)
            have RX9 := Lib.hid (RX8.out.keep hb)
            have RY9 := Lib.hid (RY8.out.keep hb)
            clear K8 RX8 RY8
            clear hb
            go_wp2_with fail
            refine (mmulG f oa a5 xs5 ca c5 r n cy A w9 K9.out.fld K9.out.a K9.out.b r1 r2 n1 n2 BA.out PY.out.1 PY.out.2.1 HLN.out PY.out.2.2).mono ?_
            rintro e w10 ⟨op, rfl, HM10⟩
            have K10 := Lib.hid (K9.out.go HM10.out.2)
            have RX10 := Lib.hid (RX9.out.keep HM10.out.2)
            have RY10 := Lib.hid (RY9.out.keep HM10.out.2)
            clear K9 RX9 RY9
            have RP10 := Lib.hid HM10.out.1
            clear HM10
            go_wp2_with fail
            refine (rmulC oa a5 xs5 ca c5 r n cy A w10 K10.out.a K10.out.b r1 r2 n1 n2 BA.out PY.out.1 PY.out.2.1 HLN.out PY.out.2.2).mono ?_
            rintro e w11 ⟨oq, cq, rfl, HM11⟩
            have RP11 := Lib.hid (RP10.out.keep HM11.out.2)
            have K11 := Lib.hid (K10.out.go HM11.out.2)
            have RX11 := Lib.hid (RX10.out.keep HM11.out.2)
            have RY11 := Lib.hid (RY10.out.keep HM11.out.2)
            clear K10 RX10 RY10
            have RQ11 := Lib.hid HM11.out.1
            clear HM11 RP10
            go_wp2_with fail
            refine (sameC op oq r cq r cy _ _ w11 RP11.out RQ11.out (by omega) HCC.out (mm_bd _ _ _ _ _) (mm_bd _ _ _ _ _) true ⟨fun _ => EqM.refl _ _ _, fun _ => rfl⟩).mono ?_
            rintro e w' ⟨rfl, hw⟩
            obtain rfl := hw
            go_wp2_with fail
            refine (sameC ox oy r cy6 r r X (adjM r S) w11 RX11.out RY11.out (by omega) r1 (FX.out.yes BS.out).1.bx (fun _ _ _ _ => mul_lt _ _) true ⟨fun _ => inv_alike BS.out r1 FX.out, fun _ => rfl⟩).mono ?_
            rintro e w' ⟨rfl, hw⟩
            obtain rfl := hw
            go_wp2_with fail
            refine (identC r w11 r1 r2).mono ?_
            rintro e wi ⟨oi, rfl, HMi⟩
            go_wp2_with fail
            refine (ridentC r wi r1 r2).mono ?_
            rintro e wj ⟨oj, cj, rfl, HMj⟩
            go_wp2_with fail
            refine (sameC oi oj r cj r r one one wj (HMi.out.1.keep HMj.out.2) HMj.out.1 (by omega) r1 B1.out B1.out true ⟨fun _ => EqM.refl _ _ _, fun _ => rfl⟩).mono ?_
            rintro e w' ⟨rfl, hw⟩
            obtain rfl := hw
            go_wp2_with fail
            go_ret
            exact ⟨rfl, ((K11.out.go HMi.out.2).go HMj.out.2).below⟩
    · have NF : Hid (¬ (RightP xs5 ∧ xs5.length = n)) := Lib.hid hf
      obtain ⟨tr, TR⟩ : ∃ tr : Bool, Hid (tr = true ↔ RightP xs5) := by
        by_cases h : RightP xs5
        · exact ⟨true, Lib.hid ⟨fun _ => h, fun _ => rfl⟩⟩
        · exact ⟨false, Lib.hid ⟨fun h0 => (by cases h0), fun h0 => absurd h0 h⟩⟩
      have tre : (tr == tr) = true := beq_self_eq_true tr
      clear hf
      go_wp2_with fail
      refine (ofS r a4 xs4 c4 w3 r1 r2 (nums_keep H4.out K3.out.2.1) hl4).mono ?_
      rintro e w4 ⟨os, cs, rfl, HM4⟩
      rw [← HS.out] at HM4
      have K4 : Hid (Tl w w4 f oa r n A a5 xs5 os S) := Lib.hid ⟨K3.out.1.keep HM4.out.2, K3.out.2.1.trans (HM4.out.2.mono K3.out.2.1.size), K3.out.2.2.1.keep HM4.out.2, (K3.out.2.2.2.2).keep HM4.out.2, HM4.out.1⟩
      clear HM4 K3
      go_wp2_with fail
      refine (invC f os cs r S w4 K4.out.fld K4.out.s.raw r1 r2 BS.out).mono ?_
      rintro e w5 (⟨rfl, HM5⟩ | ⟨ox, X, rfl, HM5⟩)
      · skip
        have K5 := Lib.hid (K4.out.go HM5.out.2)
        obtain ⟨X, hX⟩ := HM5.out.1
        have FX := Lib.hid hX
        clear hX
        clear HM5 K4
        go_wp2_with fail
        refine (rinvC r cs os S w5 K5.out.s BS.out r1 r2).mono ?_
        rintro e w6 (⟨rfl, HM6⟩ | ⟨oy, cy6, rfl, HM6⟩)
        · skip
          have K6 := Lib.hid (K5.out.go HM6.out.2)
          clear HM6 K5
          by_cases hsq : r = n
          · skip
            have t1 : ((r : Int) == (n : Int)) = true := beq_iff_eq.2 (by omega)
            have BA2 : Hid (Bd r r A ∧ rowsOf r n A = rowsOf r r A) := Lib.hid ⟨by have := BA.out; rw [← hsq] at this; exact this, by rw [hsq]⟩
            clear hsq
            go_wp2_with fail
            refine (invAny f oa ca r A w6 K6.out.fld (by rw [← BA2.out.2]; exact K6.out.a) r1 r2 BA2.out.1).mono ?_
            rintro e w7 ⟨vo, tq, rfl, hb⟩
            have K7 := Lib.hid (K6.out.go hb.out)
            clear K6
            clear hb
            go_wp2_with fail
            refine (mknown w7).mono ?_
            rintro e w8 ⟨rfl, hb⟩
            have K8 := Lib.hid (K7.out.go hb)
            clear K7
            clear hb
            go_wp2_with fail
            refine (mright _ _ c5 w8 K8.out.b hl5 tr TR.out).mono ?_
            rintro e w' ⟨rfl, hw⟩
            obtain rfl := hw.symm
            go_wp2_with fail
            refine (rright _ _ c5 w8 K8.out.b hl5 tr TR.out).mono ?_
            rintro e w9 ⟨rfl, hb⟩
            have K9 := Lib.hid (K8.out.go hb)
            clear K8
            clear hb
            go_wp2_with fail
            have hq := mmul_none f _ _ (rowsOf r n A) xs5 ca c5 n w9 K9.out.a K9.out.b (by rw [rowsOf_len]; omega) hl5 (rowsOf_right A r1 r2 n1 n2) (fun _ _ h => rowsOf_rowlen h) (fun h => NF.out ⟨h.1, h.2.symm⟩)
            rw [rowsOf_len] at hq
            refine hq.mono ?_
            clear hq
            rintro e w' ⟨rfl, hw⟩
            obtain rfl := hw.symm
            go_wp2_with fail
            have hq := rmulmnone _ _ (rowsOf r n A) xs5 ca c5 w9 K9.out.a K9.out.b (by rw [rowsOf_len]; omega) hl5 (fun h => NF.out ⟨h.2.1, by have h3 := h.2.2 0 _ (rowsOf_get (by omega)); simp at h3; exact h3.symm⟩)
            rw [rowsOf_len] at hq
            refine hq.mono ?_
            clear hq
            rintro e w10 ⟨rfl, hb⟩
            have K10 := Lib.hid (K9.out.go hb)
            clear K9
            clear hb
            go_wp2_with fail
            refine (sameNone w10).mono ?_
            rintro e w' ⟨rfl, hw⟩
            obtain rfl := hw
            go_wp2_with fail
            refine (sameNone w10).mono ?_
            rintro e w' ⟨rfl, hw⟩
            obtain rfl := hw
            go_wp2_with fail
            refine (identC r w10 r1 r2).mono ?_
            rintro e wi ⟨oi, rfl, HMi⟩
            go_wp2_with fail
            refine (ridentC r wi r1 r2).mono ?_
            rintro e wj ⟨oj, cj, rfl, HMj⟩
            go_wp2_with fail
            refine (sameC oi oj r cj r r one one wj (HMi.out.1.keep HMj.out.2) HMj.out.1 (by omega) r1 B1.out B1.out true ⟨fun _ => EqM.refl _ _ _, fun _ => rfl⟩).mono ?_
            rintro e w' ⟨rfl, hw⟩
            obtain rfl := hw
            go_wp2_with fail
            go_ret
            exact ⟨rfl, ((K10.out.go HMi.out.2).go HMj.out.2).below⟩
          · skip
            have t1 : ((r : Int) == (n : Int)) = false := beq_eq_false_iff_ne.2 (by omega)
            have HQ := Lib.hid (invNone f oa ca r n A w6 K6.out.a r1 r2 n1 n2 (by omega))
            clear hsq
            go_wp2_with fail
            refine HQ.out.mono ?_
            rintro e w7 ⟨rfl, hw⟩
            have hb : Hid (Below w6.heap.size w6 w7) := Lib.hid (by rw [hw]; exact Below.refl _ _)
            clear hw
            have K7 := Lib.hid (K6.out.go hb.out)
            clear K6
            clear hb HQ
            go_wp2_with fail
            refine (mknown w7).mono ?_
            rintro e w8 ⟨rfl, hb⟩
            have K8 := Lib.hid (K7.out.go hb)
            clear K7
            clear hb
            go_wp2_with fail
            refine (mright _ _ c5 w8 K8.out.b hl5 tr TR.out).mono ?_
            rintro e w' ⟨rfl, hw⟩
            obtain rfl := hw.symm
            go_wp2_with fail
            refine (rright _ _ c5 w8 K8.out.b hl5 tr TR.out).mono ?_
            rintro e w9 ⟨rfl, hb⟩
            have K9 := Lib.hid (K8.out.go hb)
            clear K8
            clear hb
            go_wp2_with fail
            have hq := mmul_none f _ _ (rowsOf r n A) xs5 ca c5 n w9 K9.out.a K9.out.b (by rw [rowsOf_len]; omega) hl5 (rowsOf_right A r1 r2 n1 n2) (fun _ _ h => rowsOf_rowlen h) (fun h => NF.out ⟨h.1, h.2.symm⟩)
            rw [rowsOf_len] at hq
            refine hq.mono ?_
            clear hq
            rintro e w' ⟨rfl, hw⟩
            obtain rfl := hw.symm
            go_wp2_with fail
            have hq := rmulmnone _ _ (rowsOf r n A) xs5 ca c5 w9 K9.out.a K9.out.b (by rw [rowsOf_len]; omega) hl5 (fun h => NF.out ⟨h.2.1, by have h3 := h.2.2 0 _ (rowsOf_get (by omega)); simp at h3; exact h3.symm⟩)
            rw [rowsOf_len] at hq
            refine hq.mono ?_
            clear hq
            rintro e w10 ⟨rfl, hb⟩
            have K10 := Lib.hid (K9.out.go hb)
            clear K9
            clear hb
            go_wp2_with fail
            refine (sameNone w10).mono ?_
            rintro e w' ⟨rfl, hw⟩
            obtain rfl := hw
            go_wp2_with fail
            refine (sameNone w10).mono ?_
            rintro e w' ⟨rfl, hw⟩
            obtain rfl := hw
            go_wp2_with fail
            refine (identC r w10 r1 r2).mono ?_
            rintro e wi ⟨oi, rfl, HMi⟩
            go_wp2_with fail
            refine (ridentC r wi r1 r2).mono ?_
            rintro e wj ⟨oj, cj, rfl, HMj⟩
            go_wp2_with fail
            refine (sameC oi oj r cj r r one one wj (HMi.out.1.keep HMj.out.2) HMj.out.1 (by omega) r1 B1.out B1.out true ⟨fun _ => EqM.refl _ _ _, fun _ => rfl⟩).mono ?_
            rintro e w' ⟨rfl, hw⟩
            obtain rfl := hw
            go_wp2_with fail
            go_ret
            exact ⟨rfl, ((K10.out.go HMi.out.2).go HMj.out.2).below⟩
        · skip
          exfalso
          exact absurd ((found_det BS.out FX.out).2 HM6.out.1) (by decide)
      · skip
        have K5 := Lib.hid (K4.out.go HM5.out.2.2)
        have FX := Lib.hid HM5.out.1
        have RX5 := Lib.hid HM5.out.2.1
        clear HM5 K4
        go_wp2_with fail
        refine (rinvC r cs os S w5 K5.out.s BS.out r1 r2).mono ?_
        rintro e w6 (⟨rfl, HM6⟩ | ⟨oy, cy6, rfl, HM6⟩)
        · skip
          exfalso
          exact absurd HM6.out.1 ((found_det BS.out FX.out).1 rfl)
        · skip
          have K6 := Lib.hid (K5.out.go HM6.out.2.2)
          have RX6 := Lib.hid (RX5.out.keep HM6.out.2.2)
          have RY6 := Lib.hid HM6.out.2.1
          clear HM6 K5
          by_cases hsq : r = n
          · skip
            have t1 : ((r : Int) == (n : Int)) = true := beq_iff_eq.2 (by omega)
            have BA2 : Hid (Bd r r A ∧ rowsOf r n A = rowsOf r r A) := Lib.hid ⟨by have := BA.out; rw [← hsq] at this; exact this, by rw [hsq]⟩
            clear hsq
            go_wp2_with fail
            refine (invAny f oa ca r A w6 K6.out.fld (by rw [← BA2.out.2]; exact K6.out.a) r1 r2 BA2.out.1).mono ?_
            rintro e w7 ⟨vo, tq, rfl, hb⟩
            have K7 := Lib.hid (K6.out.go hb.out)
            have RX7 := Lib.hid (RX6.out.keep hb.out)
            have RY7 := Lib.hid (RY6.out.keep hb.out)
            clear K6 RX6 RY6
            clear hb
            go_wp2_with fail
            refine (mknown w7).mono ?_
            rintro e w8 ⟨rfl, hb⟩
            have K8 := Lib.hid (K7.out.go hb)
            have RX8 := Lib.hid (RX7.out.keep hb)
            have RY8 := Lib.hid (RY7.out.keep hb)
            clear K7 RX7 RY7
            clear hb
            go_wp2_with fail
            refine (mright _ _ c5 w8 K8.out.b hl5 tr TR.out).mono ?_
            rintro e w' ⟨rfl, hw⟩
            obtain rfl := hw.symm
            go_wp2_with fail
            refine (rright _ _ c5 w8 K8.out.b hl5 tr TR.out).mono ?_
            rintro e w9 ⟨rfl, hb⟩
            have K9 := Lib.hid (K8.out.go hb)
            have RX9 := Lib.hid (RX8.out.keep hb)
            have RY9 := Lib.hid (RY8.out.keep hb)
            clear K8 RX8 RY8
            clear hb
            go_wp2_with fail
            have hq := mmul_none f _ _ (rowsOf r n A) xs5 ca c5 n w9 K9.out.a K9.out.b (by rw [rowsOf_len]; omega) hl5 (rowsOf_right A r1 r2 n1 n2) (fun _ _ h => rowsOf_rowlen h) (fun h => NF.out ⟨h.1, h.2.symm⟩)
            rw [rowsOf_len] at hq
            refine hq.mono ?_
            clear hq
            rintro e w' ⟨rfl, hw⟩
            obtain rfl := hw.symm
            go_wp2_with fail
            have hq := rmulmnone _ _ (rowsOf r n A) xs5 ca c5 w9 K9.out.a K9.out.b (by rw [rowsOf_len]; omega) hl5 (fun h => NF.out ⟨h.2.1, by have h3 := h.2.2 0 _ (rowsOf_get (by omega)); simp at h3; exact h3.symm⟩)
            rw [rowsOf_len] at hq
            refine hq.mono ?_
            clear hq
            rintro e w10 ⟨rfl, hb⟩
            have K10 := Lib.hid (K9.out.go hb)
            have RX10 := Lib.hid (RX9.out.keep hb)
            have RY10 := Lib.hid (RY9.out.keep hb)
            clear K9 RX9 RY9
            clear hb
            go_wp2_with fail
            refine (sameNone w10).mono ?_
            rintro e w' ⟨rfl, hw⟩
            obtain rfl := hw
            go_wp2_with fail
            refine (sameC ox oy r cy6 r r X (adjM r S) w10 RX10.out RY10.out (by omega) r1 (FX.out.yes BS.out).1.bx (fun _ _ _ _ => mul_lt _ _) true ⟨fun _ => inv_alike BS.out r1 FX.out, fun _ => rfl⟩).mono ?_
            rintro e w' ⟨rfl, hw⟩
            obtain rfl := hw
            go_wp2_with fail
            refine (identC r w10 r1 r2).mono ?_
            rintro e wi ⟨oi, rfl, HMi⟩
            go_wp2_with fail
            refine (ridentC r wi r1 r2).mono ?_
            rintro e wj ⟨oj, cj, rfl, HMj⟩
            go_wp2_with fail
            refine (sameC oi oj r cj r r one one wj (HMi.out.1.keep HMj.out.2) HMj.out.1 (by omega) r1 B1.out B1.out true ⟨fun _ => EqM.refl _ _ _, fun _ => rfl⟩).mono ?_
            rintro e w' ⟨rfl, hw⟩
            obtain rfl := hw
            go_wp2_with fail
            go_ret
            exact ⟨rfl, ((K10.out.go HMi.out.2).go HMj.out.2).below⟩
          · skip
            have t1 : ((r : Int) == (n : Int)) = false := beq_eq_false_iff_ne.2 (by omega)
            have HQ := Lib.hid (invNone f oa ca r n A w6 K6.out.a r1 r2 n1 n2 (by omega))
            clear hsq
            go_wp2_with fail
            refine HQ.out.mono ?_
            rintro e w7 ⟨rfl, hw⟩
            have hb : Hid (Below w6.heap.size w6 w7) := Lib.hid (by rw [hw]; exact Below.refl _ _)
            clear hw
            have K7 := Lib.hid (K6.out.go hb.out)
            have RX7 := Lib.hid (RX6.out.keep hb.out)
            have RY7 := Lib.hid (RY6.out.keep hb.out)
            clear K6 RX6 RY6
            clear hb HQ
            go_wp2_with fail
            refine (mknown w7).mono ?_
            rintro e w8 ⟨rfl, hb⟩
            have K8 := Lib.hid (K7.out.go hb)
            have RX8 := Lib.hid (RX7.out.keep hb)
            have RY8 := Lib.hid (RY7.out.keep hb)
            clear K7 RX7 RY7
            clear hb
            go_wp2_with fail
            refine (mright _ _ c5 w8 K8.out.b hl5 tr TR.out).mono ?_
            rintro e w' ⟨rfl, hw⟩
            obtain rfl := hw.symm
            go_wp2_with fail
            refine (rright _ _ c5 w8 K8.out.b hl5 tr TR.out).mono ?_
            rintro e w9 ⟨rfl, hb⟩
            have K9 := Lib.hid (K8.out.go hb)
            have RX9 := Lib.hid (RX8.out.keep hb)
            have RY9 := Lib.hid (RY8.out.keep hb)
            clear K8 RX8 RY8
            clear hb
            go_wp2_with fail
            have hq := mmul_none f _ _ (rowsOf r n A) xs5 ca c5 n w9 K9.out.a K9.out.b (by rw [rowsOf_len]; omega) hl5 (rowsOf_right A r1 r2 n1 n2) (fun _ _ h => rowsOf_rowlen h) (fun h => NF.out ⟨h.1, h.2.symm⟩)
            rw [rowsOf_len] at hq
            refine hq.mono ?_
            clear hq
            rintro e w' ⟨rfl, hw⟩
            obtain rfl := hw.symm
            go_wp2_with fail
            have hq := rmulmnone _ _ (rowsOf r n A) xs5 ca c5 w9 K9.out.a K9.out.b (by rw [rowsOf_len]; omega) hl5 (fun h => NF.out ⟨h.2.1, by have h3 := h.2.2 0 _ (rowsOf_get (by omega)); simp at h3; exact h3.symm⟩)
            rw [rowsOf_len] at hq
            refine hq.mono ?_
            clear hq
            rintro e w10 ⟨rfl, hb⟩
            have K10 := Lib.hid (K9.out.go hb)
            have RX10 := Lib.hid (RX9.out.keep hb)
            have RY10 := Lib.hid (RY9.out.keep hb)
            clear K9 RX9 RY9
            clear hb
            go_wp2_with fail
            refine (sameNone w10).mono ?_
            rintro e w' ⟨rfl, hw⟩
            obtain rfl := hw
            go_wp2_with fail
            refine (sameC ox oy r cy6 r r X (adjM r S) w10 RX10.out RY10.out (by omega) r1 (FX.out.yes BS.out).1.bx (fun _ _ _ _ => mul_lt _ _) true ⟨fun _ => inv_alike BS.out r1 FX.out, fun _ => rfl⟩).mono ?_
            rintro e w' ⟨rfl, hw⟩
            obtain rfl := hw
            go_wp2_with fail
            refine (identC r w10 r1 r2).mono ?_
            rintro e wi ⟨oi, rfl, HMi⟩
            go_wp2_with fail
            refine (ridentC r wi r1 r2).mono ?_
            rintro e wj ⟨oj, cj, rfl, HMj⟩
            go_wp2_with fail
            refine (sameC oi oj r cj r r one one wj (HMi.out.1.keep HMj.out.2) HMj.out.1 (by omega) r1 B1.out B1.out true ⟨fun _ => EqM.refl _ _ _, fun _ => rfl⟩).mono ?_
            rintro e w' ⟨rfl, hw⟩
            obtain rfl := hw
            go_wp2_with fail
            go_ret
            exact ⟨rfl, ((K10.out.go HMi.out.2).go HMj.out.2).below⟩
  · have t5 : ((c : Int) == 5) = false := beq_eq_false_iff_ne.2 (by omega)
    clear h5
    have PY := Lib.hid (rowsOf_facts BM.out n1 n2 c1 c2)
    have HCC := Lib.hid c1
    go_wp2_with fail
    refine (ofS r a4 xs4 c4 w3 r1 r2 (nums_keep H4.out K3.out.2.1) hl4).mono ?_
    rintro e w4 ⟨os, cs, rfl, HM4⟩
    rw [← HS.out] at HM4
    have K4 : Hid (Tl w w4 f oa r n A (some ⟨ob, 0, none⟩) (rowsOf n c M) os S) := Lib.hid ⟨K3.out.1.keep HM4.out.2, K3.out.2.1.trans (HM4.out.2.mono K3.out.2.1.size), K3.out.2.2.1.keep HM4.out.2, (K3.out.2.2.2.1).keep HM4.out.2, HM4.out.1⟩
    clear HM4 K3
    go_wp2_with fail
    refine (invC f os cs r S w4 K4.out.fld K4.out.s.raw r1 r2 BS.out).mono ?_
    rintro e w5 (⟨rfl, HM5⟩ | ⟨ox, X, rfl, HM5⟩)
    · skip
      have K5 := Lib.hid (K4.out.go HM5.out.2)
      obtain ⟨X, hX⟩ := HM5.out.1
      have FX := Lib.hid hX
      clear hX
      clear HM5 K4
      go_wp2_with fail
      refine (rinvC r cs os S w5 K5.out.s BS.out r1 r2).mono ?_
      rintro e w6 (⟨rfl, HM6⟩ | ⟨oy, cy6, rfl, HM6⟩)
      · skip
        have K6 := Lib.hid (K5.out.go HM6.out.2)
        clear HM6 K5
        by_cases hsq : r = n
        · skip
          have t1 : ((r : Int) == (n : Int)) = true := beq_iff_eq.2 (by omega)
          have BA2 : Hid (Bd r r A ∧ rowsOf r n A = rowsOf r r A) := Lib.hid ⟨by have := BA.out; rw [← hsq] at this; exact this, by rw [hsq]⟩
          clear hsq
          go_wp2_with fail
          refine (invAny f oa ca r A w6 K6.out.fld (by rw [← BA2.out.2]; exact K6.out.a) r1 r2 BA2.out.1).mono ?_
          rintro e w7 ⟨vo, tq, rfl, hb⟩
          have K7 := Lib.hid (K6.out.go hb.out)
          clear K6
          clear hb
          go_wp2_with fail
          refine (mknown w7).mono ?_
          rintro e w8 ⟨rfl, hb⟩
          have K8 := Lib.hid (K7.out.go hb)
          clear K7
          clear hb
          go_wp2_with fail
          refine (rightr _ _ cb n w8 K8.out.b (rowsOf_len _ _ _) (by omega) true ⟨fun _ => (PY.out).1, fun _ => rfl⟩).mono ?_
          rintro e w' ⟨rfl, hw⟩
          obtain rfl := hw
          go_wp2_with fail
          have hq := rright _ (rowsOf n c M) cb w8 K8.out.b (by rw [rowsOf_len]; omega) true ⟨fun _ => (PY.out).1, fun _ => rfl⟩
          rw [rowsOf_len] at hq
          refine hq.mono ?_
          clear hq
          rintro e w9 ⟨rfl, hb⟩
          have K9 := Lib.hid (K8.out.go hb)
          clear K8
          clear hb
          go_wp2_with fail
          have hq := mmulG f oa (some ⟨ob, 0, none⟩) (rowsOf n c M) ca cb r n c A w9 K9.out.fld K9.out.a K9.out.b r1 r2 n1 n2 BA.out PY.out.1 PY.out.2.1 (rowsOf_len _ _ _) PY.out.2.2
          rw [rowsOf_len] at hq
          refine hq.mono ?_
          clear hq
          rintro e w10 ⟨op, rfl, HM10⟩
          have K10 := Lib.hid (K9.out.go HM10.out.2)
          clear K9
          have RP10 := Lib.hid HM10.out.1
          clear HM10
          go_wp2_with fail
          have hq := rmulC oa (some ⟨ob, 0, none⟩) (rowsOf n c M) ca cb r n c A w10 K10.out.a K10.out.b r1 r2 n1 n2 BA.out PY.out.1 PY.out.2.1 (rowsOf_len _ _ _) PY.out.2.2
          rw [rowsOf_len] at hq
          refine hq.mono ?_
          clear hq
          rintro e w11 ⟨oq, cq, rfl, HM11⟩
          have RP11 := Lib.hid (RP10.out.keep HM11.out.2)
          have K11 := Lib.hid (K10.out.go HM11.out.2)
          clear K10
          have RQ11 := Lib.hid HM11.out.1
          clear HM11 RP10
          go_wp2_with fail
          refine (sameC op oq r cq r c _ _ w11 RP11.out RQ11.out (by omega) HCC.out (mm_bd _ _ _ _ _) (mm_bd _ _ _ _ _) true ⟨fun _ => EqM.refl _ _ _, fun _ => rfl⟩).mono ?_
          rintro e w' ⟨rfl, hw⟩
          obtain rfl := hw
          go_wp2_with fail
          refine (sameNone w11).mono ?_
          rintro e w' ⟨rfl, hw⟩
          obtain rfl := hw
          go_wp2_with fail
          refine (identC r w11 r1 r2).mono ?_
          rintro e wi ⟨oi, rfl, HMi⟩
          go_wp2_with fail
          refine (ridentC r wi r1 r2).mono ?_
          rintro e wj ⟨oj, cj, rfl, HMj⟩
          go_wp2_with fail
          refine (sameC oi oj r cj r r one one wj (HMi.out.1.keep HMj.out.2) HMj.out.1 (by omega) r1 B1.out B1.out true ⟨fun _ => EqM.refl _ _ _, fun _ => rfl⟩).mono ?_
          rintro e w' ⟨rfl, hw⟩
          obtain rfl := hw
          go_wp2_with fail
          go_ret
          exact ⟨rfl, ((K11.out.go HMi.out.2).go HMj.out.2).below⟩
        · skip
          have t1 : ((r : Int) == (n : Int)) = false := beq_eq_false_iff_ne.2 (by omega)
          have HQ := Lib.hid (invNone f oa ca r n A w6 K6.out.a r1 r2 n1 n2 (by omega))
          clear hsq
          go_wp2_with fail
          refine HQ.out.mono ?_
          rintro e w7 ⟨rfl, hw⟩
          have hb : Hid (Below w6.heap.size w6 w7) := Lib.hid (by rw [hw]; exact Below.refl _ _)
          clear hw
          have K7 := Lib.hid (K6.out.go hb.out)
          clear K6
          clear hb HQ
          go_wp2_with fail
          refine (mknown w7).mono ?_
          rintro e w8 ⟨rfl, hb⟩
          have K8 := Lib.hid (K7.out.go hb)
          clear K7
          clear hb
          go_wp2_with fail
          refine (rightr _ _ cb n w8 K8.out.b (rowsOf_len _ _ _) (by omega) true ⟨fun _ => (PY.out).1, fun _ => rfl⟩).mono ?_
          rintro e w' ⟨rfl, hw⟩
          obtain rfl := hw
          go_wp2_with fail
          have hq := rright _ (rowsOf n c M) cb w8 K8.out.b (by rw [rowsOf_len]; omega) true ⟨fun _ => (PY.out).1, fun _ => rfl⟩
          rw [rowsOf_len] at hq
          refine hq.mono ?_
          clear hq
          rintro e w9 ⟨rfl, hb⟩
          have K9 := Lib.hid (K8.out.go hb)
          clear K8
          clear hb
          go_wp2_with fail
          have hq := mmulG f oa (some ⟨ob, 0, none⟩) (rowsOf n c M) ca cb r n c A w9 K9.out.fld K9.out.a K9.out.b r1 r2 n1 n2 BA.out PY.out.1 PY.out.2.1 (rowsOf_len _ _ _) PY.out.2.2
          rw [rowsOf_len] at hq
          refine hq.mono ?_
          clear hq
          rintro e w10 ⟨op, rfl, HM10⟩
          have K10 := Lib.hid (K9.out.go HM10.out.2)
          clear K9
          have RP10 := Lib.hid HM10.out.1
          clear HM10
          go_wp2_with fail
          have hq := rmulC oa (some ⟨ob, 0, none⟩) (rowsOf n c M) ca cb r n c A w10 K10.out.a K10.out.b r1 r2 n1 n2 BA.out PY.out.1 PY.out.2.1 (rowsOf_len _ _ _) PY.out.2.2
          rw [rowsOf_len] at hq
          refine hq.mono ?_
          clear hq
          rintro e w11 ⟨oq, cq, rfl, HM11⟩
          have RP11 := Lib.hid (RP10.out.keep HM11.out.2)
          have K11 := Lib.hid (K10.out.go HM11.out.2)
          clear K10
          have RQ11 := Lib.hid HM11.out.1
          clear HM11 RP10
          go_wp2_with fail
          refine (sameC op oq r cq r c _ _ w11 RP11.out RQ11.out (by omega) HCC.out (mm_bd _ _ _ _ _) (mm_bd _ _ _ _ _) true ⟨fun _ => EqM.refl _ _ _, fun _ => rfl⟩).mono ?_
          rintro e w' ⟨rfl, hw⟩
          obtain rfl := hw
          go_wp2_with fail
          refine (sameNone w11).mono ?_
          rintro e w' ⟨rfl, hw⟩
          obtain rfl := hw
          go_wp2_with fail
          refine (identC r w11 r1 r2).mono ?_
          rintro e wi ⟨oi, rfl, HMi⟩
          go_wp2_with fail
          refine (ridentC r wi r1 r2).mono ?_
          rintro e wj ⟨oj, cj, rfl, HMj⟩
          go_wp2_with fail
          refine (sameC oi oj r cj r r one one wj (HMi.out.1.keep HMj.out.2) HMj.out.1 (by omega) r1 B1.out B1.out true ⟨fun _ => EqM.refl _ _ _, fun _ => rfl⟩).mono ?_
          rintro e w' ⟨rfl, hw⟩
          obtain rfl := hw
          go_wp2_with fail
          go_ret
          exact ⟨rfl, ((K11.out.go HMi.out.2).go HMj.out.2).below⟩
      · skip
        exfalso
        exact absurd ((found_det BS.out FX.out).2 HM6.out.1) (by decide)
    · skip
      have K5 := Lib.hid (K4.out.go HM5.out.2.2)
      have FX := Lib.hid HM5.out.1
      have RX5 := Lib.hid HM5.out.2.1
      clear HM5 K4
      go_wp2_with fail
      refine (rinvC r cs os S w5 K5.out.s BS.out r1 r2).mono ?_
      rintro e w6 (⟨rfl, HM6⟩ | ⟨oy, cy6, rfl, HM6⟩)
      · skip
        exfalso
        exact absurd HM6.out.1 ((found_det BS.out FX.out).1 rfl)
      · skip
        have K6 := Lib.hid (K5.out.go HM6.out.2.2)
        have RX6 := Lib.hid (RX5.out.keep HM6.out.2.2)
        have RY6 := Lib.hid HM6.out.2.1
        clear HM6 K5
        by_cases hsq : r = n
        · skip
          have t1 : ((r : Int) == (n : Int)) = true := beq_iff_eq.2 (by omega)
          have BA2 : Hid (Bd r r A ∧ rowsOf r n A = rowsOf r r A) := Lib.hid ⟨by have := BA.out; rw [← hsq] at this; exact this, by rw [hsq]⟩
          clear hsq
          go_wp2_with fail
          refine (invAny f oa ca r A w6 K6.out.fld (by rw [← BA2.out.2]; exact K6.out.a) r1 r2 BA2.out.1).mono ?_
          rintro e w7 ⟨vo, tq, rfl, hb⟩
          have K7 := Lib.hid (K6.out.go hb.out)
          have RX7 := Lib.hid (RX6.out.keep hb.out)
          have RY7 := Lib.hid (RY6.out.keep hb.out)
          clear K6 RX6 RY6
          clear hb
          go_wp2_with fail
          refine (mknown w7).mono ?_
          rintro e w8 ⟨rfl, hb⟩
          have K8 := Lib.hid (K7.out.go hb)
          have RX8 := Lib.hid (RX7.out.keep hb)
          have RY8 := Lib.hid (RY7.out.keep hb)
          clear K7 RX7 RY7
          clear hb
          go_wp2_with fail
          refine (rightr _ _ cb n w8 K8.out.b (rowsOf_len _ _ _) (by omega) true ⟨fun _ => (PY.out).1, fun _ => rfl⟩).mono ?_
          rintro e w' ⟨rfl, hw⟩
          obtain rfl := hw
          go_wp2_with fail
          have hq := rright _ (rowsOf n c M) cb w8 K8.out.b (by rw [rowsOf_len]; omega) true ⟨fun _ => (PY.out).1, fun _ => rfl⟩
          rw [rowsOf_len] at hq
          refine hq.mono ?_
          clear hq
          rintro e w9 ⟨rfl, hb⟩
          have K9 := Lib.hid (K8.out.go hb)
          have RX9 := Lib.hid (RX8.out.keep hb)
          have RY9 := Lib.hid (RY8.out.keep hb)
          clear K8 RX8 RY8
          clear hb
          go_wp2_with fail
          have hq := mmulG f oa (some ⟨ob, 0, none⟩) (rowsOf n c M) ca cb r n c A w9 K9.out.fld K9.out.a K9.out.b r1 r2 n1 n2 BA.out PY.out.1 PY.out.2.1 (rowsOf_len _ _ _) PY.out.2.2
          rw [rowsOf_len] at hq
          refine hq.mono ?_
          clear hq
          rintro e w10 ⟨op, rfl, HM10⟩
          have K10 := Lib.hid (K9.out.go HM10.out.2)
          have RX10 := Lib.hid (RX9.out.keep HM10.out.2)
          have RY10 := Lib.hid (RY9.out.keep HM10.out.2)
          clear K9 RX9 RY9
          have RP10 := Lib.hid HM10.out.1
          clear HM10
          go_wp2_with fail
          have hq := rmulC oa (some ⟨ob, 0, none⟩) (rowsOf n c M) ca cb r n c A w10 K10.out.a K10.out.b r1 r2 n1 n2 BA.out PY.out.1 PY.out.2.1 (rowsOf_len _ _ _) PY.out.2.2
          rw [rowsOf_len] at hq
          refine hq.mono ?_
          clear hq
          rintro e w11 ⟨oq, cq, rfl, HM11⟩
          have RP11 := Lib.hid (RP10.out.keep HM11.out.2)
          have K11 := Lib.hid (K10.out.go HM11.out.2)
          have RX11 := Lib.hid (RX10.out.keep HM11.out.2)
          have RY11 := Lib.hid (RY10.out.keep HM11.out.2)
          clear K10 RX10 RY10
          have RQ11 := Lib.hid HM11.out.1
          clear HM11 RP10
          go_wp2_with fail
          refine (sameC op oq r cq r c _ _ w11 RP11.out RQ11.out (by omega) HCC.out (mm_bd _ _ _ _ _) (mm_bd _ _ _ _ _) true ⟨fun _ => EqM.refl _ _ _, fun _ => rfl⟩).mono ?_
          rintro e w' ⟨rfl, hw⟩
          obtain rfl := hw
          go_wp2_with fail
          refine (sameC ox oy r cy6 r r X (adjM r S) w11 RX11.out RY11.out (by omega) r1 (FX.out.yes BS.out).1.bx (fun _ _ _ _ => mul_lt _ _) true ⟨fun _ => inv_alike BS.out r1 FX.out, fun _ => rfl⟩).mono ?_
          rintro e w' ⟨rfl, hw⟩
          obtain rfl := hw
          go_wp2_with fail
          refine (identC r w11 r1 r2).mono ?_
          rintro e wi ⟨oi, rfl, HMi⟩
          go_wp2_with fail
          refine (ridentC r wi r1 r2).mono ?_
          rintro e wj ⟨oj, cj, rfl, HMj⟩
          go_wp2_with fail
          refine (sameC oi oj r cj r r one one wj (HMi.out.1.keep HMj.out.2) HMj.out.1 (by omega) r1 B1.out B1.out true ⟨fun _ => EqM.refl _ _ _, fun _ => rfl⟩).mono ?_
          rintro e w' ⟨rfl, hw⟩
          obtain rfl := hw
          go_wp2_with fail
          go_ret
          exact ⟨rfl, ((K11.out.go HMi.out.2).go HMj.out.2).below⟩
        · skip
          have t1 : ((r : Int) == (n : Int)) = false := beq_eq_false_iff_ne.2 (by omega)
          have HQ := Lib.hid (invNone f oa ca r n A w6 K6.out.a r1 r2 n1 n2 (by omega))
          clear hsq
          go_wp2_with fail
          refine HQ.out.mono ?_
          rintro e w7 ⟨rfl, hw⟩
          have hb : Hid (Below w6.heap.size w6 w7) := Lib.hid (by rw [hw]; exact Below.refl _ _)
          clear hw
          have K7 := Lib.hid (K6.out.go hb.out)
          have RX7 := Lib.hid (RX6.out.keep hb.out)
          have RY7 := Lib.hid (RY6.out.keep hb.out)
          clear K6 RX6 RY6
          clear hb HQ
          go_wp2_with fail
          refine (mknown w7).mono ?_
          rintro e w8 ⟨rfl, hb⟩
          have K8 := Lib.hid (K7.out.go hb)
          have RX8 := Lib.hid (RX7.out.keep hb)
          have RY8 := Lib.hid (RY7.out.keep hb)
          clear K7 RX7 RY7
          clear hb
          go_wp2_with fail
          refine (rightr _ _ cb n w8 K8.out.b (rowsOf_len _ _ _) (by omega) true ⟨fun _ => (PY.out).1, fun _ => rfl⟩).mono ?_
          rintro e w' ⟨rfl, hw⟩
          obtain rfl := hw
          go_wp2_with fail
          have hq := rright _ (rowsOf n c M) cb w8 K8.out.b (by rw [rowsOf_len]; omega) true ⟨fun _ => (PY.out).1, fun _ => rfl⟩
          rw [rowsOf_len] at hq
          refine hq.mono ?_
          clear hq
          rintro e w9 ⟨rfl, hb⟩
          have K9 := Lib.hid (K8.out.go hb)
          have RX9 := Lib.hid (RX8.out.keep hb)
          have RY9 := Lib.hid (RY8.out.keep hb)
          clear K8 RX8 RY8
          clear hb
          go_wp2_with fail
          have hq := mmulG f oa (some ⟨ob, 0, none⟩) (rowsOf n c M) ca cb r n c A w9 K9.out.fld K9.out.a K9.out.b r1 r2 n1 n2 BA.out PY.out.1 PY.out.2.1 (rowsOf_len _ _ _) PY.out.2.2
          rw [rowsOf_len] at hq
          refine hq.mono ?_
          clear hq
          rintro e w10 ⟨op, rfl, HM10⟩
          have K10 := Lib.hid (K9.out.go HM10.out.2)
          have RX10 := Lib.hid (RX9.out.keep HM10.out.2)
          have RY10 := Lib.hid (RY9.out.keep HM10.out.2)
          clear K9 RX9 RY9
          have RP10 := Lib.hid HM10.out.1
          clear HM10
          go_wp2_with fail
          have hq := rmulC oa (some ⟨ob, 0, none⟩) (rowsOf n c M) ca cb r n c A w10 K10.out.a K10.out.b r1 r2 n1 n2 BA.out PY.out.1 PY.out.2.1 (rowsOf_len _ _ _) PY.out.2.2
          rw [rowsOf_len] at hq
          refine hq.mono ?_
          clear hq
          rintro e w11 ⟨oq, cq, rfl, HM11⟩
          have RP11 := Lib.hid (RP10.out.keep HM11.out.2)
          have K11 := Lib.hid (K10.out.go HM11.out.2)
          have RX11 := Lib.hid (RX10.out.keep HM11.out.2)
          have RY11 := Lib.hid (RY10.out.keep HM11.out.2)
          clear K10 RX10 RY10
          have RQ11 := Lib.hid HM11.out.1
          clear HM11 RP10
          go_wp2_with fail
          refine (sameC op oq r cq r c _ _ w11 RP11.out RQ11.out (by omega) HCC.out (mm_bd _ _ _ _ _) (mm_bd _ _ _ _ _) true ⟨fun _ => EqM.refl _ _ _, fun _ => rfl⟩).mono ?_
          rintro e w' ⟨rfl, hw⟩
          obtain rfl := hw
          go_wp2_with fail
          refine (sameC ox oy r cy6 r r X (adjM r S) w11 RX11.out RY11.out (by omega) r1 (FX.out.yes BS.out).1.bx (fun _ _ _ _ => mul_lt _ _) true ⟨fun _ => inv_alike BS.out r1 FX.out, fun _ => rfl⟩).mono ?_
          rintro e w' ⟨rfl, hw⟩
          obtain rfl := hw
          go_wp2_with fail
          refine (identC r w11 r1 r2).mono ?_
          rintro e wi ⟨oi, rfl, HMi⟩
          go_wp2_with fail
          refine (ridentC r wi r1 r2).mono ?_
          rintro e wj ⟨oj, cj, rfl, HMj⟩
          go_wp2_with fail
          refine (sameC oi oj r cj r r one one wj (HMi.out.1.keep HMj.out.2) HMj.out.1 (by omega) r1 B1.out B1.out true ⟨fun _ => EqM.refl _ _ _, fun _ => rfl⟩).mono ?_
          rintro e w' ⟨rfl, hw⟩
          obtain rfl := hw
          go_wp2_with fail
          go_ret
          exact ⟨rfl, ((K11.out.go HMi.out.2).go HMj.out.2).below⟩
end Go.Proofs.Ytmnfgbfajhinlaa
