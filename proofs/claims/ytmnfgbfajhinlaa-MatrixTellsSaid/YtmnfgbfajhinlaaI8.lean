import Derived.Test.YtmnfgbfajhinlaaI7
namespace Go.Proofs.Ytmnfgbfajhinlaa
open Go.RowKit Go.Sort
set_option maxRecDepth 100000
set_option maxHeartbeats 4000000

/-- What is kept from call to call: the field, the rows that are named. -/
def At (w : World) (l : List (Nat × List (List Nat))) : Prop := ∀ p ∈ l, RawIn w (some ⟨p.1, 0, none⟩) p.2
structure Kept (w0 w : World) (f : Nat) (l : List (Nat × List (List Nat))) : Prop where
  fld : Fld w f
  below : Below w0.heap.size w0 w
  at_ : At w l
theorem Kept.go {w0 w w' : World} {f : Nat} {l : List (Nat × List (List Nat))} (h : Kept w0 w f l) (b : Below w.heap.size w w') : Kept w0 w' f l :=
  ⟨h.fld.keep b, h.below.trans (b.mono h.below.size), fun p hp => (h.at_ p hp).keep b⟩
theorem Kept.add {w0 w w' : World} {f o : Nat} {xss : List (List Nat)} {l : List (Nat × List (List Nat))} (h : Kept w0 w f l) (b : Below w.heap.size w w') (r : RawIn w' (some ⟨o, 0, none⟩) xss) : Kept w0 w' f ((o, xss) :: l) :=
  ⟨h.fld.keep b, h.below.trans (b.mono h.below.size), fun p hp => by
    rcases List.mem_cons.1 hp with rfl | hp
    · exact r
    · exact (h.at_ p hp).keep b⟩
theorem ofv_sq (l : List Int) (n c : Nat) : Bd n c (ofv l c) := ofv_bd l c n c

theorem matrixBack (x0 : Int) (a1 : Option Addr) (xs1 : List Int) (c1 : Nat) (a2 : Option Addr) (xs2 : List Int) (c2 : Nat) (w : World) (hn1 : Nums w a1 xs1) (hl1 : xs1.length ≤ 9223372036854775807) (hn2 : Nums w a2 xs2) (hl2 : xs2.length ≤ 9223372036854775807) :
    Calls Try.prog 5 #[.int .i64 x0, .slice a1 xs1.length c1, .slice a2 xs2.length c2] w fun e w' => e = .returned (.bool true) ∧ Below w.heap.size w w' := by
  obtain ⟨n, hn⟩ : ∃ n : Nat, (n : Int) = 1 + x0 % 6 := ⟨(1 + x0 % 6).toNat, by omega⟩
  have n1 : 1 ≤ n := by omega
  have n2 : n ≤ 64 := by omega
  have HN := Lib.hid hn
  have HP := Lib.hid (rpick x0 6 (by omega) (by omega))
  have HN1 := Lib.hid hn1
  have HN2 := Lib.hid hn2
  have hm1 : -9223372036854775808 ≤ x0 % 6 ∧ x0 % 6 < 6 ∧ 0 ≤ x0 % 6 := by omega
  obtain ⟨A, hA⟩ : ∃ A, A = ofv xs1 n := ⟨_, rfl⟩
  obtain ⟨B, hB⟩ : ∃ B, B = ofv xs2 n := ⟨_, rfl⟩
  obtain ⟨C, hC⟩ : ∃ C, C = ofv xs2 3 := ⟨_, rfl⟩
  have BA : Hid (Bd n n A) := Lib.hid (by rw [hA]; exact ofv_sq _ _ _)
  have BB : Hid (Bd n n B) := Lib.hid (by rw [hB]; exact ofv_sq _ _ _)
  have BC : Hid (Bd n 3 C) := Lib.hid (by rw [hC]; exact ofv_sq _ _ _)
  have HA := Lib.hid hA
  have HB := Lib.hid hB
  have HC := Lib.hid hC
  have B1 := Lib.hid (one_bd n n)
  have tn : ((n : Int) != (n : Int)) = false := by rw [bne_eq_false_iff_eq]
  clear hA hB hC hn hn1 hn2
  go_enter Try.func5, Try.ntmps5
  go_wp2_with fail
  refine (fnew0 _).mono ?_
  rintro e w1 ⟨f, rfl, HF⟩
  have K1 : Hid (Kept w w1 f []) := Lib.hid ⟨HF.out.1, HF.out.2.1, fun p hp => by cases hp⟩
  clear HF
  go_wp2_with fail
  refine (HP.out _).mono ?_
  rintro e w' ⟨rfl, hw⟩
  obtain rfl := hw.symm
  generalize x0 % 6 = m at *
  go_wp2_with fail
  generalize hnn : (1 : Int) + m = nn at *
  obtain rfl : nn = (n : Int) := by rw [HN.out]
  clear hnn
  go_wp2_with fail
  refine (ofC n n a1 xs1 c1 w1 n1 n2 (by omega) (by omega) (nums_keep HN1.out K1.out.below) hl1).mono ?_
  rintro e w2 ⟨oa, caoa, rfl, HM2⟩
  rw [← HA.out] at HM2
  have K2 := Lib.hid (K1.out.add HM2.out.2 HM2.out.1)
  clear HM2 K1
  go_wp2_with fail
  refine (ofC n n a2 xs2 c2 w2 n1 n2 (by omega) (by omega) (nums_keep HN2.out K2.out.below) hl2).mono ?_
  rintro e w3 ⟨ob, caob, rfl, HM3⟩
  rw [← HB.out] at HM3
  have K3 := Lib.hid (K2.out.add HM3.out.2 HM3.out.1)
  clear HM3 K2
  go_wp2_with fail
  refine (invC f oa _ n A w3 K3.out.fld (K3.out.at_ (oa, rowsOf n n A) (by simp)) n1 n2 BA.out).mono ?_
  rintro e w4 (⟨rfl, HM4⟩ | ⟨ox, Xox, rfl, HM4⟩)
  · skip
    have K4 := Lib.hid (K3.out.go HM4.out.2)
    obtain ⟨Xox, hFA⟩ := HM4.out.1
    have FA := Lib.hid hFA
    clear hFA HM4 K3
    go_wp2_with fail
    refine (identC n w4 n1 n2).mono ?_
    rintro e w5 ⟨oo, rfl, HM5⟩
    have K5 := Lib.hid (K4.out.add HM5.out.2 HM5.out.1)
    clear HM5 K4
    go_wp2_with fail
    refine (mknown w5).mono ?_
    rintro e w6 ⟨rfl, hb⟩
    have K6 := Lib.hid (K5.out.go hb)
    clear hb K5
    go_wp2_with fail
    refine (invC f ob _ n B w6 K6.out.fld (K6.out.at_ (ob, rowsOf n n B) (by simp)) n1 n2 BB.out).mono ?_
    rintro e w7 (⟨rfl, HM7⟩ | ⟨oy, Xoy, rfl, HM7⟩)
    · skip
      have K7 := Lib.hid (K6.out.go HM7.out.2)
      obtain ⟨Xoy, hFB⟩ := HM7.out.1
      have FB := Lib.hid hFB
      clear hFB HM7 K6
      go_wp2_with fail
      refine (mulC f oa ob _ _ n n n A B w7 K7.out.fld (K7.out.at_ (oa, rowsOf n n A) (by simp)) (K7.out.at_ (ob, rowsOf n n B) (by simp)) (by omega) (by omega) (by omega) (by omega) (by omega) (by omega) BA.out BB.out).mono ?_
      rintro e w8 ⟨op, rfl, HM8⟩
      have K8 := Lib.hid (K7.out.add HM8.out.2 HM8.out.1)
      clear HM8 K7
      go_wp2_with fail
      refine (invC f op _ n (mm n A B) w8 K8.out.fld (K8.out.at_ (op, rowsOf n n (mm n A B)) (by simp)) n1 n2 (mm_bd _ _ _ _ _)).mono ?_
      rintro e w9 (⟨rfl, HM9⟩ | ⟨oz, Xoz, rfl, HM9⟩)
      · skip
        have K9 := Lib.hid (K8.out.go HM9.out.2)
        clear HM9 K8
        go_wp2_with fail
        refine (ofC n 3 a2 xs2 c2 w9 n1 n2 (by omega) (by omega) (nums_keep HN2.out K9.out.below) hl2).mono ?_
        rintro e w10 ⟨oc, caoc, rfl, HM10⟩
        rw [← HC.out] at HM10
        have K10 := Lib.hid (K9.out.add HM10.out.2 HM10.out.1)
        clear HM10 K9
        go_wp2_with fail
        refine (mulC f oa ob _ _ n n n A B w10 K10.out.fld (K10.out.at_ (oa, rowsOf n n A) (by simp)) (K10.out.at_ (ob, rowsOf n n B) (by simp)) (by omega) (by omega) (by omega) (by omega) (by omega) (by omega) BA.out BB.out).mono ?_
        rintro e w11 ⟨u1, rfl, HM11⟩
        have K11 := Lib.hid (K10.out.add HM11.out.2 HM11.out.1)
        clear HM11 K10
        go_wp2_with fail
        refine (mulC f u1 oc _ _ n n 3 (mm n A B) C w11 K11.out.fld (K11.out.at_ (u1, rowsOf n n (mm n A B)) (by simp)) (K11.out.at_ (oc, rowsOf n 3 C) (by simp)) (by omega) (by omega) (by omega) (by omega) (by omega) (by omega) (mm_bd _ _ _ _ _) BC.out).mono ?_
        rintro e w12 ⟨u2, rfl, HM12⟩
        have K12 := Lib.hid (K11.out.add HM12.out.2 HM12.out.1)
        clear HM12 K11
        go_wp2_with fail
        refine (mulC f ob oc _ _ n n 3 B C w12 K12.out.fld (K12.out.at_ (ob, rowsOf n n B) (by simp)) (K12.out.at_ (oc, rowsOf n 3 C) (by simp)) (by omega) (by omega) (by omega) (by omega) (by omega) (by omega) BB.out BC.out).mono ?_
        rintro e w13 ⟨u3, rfl, HM13⟩
        have K13 := Lib.hid (K12.out.add HM13.out.2 HM13.out.1)
        clear HM13 K12
        go_wp2_with fail
        refine (mulC f oa u3 _ _ n n 3 A (mm n B C) w13 K13.out.fld (K13.out.at_ (oa, rowsOf n n A) (by simp)) (K13.out.at_ (u3, rowsOf n 3 (mm n B C)) (by simp)) (by omega) (by omega) (by omega) (by omega) (by omega) (by omega) BA.out (mm_bd _ _ _ _ _)).mono ?_
        rintro e w14 ⟨u4, rfl, HM14⟩
        have K14 := Lib.hid (K13.out.add HM14.out.2 HM14.out.1)
        clear HM14 K13
        go_wp2_with fail
        refine (sameC u2 u4 _ _ n 3 (mm n (mm n A B) C) (mm n A (mm n B C)) w14 (K14.out.at_ (u2, rowsOf n 3 (mm n (mm n A B) C)) (by simp)) (K14.out.at_ (u4, rowsOf n 3 (mm n A (mm n B C))) (by simp)) (by omega) (by omega) (mm_bd _ _ _ _ _) (mm_bd _ _ _ _ _) true ⟨fun _ => (mm_assoc BA.out BB.out BC.out), fun _ => rfl⟩).mono ?_
        rintro e w' ⟨rfl, hw⟩
        obtain rfl := hw
        go_wp2_with fail
        refine (mulC f oo oc _ _ n n 3 one C w14 K14.out.fld (K14.out.at_ (oo, rowsOf n n one) (by simp)) (K14.out.at_ (oc, rowsOf n 3 C) (by simp)) (by omega) (by omega) (by omega) (by omega) (by omega) (by omega) B1.out BC.out).mono ?_
        rintro e w15 ⟨u5, rfl, HM15⟩
        have K15 := Lib.hid (K14.out.add HM15.out.2 HM15.out.1)
        clear HM15 K14
        go_wp2_with fail
        refine (sameC u5 oc _ _ n 3 (mm n one C) C w15 (K15.out.at_ (u5, rowsOf n 3 (mm n one C)) (by simp)) (K15.out.at_ (oc, rowsOf n 3 C) (by simp)) (by omega) (by omega) (mm_bd _ _ _ _ _) BC.out true ⟨fun _ => (one_mm BC.out), fun _ => rfl⟩).mono ?_
        rintro e w' ⟨rfl, hw⟩
        obtain rfl := hw
        go_wp2_with fail
        go_ret
        exact ⟨rfl, K15.out.below⟩
      · skip
        exfalso
        have h := (Found.prod BA.out BB.out (EqM.refl _ _ _) FA.out FB.out HM9.out.1).1
        exact absurd h (by decide)
    · skip
      have K7 := Lib.hid (K6.out.add HM7.out.2.2 HM7.out.2.1)
      have FB := Lib.hid HM7.out.1
      have BY : Hid (Bd n n Xoy) := Lib.hid (FB.out.yes BB.out).1.bx
      clear HM7 K6
      go_wp2_with fail
      refine (mulC f oa ob _ _ n n n A B w7 K7.out.fld (K7.out.at_ (oa, rowsOf n n A) (by simp)) (K7.out.at_ (ob, rowsOf n n B) (by simp)) (by omega) (by omega) (by omega) (by omega) (by omega) (by omega) BA.out BB.out).mono ?_
      rintro e w16 ⟨op, rfl, HM16⟩
      have K16 := Lib.hid (K7.out.add HM16.out.2 HM16.out.1)
      clear HM16 K7
      go_wp2_with fail
      refine (invC f op _ n (mm n A B) w16 K16.out.fld (K16.out.at_ (op, rowsOf n n (mm n A B)) (by simp)) n1 n2 (mm_bd _ _ _ _ _)).mono ?_
      rintro e w17 (⟨rfl, HM17⟩ | ⟨oz, Xoz, rfl, HM17⟩)
      · skip
        have K17 := Lib.hid (K16.out.go HM17.out.2)
        clear HM17 K16
        go_wp2_with fail
        refine (ofC n 3 a2 xs2 c2 w17 n1 n2 (by omega) (by omega) (nums_keep HN2.out K17.out.below) hl2).mono ?_
        rintro e w18 ⟨oc, caoc, rfl, HM18⟩
        rw [← HC.out] at HM18
        have K18 := Lib.hid (K17.out.add HM18.out.2 HM18.out.1)
        clear HM18 K17
        go_wp2_with fail
        refine (mulC f oa ob _ _ n n n A B w18 K18.out.fld (K18.out.at_ (oa, rowsOf n n A) (by simp)) (K18.out.at_ (ob, rowsOf n n B) (by simp)) (by omega) (by omega) (by omega) (by omega) (by omega) (by omega) BA.out BB.out).mono ?_
        rintro e w19 ⟨u1, rfl, HM19⟩
        have K19 := Lib.hid (K18.out.add HM19.out.2 HM19.out.1)
        clear HM19 K18
        go_wp2_with fail
        refine (mulC f u1 oc _ _ n n 3 (mm n A B) C w19 K19.out.fld (K19.out.at_ (u1, rowsOf n n (mm n A B)) (by simp)) (K19.out.at_ (oc, rowsOf n 3 C) (by simp)) (by omega) (by omega) (by omega) (by omega) (by omega) (by omega) (mm_bd _ _ _ _ _) BC.out).mono ?_
        rintro e w20 ⟨u2, rfl, HM20⟩
        have K20 := Lib.hid (K19.out.add HM20.out.2 HM20.out.1)
        clear HM20 K19
        go_wp2_with fail
        refine (mulC f ob oc _ _ n n 3 B C w20 K20.out.fld (K20.out.at_ (ob, rowsOf n n B) (by simp)) (K20.out.at_ (oc, rowsOf n 3 C) (by simp)) (by omega) (by omega) (by omega) (by omega) (by omega) (by omega) BB.out BC.out).mono ?_
        rintro e w21 ⟨u3, rfl, HM21⟩
        have K21 := Lib.hid (K20.out.add HM21.out.2 HM21.out.1)
        clear HM21 K20
        go_wp2_with fail
        refine (mulC f oa u3 _ _ n n 3 A (mm n B C) w21 K21.out.fld (K21.out.at_ (oa, rowsOf n n A) (by simp)) (K21.out.at_ (u3, rowsOf n 3 (mm n B C)) (by simp)) (by omega) (by omega) (by omega) (by omega) (by omega) (by omega) BA.out (mm_bd _ _ _ _ _)).mono ?_
        rintro e w22 ⟨u4, rfl, HM22⟩
        have K22 := Lib.hid (K21.out.add HM22.out.2 HM22.out.1)
        clear HM22 K21
        go_wp2_with fail
        refine (sameC u2 u4 _ _ n 3 (mm n (mm n A B) C) (mm n A (mm n B C)) w22 (K22.out.at_ (u2, rowsOf n 3 (mm n (mm n A B) C)) (by simp)) (K22.out.at_ (u4, rowsOf n 3 (mm n A (mm n B C))) (by simp)) (by omega) (by omega) (mm_bd _ _ _ _ _) (mm_bd _ _ _ _ _) true ⟨fun _ => (mm_assoc BA.out BB.out BC.out), fun _ => rfl⟩).mono ?_
        rintro e w' ⟨rfl, hw⟩
        obtain rfl := hw
        go_wp2_with fail
        refine (mulC f oo oc _ _ n n 3 one C w22 K22.out.fld (K22.out.at_ (oo, rowsOf n n one) (by simp)) (K22.out.at_ (oc, rowsOf n 3 C) (by simp)) (by omega) (by omega) (by omega) (by omega) (by omega) (by omega) B1.out BC.out).mono ?_
        rintro e w23 ⟨u5, rfl, HM23⟩
        have K23 := Lib.hid (K22.out.add HM23.out.2 HM23.out.1)
        clear HM23 K22
        go_wp2_with fail
        refine (sameC u5 oc _ _ n 3 (mm n one C) C w23 (K23.out.at_ (u5, rowsOf n 3 (mm n one C)) (by simp)) (K23.out.at_ (oc, rowsOf n 3 C) (by simp)) (by omega) (by omega) (mm_bd _ _ _ _ _) BC.out true ⟨fun _ => (one_mm BC.out), fun _ => rfl⟩).mono ?_
        rintro e w' ⟨rfl, hw⟩
        obtain rfl := hw
        go_wp2_with fail
        go_ret
        exact ⟨rfl, K23.out.below⟩
      · skip
        exfalso
        have h := (Found.prod BA.out BB.out (EqM.refl _ _ _) FA.out FB.out HM17.out.1).1
        exact absurd h (by decide)
  · skip
    have K4 := Lib.hid (K3.out.add HM4.out.2.2 HM4.out.2.1)
    have FA := Lib.hid HM4.out.1
    have BX : Hid (Bd n n Xox) := Lib.hid (FA.out.yes BA.out).1.bx
    clear HM4 K3
    go_wp2_with fail
    refine (identC n w4 n1 n2).mono ?_
    rintro e w24 ⟨oo, rfl, HM24⟩
    have K24 := Lib.hid (K4.out.add HM24.out.2 HM24.out.1)
    clear HM24 K4
    go_wp2_with fail
    refine (mknown w24).mono ?_
    rintro e w25 ⟨rfl, hb⟩
    have K25 := Lib.hid (K24.out.go hb)
    clear hb K24
    go_wp2_with fail
    refine (mulC f oa ox _ _ n n n A Xox w25 K25.out.fld (K25.out.at_ (oa, rowsOf n n A) (by simp)) (K25.out.at_ (ox, rowsOf n n Xox) (by simp)) (by omega) (by omega) (by omega) (by omega) (by omega) (by omega) BA.out BX.out).mono ?_
    rintro e w26 ⟨p1, rfl, HM26⟩
    have K26 := Lib.hid (K25.out.add HM26.out.2 HM26.out.1)
    clear HM26 K25
    go_wp2_with fail
    refine (sameC p1 oo _ _ n n (mm n A Xox) one w26 (K26.out.at_ (p1, rowsOf n n (mm n A Xox)) (by simp)) (K26.out.at_ (oo, rowsOf n n one) (by simp)) (by omega) (by omega) (mm_bd _ _ _ _ _) B1.out true ⟨fun _ => (FA.out.yes BA.out).1.right, fun _ => rfl⟩).mono ?_
    rintro e w' ⟨rfl, hw⟩
    obtain rfl := hw
    go_wp2_with fail
    refine (mulC f ox oa _ _ n n n Xox A w26 K26.out.fld (K26.out.at_ (ox, rowsOf n n Xox) (by simp)) (K26.out.at_ (oa, rowsOf n n A) (by simp)) (by omega) (by omega) (by omega) (by omega) (by omega) (by omega) BX.out BA.out).mono ?_
    rintro e w27 ⟨p2, rfl, HM27⟩
    have K27 := Lib.hid (K26.out.add HM27.out.2 HM27.out.1)
    clear HM27 K26
    go_wp2_with fail
    refine (sameC p2 oo _ _ n n (mm n Xox A) one w27 (K27.out.at_ (p2, rowsOf n n (mm n Xox A)) (by simp)) (K27.out.at_ (oo, rowsOf n n one) (by simp)) (by omega) (by omega) (mm_bd _ _ _ _ _) B1.out true ⟨fun _ => (FA.out.yes BA.out).1.left, fun _ => rfl⟩).mono ?_
    rintro e w' ⟨rfl, hw⟩
    obtain rfl := hw
    go_wp2_with fail
    refine (invC f ob _ n B w27 K27.out.fld (K27.out.at_ (ob, rowsOf n n B) (by simp)) n1 n2 BB.out).mono ?_
    rintro e w28 (⟨rfl, HM28⟩ | ⟨oy, Xoy, rfl, HM28⟩)
    · skip
      have K28 := Lib.hid (K27.out.go HM28.out.2)
      obtain ⟨Xoy, hFB⟩ := HM28.out.1
      have FB := Lib.hid hFB
      clear hFB HM28 K27
      go_wp2_with fail
      refine (mulC f oa ob _ _ n n n A B w28 K28.out.fld (K28.out.at_ (oa, rowsOf n n A) (by simp)) (K28.out.at_ (ob, rowsOf n n B) (by simp)) (by omega) (by omega) (by omega) (by omega) (by omega) (by omega) BA.out BB.out).mono ?_
      rintro e w29 ⟨op, rfl, HM29⟩
      have K29 := Lib.hid (K28.out.add HM29.out.2 HM29.out.1)
      clear HM29 K28
      go_wp2_with fail
      refine (invC f op _ n (mm n A B) w29 K29.out.fld (K29.out.at_ (op, rowsOf n n (mm n A B)) (by simp)) n1 n2 (mm_bd _ _ _ _ _)).mono ?_
      rintro e w30 (⟨rfl, HM30⟩ | ⟨oz, Xoz, rfl, HM30⟩)
      · skip
        have K30 := Lib.hid (K29.out.go HM30.out.2)
        clear HM30 K29
        go_wp2_with fail
        refine (ofC n 3 a2 xs2 c2 w30 n1 n2 (by omega) (by omega) (nums_keep HN2.out K30.out.below) hl2).mono ?_
        rintro e w31 ⟨oc, caoc, rfl, HM31⟩
        rw [← HC.out] at HM31
        have K31 := Lib.hid (K30.out.add HM31.out.2 HM31.out.1)
        clear HM31 K30
        go_wp2_with fail
        refine (mulC f oa ob _ _ n n n A B w31 K31.out.fld (K31.out.at_ (oa, rowsOf n n A) (by simp)) (K31.out.at_ (ob, rowsOf n n B) (by simp)) (by omega) (by omega) (by omega) (by omega) (by omega) (by omega) BA.out BB.out).mono ?_
        rintro e w32 ⟨u1, rfl, HM32⟩
        have K32 := Lib.hid (K31.out.add HM32.out.2 HM32.out.1)
        clear HM32 K31
        go_wp2_with fail
        refine (mulC f u1 oc _ _ n n 3 (mm n A B) C w32 K32.out.fld (K32.out.at_ (u1, rowsOf n n (mm n A B)) (by simp)) (K32.out.at_ (oc, rowsOf n 3 C) (by simp)) (by omega) (by omega) (by omega) (by omega) (by omega) (by omega) (mm_bd _ _ _ _ _) BC.out).mono ?_
        rintro e w33 ⟨u2, rfl, HM33⟩
        have K33 := Lib.hid (K32.out.add HM33.out.2 HM33.out.1)
        clear HM33 K32
        go_wp2_with fail
        refine (mulC f ob oc _ _ n n 3 B C w33 K33.out.fld (K33.out.at_ (ob, rowsOf n n B) (by simp)) (K33.out.at_ (oc, rowsOf n 3 C) (by simp)) (by omega) (by omega) (by omega) (by omega) (by omega) (by omega) BB.out BC.out).mono ?_
        rintro e w34 ⟨u3, rfl, HM34⟩
        have K34 := Lib.hid (K33.out.add HM34.out.2 HM34.out.1)
        clear HM34 K33
        go_wp2_with fail
        refine (mulC f oa u3 _ _ n n 3 A (mm n B C) w34 K34.out.fld (K34.out.at_ (oa, rowsOf n n A) (by simp)) (K34.out.at_ (u3, rowsOf n 3 (mm n B C)) (by simp)) (by omega) (by omega) (by omega) (by omega) (by omega) (by omega) BA.out (mm_bd _ _ _ _ _)).mono ?_
        rintro e w35 ⟨u4, rfl, HM35⟩
        have K35 := Lib.hid (K34.out.add HM35.out.2 HM35.out.1)
        clear HM35 K34
        go_wp2_with fail
        refine (sameC u2 u4 _ _ n 3 (mm n (mm n A B) C) (mm n A (mm n B C)) w35 (K35.out.at_ (u2, rowsOf n 3 (mm n (mm n A B) C)) (by simp)) (K35.out.at_ (u4, rowsOf n 3 (mm n A (mm n B C))) (by simp)) (by omega) (by omega) (mm_bd _ _ _ _ _) (mm_bd _ _ _ _ _) true ⟨fun _ => (mm_assoc BA.out BB.out BC.out), fun _ => rfl⟩).mono ?_
        rintro e w' ⟨rfl, hw⟩
        obtain rfl := hw
        go_wp2_with fail
        refine (mulC f oo oc _ _ n n 3 one C w35 K35.out.fld (K35.out.at_ (oo, rowsOf n n one) (by simp)) (K35.out.at_ (oc, rowsOf n 3 C) (by simp)) (by omega) (by omega) (by omega) (by omega) (by omega) (by omega) B1.out BC.out).mono ?_
        rintro e w36 ⟨u5, rfl, HM36⟩
        have K36 := Lib.hid (K35.out.add HM36.out.2 HM36.out.1)
        clear HM36 K35
        go_wp2_with fail
        refine (sameC u5 oc _ _ n 3 (mm n one C) C w36 (K36.out.at_ (u5, rowsOf n 3 (mm n one C)) (by simp)) (K36.out.at_ (oc, rowsOf n 3 C) (by simp)) (by omega) (by omega) (mm_bd _ _ _ _ _) BC.out true ⟨fun _ => (one_mm BC.out), fun _ => rfl⟩).mono ?_
        rintro e w' ⟨rfl, hw⟩
        obtain rfl := hw
        go_wp2_with fail
        go_ret
        exact ⟨rfl, K36.out.below⟩
      · skip
        exfalso
        have h := (Found.prod BA.out BB.out (EqM.refl _ _ _) FA.out FB.out HM30.out.1).1
        exact absurd h (by decide)
    · skip
      have K28 := Lib.hid (K27.out.add HM28.out.2.2 HM28.out.2.1)
      have FB := Lib.hid HM28.out.1
      have BY : Hid (Bd n n Xoy) := Lib.hid (FB.out.yes BB.out).1.bx
      clear HM28 K27
      go_wp2_with fail
      refine (mulC f oa ob _ _ n n n A B w28 K28.out.fld (K28.out.at_ (oa, rowsOf n n A) (by simp)) (K28.out.at_ (ob, rowsOf n n B) (by simp)) (by omega) (by omega) (by omega) (by omega) (by omega) (by omega) BA.out BB.out).mono ?_
      rintro e w37 ⟨op, rfl, HM37⟩
      have K37 := Lib.hid (K28.out.add HM37.out.2 HM37.out.1)
      clear HM37 K28
      go_wp2_with fail
      refine (invC f op _ n (mm n A B) w37 K37.out.fld (K37.out.at_ (op, rowsOf n n (mm n A B)) (by simp)) n1 n2 (mm_bd _ _ _ _ _)).mono ?_
      rintro e w38 (⟨rfl, HM38⟩ | ⟨oz, Xoz, rfl, HM38⟩)
      · skip
        exfalso
        obtain ⟨Xz, hz⟩ := HM38.out.1
        have h := (Found.prod BA.out BB.out (EqM.refl _ _ _) FA.out FB.out hz).1
        exact absurd h (by decide)
      · skip
        have K38 := Lib.hid (K37.out.add HM38.out.2.2 HM38.out.2.1)
        have FZ := Lib.hid (Found.prod BA.out BB.out (EqM.refl _ _ _) FA.out FB.out HM38.out.1).2
        have BZ : Hid (Bd n n Xoz) := Lib.hid (HM38.out.1.yes (mm_bd _ _ _ _ _)).1.bx
        clear HM38 K37
        go_wp2_with fail
        refine (mulC f oy ox _ _ n n n Xoy Xox w38 K38.out.fld (K38.out.at_ (oy, rowsOf n n Xoy) (by simp)) (K38.out.at_ (ox, rowsOf n n Xox) (by simp)) (by omega) (by omega) (by omega) (by omega) (by omega) (by omega) BY.out BX.out).mono ?_
        rintro e w39 ⟨q1, rfl, HM39⟩
        have K39 := Lib.hid (K38.out.add HM39.out.2 HM39.out.1)
        clear HM39 K38
        go_wp2_with fail
        refine (sameC oz q1 _ _ n n Xoz (mm n Xoy Xox) w39 (K39.out.at_ (oz, rowsOf n n Xoz) (by simp)) (K39.out.at_ (q1, rowsOf n n (mm n Xoy Xox)) (by simp)) (by omega) (by omega) BZ.out (mm_bd _ _ _ _ _) true ⟨fun _ => (FZ.out (by first | rfl | trivial)), fun _ => rfl⟩).mono ?_
        rintro e w' ⟨rfl, hw⟩
        obtain rfl := hw
        go_wp2_with fail
        refine (ofC n 3 a2 xs2 c2 w39 n1 n2 (by omega) (by omega) (nums_keep HN2.out K39.out.below) hl2).mono ?_
        rintro e w40 ⟨oc, caoc, rfl, HM40⟩
        rw [← HC.out] at HM40
        have K40 := Lib.hid (K39.out.add HM40.out.2 HM40.out.1)
        clear HM40 K39
        go_wp2_with fail
        refine (mulC f oa ob _ _ n n n A B w40 K40.out.fld (K40.out.at_ (oa, rowsOf n n A) (by simp)) (K40.out.at_ (ob, rowsOf n n B) (by simp)) (by omega) (by omega) (by omega) (by omega) (by omega) (by omega) BA.out BB.out).mono ?_
        rintro e w41 ⟨u1, rfl, HM41⟩
        have K41 := Lib.hid (K40.out.add HM41.out.2 HM41.out.1)
        clear HM41 K40
        go_wp2_with fail
        refine (mulC f u1 oc _ _ n n 3 (mm n A B) C w41 K41.out.fld (K41.out.at_ (u1, rowsOf n n (mm n A B)) (by simp)) (K41.out.at_ (oc, rowsOf n 3 C) (by simp)) (by omega) (by omega) (by omega) (by omega) (by omega) (by omega) (mm_bd _ _ _ _ _) BC.out).mono ?_
        rintro e w42 ⟨u2, rfl, HM42⟩
        have K42 := Lib.hid (K41.out.add HM42.out.2 HM42.out.1)
        clear HM42 K41
        go_wp2_with fail
        refine (mulC f ob oc _ _ n n 3 B C w42 K42.out.fld (K42.out.at_ (ob, rowsOf n n B) (by simp)) (K42.out.at_ (oc, rowsOf n 3 C) (by simp)) (by omega) (by omega) (by omega) (by omega) (by omega) (by omega) BB.out BC.out).mono ?_
        rintro e w43 ⟨u3, rfl, HM43⟩
        have K43 := Lib.hid (K42.out.add HM43.out.2 HM43.out.1)
        clear HM43 K42
        go_wp2_with fail
        refine (mulC f oa u3 _ _ n n 3 A (mm n B C) w43 K43.out.fld (K43.out.at_ (oa, rowsOf n n A) (by simp)) (K43.out.at_ (u3, rowsOf n 3 (mm n B C)) (by simp)) (by omega) (by omega) (by omega) (by omega) (by omega) (by omega) BA.out (mm_bd _ _ _ _ _)).mono ?_
        rintro e w44 ⟨u4, rfl, HM44⟩
        have K44 := Lib.hid (K43.out.add HM44.out.2 HM44.out.1)
        clear HM44 K43
        go_wp2_with fail
        refine (sameC u2 u4 _ _ n 3 (mm n (mm n A B) C) (mm n A (mm n B C)) w44 (K44.out.at_ (u2, rowsOf n 3 (mm n (mm n A B) C)) (by simp)) (K44.out.at_ (u4, rowsOf n 3 (mm n A (mm n B C))) (by simp)) (by omega) (by omega) (mm_bd _ _ _ _ _) (mm_bd _ _ _ _ _) true ⟨fun _ => (mm_assoc BA.out BB.out BC.out), fun _ => rfl⟩).mono ?_
        rintro e w' ⟨rfl, hw⟩
        obtain rfl := hw
        go_wp2_with fail
        refine (mulC f oo oc _ _ n n 3 one C w44 K44.out.fld (K44.out.at_ (oo, rowsOf n n one) (by simp)) (K44.out.at_ (oc, rowsOf n 3 C) (by simp)) (by omega) (by omega) (by omega) (by omega) (by omega) (by omega) B1.out BC.out).mono ?_
        rintro e w45 ⟨u5, rfl, HM45⟩
        have K45 := Lib.hid (K44.out.add HM45.out.2 HM45.out.1)
        clear HM45 K44
        go_wp2_with fail
        refine (sameC u5 oc _ _ n 3 (mm n one C) C w45 (K45.out.at_ (u5, rowsOf n 3 (mm n one C)) (by simp)) (K45.out.at_ (oc, rowsOf n 3 C) (by simp)) (by omega) (by omega) (mm_bd _ _ _ _ _) BC.out true ⟨fun _ => (one_mm BC.out), fun _ => rfl⟩).mono ?_
        rintro e w' ⟨rfl, hw⟩
        obtain rfl := hw
        go_wp2_with fail
        go_ret
        exact ⟨rfl, K45.out.below⟩
end Go.Proofs.Ytmnfgbfajhinlaa
