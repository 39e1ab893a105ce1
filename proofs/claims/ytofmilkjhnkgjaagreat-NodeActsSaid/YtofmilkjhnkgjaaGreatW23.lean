import Derived.Test.YtofmilkjhnkgjaaGreatW22
namespace Go.Proofs.YtofmilkjhnkgjaaGreat
open Go.RowKit Go.Sort
set_option maxRecDepth 100000
set_option maxHeartbeats 1000000

/-- Is a block a piece of a stripe, in its place? -/
def HasP (F : Nat → Nat) (s t : Nat) : Prop := IsPc F ∧ (rdP F).s = s ∧ (rdP F).g % 2 = t
def ReadRet (p : Pc) (w : World) (e : Ending) (w' : World) : Prop := ∃ A c, e = .returned (.tuple #[pv (p.s : Int) (p.g : Int) (p.i : Int) A 32 c, .bool true]) ∧ Dat w' A p.D ∧ Below w.heap.size w w'
theorem cread_yes (g q cap : Nat) (F : Nat → Nat) (w : World) (h : Rd w (some ⟨g, q, none⟩) 160 F) (hc : 160 ≤ cap) (hF : ∀ j, j < 160 → F j < 256) (hP : IsPc F) :
    Calls Tryz.prog 85 #[.slice (some ⟨g, q, none⟩) 160 cap] w (ReadRet (rdP F) w) :=
  cread g q cap F w _ h hc hF (fun n => absurd hP n) (fun _ A c _ hd _ hb => ⟨A, c, rfl, hd, hb⟩)
theorem cread_no (g q cap : Nat) (F : Nat → Nat) (w : World) (h : Rd w (some ⟨g, q, none⟩) 160 F) (hc : 160 ≤ cap) (hF : ∀ j, j < 160 → F j < 256) (hP : ¬ IsPc F) :
    Calls Tryz.prog 85 #[.slice (some ⟨g, q, none⟩) 160 cap] w fun e w' => e = .returned (.tuple #[pv 0 0 0 none 0 0, .bool false]) ∧ Below w.heap.size w w' :=
  cread g q cap F w _ h hc hF (fun _ _ hb => ⟨rfl, hb⟩) (fun n => absurd n hP)
/-- What of a stripe's blocks are its pieces. -/
def col (b : Nat → Bool) (P : Nat → Pc) : Nat → List Pc
  | 0 => []
  | k + 1 => if b k then col b P k ++ [P k] else col b P k
theorem col_len (b : Nat → Bool) (P : Nat → Pc) : ∀ k, (col b P k).length ≤ k
  | 0 => Nat.le_refl _
  | k + 1 => by
    have := col_len b P k
    unfold col
    split
    · simp; omega
    · omega
theorem col_yes {b : Nat → Bool} {P : Nat → Pc} {k : Nat} (h : b k = true) : col b P (k + 1) = col b P k ++ [P k] := by
  show (if b k then _ else _) = _
  rw [if_pos h]
theorem col_no {b : Nat → Bool} {P : Nat → Pc} {k : Nat} (h : b k = false) : col b P (k + 1) = col b P k := by
  show (if b k then _ else _) = _
  rw [if_neg (by rw [h]; decide)]
/-- All bytes of a disk are bytes. -/
def Bd (d : Disk) : Prop := ∀ k j, j < 160 → d.now k j < 256
def CGetRet (l : List Pc) (w : World) (e : Ending) (w' : World) : Prop := ∃ v, e = .returned v ∧ PL w' w.heap.size v l ∧ Below w.heap.size w w'
/-- chunk.Get of a stripe that has blocks. -/
theorem cget {w : World} {p : Nat} {S : List Nat} {N : Nat} {d : Disk} {nw : Nat} (h : Plt w p S N d nw) (hbd : Bd d) (s : Nat) (hs : 2 * s + 1 < N) (b_ : Nat → Bool) (hb : ∀ k, k < 2 → (b_ k = true ↔ HasP (d.now (2 * s + k)) s k)) :
    Calls Tryz.prog 57 #[.pointer (some ⟨p, 0, none⟩), .int .i64 (s : Int)] w (CGetRet (srt (col b_ (fun k => rdP (d.now (2 * s + k))) 2)) w) := by
  have hN : N ≤ 1000 := by obtain ⟨db, nb, pv, h1, _, _⟩ := h; exact h1.n2
  have HP := Lib.hid h
  have HBD := Lib.hid hbd
  have HBB := Lib.hid hb
  obtain ⟨H, hH⟩ : ∃ H, w.heap.size = H := ⟨_, rfl⟩
  have HH := Lib.hid hH
  rw [show CGetRet (srt (col b_ (fun k => rdP (d.now (2 * s + k))) 2)) w = fun e w' => ∃ v, e = .returned v ∧ PL w' H v (srt (col b_ (fun k => rdP (d.now (2 * s + k))) 2)) ∧ Below H w w' by rw [← hH]; rfl]
  obtain ⟨L, hL⟩ : ∃ L : Nat → List Pc, L = col b_ (fun k => rdP (d.now (2 * s + k))) := ⟨_, rfl⟩
  have HL := Lib.hid hL
  rw [← hL]
  clear h hbd hb hH hL
  go_enter Tryz.func57, Tryz.ntmps57
  go_wp2_with fail
  go_loopg [5, 14] 2 (fun q s5 s14 v => ∃ i : Nat, s14 = .int .i64 (i : Int) ∧ i ≤ 2 ∧ q = 2 - i ∧ Hid (LP v H s5 (L i) ∧ Below H w v))
  case atStart => exact ⟨0, rfl, by omega, rfl, Lib.hid ⟨by rw [HL.out]; exact LP.nil, by rw [← HH.out]; exact Below.refl _ _⟩⟩
  case round =>
    obtain ⟨i, rfl, hi, rfl, HV⟩ := hrel
    by_cases hlt : i < 2
    · have hl : (i : Int) < 2 := by omega
      have HB1 : Hid (Below w.heap.size w wr) := Lib.hid (by rw [HH.out]; exact HV.out.2)
      have HP1 := Lib.hid (HP.out.below HB1.out)
      have HPL := Lib.hid (cplace (s : Int) (i : Int) wr (by omega) (by omega) (by omega) (by omega))
      have e1 : 2 * (s : Int) + (i : Int) % 2 = ((2 * s + i : Nat) : Int) := by omega
      rw [e1] at HPL
      clear e1
      obtain ⟨at_, hat⟩ : ∃ at_, 2 * s + i = at_ := ⟨_, rfl⟩
      have HAT := Lib.hid hat
      have HRD := Lib.hid (dread at_ HP1.out (by omega))
      have hbi := HBB.out i hlt
      have HFB : Hid (∀ j, j < 160 → d.now at_ j < 256) := Lib.hid (HBD.out at_)
      rw [hat] at hbi HPL
      have HLS : Hid (L (i + 1) = if b_ i then L i ++ [rdP (d.now at_)] else L i) := Lib.hid (by rw [HL.out, ← hat]; rfl)
      obtain ⟨F, hF⟩ : ∃ F, d.now at_ = F := ⟨_, rfl⟩
      rw [hF] at HRD hbi HFB HLS
      clear hat hF
      have HBI := Lib.hid hbi
      clear hbi
      go_wp2_with fail
      refine HPL.out.mono ?_
      rintro e w' ⟨rfl, hw⟩
      obtain rfl := hw.symm
      go_wp2_with fail
      refine HRD.out.mono ?_
      rintro e w2 ⟨g2, cap2, rfl, k2, b2, l2, hc2⟩
      try dsimp only
      have HB2 : Hid (Below H w w2) := Lib.hid (HV.out.2.trans (b2.mono (by rw [← HH.out]; exact HB1.out.size)))
      have HLP2 := Lib.hid (HV.out.1.below b2)
      have HRD2 := Lib.hid k2.rd
      clear k2 b2 l2
      have h160 : 160 ≤ cap2 := hc2
      clear hc2
      by_cases hP : IsPc F
      · have HRY := Lib.hid (cread_yes g2 0 cap2 F w2 HRD2.out h160 HFB.out hP)
        have HPP := Lib.hid hP
        clear hP
        obtain ⟨x, hx⟩ : ∃ x, rdP F = x := ⟨_, rfl⟩
        have HX := Lib.hid hx
        rw [hx] at HRY HLS
        clear hx
        go_wp2_with fail
        refine HRY.out.mono ?_
        rintro e w3 ⟨A3, c3, rfl, d3, b3⟩
        try dsimp only
        have HB3 : Hid (Below H w w3) := Lib.hid (HB2.out.trans (b3.mono (by rw [← HH.out]; exact HB2.out.size)))
        have HLP3 := Lib.hid (HLP2.out.below b3)
        have HD3 := Lib.hid d3
        have bg : x.g ≤ 1099511627776 := by have h := HPP.out; unfold IsPc at h; have := h.2.2.2.2.2.2.1; rw [HX.out] at this; exact this
        clear b3 d3
        obtain ⟨w4, hw4⟩ : ∃ w4, w3.alloc (.cells #[.int .i64 (x.s : Int), .int .i64 (x.g : Int), .int .i64 (x.i : Int), .slice A3 32 c3] 74) = w4 := ⟨_, rfl⟩
        have HW4 := Lib.hid hw4
        have b4 : Below w3.heap.size w3 w4 := by rw [← hw4]; exact (Below.refl _ _).alloc (Nat.le_refl _) _
        have HK4 : Hid (PV w4 w3.heap.size (x.s : Int) (x.g : Int) (x.i : Int) A3 32 c3) := Lib.hid (by rw [← hw4]; exact PV.new w3 _ _ _ _ _ _)
        have HB4 : Hid (Below H w w4) := Lib.hid (HB3.out.trans (b4.mono (by rw [← HH.out]; exact HB3.out.size)))
        have HLP4 := Lib.hid (HLP3.out.below b4)
        have HD4 := Lib.hid (HD3.out.below b4)
        have z0 := HK4.out.c0
        have z1 := HK4.out.c1
        have z2 := HK4.out.c2
        have z3 := HK4.out.c3
        obtain ⟨b, hb3⟩ : ∃ b, w3.heap.size = b := ⟨_, rfl⟩
        have HB3S := Lib.hid hb3
        rw [hb3] at z0 z1 z2 z3 HK4
        clear hw4 b4 hb3
        by_cases hs' : x.s = s
        · have es : ((x.s : Int) == (s : Int)) = true := beq_iff_eq.2 (by omega)
          have HPL2 := Lib.hid (cplace (s : Int) (x.g : Int) w4 (by omega) (by omega) (by omega) (by omega))
          have HSS := Lib.hid hs'
          clear hs'
          obtain ⟨k2, hk2⟩ : ∃ k2 : Nat, 2 * s + x.g % 2 = k2 := ⟨_, rfl⟩
          have e2 : 2 * (s : Int) + (x.g : Int) % 2 = (k2 : Int) := by omega
          rw [e2] at HPL2
          clear e2
          have HK2 := Lib.hid hk2
          clear hk2
          by_cases hk : k2 = at_
          · have ek : ((k2 : Int) == (at_ : Int)) = true := beq_iff_eq.2 (by omega)
            have HBT : Hid (b_ i = true) := Lib.hid (HBI.out.2 ⟨HPP.out, by rw [HX.out]; exact HSS.out, by rw [HX.out]; have := HK2.out; have := HAT.out; omega⟩)
            rw [HBT.out] at HLS
            clear hk
            go_wp2_with fail
            rw [HW4.out, HB3S.out]
            have b5 : Below w4.heap.size w4 (w4.alloc (.cells #[.int .i64 (x.s : Int), .int .i64 (x.g : Int), .int .i64 (x.i : Int), .slice A3 32 c3] 74)) := (Below.refl _ _).alloc (Nat.le_refl _) _
            have HK5 := Lib.hid (PV.new w4 (x.s : Int) (x.g : Int) (x.i : Int) A3 32 c3)
            have HB5 : Hid (Below H w (w4.alloc (.cells #[.int .i64 (x.s : Int), .int .i64 (x.g : Int), .int .i64 (x.i : Int), .slice A3 32 c3] 74))) := Lib.hid (HB4.out.trans (b5.mono (by rw [← HH.out]; exact HB4.out.size)))
            have HL5 := Lib.hid (HLP4.out.below b5)
            have HD5 := Lib.hid (HD4.out.below b5)
            have hlen : Hid ((L i).length ≤ 1000000) := Lib.hid (by rw [HL.out]; exact Nat.le_trans (col_len _ _ _) (by omega))
            clear b5
            refine HPL2.out.mono ?_
            rintro e w' ⟨rfl, hw⟩
            obtain rfl := hw.symm
            go_wp2_with (at_builtin; refine append_pc _ rfl (.tmp 46) (.tmp 48) rfl H u5 (L i) x rfl HL5.out w4.heap.size A3 c3 rfl HK5.out HD5.out hlen.out (by rw [← HH.out]; exact HB5.out.size) ?_; intro v' w' hl' hb'; have HLE := Lib.hid hl'; have HBE := Lib.hid (hb' w HB5.out); clear hl' hb')
            go_roundg (2 - (i + 1))
            case measure => omega
            case rel => exact ⟨i + 1, by go_num, by omega, rfl, Lib.hid ⟨by rw [HLS.out]; exact HLE.out, HBE.out⟩⟩
          · have ek : ((k2 : Int) == (at_ : Int)) = false := beq_eq_false_iff_ne.2 (by omega)
            have HBF : Hid (b_ i = false) := Lib.hid (by
              rcases hbv : b_ i with _ | _
              · rfl
              · have := (HBI.out.1 hbv).2.2
                rw [HX.out] at this
                exact absurd (by have := HK2.out; have := HAT.out; omega) hk)
            rw [HBF.out] at HLS
            clear hk
            go_wp2_with fail
            rw [HW4.out, HB3S.out]
            refine HPL2.out.mono ?_
            rintro e w' ⟨rfl, hw⟩
            obtain rfl := hw.symm
            go_wp2_with fail
            go_roundg (2 - (i + 1))
            case measure => omega
            case rel => exact ⟨i + 1, by go_num, by omega, rfl, Lib.hid ⟨by rw [HLS.out]; exact HLP4.out, HB4.out⟩⟩
        · have es : ((x.s : Int) == (s : Int)) = false := beq_eq_false_iff_ne.2 (by omega)
          have HBF : Hid (b_ i = false) := Lib.hid (by
            rcases hbv : b_ i with _ | _
            · rfl
            · have := (HBI.out.1 hbv).2.1
              rw [HX.out] at this
              exact absurd this hs')
          rw [HBF.out] at HLS
          clear hs'
          go_wp2_with fail
          go_roundg (2 - (i + 1))
          case measure => omega
          case rel => exact ⟨i + 1, by go_num, by omega, rfl, Lib.hid ⟨by rw [HLS.out, HW4.out]; exact HLP4.out, by rw [HW4.out]; exact HB4.out⟩⟩
      · have HRN := Lib.hid (cread_no g2 0 cap2 F w2 HRD2.out h160 HFB.out hP)
        have HBF : Hid (b_ i = false) := Lib.hid (by
          rcases hbv : b_ i with _ | _
          · rfl
          · exact absurd (HBI.out.1 hbv).1 hP)
        rw [HBF.out] at HLS
        clear hP
        go_wp2_with fail
        refine HRN.out.mono ?_
        rintro e w3 ⟨rfl, b3⟩
        try dsimp only
        have HB3 : Hid (Below H w w3) := Lib.hid (HB2.out.trans (b3.mono (by rw [← HH.out]; exact HB2.out.size)))
        have HLP3 := Lib.hid (HLP2.out.below b3)
        clear b3
        go_wp2_with fail
        go_roundg (2 - (i + 1))
        case measure => omega
        case rel => exact ⟨i + 1, by go_num, by omega, rfl, Lib.hid ⟨by rw [HLS.out]; exact HLP3.out.below ((Below.refl _ _).alloc (Nat.le_refl _) _), HB3.out.alloc (by rw [← HH.out]; exact HB3.out.size) _⟩⟩
    · obtain rfl : i = 2 := by omega
      have HS := Lib.hid (csortl (L 2) u5 H wr HV.out.1.pl (by rw [HL.out]; exact col_len _ _ _) (by rw [← HH.out]; exact HV.out.2.size))
      go_wp2_with fail
      refine HS.out.mono ?_
      rintro e w2 ⟨rfl, hp2, hb2⟩
      try dsimp only
      have HP2 := Lib.hid hp2
      have HB2 : Hid (Below H w w2) := Lib.hid (hb2 w HV.out.2)
      clear hp2 hb2
      go_wp2_with fail
      go_ret
      exact ⟨_, rfl, HP2.out, HB2.out⟩
end Go.Proofs.YtofmilkjhnkgjaaGreat
namespace Go.Proofs.YtofmilkjhnkgjaaGreat
open Go.RowKit Go.Sort
set_option maxRecDepth 100000
set_option maxHeartbeats 1000000

/-- chunk.Get of no platter. -/
theorem cget_nil (s : Int) (w : World) : Calls Tryz.prog 57 #[.pointer none, .int .i64 s] w fun e w' => e = .returned (.slice none 0 0) ∧ w' = w := by
  go_enter Tryz.func57, Tryz.ntmps57
  go_wp2_with fail
  go_ret
  exact ⟨rfl, rfl⟩
/-- chunk.Get of a stripe that has no blocks. -/
theorem cget_out {w : World} {p : Nat} {S : List Nat} {N : Nat} {d : Disk} {nw : Nat} (h : Plt w p S N d nw) (s : Int) (s0 : -1000000 ≤ s) (s1 : s < 1000000) (hs : ∀ i : Int, 0 ≤ i → i < 2 → ¬ (0 ≤ 2 * s + i ∧ 2 * s + i < (N : Int))) :
    Calls Tryz.prog 57 #[.pointer (some ⟨p, 0, none⟩), .int .i64 s] w fun e w' => e = .returned (.slice none 0 0) ∧ Below w.heap.size w w' := by
  have HP := Lib.hid h
  have HS := Lib.hid hs
  have HSO := Lib.hid (fun W => csort none 0 0 (.func (.func 87) #[] #[]) W (fun e w' => e = .returned (.tuple #[]) ∧ w' = W) (by omega) ((cinsert1 none 0 0 _ W (by omega)).mono (by rintro e w' ⟨rfl, rfl⟩; exact ⟨rfl, rfl, rfl⟩)))
  clear h hs
  go_enter Tryz.func57, Tryz.ntmps57
  go_wp2_with fail
  go_loopg [5, 14] 2 (fun q s5 s14 v => ∃ i : Nat, s14 = .int .i64 (i : Int) ∧ i ≤ 2 ∧ q = 2 - i ∧ s5 = .slice none 0 0 ∧ Hid (Below w.heap.size w v))
  case atStart => exact ⟨0, rfl, by omega, rfl, rfl, Lib.hid (Below.refl _ _)⟩
  case round =>
    obtain ⟨i, rfl, hi, rfl, rfl, HV⟩ := hrel
    by_cases hlt : i < 2
    · have hl : (i : Int) < 2 := by omega
      have HP1 := Lib.hid (HP.out.below HV.out)
      have HPL := Lib.hid (cplace s (i : Int) wr (by omega) (by omega) (by omega) (by omega))
      have HRD := Lib.hid (dread_no (2 * s + (i : Int) % 2) HP1.out (by have := HS.out ((i : Int) % 2) (by omega) (by omega); omega))
      have HCR := Lib.hid (cread_len none 0 0 wr (by omega))
      obtain ⟨k, hk⟩ : ∃ k, 2 * s + (i : Int) % 2 = k := ⟨_, rfl⟩
      rw [hk] at HPL HRD
      clear hk
      unfold pv at HCR
      go_wp2_with fail
      refine HPL.out.mono ?_
      rintro e w' ⟨rfl, hw⟩
      obtain rfl := hw.symm
      go_wp2_with fail
      refine HRD.out.mono ?_
      rintro e w' ⟨rfl, hw⟩
      obtain rfl := hw.symm
      go_wp2_with fail
      refine HCR.out.mono ?_
      rintro e w2 ⟨rfl, hb2⟩
      try dsimp only
      have HB2 : Hid (Below w.heap.size w w2) := Lib.hid (HV.out.trans (hb2.mono HV.out.size))
      clear hb2
      go_wp2_with fail
      go_roundg (2 - (i + 1))
      case measure => omega
      case rel => exact ⟨i + 1, by go_num, by omega, rfl, rfl, Lib.hid (HB2.out.alloc HB2.out.size _)⟩
    · obtain rfl : i = 2 := by omega
      go_wp2_with fail
      refine (HSO.out wr).mono ?_
      rintro e w' ⟨rfl, hw⟩
      obtain rfl := hw.symm
      try dsimp only
      go_wp2_with fail
      go_ret
      exact ⟨rfl, HV.out⟩
end Go.Proofs.YtofmilkjhnkgjaaGreat
