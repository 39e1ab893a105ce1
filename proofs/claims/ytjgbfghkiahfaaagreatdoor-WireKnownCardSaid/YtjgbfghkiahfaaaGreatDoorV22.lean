import Derived.Test.YtjgbfghkiahfaaaGreatDoorV21
namespace Go.Proofs.YtjgbfghkiahfaaaGreatDoor
open Go.RowKit Go.Sort
set_option maxRecDepth 100000
set_option maxHeartbeats 1000000

/-- Is a block a piece of a stripe, in its place? -/
def HasP (F : Nat → Nat) (s t : Nat) : Prop := IsPc F ∧ (rdP F).s = s ∧ (rdP F).g % 2 = t
def ReadRet (p : Pc) (w : World) (e : Ending) (w' : World) : Prop := ∃ A c, e = .returned (.tuple #[pv (p.s : Int) (p.g : Int) (p.i : Int) A 32 c, .bool true]) ∧ Dat w' A p.D ∧ Below w.heap.size w w'
theorem cread_yes (g q cap : Nat) (F : Nat → Nat) (w : World) (h : Rd w (some ⟨g, q, none⟩) 160 F) (hc : 160 ≤ cap) (hF : ∀ j, j < 160 → F j < 256) (hP : IsPc F) :
    Calls Tryz.prog 101 #[.slice (some ⟨g, q, none⟩) 160 cap] w (ReadRet (rdP F) w) :=
  cread g q cap F w _ h hc hF (fun n => absurd hP n) (fun _ A c _ hd _ hb => ⟨A, c, rfl, hd, hb⟩)
theorem cread_no (g q cap : Nat) (F : Nat → Nat) (w : World) (h : Rd w (some ⟨g, q, none⟩) 160 F) (hc : 160 ≤ cap) (hF : ∀ j, j < 160 → F j < 256) (hP : ¬ IsPc F) :
    Calls Tryz.prog 101 #[.slice (some ⟨g, q, none⟩) 160 cap] w fun e w' => e = .returned (.tuple #[pv 0 0 0 none 0 0, .bool false]) ∧ Below w.heap.size w w' :=
  cread g q cap F w _ h hc hF (fun _ _ hb => ⟨rfl, hb⟩) (fun n => absurd n hP)
/-- What of a stripe's blocks are its pieces. -/
def col (b : Nat → Bool) (P : Nat → Pc) : Nat → List Pc
  | 0 => []
  | k + 1 => if b k then col b P k ++ [P k] else col b P k
theorem col_len (b : Nat → Bool) (P : Nat → Pc) : ∀ k, (col b P k).length ≤ k
  | 0 => Nat.le_refl _
  | k + 1 => by
    have := col_len b P k
    unfold col
    split
    · simp; omega
    · omega
theorem col_yes {b : Nat → Bool} {P : Nat → Pc} {k : Nat} (h : b k = true) : col b P (k + 1) = col b P k ++ [P k] := by
  show (if b k then _ else _) = _
  rw [if_pos h]
theorem col_no {b : Nat → Bool} {P : Nat → Pc} {k : Nat} (h : b k = false) : col b P (k + 1) = col b P k := by
  show (if b k then _ else _) = _
  rw [if_neg (by rw [h]; decide)]
/-- All bytes of a disk are bytes. -/
def Bd (d : Disk) : Prop := ∀ k j, j < 160 → d.now k j < 256
def CGetRet (l : List Pc) (w : World) (e : Ending) (w' : World) : Prop := ∃ v, e = .returned v ∧ PL w' w.heap.size v l ∧ Below w.heap.size w w'
/-- chunk.Get of a stripe that has blocks. -/
theorem cget {w : World} {p : Nat} {S : List Nat} {N : Nat} {d : Disk} {nw : Nat} (h : Plt w p S N d nw) (hbd : Bd d) (s : Nat) (hs : 2 * s + 1 < N) (b_ : Nat → Bool) (hb : ∀ k, k < 2 → (b_ k = true ↔ HasP (d.now (2 * s + k)) s k)) :
    Calls Tryz.prog 86 #[.pointer (some ⟨p, 0, none⟩), .int .i64 (s : Int)] w (CGetRet (srt (col b_ (fun k => rdP (d.now (2 * s + k))) 2)) w) := by
  have hN : N ≤ 1000 := by obtain ⟨db, nb, pv, h1, _, _⟩ := h; exact h1.n2
  have HP := Lib.hid h
  have HBD := Lib.hid hbd
  have HBB := Lib.hid hb
  obtain ⟨H, hH⟩ : ∃ H, w.heap.size = H := ⟨_, rfl⟩
  have HH := Lib.hid hH
  rw [show CGetRet (srt (col b_ (fun k => rdP (d.now (2 * s + k))) 2)) w = fun e w' => ∃ v, e = .returned v ∧ PL w' H v (srt (col b_ (fun k => rdP (d.now (2 * s + k))) 2)) ∧ Below H w w' by rw [← hH]; rfl]
  obtain ⟨L, hL⟩ : ∃ L : Nat → List Pc, L = col b_ (fun k => rdP (d.now (2 * s + k))) := ⟨_, rfl⟩
  have HL := Lib.hid hL
  rw [← hL]
  clear h hbd hb hH hL
  go_enter Tryz.func86, Tryz.ntmps86
  go_wp2_with fail
  go_loopg [5, 14] 2 (fun q s5 s14 v => ∃ i : Nat, s14 = .int .i64 (i : Int) ∧ i ≤ 2 ∧ q = 2 - i ∧ Hid (LP v H s5 (L i) ∧ Below H w v))
  case atStart => exact ⟨0, rfl, by omega, rfl, Lib.hid ⟨by rw [HL.out]; exact LP.nil, by rw [← HH.out]; exact Below.refl _ _⟩⟩
  case round =>
    obtain ⟨i, rfl, hi, rfl, HV⟩ := hrel
    by_cases hlt : i < 2
    · have hl : (i : Int) < 2 := by omega
      have HB1 : Hid (Below w.heap.size w wr) := Lib.hid (by rw [HH.out]; exact HV.out.2)
      have HP1 := Lib.hid (HP.out.below HB1.out)
      have HPL := Lib.hid (cplace (s : Int) (i : Int) wr (by omega) (by omega) (by omega) (by omega))
      have e1 : 2 * (s : Int) + (i : Int) % 2 = ((2 * s + i : Nat) : Int) := by omega
      rw [e1] at HPL
      clear e1
      obtain ⟨at_, hat⟩ : ∃ at_, 2 * s + i = at_ := ⟨_, rfl⟩
      have HAT := Lib.hid hat
      have HRD := Lib.hid (dread at_ HP1.out (by omega))
      have hbi := HBB.out i hlt
      have HFB : Hid (∀ j, j < 160 → d.now at_ j < 256) := Lib.hid (HBD.out at_)
      rw [hat] at hbi HPL
      have HLS : Hid (L (i + 1) = if b_ i then L i ++ [rdP (d.now at_)] else L i) := Lib.hid (by rw [HL.out, ← hat]; rfl)
      obtain ⟨F, hF⟩ : ∃ F, d.now at_ = F := ⟨_, rfl⟩
      rw [hF] at HRD hbi HFB HLS
      clear hat hF
      have HBI := Lib.hid hbi
      clear hbi
      go_wp2_with fail
      refine HPL.out.mono ?_
      rintro e w' ⟨rfl, hw⟩
      obtain rfl := hw.symm
      go_wp2_with fail
      refine HRD.out.mono ?_
      rintro e w2 ⟨g2, cap2, rfl, k2, b2, l2, hc2⟩
      try dsimp only
      have HB2 : Hid (Below H w w2) := Lib.hid (HV.out.2.trans (b2.mono (by rw [← HH.out]; exact HB1.out.size)))
      have HLP2 := Lib.hid (HV.out.1.below b2)
      have HRD2 := Lib.hid k2.rd
      clear k2 b2 l2
      have h160 : 160 ≤ cap2 := hc2
      clear hc2
      by_cases hP : IsPc F
      · have HRY := Lib.hid (cread_yes g2 0 cap2 F w2 HRD2.out h160 HFB.out hP)
        have HPP := Lib.hid hP
        clear hP
        obtain ⟨x, hx⟩ : ∃ x, rdP F = x := ⟨_, rfl⟩
        have HX := Lib.hid hx
        rw [hx] at HRY HLS
        clear hx
        go_wp2_with fail
        refine HRY.out.mono ?_
        rintro e w3 ⟨A3, c3, rfl, d3, b3⟩
        try dsimp only
        have HB3 : Hid (Below H w w3) := Lib.hid (HB2.out.trans (b3.mono (by rw [← HH.out]; exact HB2.out.size)))
        have HLP3 := Lib.hid (HLP2.out.below b3)
        have HD3 := Lib.hid d3
        have bg : x.g ≤ 1099511627776 := by have h := HPP.out; unfold IsPc at h; have := h.2.2.2.2.2.2.1; rw [HX.out] at this; exact this
        clear b3 d3
        obtain ⟨w4, hw4⟩ : ∃ w4, w3.alloc (.cells #[.int .i64 (x.s : Int), .int .i64 (x.g : Int), .int .i64 (x.i : Int), .slice A3 32 c3] 117) = w4 := ⟨_, rfl⟩
        have HW4 := Lib.hid hw4
        have b4 : Below w3.heap.size w3 w4 := by rw [← hw4]; exact (Below.refl _ _).alloc (Nat.le_refl _) _
        have HK4 : Hid (PV w4 w3.heap.size (x.s : Int) (x.g : Int) (x.i : Int) A3 32 c3) := Lib.hid (by rw [← hw4]; exact PV.new w3 _ _ _ _ _ _)
        have HB4 : Hid (Below H w w4) := Lib.hid (HB3.out.trans (b4.mono (by rw [← HH.out]; exact HB3.out.size)))
        have HLP4 := Lib.hid (HLP3.out.below b4)
        have HD4 := Lib.hid (HD3.out.below b4)
        have z0 := HK4.out.c0
        have z1 := HK4.out.c1
        have z2 := HK4.out.c2
        have z3 := HK4.out.c3
        obtain ⟨b, hb3⟩ : ∃ b, w3.heap.size = b := ⟨_, rfl⟩
        have HB3S := Lib.hid hb3
        rw [hb3] at z0 z1 z2 z3 HK4
        clear hw4 b4 hb3
        by_cases hs' : x.s = s
        · have es : ((x.s : Int) == (s : Int)) = true := beq_iff_eq.2 (by omega)
          have HPL2 := Lib.hid (cplace (s : Int) (x.g : Int) w4 (by omega) (by omega) (by omega) (by omega))
          have HSS := Lib.hid hs'
          clear hs'
          obtain ⟨k2, hk2⟩ : ∃ k2 : Nat, 2 * s + x.g % 2 = k2 := ⟨_, rfl⟩
          have e2 : 2 * (s : Int) + (x.g : Int) % 2 = (k2 : Int) := by omega
          rw [e2] at HPL2
          clear e2
          have HK2 := Lib.hid hk2
          clear hk2
          by_cases hk : k2 = at_
          · have ek : ((k2 : Int) == (at_ : Int)) = true := beq_iff_eq.2 (by omega)
            have HBT : Hid (b_ i = true) := Lib.hid (HBI.out.2 ⟨HPP.out, by rw [HX.out]; exact HSS.out, by rw [HX.out]; have := HK2.out; have := HAT.out; omega⟩)
            rw [HBT.out] at HLS
            clear hk
            go_wp2_with fail
            rw [HW4.out, HB3S.out]
            have b5 : Below w4.heap.size w4 (w4.alloc (.cells #[.int .i64 (x.s : Int), .int .i64 (x.g : Int), .int .i64 (x.i : Int), .slice A3 32 c3] 117)) := (Below.refl _ _).alloc (Nat.le_refl _) _
            have HK5 := Lib.hid (PV.new w4 (x.s : Int) (x.g : Int) (x.i : Int) A3 32 c3)
            have HB5 : Hid (Below H w (w4.alloc (.cells #[.int .i64 (x.s : Int), .int .i64 (x.g : Int), .int .i64 (x.i : Int), .slice A3 32 c3] 117))) := Lib.hid (HB4.out.trans (b5.mono (by rw [← HH.out]; exact HB4.out.size)))
            have HL5 := Lib.hid (HLP4.out.below b5)
            have HD5 := Lib.hid (HD4.out.below b5)
            have hlen : Hid ((L i).length ≤ 1000000) := Lib.hid (by rw [HL.out]; exact Nat.le_trans (col_len _ _ _) (by omega))
            clear b5
            refine HPL2.out.mono ?_
            rintro e w' ⟨rfl, hw⟩
            obtain rfl := hw.symm
            go_wp2_with (at_builtin; refine append_pc _ rfl (.tmp 46) (.tmp 48) rfl H u5 (L i) x rfl HL5.out w4.heap.size A3 c3 rfl HK5.out HD5.out hlen.out (by rw [← HH.out]; exact HB5.out.size) ?_; intro v' w' hl' hb'; have HLE := Lib.hid hl'; have HBE := Lib.hid (hb' w HB5.out); clear hl' hb')
            go_roundg (2 - (i + 1))
            case measure => omega
            case rel => exact ⟨i + 1, by go_num, by omega, rfl, Lib.hid ⟨by rw [HLS.out]; exact HLE.out, HBE.out⟩⟩
          · have ek : ((k2 : Int) == (at_ : Int)) = false := beq_eq_false_iff_ne.2 (by omega)
            have HBF : Hid (b_ i = false) := Lib.hid (by
              rcases hbv : b_ i with _ | _
              · rfl
              · have := (HBI.out.1 hbv).2.2
                rw [HX.out] at this
                exact absurd (by have := HK2.out; have := HAT.out; omega) hk)
            rw [HBF.out] at HLS
            clear hk
            go_wp2_with fail
            rw [HW4.out, HB3S.out]
            refine HPL2.out.mono ?_
            rintro e w' ⟨rfl, hw⟩
            obtain rfl := hw.symm
            go_wp2_with fail
            go_roundg (2 - (i + 1))
            case measure => omega
            case rel => exact ⟨i + 1, by go_num, by omega, rfl, Lib.hid ⟨by rw [HLS.out]; exact HLP4.out, HB4.out⟩⟩
        · have es : ((x.s : Int) == (s : Int)) = false := beq_eq_false_iff_ne.2 (by omega)
          have HBF : Hid (b_ i = false) := Lib.hid (by
            rcases hbv : b_ i with _ | _
            · rfl
            · have := (HBI.out.1 hbv).2.1
              rw [HX.out] at this
              exact absurd this hs')
          rw [HBF.out] at HLS
          clear hs'
          go_wp2_with fail
          go_roundg (2 - (i + 1))
          case measure => omega
          case rel => exact ⟨i + 1, by go_num, by omega, rfl, Lib.hid ⟨by rw [HLS.out, HW4.out]; exact HLP4.out, by rw [HW4.out]; exact HB4.out⟩⟩
      · have HRN := Lib.hid (cread_no g2 0 cap2 F w2 HRD2.out h160 HFB.out hP)
        have HBF : Hid (b_ i = false) := Lib.hid (by
          rcases hbv : b_ i with _ | _
          · rfl
          · exact absurd (HBI.out.1 hbv).1 hP)
        rw [HBF.out] at HLS
        clear hP
        go_wp2_with fail
        refine HRN.out.mono ?_
        rintro e w3 ⟨rfl, b3⟩
        try dsimp only
        have HB3 : Hid (Below H w w3) := Lib.hid (HB2.out.trans (b3.mono (by rw [← HH.out]; exact HB2.out.size)))
        have HLP3 := Lib.hid (HLP2.out.below b3)
        clear b3
        go_wp2_with fail
        go_roundg (2 - (i + 1))
        case measure => omega
        case rel => exact ⟨i + 1, by go_num, by omega, rfl, Lib.hid ⟨by rw [HLS.out]; exact HLP3.out.below ((Below.refl _ _).alloc (Nat.le_refl _) _), HB3.out.alloc (by rw [← HH.out]; exact HB3.out.size) _⟩⟩
    · obtain rfl : i = 2 := by omega
      have HS := Lib.hid (csortl (L 2) u5 H wr HV.out.1.pl (by rw [HL.out]; exact col_len _ _ _) (by rw [← HH.out]; exact HV.out.2.size))
      go_wp2_with fail
      refine HS.out.mono ?_
      rintro e w2 ⟨rfl, hp2, hb2⟩
      try dsimp only
      have HP2 := Lib.hid hp2
      have HB2 : Hid (Below H w w2) := Lib.hid (hb2 w HV.out.2)
      clear hp2 hb2
      go_wp2_with fail
      go_ret
      exact ⟨_, rfl, HP2.out, HB2.out⟩
end Go.Proofs.YtjgbfghkiahfaaaGreatDoor
namespace Go.Proofs.YtjgbfghkiahfaaaGreatDoor
open Go.RowKit Go.Sort
set_option maxRecDepth 100000
set_option maxHeartbeats 1000000

/-- chunk.Get of no platter. -/
theorem cget_nil (s : Int) (w : World) : Calls Tryz.prog 86 #[.pointer none, .int .i64 s] w fun e w' => e = .returned (.slice none 0 0) ∧ w' = w := by
  go_enter Tryz.func86, Tryz.ntmps86
  go_wp2_with fail
  go_ret
  exact ⟨rfl, rfl⟩
/-- chunk.Get of a stripe that has no blocks. -/
theorem cget_out {w : World} {p : Nat} {S : List Nat} {N : Nat} {d : Disk} {nw : Nat} (h : Plt w p S N d nw) (s : Int) (s0 : -1000000 ≤ s) (s1 : s < 1000000) (hs : ∀ i : Int, 0 ≤ i → i < 2 → ¬ (0 ≤ 2 * s + i ∧ 2 * s + i < (N : Int))) :
    Calls Tryz.prog 86 #[.pointer (some ⟨p, 0, none⟩), .int .i64 s] w fun e w' => e = .returned (.slice none 0 0) ∧ Below w.heap.size w w' := by
  have HP := Lib.hid h
  have HS := Lib.hid hs
  have HSO := Lib.hid (fun W => csort none 0 0 (.func (.func 103) #[] #[]) W (fun e w' => e = .returned (.tuple #[]) ∧ w' = W) (by omega) ((cinsert1 none 0 0 _ W (by omega)).mono (by rintro e w' ⟨rfl, rfl⟩; exact ⟨rfl, rfl, rfl⟩)))
  clear h hs
  go_enter Tryz.func86, Tryz.ntmps86
  go_wp2_with fail
  go_loopg [5, 14] 2 (fun q s5 s14 v => ∃ i : Nat, s14 = .int .i64 (i : Int) ∧ i ≤ 2 ∧ q = 2 - i ∧ s5 = .slice none 0 0 ∧ Hid (Below w.heap.size w v))
  case atStart => exact ⟨0, rfl, by omega, rfl, rfl, Lib.hid (Below.refl _ _)⟩
  case round =>
    obtain ⟨i, rfl, hi, rfl, rfl, HV⟩ := hrel
    by_cases hlt : i < 2
    · have hl : (i : Int) < 2 := by omega
      have HP1 := Lib.hid (HP.out.below HV.out)
      have HPL := Lib.hid (cplace s (i : Int) wr (by omega) (by omega) (by omega) (by omega))
      have HRD := Lib.hid (dread_no (2 * s + (i : Int) % 2) HP1.out (by have := HS.out ((i : Int) % 2) (by omega) (by omega); omega))
      have HCR := Lib.hid (cread_len none 0 0 wr (by omega))
      obtain ⟨k, hk⟩ : ∃ k, 2 * s + (i : Int) % 2 = k := ⟨_, rfl⟩
      rw [hk] at HPL HRD
      clear hk
      unfold pv at HCR
      go_wp2_with fail
      refine HPL.out.mono ?_
      rintro e w' ⟨rfl, hw⟩
      obtain rfl := hw.symm
      go_wp2_with fail
      refine HRD.out.mono ?_
      rintro e w' ⟨rfl, hw⟩
      obtain rfl := hw.symm
      go_wp2_with fail
      refine HCR.out.mono ?_
      rintro e w2 ⟨rfl, hb2⟩
      try dsimp only
      have HB2 : Hid (Below w.heap.size w w2) := Lib.hid (HV.out.trans (hb2.mono HV.out.size))
      clear hb2
      go_wp2_with fail
      go_roundg (2 - (i + 1))
      case measure => omega
      case rel => exact ⟨i + 1, by go_num, by omega, rfl, rfl, Lib.hid (HB2.out.alloc HB2.out.size _)⟩
    · obtain rfl : i = 2 := by omega
      go_wp2_with fail
      refine (HSO.out wr).mono ?_
      rintro e w' ⟨rfl, hw⟩
      obtain rfl := hw.symm
      try dsimp only
      go_wp2_with fail
      go_ret
      exact ⟨rfl, HV.out⟩
end Go.Proofs.YtjgbfghkiahfaaaGreatDoor
namespace Go.Proofs.YtjgbfghkiahfaaaGreatDoor
open Go.RowKit Go.Sort
set_option maxRecDepth 100000
set_option maxHeartbeats 1000000

/-! What stands on a disk, told in pieces. -/
def Slot (F : Nat → Nat) (s k : Nat) : Option Pc → Prop
  | some p => p.Ok ∧ (∀ j, j < 160 → F j = pcS p j) ∧ p.s = s ∧ p.g % 2 = k
  | none => ¬ HasP F s k
theorem Slot.has {F : Nat → Nat} {s k : Nat} {o : Option Pc} (h : Slot F s k o) : o.isSome = true ↔ HasP F s k := by
  cases o with
  | none => exact ⟨fun e => (by cases e), fun e => absurd e h⟩
  | some p =>
    obtain ⟨a, b, c, d⟩ := h
    obtain ⟨e1, e2⟩ := rdP_pcS a b
    exact ⟨fun _ => ⟨e1, e2.1.trans c, by rw [e2.2.1]; exact d⟩, fun _ => rfl⟩
theorem Slot.alike {F : Nat → Nat} {s k : Nat} {p : Pc} (h : Slot F s k (some p)) : (rdP F).Alike p := (rdP_pcS h.1 h.2.1).2
theorem not_isPc_zero {F : Nat → Nat} (h : F 0 = 0) : ¬ IsPc F := fun e => by
  unfold IsPc at e
  have := e.1.1
  omega
theorem Slot.blank {s k : Nat} : Slot (fun _ => 0) s k none := fun h => not_isPc_zero rfl h.1
theorem Slot.of_pc {p : Pc} (h : p.Ok) : Slot (pcS p) p.s (p.g % 2) (some p) := ⟨h, fun _ _ => rfl, rfl, rfl⟩
/-- A piece that stands elsewhere than it belongs. -/
theorem Slot.of_far {F : Nat → Nat} {p : Pc} {s k : Nat} (h : p.Ok) (hF : ∀ j, j < 160 → F j = pcS p j) (hne : ¬ (p.s = s ∧ p.g % 2 = k)) : Slot F s k none := fun e => by
  have h2 := (rdP_pcS h hF).2
  exact hne ⟨by rw [← h2.1]; exact e.2.1, by rw [← h2.2.1]; exact e.2.2⟩
theorem PcX.alike {w : World} {x : Nat → Option Value} {p q : Pc} (h : PcX w x p) (e : p.Alike q) : PcX w x q := by
  obtain ⟨A, c, a, b, d, f, g⟩ := h
  obtain ⟨e1, e2, e3, e4⟩ := e
  exact ⟨A, c, by rw [← e1]; exact a, by rw [← e2]; exact b, by rw [← e3]; exact d, f, g.congr e4⟩
theorem PL.alike {w : World} {B : Nat} {v : Value} {l l' : List Pc} (h : PL w B v l) (hl : l.length = l'.length) (e : ∀ (i : Nat) (p q : Pc), l[i]? = some p → l'[i]? = some q → p.Alike q) : PL w B v l' := by
  rcases h with ⟨rfl, h⟩ | ⟨b, c, cur, hv, hb, hh, hx⟩
  · exact Or.inl ⟨List.length_eq_zero_iff.1 hl.symm, h⟩
  · refine Or.inr ⟨b, c, cur, by rw [← hl]; exact hv, hb, hh, fun i q hi => ?_⟩
    have hi' : i < l.length := by rw [hl]; exact (List.getElem?_eq_some_iff.1 hi).1
    exact (hx i _ (List.getElem?_eq_getElem hi')).alike (e i _ q (List.getElem?_eq_getElem hi') hi)
/-- A stripe's pieces. -/
def two (a b : Option Pc) : List Pc := srt (a.toList ++ b.toList)
theorem two_alike {F G : Nat → Nat} {s : Nat} {a b : Option Pc} (ha : Slot F s 0 a) (hb : Slot G s 1 b) (P : Nat → Pc) (h0 : P 0 = rdP F) (h1 : P 1 = rdP G) (f : Nat → Bool) (f0 : f 0 = a.isSome) (f1 : f 1 = b.isSome) :
    (srt (col f P 2)).length = (two a b).length ∧ ∀ (i : Nat) (p q : Pc), (srt (col f P 2))[i]? = some p → (two a b)[i]? = some q → p.Alike q := by
  unfold two
  cases a with
  | none =>
    cases b with
    | none => simp [col, f0, f1, srt]
    | some q =>
      have e := hb.alike
      simp only [col, f0, f1, h1, srt, Option.isSome, Option.toList, if_true, List.nil_append, Bool.false_eq_true, if_false]
      refine ⟨rfl, fun i x y hx hy => ?_⟩
      match i, hx, hy with
      | 0, hx, hy => simp at hx hy; subst hx; subst hy; exact e
  | some p =>
    have ep := ha.alike
    cases b with
    | none =>
      simp only [col, f0, f1, h0, srt, Option.isSome, Option.toList, if_true, List.nil_append, Bool.false_eq_true, if_false, List.append_nil]
      refine ⟨rfl, fun i x y hx hy => ?_⟩
      match i, hx, hy with
      | 0, hx, hy => simp at hx hy; subst hx; subst hy; exact ep
    | some q =>
      have eq := hb.alike
      have eg : ((rdP F).g < (rdP G).g) ↔ p.g < q.g := by rw [ep.2.1, eq.2.1]
      simp only [col, f0, f1, h0, h1, Option.isSome, Option.toList, if_true, List.nil_append, List.cons_append, srt2]
      by_cases h : p.g < q.g
      · rw [if_pos (eg.2 h), if_pos h]
        refine ⟨rfl, fun i x y hx hy => ?_⟩
        match i, hx, hy with
        | 0, hx, hy => simp at hx hy; subst hx; subst hy; exact eq
        | 1, hx, hy => simp at hx hy; subst hx; subst hy; exact ep
      · rw [if_neg (fun x => h (eg.1 x)), if_neg h]
        refine ⟨rfl, fun i x y hx hy => ?_⟩
        match i, hx, hy with
        | 0, hx, hy => simp at hx hy; subst hx; subst hy; exact ep
        | 1, hx, hy => simp at hx hy; subst hx; subst hy; exact eq
/-- chunk.Get, told in pieces. -/
theorem cgetM {w : World} {p : Nat} {S : List Nat} {N : Nat} {d : Disk} {wr : Nat} (h : Plt w p S N d wr) (hbd : Bd d) (s : Nat) (hs : 2 * s + 1 < N) (a b : Option Pc) (ha : Slot (d.now (2 * s)) s 0 a) (hb : Slot (d.now (2 * s + 1)) s 1 b) :
    Calls Tryz.prog 86 #[.pointer (some ⟨p, 0, none⟩), .int .i64 (s : Int)] w (CGetRet (two a b) w) := by
  refine (cget h hbd s hs (fun k => if k = 0 then a.isSome else b.isSome) (fun k hk => ?_)).mono ?_
  · match k, hk with
    | 0, _ => exact ha.has
    | 1, _ => exact hb.has
  · rintro e w' ⟨v, rfl, hp, hbl⟩
    obtain ⟨e1, e2⟩ := two_alike ha hb (fun k => rdP (d.now (2 * s + k))) rfl rfl (fun k => if k = 0 then a.isSome else b.isSome) rfl rfl
    exact ⟨v, rfl, hp.alike e1 e2, hbl⟩
/-- A disk, told in pieces. -/
structure CD (d : Disk) (M : Nat → Option Pc) : Prop where
  bd : Bd d
  slot : ∀ k, k < 80 → Slot (d.now k) (k / 2) (k % 2) (M k)
theorem CD.blank : CD Disk.blank (fun _ => none) := ⟨fun _ _ _ => by show 0 < 256; decide, fun _ _ => Slot.blank⟩
def updM (M : Nat → Option Pc) (k : Nat) (o : Option Pc) : Nat → Option Pc := fun j => if j = k then o else M j
theorem CD.put {d : Disk} {M : Nat → Option Pc} (h : CD d M) {x : Pc} (hx : x.Ok) : CD (d.write (atP x) (pcS x)) (updM M (atP x) (some x)) := by
  refine ⟨fun k j hj => ?_, fun k hk => ?_⟩
  · rw [now_write]
    unfold upd
    split
    · exact pcS_lt hx j
    · exact h.bd k j hj
  · rw [now_write]
    unfold upd updM
    dsimp only
    by_cases e : k = atP x
    · rw [if_pos e, if_pos e]
      have := Slot.of_pc hx
      have e1 : k / 2 = x.s := by rw [e]; unfold atP; omega
      have e2 : k % 2 = x.g % 2 := by rw [e]; unfold atP; omega
      rw [e1, e2]
      exact this
    · rw [if_neg e, if_neg e]
      exact h.slot k hk
theorem CD.at {d : Disk} {M : Nat → Option Pc} (h : CD d M) {s : Nat} (hs : s < 40) : Slot (d.now (2 * s)) s 0 (M (2 * s)) ∧ Slot (d.now (2 * s + 1)) s 1 (M (2 * s + 1)) := by
  have h0 := h.slot (2 * s) (by omega)
  have h1 := h.slot (2 * s + 1) (by omega)
  rw [show 2 * s / 2 = s by omega, show 2 * s % 2 = 0 by omega] at h0
  rw [show (2 * s + 1) / 2 = s by omega, show (2 * s + 1) % 2 = 1 by omega] at h1
  exact ⟨h0, h1⟩
theorem cgetD {w : World} {p : Nat} {S : List Nat} {N : Nat} {d : Disk} {wr : Nat} {M : Nat → Option Pc} (h : Plt w p S N d wr) (hd : CD d M) (hN : 80 ≤ N) (s : Nat) (hs : s < 40) :
    Calls Tryz.prog 86 #[.pointer (some ⟨p, 0, none⟩), .int .i64 (s : Int)] w (CGetRet (two (M (2 * s)) (M (2 * s + 1))) w) :=
  cgetM h hd.bd s (by omega) _ _ (hd.at hs).1 (hd.at hs).2
theorem oneP_ok {s g i : Nat} {x : Int} (h1 : s < 40) (h2 : 1 ≤ g) (h3 : g ≤ 1099511627776) (h4 : i < 6) : (oneP s g i x).Ok := ⟨h1, h2, h3, h4, fun j _ => bytesF_lt x j⟩
theorem PcV.below {w w' : World} {v : Value} {p : Pc} (h : PcV w v p) (b : Below w.heap.size w w') : PcV w' v p := by
  obtain ⟨A, c, e, d⟩ := h
  exact ⟨A, c, e, d.below b⟩
theorem PcV.keep {w w' : World} {v : Value} {p : Pc} (h : PcV w v p) (k : ∀ (g : Nat) (cs : Array Value), w.heap[g]? = some (Obj.cells cs 5 (0, 0)) → w'.heap[g]? = w.heap[g]?) : PcV w' v p := by
  obtain ⟨A, c, e, d⟩ := h
  exact ⟨A, c, e, d.keep k⟩
theorem PcV.congr {w : World} {v : Value} {p q : Pc} (h : PcV w v p) (e : p.Alike q) : PcV w v q := by
  obtain ⟨A, c, rfl, d⟩ := h
  exact ⟨A, c, by rw [e.1, e.2.1, e.2.2.1], d.congr e.2.2.2⟩
end Go.Proofs.YtjgbfghkiahfaaaGreatDoor
