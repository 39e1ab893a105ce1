import Derived.Test.YtajpnbmfeapmcaaK20
import Derived.BigQuiet
import Derived.Deep.QuietTactic
namespace Go.Proofs.Ytajpnbmfeapmcaa
open Go.RowKit Go.Sort
set_option maxRecDepth 100000
set_option maxHeartbeats 4000000

theorem Own.on {w w' : World} {b r c : Nat} {G K : Nat → Nat} {A : Mx} (h : Own w b r c G K A) (hr : 0 < r) (hc : 0 < c) (hb : Below w.heap.size w w') : Own w' b r c G K A := h.keep (fun k hk => hb.block k (by
  rcases hk with rfl | ⟨i, hi, rfl⟩
  · exact h.lt hr
  · exact h.ltG hi hc))
theorem Row8.on {w w' : World} {g c : Nat} {F : Nat → Nat} (h : Row8 w g c F) (hc : 0 < c) (hb : Below w.heap.size w w') : Row8 w' g c F := h.keep (hb.block g (cell?_lt (h.cell 0 hc)))

theorem parts_xor (F G : Nat → Nat) {i k : Nat} (hF : ∀ j, F j < 256) (hG : ∀ j, G j < 256) (hi : i < 6) (hk : k < 32) : enc (parts (fun j => F j ^^^ G j)) i k = enc (parts F) i k ^^^ enc (parts G) i k :=
  enc_add (n := 32) (parts_bd (fun j _ => hF j)) (parts_bd (fun j _ => hG j)) i k hk hi

theorem coderAdds (x0 x1 : Int) (w : World) : Calls Try.prog 7 #[.int .i64 x0, .int .i64 x1] w fun e w' => e = .returned (.bool true) ∧ Below w.heap.size w w' := by
  obtain ⟨zs, zl, z1, z2⟩ := mk128
  have HZ := Lib.hid z1
  clear z1 zl
  go_enter Try.func7, Try.ntmps7
  go_wp2_with fail
  refine (cnew w).mono ?_
  rintro e w1 ⟨c, f, o, cap, rfl, hc, hb⟩
  have HB1 := Lib.hid hb
  have HC1 := Lib.hid hc
  clear hc hb
  go_wp2_with fail
  refine (lknown w1).mono ?_
  rintro e w2 ⟨rfl, hb⟩
  have HB2 : Hid (Below w.heap.size w w2) := Lib.hid (HB1.out.trans (hb.mono HB1.out.size))
  have HC2 := Lib.hid (HC1.out.keep hb)
  clear hb HC1 HB1
  go_wp2_with fail
  refine (rbytes x0 128 w2 (by omega)).mono ?_
  rintro e w3 ⟨g, F, rfl, hr, hF, hb, _⟩
  have HB3 : Hid (Below w.heap.size w w3) := Lib.hid (HB2.out.trans (hb.mono HB2.out.size))
  have HC3 := Lib.hid (HC2.out.keep hb)
  have HR3 := Lib.hid hr
  have HF := Lib.hid hF
  clear hb HC2 HB2 hr hF
  go_wp2_with fail
  refine (rbytes x1 128 w3 (by omega)).mono ?_
  rintro e w4 ⟨g2, F2, rfl, hr, hF, hb, _⟩
  have HB4 : Hid (Below w.heap.size w w4) := Lib.hid (HB3.out.trans (hb.mono HB3.out.size))
  have HC4 := Lib.hid (HC3.out.keep hb)
  have HR4 := Lib.hid (HR3.out.on (by omega) hb)
  have HS4 := Lib.hid hr
  have HF2 := Lib.hid hF
  clear hb HC3 HB3 hr hF HR3
  have gl1 : g < w4.heap.size := cell?_lt (HR4.out.cell 0 (by omega))
  have gl2 : g2 < w4.heap.size := cell?_lt (HS4.out.cell 0 (by omega))
  have H5 : Hid (Row8 (w4.alloc (.cells zs 5)) w4.heap.size 128 (fun j => if j < 0 then F j ^^^ F2 j else 0) ∧ Below w4.heap.size w4 (w4.alloc (.cells zs 5))) :=
    Lib.hid ⟨⟨fun j hj => by rw [cell_of_block (alloc_block w4 _), HZ.out j hj, if_neg (Nat.not_lt_zero _)]; rfl, fun j => free_of_block (alloc_block w4 _)⟩, (Below.refl _ _).alloc (Nat.le_refl _) _⟩
  go_wp2_with fail
  generalize w4.alloc (.cells zs 5) = w5 at *
  obtain ⟨z, hz⟩ : ∃ z, w4.heap.size = z := ⟨_, rfl⟩
  have HZZ := Lib.hid hz
  rw [hz] at H5 gl1 gl2 ⊢
  clear hz
  go_loopg [32] 128 (fun q s32 v => ∃ k : Nat, s32 = .int .i64 (k : Int) ∧ k ≤ 128 ∧ q = 128 - k ∧ Hid (Row8 v z 128 (fun j => if j < k then F j ^^^ F2 j else 0) ∧ Below z w4 v))
  case atStart => exact ⟨0, rfl, by omega, rfl, H5⟩
  case round =>
    obtain ⟨k, rfl, hk, rfl, HK⟩ := hrel
    clear H5
    by_cases hlk : k < 128
    · have hlk' : (k : Int) < 128 := by omega
      have hk0 : (0 : Int) ≤ (k : Int) := by omega
      have x1 := (HK.out.2.cell (p := ⟨g, k, none⟩) gl1).trans (HR4.out.cell k hlk)
      have y1 := (HK.out.2.cell (p := ⟨g2, k, none⟩) gl2).trans (HS4.out.cell k hlk)
      have e1 := HK.out.1.cell k hlk
      have f1 := HK.out.1.free k
      rw [if_neg (Nat.lt_irrefl k)] at e1
      obtain ⟨xv, hxv⟩ : ∃ xv, xv = F k := ⟨_, rfl⟩
      obtain ⟨yv, hyv⟩ : ∃ yv, yv = F2 k := ⟨_, rfl⟩
      have HXV := Lib.hid hxv
      have HYV := Lib.hid hyv
      rw [← hxv] at x1
      rw [← hyv] at y1
      have hxor := bits_xor_u8 xv yv (by rw [hxv]; exact HF.out k) (by rw [hyv]; exact HF2.out k)
      clear hxv hyv
      go_wp2_with fail
      go_still_tail 12, (by kernel_rfl)
      change wpList _ _ _ _ _ wr.drew
      have e1d : wr.drew.cell? ⟨z, k, none⟩ = some (.int .u8 ((0 : Nat) : Int)) := e1
      have f1d : wr.drew.frozen? ⟨z, k, none⟩ = false := f1
      go_wp2_with fail
      go_roundg (128 - (k + 1))
      case measure => omega
      case rel => exact ⟨k + 1, by go_num, by omega, rfl, Lib.hid ⟨(Row8.put (x := xv ^^^ yv) (w := wr.drew) (HK.out.1.keep rfl) hlk).congr (fun j _ => by
        try dsimp only
        by_cases e : j = k
        · subst e; rw [if_pos rfl, if_pos (by omega), HXV.out, HYV.out]
        · rw [if_neg e]
          by_cases h : j < k
          · rw [if_pos h, if_pos (by omega)]
          · rw [if_neg h, if_neg (by omega)]), HK.out.2.drew.setCell (p := ⟨z, k, none⟩) (Nat.le_refl _) _⟩⟩
    · obtain rfl : k = 128 := by omega
      have HKB : Hid (Below w4.heap.size w4 wr) := Lib.hid (by rw [HZZ.out]; exact HK.out.2)
      have HR5 := Lib.hid (HR4.out.on (by omega) HKB.out)
      have HS5 := Lib.hid (HS4.out.on (by omega) HKB.out)
      have HT5 : Hid (Row8 wr z 128 (fun j => F j ^^^ F2 j)) := Lib.hid (HK.out.1.congr (fun j hj => if_pos hj))
      have HC5 := Lib.hid (HC4.out.keep HKB.out)
      have HB5 : Hid (Below w.heap.size w wr) := Lib.hid (HB4.out.trans (HKB.out.mono HB4.out.size))
      clear HK HKB HR4 HS4 HC4 HB4 gl1 gl2
      have HE1 := Lib.hid (cencode0 c f o cap g 128 F wr HC5.out (by omega) HR5.out (fun j _ => HF.out j))
      go_wp2_with fail
      refine HE1.out.mono ?_
      rintro e w6 ⟨b1, rfl, ho, _, hb⟩
      have HB6 : Hid (Below w.heap.size w w6) := Lib.hid (HB5.out.trans (hb.mono HB5.out.size))
      have HC6 := Lib.hid (HC5.out.keep hb)
      have HS6 := Lib.hid (HS5.out.on (by omega) hb)
      have HT6 := Lib.hid (HT5.out.on (by omega) hb)
      have HP6 := Lib.hid ho
      clear HE1 HB5 HC5 HR5 HS5 HT5 ho hb
      have HE2 := Lib.hid (cencode0 c f o cap g2 128 F2 w6 HC6.out (by omega) HS6.out (fun j _ => HF2.out j))
      go_wp2_with fail
      refine HE2.out.mono ?_
      rintro e w7 ⟨b2, rfl, ho, _, hb⟩
      have HB7 : Hid (Below w.heap.size w w7) := Lib.hid (HB6.out.trans (hb.mono HB6.out.size))
      have HC7 := Lib.hid (HC6.out.keep hb)
      have HT7 := Lib.hid (HT6.out.on (by omega) hb)
      have HP7 := Lib.hid (HP6.out.on (by omega) (by omega) hb)
      have HQ7 := Lib.hid ho
      clear HE2 HB6 HC6 HS6 HT6 HP6 ho hb
      have HE3 := Lib.hid (cencode0 c f o cap z 128 (fun j => F j ^^^ F2 j) w7 HC7.out (by omega) HT7.out (fun j _ => xor_lt (HF.out j) (HF2.out j)))
      go_wp2_with fail
      refine HE3.out.mono ?_
      rintro e w8 ⟨b3, rfl, ho, _, hb⟩
      have HB8 : Hid (Below w.heap.size w w8) := Lib.hid (HB7.out.trans (hb.mono HB7.out.size))
      have HP8 := Lib.hid (HP7.out.on (by omega) (by omega) hb)
      have HQ8 := Lib.hid (HQ7.out.on (by omega) (by omega) hb)
      have HR8 := Lib.hid ho
      clear HE3 HB7 HC7 HT7 HP7 HQ7 ho hb
      have HPB := Lib.hid (enc_bd 6 32 (parts F))
      have HQB := Lib.hid (enc_bd 6 32 (parts F2))
      have HEQ : Hid (∀ i, i < 6 → ∀ k, k < 32 → enc (parts (fun j => F j ^^^ F2 j)) i k = enc (parts F) i k ^^^ enc (parts F2) i k) := Lib.hid (fun i hi k hk => parts_xor F F2 HF.out HF2.out hi hk)
      generalize enc (parts F) = A1 at *
      generalize enc (parts F2) = A2 at *
      generalize enc (parts (fun j => F j ^^^ F2 j)) = A3 at *
      go_wp2_with fail
      go_loopg [93] 6 (fun q s93 v => ∃ i : Nat, s93 = .int .i64 (i : Int) ∧ i ≤ 6 ∧ q = 6 - i ∧ Hid (Below w8.heap.size w8 v))
      case atStart => exact ⟨0, rfl, by omega, rfl, Lib.hid (Below.refl _ _)⟩
      case round =>
        obtain ⟨i, rfl, hi, rfl, HI⟩ := hrel
        by_cases hli : i < 6
        · have hli' : (i : Int) < 6 := by omega
          have hi0 : (0 : Int) ≤ (i : Int) := by omega
          have p1 := (HP8.out.on (by omega) (by omega) HI.out).outer i hli
          have p2 := (HQ8.out.on (by omega) (by omega) HI.out).outer i hli
          have p3 := (HR8.out.on (by omega) (by omega) HI.out).outer i hli
          obtain ⟨wi, hwi⟩ : ∃ wi, wr = wi := ⟨_, rfl⟩
          rw [hwi] at HI p1 p2 p3 ⊢
          clear hwi
          go_wp2_with fail
          go_loopg [123] 32 (fun q s123 v => ∃ k : Nat, s123 = .int .i64 (k : Int) ∧ k ≤ 32 ∧ q = 32 - k ∧ Hid (Below w8.heap.size w8 v))
          case atStart => exact ⟨0, rfl, by omega, rfl, HI⟩
          case round =>
            obtain ⟨k, rfl, hk, rfl, HK⟩ := hrel
            clear p1 p2 p3
            by_cases hlk : k < 32
            · have hlk' : (k : Int) < 32 := by omega
              have hk0 : (0 : Int) ≤ (k : Int) := by omega
              have p1 := (HP8.out.on (by omega) (by omega) HK.out).outer i hli
              have p2 := (HQ8.out.on (by omega) (by omega) HK.out).outer i hli
              have p3 := (HR8.out.on (by omega) (by omega) HK.out).outer i hli
              have v1 := (HP8.out.on (by omega) (by omega) HK.out).cell i hli k hlk
              have v2 := (HQ8.out.on (by omega) (by omega) HK.out).cell i hli k hlk
              have v3 := (HR8.out.on (by omega) (by omega) HK.out).cell i hli k hlk
              have hxor := bits_xor_u8 (A1 i k) (A2 i k) (HPB.out i hli k hlk) (HQB.out i hli k hlk)
              rw [← HEQ.out i hli k hlk] at hxor
              generalize A1 i k = a1 at *
              generalize A2 i k = a2 at *
              generalize A3 i k = a3 at *
              go_wp2_with fail
              go_big_quiet (fail)
              go_wp2_with fail
              go_roundg (32 - (k + 1))
              case measure => omega
              case rel => exact ⟨k + 1, by go_num, by omega, rfl, Lib.hid (HK.out.trans ((below_drewN nq wr).mono HK.out.size))⟩
            · have hge : ¬ (k : Int) < 32 := by omega
              clear hlk hk
              go_wp2_with fail
              go_roundg (6 - (i + 1))
              case measure => omega
              case rel => exact ⟨i + 1, by go_num, by omega, rfl, HK⟩
        · have hge : ¬ (i : Int) < 6 := by omega
          have HBZ : Hid (Below w.heap.size w wr) := Lib.hid (HB8.out.trans (HI.out.mono HB8.out.size))
          clear hli hi HI
          go_wp2_with fail
          go_ret
          exact ⟨rfl, HBZ.out⟩
end Go.Proofs.Ytajpnbmfeapmcaa
