import Derived.Test.YtajpnbmfeapmcaaK2
namespace Go.Proofs.Ytajpnbmfeapmcaa
open Go.RowKit Go.Sort
set_option maxRecDepth 100000
set_option maxHeartbeats 1000000

/-- A row of a fresh block. -/
def RowRet (n : Nat) (F : Nat → Nat) (w : World) (e : Ending) (w' : World) : Prop := ∃ g, e = .returned (.slice (some ⟨g, 0, none⟩) n n) ∧ Row8 w' g n F ∧ Below w.heap.size w w' ∧ w.heap.size ≤ g
theorem lit4 (w : World) (a b c d : Nat) (A B C D : Int) (ha : A = a) (hb : B = b) (hc : C = c) (hd : D = d) (F : Nat → Nat) (h0 : F 0 = a) (h1 : F 1 = b) (h2 : F 2 = c) (h3 : F 3 = d) :
    Row8 (w.alloc (.cells #[.int .u8 A, .int .u8 B, .int .u8 C, .int .u8 D] 5)) w.heap.size 4 F := by
  subst ha hb hc hd
  refine ⟨fun j hj => ?_, fun k => free_of_block (alloc_block w _)⟩
  rw [cell_of_block (alloc_block w _)]
  match j, hj with
  | 0, _ => rw [h0]; rfl
  | 1, _ => rw [h1]; rfl
  | 2, _ => rw [h2]; rfl
  | 3, _ => rw [h3]; rfl
theorem rrow (i : Nat) (w : World) (hi : i < 6) : Calls Try.prog 35 #[.int .i64 (i : Int)] w (RowRet 4 (gr i) w) := by
  by_cases h4 : i < 4
  · obtain ⟨zs, z1, z2⟩ := make8 4 (by omega)
    have hz2 : ∀ W : World, Sem.run Try.prog (Instr.makeSlice 29 (.int .i64 4) (.int .i64 4)) W = .ok (.slice (some ⟨W.heap.size, 0, none⟩) 4 4) (W.alloc (.cells zs 5)) := z2
    have c1 := z1 i h4
    have HR : Hid (Row8 (w.alloc (.cells (zs.setIfInBounds i (.int .u8 1)) 5)) w.heap.size 4 (gr i) ∧ Below w.heap.size w (w.alloc (.cells (zs.setIfInBounds i (.int .u8 1)) 5))) := by
      refine Lib.hid ⟨⟨fun j hj => ?_, fun k => free_of_block (alloc_block w _)⟩, (Below.refl _ _).alloc (Nat.le_refl _) _⟩
      rw [cell_of_block (alloc_block w _)]
      have hzn : i < zs.size := (Array.getElem?_eq_some_iff.1 c1).1
      unfold gr one
      rw [if_pos h4]
      by_cases e : i = j
      · subst e; rw [if_pos rfl, Array.getElem?_setIfInBounds_self, if_pos hzn]; rfl
      · rw [if_neg e, Array.getElem?_setIfInBounds_ne e, z1 j hj]; rfl
    have hl : (i : Int) < 4 := by omega
    have hl0 : (0 : Int) ≤ (i : Int) := by omega
    clear z1 z2
    go_enter Try.func35, Try.ntmps35
    go_wp2_with fail
    go_ret
    exact ⟨_, rfl, HR.out.1, HR.out.2, Nat.le_refl _⟩
  · have hl : ¬ (i : Int) < 4 := by omega
    have hl0 : (0 : Int) ≤ (i : Int) := by omega
    by_cases h5 : i = 4
    · subst h5
      have HR : Hid (Row8 (w.alloc (.cells #[.int .u8 1, .int .u8 1, .int .u8 1, .int .u8 1] 5)) w.heap.size 4 (gr 4)) := Lib.hid (lit4 w 1 1 1 1 1 1 1 1 rfl rfl rfl rfl (gr 4) (by decide) (by decide) (by decide) (by decide))
      have HB : Hid (Below w.heap.size w (w.alloc (.cells #[.int .u8 1, .int .u8 1, .int .u8 1, .int .u8 1] 5))) := Lib.hid ((Below.refl _ _).alloc (Nat.le_refl _) _)
      clear h4 hl hl0
      go_enter Try.func35, Try.ntmps35
      go_wp2_with fail
      go_ret
      exact ⟨_, rfl, HR.out, HB.out, Nat.le_refl _⟩
    · have h6 : i = 5 := by omega
      subst h6
      have HR : Hid (Row8 (w.alloc (.cells #[.int .u8 1, .int .u8 2, .int .u8 4, .int .u8 8] 5)) w.heap.size 4 (gr 5)) := Lib.hid (lit4 w 1 2 4 8 1 2 4 8 rfl rfl rfl rfl (gr 5) (by kernel_rfl) (by kernel_rfl) (by kernel_rfl) (by kernel_rfl))
      have HB : Hid (Below w.heap.size w (w.alloc (.cells #[.int .u8 1, .int .u8 2, .int .u8 4, .int .u8 8] 5))) := Lib.hid ((Below.refl _ _).alloc (Nat.le_refl _) _)
      clear h4 hl hl0 h5
      go_enter Try.func35, Try.ntmps35
      go_wp2_with fail
      go_ret
      exact ⟨_, rfl, HR.out, HB.out, Nat.le_refl _⟩

/-- A stripe's parts. -/
def parts (S : Nat → Nat) : Mx := fun j k => S (j * 32 + k)
theorem rencode (h q cap : Nat) (S : Nat → Nat) (w : World) (hS : ∀ j, j < 128 → w.cell? ⟨h, q + j, none⟩ = some (.int .u8 (S j : Nat))) (hb : ∀ j, j < 128 → S j < 256) :
    Calls Try.prog 17 #[.slice (some ⟨h, q, none⟩) 128 cap] w fun e w' => ∃ v G, e = .returned v ∧ Rows8 w' w.heap.size v 6 32 G (enc (parts S)) ∧ Below w.heap.size w w' := by
  obtain ⟨i0, hi0, hz0, hz1, hz2⟩ := info_parts infoRow
  obtain ⟨zs, z1, z2⟩ := make8 32 (by omega)
  have mk2 : ∀ W : World, Sem.run Try.prog (Instr.makeSlice 29 (.int .i64 32) (.int .i64 32)) W = .ok (.slice (some ⟨W.heap.size, 0, none⟩) 32 32) (W.alloc (.cells zs 5)) := z2
  have HZ := Lib.hid z1
  have HSS := Lib.hid hS
  have HSB := Lib.hid hb
  have hh := cell?_lt (hS 0 (by omega))
  clear z1 z2 hS hb
  obtain ⟨B, hB⟩ : ∃ B, w.heap.size = B := ⟨_, rfl⟩
  have HBB := Lib.hid hB
  rw [hB] at hh ⊢
  clear hB
  obtain ⟨P, hP⟩ : ∃ P, P = enc (parts S) := ⟨_, rfl⟩
  rw [← hP]
  have HP := Lib.hid hP
  clear hP
  have H0 : Hid (Rows8 w B (.slice none 0 0) 0 32 (fun _ => 0) P ∧ Below B w w) := Lib.hid ⟨Rows8.start _ _ _ _ _, Below.refl _ _⟩
  go_enter Try.func17, Try.ntmps17
  go_wp2_with fail
  go_loopg [3, 4, 5, 6, 7, 8] 6 (fun q' s3 s4 s5 s6 s7 s8 v => ∃ (i : Nat) (G : Nat → Nat), s4 = .int .i64 (i : Int) ∧ i ≤ 6 ∧ q' = 6 - i ∧ Hid (Rows8 v B s3 i 32 G P ∧ Below B w v))
  case atStart => exact ⟨0, _, rfl, by omega, rfl, H0⟩
  case round =>
    obtain ⟨i, G, rfl, hi, rfl, HS⟩ := hrel
    clear H0
    by_cases hlt : i < 6
    · have hl : (i : Int) < 6 := by omega
      obtain ⟨wr0, rfl⟩ : ∃ wr0 : World, wr0 = wr := ⟨wr, rfl⟩
      have HSBz : Hid (B ≤ wr0.heap.size) := Lib.hid (by rw [← HBB.out]; exact HS.out.2.size)
      go_wp2_with fail
      refine (rrow i wr0 hlt).mono ?_
      rintro e wa ⟨rg, rfl, ra, ba, hra⟩
      have HRA := Lib.hid ra
      have HBA := Lib.hid ba
      have HRG := Lib.hid hra
      clear ra ba hra
      go_wp2_with fail
      have hrgl : rg < wa.heap.size := cell?_lt (HRA.out.cell 0 (by omega))
      have HAB : Hid (Below wa.heap.size wa (wa.alloc (.cells zs 5))) := Lib.hid ((Below.refl _ _).alloc (Nat.le_refl _) _)
      have HR0 : Hid (Row8 (wa.alloc (.cells zs 5)) wa.heap.size 32 (fun j => if j < 0 then P i j else 0)) := by
        refine Lib.hid ⟨fun j hj => ?_, fun k => free_of_block (alloc_block wa _)⟩
        rw [cell_of_block (alloc_block wa _), HZ.out j hj, if_neg (Nat.not_lt_zero _)]; rfl
      have HSZ : Hid ((wa.alloc (.cells zs 5)).heap.size = wa.heap.size + 1) := Lib.hid (by simp)
      generalize hw1 : wa.alloc (.cells zs 5) = w1 at *
      clear hw1
      generalize hg : wa.heap.size = g at *
      have HG := Lib.hid hg
      clear hg
      go_loopg [7, 8] 32 (fun q' s7 s8 v => ∃ k : Nat, s7 = .int .i64 (k : Int) ∧ k ≤ 32 ∧ q' = 32 - k ∧ Hid (Row8 v g 32 (fun j => if j < k then P i j else 0) ∧ Below g w1 v))
      case atStart => exact ⟨0, rfl, by omega, rfl, Lib.hid ⟨HR0.out, Below.refl _ _⟩⟩
      case round =>
        obtain ⟨k, rfl, hk, rfl, HK⟩ := hrel
        clear HR0
        by_cases hlk : k < 32
        · have hlk' : (k : Int) < 32 := by omega
          obtain ⟨wk, rfl⟩ : ∃ wk : World, wk = wr := ⟨wr, rfl⟩
          go_wp2_with fail
          go_loopg [8] 4 (fun q' s9 v => ∃ j : Nat, s9 = .int .i64 (j : Int) ∧ j ≤ 4 ∧ q' = 4 - j ∧ Hid (Row8 v g 32 (fun q => if q < k then P i q else if q = k then sx j (fun t => mul (gr i t) (parts S t k)) else 0) ∧ Below g w1 v))
          case atStart => exact ⟨0, rfl, by omega, rfl, Lib.hid ⟨HK.out.1.congr (fun q _ => by
            by_cases h : q < k
            · rw [if_pos h, if_pos h]
            · rw [if_neg h, if_neg h]
              split <;> rfl), HK.out.2⟩⟩
          case round =>
            obtain ⟨j, rfl, hj, rfl, HJ⟩ := hrel
            by_cases hlj : j < 4
            · have hlj' : (j : Int) < 4 := by omega
              have chain : ∀ (bl o : Nat), bl < g → wr.cell? ⟨bl, o, none⟩ = wa.cell? ⟨bl, o, none⟩ := fun bl o hbl =>
                (HJ.out.2.cell (p := ⟨bl, o, none⟩) hbl).trans (HAB.out.cell (p := ⟨bl, o, none⟩) (by have := HG.out; omega))
              have x2' := (chain rg j (by omega)).trans (HRA.out.cell j (by omega))
              have hwg : wr0.heap.size ≤ g := by have := HBA.out.size; have := HG.out; omega
              have y2' : wr.cell? ⟨h, q + (j * 32 + k), none⟩ = some (.int .u8 (S (j * 32 + k) : Nat)) := (chain h _ (by have := HSBz.out; omega)).trans ((HBA.out.cell (p := ⟨h, q + (j * 32 + k), none⟩) (show h < wr0.heap.size by have := HSBz.out; omega)).trans ((HS.out.2.cell (p := ⟨h, q + (j * 32 + k), none⟩) hh).trans (HSS.out (j * 32 + k) (by omega))))
              have e1 := HJ.out.1.cell k hlk
              have f1 := HJ.out.1.free k
              rw [if_neg (Nat.lt_irrefl k), if_pos rfl] at e1
              have hX := gr_bd 6 4 i hlt j hlj
              have hY := HSB.out (j * 32 + k) (by omega)
              have HSX : Hid (sx j (fun t => mul (gr i t) (parts S t k)) < 256) := Lib.hid (sx_lt (fun _ _ => mul_lt _ _))
              have HSQ : Hid (sx (j + 1) (fun t => mul (gr i t) (parts S t k)) = sx j (fun t => mul (gr i t) (parts S t k)) ^^^ mul (gr i j) (S (j * 32 + k))) := Lib.hid (sx_succ _ _)
              clear chain
              obtain ⟨s1, hs1⟩ : ∃ s1, s1 = sx (j + 1) (fun t => mul (gr i t) (parts S t k)) := ⟨_, rfl⟩
              have HS1 := Lib.hid hs1
              rw [← hs1] at HSQ
              clear hs1
              generalize sx j (fun t => mul (gr i t) (parts S t k)) = s0 at HSX HSQ e1
              generalize gr i j = xv at HSQ x2' hX
              generalize S (j * 32 + k) = yv at HSQ y2' hY
              have m1 : (j : Int) * 32 + (k : Int) < 128 := by omega
              have m2 : (0 : Int) ≤ (j : Int) * 32 + (k : Int) := by omega
              have m3 : ((j : Int) * 32 + (k : Int)).toNat = j * 32 + k := by omega
              have m4 : IntKind.i64.wrap ((j : Int) * 32) = (j : Int) * 32 := IntWalk.i64_in _ (by omega)
              have m5 : IntKind.i64.wrap ((j : Int) * 32 + (k : Int)) = (j : Int) * 32 + (k : Int) := IntWalk.i64_in _ (by omega)
              go_wp2_with fail
              refine wp_region_still_tail 20 (by kernel_rfl) (by kernel_rfl) ?_
              simp only [List.take_succ_cons, List.take_zero, List.drop_succ_cons, List.drop_zero]
              repeat still_step
              still_call (rmul xv yv _ hX hY)
              repeat still_step
              refine wpStill_nil ?_
              change wpList _ _ _ _ _ wr.drew
              have e1d : wr.drew.cell? ⟨g, k, none⟩ = some (.int .u8 (s0 : Int)) := e1
              have f1d : wr.drew.frozen? ⟨g, k, none⟩ = false := f1
              have hxor := bits_xor_u8 s0 (mul xv yv) HSX.out (mul_lt _ _)
              rw [← HSQ.out] at hxor
              clear m1 m2 m3 m4 m5
              go_wp2_with fail
              go_roundg (4 - (j + 1))
              case measure => omega
              case rel => exact ⟨j + 1, by go_num, by omega, rfl, Lib.hid ⟨(Row8.put (x := s1) (w := wr.drew) (HJ.out.1.keep rfl) hlk).congr (fun q _ => by
                by_cases e : q = k
                · subst e; rw [if_pos rfl, if_neg (Nat.lt_irrefl _), if_pos rfl]; exact HS1.out
                · rw [if_neg e]
                  by_cases h : q < k
                  · rw [if_pos h, if_pos h]
                  · rw [if_neg h, if_neg h, if_neg e, if_neg e]), (HJ.out.2.drew).setCell (Nat.le_refl _) _⟩⟩
            · have hge : ¬ (j : Int) < 4 := by omega
              have e : j = 4 := by omega
              subst e
              have HE : Hid (P i k = sx 4 (fun t => mul (gr i t) (parts S t k))) := Lib.hid (by rw [HP.out]; rfl)
              go_wp2_with fail
              go_roundg (32 - (k + 1))
              case measure => omega
              case rel => exact ⟨k + 1, by go_num, by omega, rfl, Lib.hid ⟨HJ.out.1.congr (fun q _ => by
                by_cases h : q < k
                · rw [if_pos h, if_pos (by omega)]
                · rw [if_neg h]
                  by_cases e : q = k
                  · subst e; rw [if_pos rfl, if_pos (by omega), HE.out]
                  · rw [if_neg e, if_neg (by omega)]), HJ.out.2⟩⟩
        · have hge : ¬ (k : Int) < 32 := by omega
          have e : k = 32 := by omega
          subst e
          have HRW : Hid (Row8 wr g 32 (P i)) := Lib.hid (HK.out.1.congr (fun j hj => if_pos hj))
          have HBG : Hid (Below wr0.heap.size wr0 wr) := Lib.hid (HBA.out.trans ((HAB.out.trans HK.out.2).mono (by have := HBA.out.size; have := HG.out; omega)))
          have HRS := Lib.hid (HS.out.1.keep (w' := wr) HBG.out)
          have HBW : Hid (Below B w wr) := Lib.hid (HS.out.2.trans (HBG.out.mono HSBz.out))
          have hwg : wr0.heap.size ≤ g := by have := HBA.out.size; have := HG.out; omega
          have HGV : Hid (u3.ownBlock ≠ some g ∧ ∀ i', i' < i → G i' ≠ g) := Lib.hid ⟨fun e => by
            obtain ⟨xs, hx, _⟩ := HS.out.1.own
            have := (hx.lt g e).2
            omega, fun i' hi' e => by
            have := (HS.out.1.base i' hi').2
            omega⟩
          have HGB : Hid (B ≤ g) := Lib.hid (by have := HSBz.out; omega)
          have HGL : Hid (g < wr.heap.size) := Lib.hid (Nat.lt_of_lt_of_le (by have := HSZ.out; omega) HK.out.2.size)
          clear HK HS HAB hwg
          have HB2 : Hid (Below wr.heap.size wr (wr.alloc (.cells #[.slice (some ⟨g, 0, none⟩) 32 32] 29))) := Lib.hid ((Below.refl _ _).alloc (Nat.le_refl _) _)
          have HRS2 := Lib.hid (HRS.out.keep HB2.out)
          obtain ⟨xs, hx, hxs⟩ := HRS2.out.own
          have HX := Lib.hid hx
          have HXS := Lib.hid hxs
          have hB2 : B ≤ wr.heap.size := by rw [← HBB.out]; exact HBW.out.size
          clear hx hxs
          go_wp2_with (at_builtin; refine append_mine _ rfl _ _ 25 rfl B 29 i0 (.slice none 0 0) 1 24 Try.underlying25 hi0 hz0 hz1 hz2 rfl (by decide) _ i xs rfl HX.out ⟨wr.heap.size, 0, none⟩ 1 1 [.slice (some ⟨g, 0, none⟩) 32 32] rfl rfl (cell_one_new _ _ _) (by intro u hu; simp at hu; subst hu; rfl) (by unfold maxLen; omega) (by omega) (by simp; omega) (by decide) ?_; intro v' w' own gr' hv)
          have HN := Lib.hid (HRS2.out.add HX.out HXS.out (g := g) (HRW.out.keep (HB2.out.block g HGL.out)) HGB.out (Nat.lt_of_lt_of_le HGL.out HB2.out.size) HGV.out.1 HGV.out.2 own gr' hv)
          have HBN : Hid (Below B w w') := Lib.hid (Below.grown (HBW.out.trans (HB2.out.mono hB2)) gr' (by simp; omega) (fun k hk => (HX.out.lt k hk).1))
          clear own gr' hv
          go_wp2_with fail
          go_roundg (6 - (i + 1))
          case measure => omega
          case rel => exact ⟨i + 1, _, by go_num, by omega, rfl, Lib.hid ⟨HN.out, HBN.out⟩⟩
    · have hge : ¬ (i : Int) < 6 := by omega
      have e : i = 6 := by omega
      subst e
      go_wp2_with fail
      go_ret
      exact ⟨_, rfl, ⟨G, HS.out.1⟩, HS.out.2⟩
end Go.Proofs.Ytajpnbmfeapmcaa
