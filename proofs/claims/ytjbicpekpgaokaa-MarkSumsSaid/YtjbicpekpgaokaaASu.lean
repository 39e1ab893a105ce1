import Derived.Test.YtjbicpekpgaokaaA9
namespace Go.Proofs.Ytjbicpekpgaokaa
open Go.RowKit Go.Sort
set_option maxRecDepth 100000
set_option maxHeartbeats 1000000

theorem markSums (a0 : Option Addr) (n0 c0 : Nat) (F0 : Nat → Nat) (x1 : Int) (w : World) (h0 : Rd w a0 n0 F0) (b0 : ∀ j, j < n0 → F0 j < 256) (l0 : n0 ≤ c0) (m0 : n0 ≤ 9223372036854775807) :
    Calls Try.prog 6 #[.slice a0 n0 c0, .int .i64 x1] w fun e w' => e = .returned (.bool true) ∧ Below w.heap.size w w' := by
  obtain ⟨n, hn⟩ : ∃ n, n = min n0 200 := ⟨_, rfl⟩
  have hn2 : n ≤ 200 := by omega
  have HN := Lib.hid hn
  have H0 := Lib.hid h0
  have HB : Hid (∀ j, j < n → F0 j < 256) := Lib.hid (fun j hj => b0 j (by omega))
  clear hn h0 b0
  go_enter Try.func6, Try.ntmps6
  go_wp2_with fail
  refine (lknown w).mono ?_
  rintro e w1 ⟨rfl, hb1⟩
  have W1 := Lib.hid hb1
  have HF := Lib.hid (rfew a0 n0 c0 200 n F0 w1 (H0.out.keep hb1) l0 (by omega) (by omega) HN.out)
  clear hb1
  go_wp2_with fail
  refine HF.out.mono ?_
  rintro e w2 ⟨g, cg, rfl, ho, hb2, _, _, hcg⟩
  try dsimp only
  have R2 := Lib.hid (own_rd ho)
  have W2 : Hid (Below w.heap.size w w2) := Lib.hid (W1.out.trans (hb2.mono W1.out.size))
  clear ho hb2 HF W1
  go_wp2_with fail
  go_loopg [5, 6, 15] n (fun q s5 s6 s15 v => ∃ k d : Nat, s5 = .int .i64 (sumF F0 k : Nat) ∧ s15 = .int .i64 (k : Int) ∧ k ≤ n ∧ q = n - k ∧ v = w2.drewN d)
  case atStart => exact ⟨0, 0, by rw [sumF_zero]; rfl, rfl, by omega, rfl, rfl⟩
  case round =>
    obtain ⟨k, d, rfl, rfl, hk, rfl, rfl⟩ := hrel
    have hs := sumF_lt F0 k
    by_cases hlt : k < n
    · have hl : (k : Int) < (n : Int) := by omega
      have hl0 : (0 : Int) ≤ (k : Int) := by omega
      have c1 := R2.out.some_ hlt
      rw [Nat.zero_add] at c1
      have HS := Lib.hid (sumF_succ F0 k)
      have hx := HB.out k hlt
      have hsq := sq_lt hx
      generalize sumF F0 k = s at *
      generalize F0 k = x at *
      have e1 : ((x : Int) * (x : Int)) = ((x * x : Nat) : Int) := by push_cast; rfl
      have HE := Lib.hid e1
      have b1 : (x : Int) * (x : Int) ≤ 65025 := by rw [e1]; omega
      have b2 : 0 ≤ (x : Int) * (x : Int) := by rw [e1]; omega
      clear e1
      go_wp2_with fail
      go_big_quiet (fail)
      go_wp2_with fail
      go_roundg (n - (k + 1))
      case measure => omega
      case rel => exact ⟨k + 1, d + nq, by rw [HS.out, HE.out]; congr 1, by go_num, by omega, rfl, by first | rfl | rw [World.drewN_drewN]⟩
    · obtain rfl : k = n := by omega
      obtain ⟨w3, hw3⟩ : ∃ w3, w2.drewN d = w3 := ⟨_, rfl⟩
      have W3 : Hid (Below w.heap.size w w3) := Lib.hid (by rw [← hw3]; exact W2.out.trans ((below_drewN d w2).mono W2.out.size))
      have R3 : Hid (Rd w3 (some ⟨g, 0, none⟩) k F0) := Lib.hid (by rw [← hw3]; exact R2.out)
      rw [hw3]
      clear hw3 R2 W2
      obtain ⟨s, hs2⟩ : ∃ s, sumF F0 k = s := ⟨_, rfl⟩
      have HS := Lib.hid hs2
      have S1 := Lib.hid (msum (some ⟨g, 0, none⟩) k cg F0 w3 R3.out HB.out (by omega))
      rw [hs2] at S1 hs
      rw [hs2]
      clear hs2
      by_cases h2 : k < 2
      · have h2' : (k : Int) < 2 := by omega
        go_wp2_with fail
        refine S1.out.mono ?_
        rintro e w' ⟨rfl, hw⟩
        obtain rfl := hw.symm
        go_wp2_with fail
        go_ret
        exact ⟨rfl, W3.out⟩
      · have h2' : ¬ (k : Int) < 2 := by omega
        obtain ⟨p, lp, hp⟩ := rpickN x1 (k - 1) (by omega) (by omega)
        have e1 : ((k - 1 : Nat) : Int) = (k : Int) - 1 := by omega
        rw [e1] at hp
        have P1 := Lib.hid hp
        have HE := Lib.hid (own_empty (t := 5) (base := w3.heap.size) (alloc_block w3 (.cells #[] 5)) (Nat.le_refl _))
        have HB3 : Hid (Below w3.heap.size w3 (w3.alloc (.cells #[] 5))) := Lib.hid ((Below.refl _ _).alloc (Nat.le_refl _) _)
        clear hp e1
        go_wp2_with fail
        refine S1.out.mono ?_
        rintro e w' ⟨rfl, hw⟩
        obtain rfl := hw.symm
        go_wp2_with fail
        refine (P1.out _).mono ?_
        rintro e w' ⟨rfl, hw⟩
        obtain rfl := hw.symm
        go_wp2_with (at_builtin; refine append_rd _ rfl _ _ 22 rfl Try.underlying22 w3.heap.size (.slice (some ⟨w3.heap.size, 0, none⟩) 0 0) 0 (fun _ => 0) rfl HE.out (some ⟨g, 0, none⟩) k cg F0 rfl (R3.out.keep HB3.out) (by omega) HB3.out.size ?_; intro v' w4 own gr _ hne; rw [Nat.zero_add] at own; have HO : Hid (w4.ownsRow w3.heap.size 5 1 v' k (rowL k F0)) := Lib.hid (own_congr own (fun j hj => if_neg (Nat.not_lt_zero j))); have HB4 : Hid (Below w3.heap.size w3 w4) := Lib.hid (Below.grown HB3.out gr HB3.out.size (fun k hk => by cases hk; exact Nat.le_refl _)); obtain ⟨gc, cc, hv, hgc, _⟩ := own_some own (hne (by simp)); have HV := Lib.hid hv; have HGC := Lib.hid hgc; clear own gr hne hv hgc)
        obtain rfl := HV.out
        have KC := Lib.hid (own_blk HO.out)
        have W4 : Hid (Below w.heap.size w w4) := Lib.hid (W3.out.trans (HB4.out.mono W3.out.size))
        have R4 := Lib.hid (R3.out.keep HB4.out)
        have HWG : Hid (w.heap.size ≤ gc) := Lib.hid (Nat.le_trans W3.out.size HGC.out)
        have HGL : Hid (g ≠ gc) := Lib.hid (fun e => by
          obtain ⟨g', q', e2, hl, _⟩ := R3.out.at (k := 0) (by omega)
          cases e2
          have := HGC.out
          omega)
        clear HO HB4 HV HE HB3 S1 P1 R3 W3
        obtain ⟨x, hx⟩ : ∃ x, F0 p = x := ⟨_, rfl⟩
        obtain ⟨y, hy⟩ : ∃ y, F0 (p + 1) = y := ⟨_, rfl⟩
        have r1 := R4.out.some_ (k := p) (by omega)
        have r2 := R4.out.some_ (k := p + 1) (by omega)
        have q1 := KC.out.row8.cell p (by omega)
        have q2 := KC.out.row8.cell (p + 1) (by omega)
        have f1 := KC.out.row8.free p
        have f2 := KC.out.row8.free (p + 1)
        rw [Nat.zero_add] at r1 r2
        rw [hx] at r1 q1
        rw [hy] at r2 q2
        have HX := Lib.hid hx
        have HY := Lib.hid hy
        have i1 : (p : Int) < (k : Int) := by omega
        have i2 : (p : Int) + 1 < (k : Int) := by omega
        have i3 : (0 : Int) ≤ (p : Int) := by omega
        have i4 : (0 : Int) ≤ (p : Int) + 1 := by omega
        have i5 : ((p : Int) + 1).toNat = p + 1 := by omega
        have i6 : IntKind.i64.wrap ((p : Int) + 1) = (p : Int) + 1 := IntWalk.i64_in _ (by omega)
        clear hx hy
        have q3 : ∀ v : Value, (w4.setCell ⟨gc, p, none⟩ v).cell? ⟨gc, p + 1, none⟩ = some (.int .u8 (y : Int)) := fun v => by rw [cell_far (Or.inr (by omega))]; exact q2
        have q4 : ∀ v : Value, (w4.setCell ⟨gc, p, none⟩ v).frozen? ⟨gc, p + 1, none⟩ = false := fun v => by rw [World.frozen?_setCell]; exact f2
        have KN : Hid (Blk8 ((w4.setCell ⟨gc, p, none⟩ (.int .u8 (y : Int))).setCell ⟨gc, p + 1, none⟩ (.int .u8 (x : Int))).drew gc k (fun j => if j = p + 1 then x else if j = p then y else F0 j)) := Lib.hid ((KC.out.put (x := y) (show p < k by omega)).put (x := x) (show p + 1 < k by omega)).drew
        have WN : Hid (Below w.heap.size w ((w4.setCell ⟨gc, p, none⟩ (.int .u8 (y : Int))).setCell ⟨gc, p + 1, none⟩ (.int .u8 (x : Int))).drew) := Lib.hid ((W4.out.setCell (p := ⟨gc, p, none⟩) HWG.out _).setCell (p := ⟨gc, p + 1, none⟩) HWG.out _).drew
        have RN : Hid (Rd ((w4.setCell ⟨gc, p, none⟩ (.int .u8 (y : Int))).setCell ⟨gc, p + 1, none⟩ (.int .u8 (x : Int))).drew (some ⟨g, 0, none⟩) k F0) := Lib.hid (Rd.mk_ fun j hj => by
          show ((w4.setCell ⟨gc, p, none⟩ (.int .u8 (y : Int))).setCell ⟨gc, p + 1, none⟩ (.int .u8 (x : Int))).cell? ⟨g, 0 + j, none⟩ = _
          rw [cell_far (Or.inl HGL.out), cell_far (Or.inl HGL.out)]
          exact R4.out.some_ hj)
        go_region
        clear q1 q2 q3 q4 f1 f2 r1 r2 KC W4 R4
        generalize ((w4.setCell ⟨gc, p, none⟩ (.int .u8 (y : Int))).setCell ⟨gc, p + 1, none⟩ (.int .u8 (x : Int))).drew = w5 at *
        have xl : x < 256 := by rw [← HX.out]; exact HB.out p (by omega)
        have yl : y < 256 := by rw [← HY.out]; exact HB.out (p + 1) (by omega)
        have XL := Lib.hid xl
        have YL := Lib.hid yl
        have hsw := sumF_swap (F := F0) (G := fun j => if j = p + 1 then x else if j = p then y else F0 j) (p := p) (n := k) (by omega) (by rw [HX.out]; exact xl) (by rw [HY.out]; exact yl) (by rw [if_neg (by omega), if_pos rfl, HY.out]) (by rw [if_pos rfl, HX.out]) (fun j _ h1 h2 => by rw [if_neg h2, if_neg h1])
        rw [HS.out, HX.out, HY.out] at hsw
        have S2 := Lib.hid (msum (some ⟨gc, 0, none⟩) k cc (fun j => if j = p + 1 then x else if j = p then y else F0 j) w5.drew KN.out.drew.rd (fun j hj => by
          try dsimp only
          split
          · exact XL.out
          · split
            · exact YL.out
            · exact HB.out j hj) (by omega))
        generalize sumF (fun j => if j = p + 1 then x else if j = p then y else F0 j) k = s2 at *
        obtain ⟨t, ht1, ht2⟩ : ∃ t : Bool, ((s2 : Int) == (s : Int)) = t ∧ ((x : Int) == (y : Int)) = t := by
          refine ⟨_, rfl, ?_⟩
          rw [Bool.eq_iff_iff, beq_iff_eq, beq_iff_eq]
          exact ⟨fun h => by have := hsw.2 (by omega); omega, fun h => by have := hsw.1 (by omega); omega⟩
        have r1 := RN.out.some_ (k := p) (by omega)
        have r2 := RN.out.some_ (k := p + 1) (by omega)
        rw [Nat.zero_add, HX.out] at r1
        rw [Nat.zero_add, HY.out] at r2
        clear hsw KN xl yl
        go_wp2_with fail
        refine wp_region_still_tail 14 (by kernel_rfl) (by kernel_rfl) ?_
        simp only [List.take_succ_cons, List.take_zero, List.drop_succ_cons, List.drop_zero]
        repeat still_step
        still_call S2.out
        repeat still_step
        refine wpStill_nil ?_
        change wpList _ _ _ _ _ w5.drew
        clear i5 i6
        go_wp2_with fail
        go_ret
        exact ⟨by simp, WN.out.drew⟩
end Go.Proofs.Ytjbicpekpgaokaa
