import Derived.Test.YtoofgcdilgfclaaU48
import Derived.Test.YtoofgcdilgfclaaU37
namespace Go.Proofs.Ytoofgcdilgfclaa
open Go.RowKit Go.Sort
set_option maxRecDepth 100000
set_option maxHeartbeats 2000000

/-- corbelref7.piece. -/
def RPcRetQ (B : Nat → Nat) (L : Nat) (w : World) (e : Ending) (w' : World) : Prop :=
  ∃ g c, e = .returned (pv (B 0 : Nat) (numF (fun j => B (1 + j)) 6 : Nat) (B 7 : Nat) (some ⟨g, 0, none⟩) (L - 8) c) ∧ Blk8 w' g (L - 8) (fun j => B (8 + j)) ∧ Below w.heap.size w w'
theorem rpieceQ (b q L cb : Nat) (B : Nat → Nat) (w : World) (h : Rd w (some ⟨b, q, none⟩) L B) (hB : ∀ j, j < L → B j < 256) (h8 : 8 ≤ L) (hL : L ≤ 160) (hcb : L ≤ cb) :
    Calls Try.prog 48 #[.slice (some ⟨b, q, none⟩) L cb] w (RPcRetQ B L w) := by
  obtain ⟨w1, hw1⟩ : ∃ w1, w.alloc (.cells #[.int .i64 0, .int .i64 0, .int .i64 0, .slice none 0 0] 31) = w1 := ⟨_, rfl⟩
  have HW1 := Lib.hid hw1
  obtain ⟨H, hH⟩ : ∃ H, w.heap.size = H := ⟨_, rfl⟩
  have HH := Lib.hid hH
  have HK1 : Hid (PV w1 H 0 0 0 none 0 0) := Lib.hid (by rw [← hw1]; exact PV.of_new hH)
  have hb1 : Below H w w1 := by rw [← hw1, ← hH]; exact (Below.refl _ _).alloc (Nat.le_refl _) _
  have HB1 := Lib.hid hb1
  have HR1 : Hid (Rd w1 (some ⟨b, q, none⟩) L B) := Lib.hid (h.keep (by rw [hH]; exact hb1))
  have hbH : b < H := by rw [← hH]; exact cell?_lt (h.some_ (k := 0) (by omega))
  obtain ⟨base, hbase⟩ : ∃ base, w1.heap.size = base := ⟨_, rfl⟩
  have HBS := Lib.hid hbase
  have hHb : H < base := by rw [← hbase]; exact HK1.out.lt
  have BD : Hid (Below base w1 w1.drew) := Lib.hid (by rw [← hbase]; exact below_drewN 1 w1)
  have BA : Hid (∀ o, Below base w1 (w1.alloc o).drew) := Lib.hid (fun o => by rw [← hbase]; exact ((Below.refl _ _).alloc (Nat.le_refl _) o).drew)
  have HSX : Hid (∀ W, Below base w1 W → W.cell? ⟨b, q, none⟩ = some (.int .u8 (B 0 : Nat)) ∧ W.cell? ⟨b, q + 7, none⟩ = some (.int .u8 (B 7 : Nat))) := Lib.hid (fun W hW => by
    have h1 := HR1.out.keep (by rw [hbase]; exact hW)
    exact ⟨h1.some_ (k := 0) (by omega), h1.some_ (k := 7) (by omega)⟩)
  have HST : Hid (∀ W v0 v1 v2 v3, Below base w1 W → ((((W.setCell ⟨H, 0, none⟩ v0).setCell ⟨H, 1, none⟩ v1).setCell ⟨H, 2, none⟩ v2).setCell ⟨H, 3, none⟩ v3).cell? ⟨b, q, none⟩ = some (.int .u8 (B 0 : Nat)) ∧ ((((W.setCell ⟨H, 0, none⟩ v0).setCell ⟨H, 1, none⟩ v1).setCell ⟨H, 2, none⟩ v2).setCell ⟨H, 3, none⟩ v3).cell? ⟨b, q + 7, none⟩ = some (.int .u8 (B 7 : Nat))) := Lib.hid (fun W v0 v1 v2 v3 hW => by
    obtain ⟨p1, p2⟩ := HSX.out W hW
    have hne : b ≠ H := by omega
    rw [cell_far (Or.inl hne), cell_far (Or.inl hne), cell_far (Or.inl hne), cell_far (Or.inl hne), cell_far (Or.inl hne), cell_far (Or.inl hne), cell_far (Or.inl hne), cell_far (Or.inl hne)]
    exact ⟨p1, p2⟩)
  have NF : Hid (∀ W, Below base w1 W → Calls Try.prog 44 #[.slice (some ⟨b, q + 1, none⟩) 6 (cb - 1)] W fun e w' => e = .returned (.int .i64 (numF (fun j => B (1 + j)) 6 : Nat)) ∧ w' = W) := Lib.hid (fun W hW => rfrom (some ⟨b, q + 1, none⟩) 6 (cb - 1) (fun j => B (1 + j)) W (by have := (HR1.out.cut (k := 1) (m := 6) (by omega)).keep (by rw [hbase]; exact hW); exact this) (fun j hj => hB _ (by omega)) (by omega))
  have b0 := hB 0 (by omega)
  have b7 := hB 7 (by omega)
  obtain ⟨A8, hA8⟩ : ∃ A8, (if cb = 8 then (some ⟨b, q, none⟩ : Option Addr) else some ⟨b, q + 8, none⟩) = A8 := ⟨_, rfl⟩
  have HR8 : Hid (∀ W, Below base w1 W → Rd W A8 (L - 8) (fun j => B (8 + j))) := Lib.hid (fun W hW hn => by
    have e : A8 = some ⟨b, q + 8, none⟩ := by rw [← hA8, if_neg (by omega)]
    rw [e]
    have h1 := (HR1.out.cut (k := 8) (m := L - 8) (by omega)).keep (by rw [hbase]; exact hW)
    exact h1 hn)
  have n8b : L - 8 ≤ 152 := by omega
  have HE : Hid ((w1.alloc (.cells #[] 5)).drew.ownsRow base 5 1 (.slice (some ⟨w1.heap.size, 0, none⟩) 0 0) 0 (rowL 0 (fun _ => 0))) := Lib.hid (own_empty (alloc_block w1 _) (Nat.le_of_eq hbase.symm))
  have HZA : Hid (base ≤ (w1.alloc (.cells #[] 5)).drew.heap.size) := Lib.hid (by rw [← hbase]; exact (BA.out _).size)
  obtain ⟨x0, hx0⟩ : ∃ x0, B 0 = x0 := ⟨_, rfl⟩
  obtain ⟨x7, hx7⟩ : ∃ x7, B 7 = x7 := ⟨_, rfl⟩
  obtain ⟨xg, hxg⟩ : ∃ xg, numF (fun j => B (1 + j)) 6 = xg := ⟨_, rfl⟩
  have HX0 := Lib.hid hx0
  have HX7 := Lib.hid hx7
  have HXG := Lib.hid hxg
  rw [hx0, hx7] at HSX HST
  rw [hxg] at NF
  rw [hx0] at b0
  rw [hx7] at b7
  have wx0 : IntKind.i64.wrap (x0 : Int) = (x0 : Int) := IntWalk.i64_in _ (by omega)
  have wx7 : IntKind.i64.wrap (x7 : Int) = (x7 : Int) := IntWalk.i64_in _ (by omega)
  have d1 : (1 : Int) ≤ (cb : Int) := by omega
  have d7 : (7 : Int) ≤ (cb : Int) := by omega
  have d8 : (8 : Int) ≤ (cb : Int) := by omega
  have d8L : (8 : Int) ≤ (L : Int) := by omega
  have dLc : (L : Int) ≤ (cb : Int) := by omega
  have l0 : (0 : Int) < (L : Int) := by omega
  have l7 : (7 : Int) < (L : Int) := by omega
  have n1 : ¬ cb = 1 := by omega
  clear hw1 hH hb1 h hbase hx0 hx7 hxg hB
  have z0 := HK1.out.c0
  have z1 := HK1.out.c1
  have z2 := HK1.out.c2
  have z3 := HK1.out.c3
  have fz := HK1.out.f
  go_enter Try.func48, Try.ntmps48
  go_wp2_with fail
  rw [HW1.out, HH.out]
  go_region_held_law (fun W => W.cell? ⟨b, q, none⟩ = some (.int .u8 (x0 : Int)) ∧ W.cell? ⟨b, q + 7, none⟩ = some (.int .u8 (x7 : Int)))
    (first | (with_reducible assumption) | (with_reducible exact HSX.out _ BD.out) | (with_reducible exact HSX.out _ (BA.out _)) | (with_reducible exact HSX.out _ HB3.out) | (with_reducible exact HST.out _ _ _ _ _ HB3.out))
    (first
      | (refine step_append_rd _ rfl (.tmp 14) (.tmp 16) 22 rfl Try.underlying22 base (.slice (some ⟨w1.heap.size, 0, none⟩) 0 0) 0 (fun _ => 0) rfl HE.out A8 (L - 8) (cb - 8) (fun j => B (8 + j)) rfl (HR8.out _ (BA.out _)) (by omega) HZA.out ?_; intro v3 w3 own3 gr3 _ hne3; rw [Nat.zero_add] at own3; have HO3 : Hid (w3.ownsRow base 5 1 v3 (L - 8) (rowL (L - 8) (fun j => B (8 + j)))) := Lib.hid (own_congr own3 (fun j hj => if_neg (Nat.not_lt_zero j))); have HB3 : Hid (Below base w1 w3) := Lib.hid (Below.grown (BA.out _) gr3 HZA.out (fun k hk => by cases hk; exact Nat.le_of_eq HBS.out.symm)); obtain ⟨g3, c3, hv3, _, _, _⟩ := own_some own3 (hne3 (by simp)); subst hv3; have HK3 : Hid (PV w3 H 0 0 0 none 0 0) := Lib.hid (HK1.out.below (by rw [HBS.out]; exact HB3.out)); have y0 := HK3.out.c0; have y1 := HK3.out.c1; have y2 := HK3.out.c2; have y3 := HK3.out.c3; have yf := HK3.out.f; clear own3 gr3 hne3)
      | (go_simp; go_at_call 44; (with_reducible refine (NF.out _ (by first | exact BD.out | exact BA.out _ | exact HB3.out)).mono ?_); rintro e wn ⟨rfl, hw⟩; obtain rfl := hw.symm; (try dsimp only))
      | fail)
  all_goals
    go_wp2_with fail
    refine bodyPost_ret (v := pv (x0 : Int) (xg : Int) (x7 : Int) (some ⟨g3, 0, none⟩) (L - 8) c3) ?_ rfl ?_
    · rw [results_cell1 rfl]
      simp [HK3.out.put.load, Result.andThen, asAddr]
    refine ⟨g3, c3, by rw [HX0.out, HX7.out, HXG.out], ?_, by rw [HH.out]; exact below_put4 (HB1.out.trans (HB3.out.mono (Nat.le_of_lt hHb))) (Nat.le_refl _) _ _ _ _⟩
    have k3 := own_blk HO3.out
    have h1 := set_block HK3.out 0 (.int .i64 (x0 : Int))
    have h2 := set_block h1 1 (.int .i64 (xg : Int))
    have h3 := set_block h2 2 (.int .i64 (x7 : Int))
    exact (((k3.farB HK3.out (by decide)).farB h1 (by decide)).farB h2 (by decide)).farB h3 (by decide)

/-! What the reference reads, step by step. -/
theorem rdX_ge {R : List Nat} (h : 40 ≤ R.length) : rdX (R, false) = (⟨(gt R 0 : Nat), (numF (fun j => gt R (1 + j)) 6 : Nat), (gt R 7 : Nat), (R.drop 8).take 32⟩, R.drop 40, false) := by
  unfold rdX
  rw [nx_ge (show 1 ≤ R.length by omega)]
  dsimp only
  rw [nx_ge (show 6 ≤ (R.drop 1).length by rw [List.length_drop]; omega)]
  dsimp only
  rw [List.drop_drop, nx_ge (show 1 ≤ (R.drop (1 + 6)).length by rw [List.length_drop]; omega)]
  dsimp only
  rw [List.drop_drop, nx_ge (show 32 ≤ (R.drop (1 + 6 + 1)).length by rw [List.length_drop]; omega)]
  dsimp only
  rw [List.drop_drop]
  have e0 := numL_cut R 0 1 (by omega)
  rw [List.drop_zero, numF_1] at e0
  have e7 := numL_cut R 7 1 (by omega)
  rw [numF_1] at e7
  rw [e0, numL_cut R 1 6 (by omega), e7]
theorem rdY_ge {R : List Nat} (h : 135 ≤ R.length) : rdY (R, false) = (⟨(gt R 0 : Nat), (numF (fun j => gt R (1 + j)) 6 : Nat), (R.drop 7).take 128⟩, R.drop 135, false) := by
  unfold rdY
  rw [nx_ge (show 1 ≤ R.length by omega)]
  dsimp only
  rw [nx_ge (show 6 ≤ (R.drop 1).length by rw [List.length_drop]; omega)]
  dsimp only
  rw [List.drop_drop, nx_ge (show 128 ≤ (R.drop (1 + 6)).length by rw [List.length_drop]; omega)]
  dsimp only
  rw [List.drop_drop]
  have e0 := numL_cut R 0 1 (by omega)
  rw [List.drop_zero, numF_1] at e0
  rw [e0, numL_cut R 1 6 (by omega)]
theorem rdPs_step {L : List Nat} {k : Nat} {l : List Px} (h : rdPs k (L.drop 6, false) = (l, L.drop (6 + 40 * k), false)) (hl : 6 + 40 * k + 40 ≤ L.length) :
    rdPs (k + 1) (L.drop 6, false) = (l ++ [⟨(gt (L.drop (6 + 40 * k)) 0 : Nat), (numF (fun j => gt (L.drop (6 + 40 * k)) (1 + j)) 6 : Nat), (gt (L.drop (6 + 40 * k)) 7 : Nat), ((L.drop (6 + 40 * k)).drop 8).take 32⟩], L.drop (6 + 40 * (k + 1)), false) := by
  show ((rdPs k _).1 ++ [(rdX (rdPs k _).2).1], (rdX (rdPs k _).2).2) = _
  rw [h]
  dsimp only
  rw [rdX_ge (by rw [List.length_drop]; omega)]
  dsimp only
  rw [show (L.drop (6 + 40 * k)).drop 40 = L.drop (6 + 40 * (k + 1)) by rw [List.drop_drop]; congr 1]
theorem rdIs_step {M : List Nat} {k : Nat} {l : List Ix} (h : rdIs k (M, false) = (l, M.drop (135 * k), false)) (hl : 135 * k + 135 ≤ M.length) :
    rdIs (k + 1) (M, false) = (l ++ [⟨(gt (M.drop (135 * k)) 0 : Nat), (numF (fun j => gt (M.drop (135 * k)) (1 + j)) 6 : Nat), ((M.drop (135 * k)).drop 7).take 128⟩], M.drop (135 * (k + 1)), false) := by
  show ((rdIs k _).1 ++ [(rdY (rdIs k _).2).1], (rdY (rdIs k _).2).2) = _
  rw [h]
  dsimp only
  rw [rdY_ge (by rw [List.length_drop]; omega)]
  dsimp only
  rw [show (M.drop (135 * k)).drop 135 = M.drop (135 * (k + 1)) by rw [List.drop_drop]; congr 1]
/-- What all of it comes to, where nothing was too short. -/
theorem rdR_end {L : List Nat} {n1 n2 : Nat} {l : List Px} {m : List Ix} (h6 : 6 ≤ L.length) (hn1 : gt L 5 = n1) (h1 : rdPs n1 (L.drop 6, false) = (l, L.drop (6 + 40 * n1), false)) (hl : 6 + 40 * n1 + 1 ≤ L.length)
    (hn2 : gt L (6 + 40 * n1) = n2) (h2 : rdIs n2 (L.drop (7 + 40 * n1), false) = (m, (L.drop (7 + 40 * n1)).drop (135 * n2), false)) :
    rdR L = (⟨(gt L 0 : Nat), (numF (fun j => gt L (1 + j)) 4 : Nat), l, m⟩, (L.drop (7 + 40 * n1)).drop (135 * n2), false) := by
  unfold rdR
  rw [nx_ge (show 1 ≤ L.length by omega)]
  dsimp only
  rw [nx_ge (show 4 ≤ (L.drop 1).length by rw [List.length_drop]; omega)]
  dsimp only
  rw [List.drop_drop, nx_ge (show 1 ≤ (L.drop (1 + 4)).length by rw [List.length_drop]; omega)]
  dsimp only
  rw [List.drop_drop]
  have e0 := numL_cut L 0 1 (by omega)
  rw [List.drop_zero, numF_1] at e0
  have e5 := numL_cut L 5 1 (by omega)
  rw [numF_1] at e5
  have e6 := numL_cut L (6 + 40 * n1) 1 (by omega)
  rw [numF_1] at e6
  rw [e0, numL_cut L 1 4 (by omega), show 1 + 4 = 5 from rfl, e5, show gt L (5 + 0) = n1 from hn1, show 5 + 1 = 6 from rfl, h1]
  dsimp only
  rw [nx_ge (show 1 ≤ (L.drop (6 + 40 * n1)).length by rw [List.length_drop]; omega)]
  dsimp only
  rw [e6, show gt L (6 + 40 * n1 + 0) = n2 from hn2, List.drop_drop, show 6 + 40 * n1 + 1 = 7 + 40 * n1 by omega, h2]
/-- The reference asks whether it lays the same: that is whether nothing is left. -/
theorem projR_ref {L : List Nat} (hL : By L) {p : Rx} {rest : List Nat} (h : rdR L = (p, rest, false)) : projR L = if p.Right ∧ p.lay = L then some p else none := by
  by_cases hc : p.Right ∧ p.lay = L
  · rw [if_pos hc, ← hc.2]
    exact projR_lay hc.1
  · rw [if_neg hc]
    cases e : projR L with
    | none => rfl
    | some q =>
      exfalso
      obtain ⟨h1, h2⟩ := of_projR hL e
      have e2 := e
      unfold projR at e2
      rw [h] at e2
      split at e2
      · injection e2 with e2
        have e3 : p = q := e2
        subst e3
        exact hc ⟨h1, h2⟩
      · cases e2
theorem projR_counts {L : List Nat} {q : Rx} (h1 : q.Right) (h2 : q.lay = L) : L.length = 7 + 40 * gt L 5 + 135 * gt L (6 + 40 * gt L 5) := by
  have a := Rx.lay_len h1
  obtain ⟨b, c⟩ := Rx.lay_counts h1
  rw [h2] at a b c
  rw [b, c]
  exact a
theorem projR_short {L : List Nat} (hL : By L) (h : L.length ≠ 7 + 40 * gt L 5 + 135 * gt L (6 + 40 * gt L 5)) : projR L = none := projR_none (fun _ h1 h2 => h (projR_counts h1 h2)) hL
end Go.Proofs.Ytoofgcdilgfclaa
