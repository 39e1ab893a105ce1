import Derived.Test.YtoofgcdilgfclaaU32
import Derived.Test.YtoofgcdilgfclaaU37
namespace Go.Proofs.Ytoofgcdilgfclaa
open Go.RowKit Go.Sort
set_option maxRecDepth 100000
set_option maxHeartbeats 4000000

def RReadQ (o : Option Qx) (w : World) (e : Ending) (w' : World) : Prop := ∃ v, e = .returned (.tuple #[v, .bool o.isSome]) ∧ QVal w' v (o.getD Qx.no) ∧ Below w.heap.size w w'
theorem conv_blk {w : World} {g : Nat} {L : List Nat} (c : Nat) (h : Blk8 w g L.length (gt L)) : Sem.run Try.prog (convert 22 9 (.slice (some ⟨g, 0, none⟩) L.length c)) w = .ok (.string (strOf L)) w := conv_L c (BL.blk h rfl (fun _ _ => rfl))
theorem numL_cut (L : List Nat) (k m : Nat) (h : k + m ≤ L.length) : numL ((L.drop k).take m) = numF (fun j => gt L (k + j)) m := by
  unfold numL
  have e : ((L.drop k).take m).length = m := by rw [List.length_take, List.length_drop]; omega
  rw [e]
  exact numF_congr (fun j hj => by rw [gt_take hj, gt_drop])
theorem cutQ_eq {L : List Nat} (h : 12 ≤ L.length) : cutQ L = ⟨(gt L 0 : Nat), (numF (fun j => gt L (1 + j)) 2 : Nat), (numF (fun j => gt L (3 + j)) 6 : Nat), (gt L 9 : Nat), L.drop 12⟩ := by
  unfold cutQ
  have e0 := numL_cut L 0 1 (by omega)
  rw [List.drop_zero, numF_1] at e0
  have e9 := numL_cut L 9 1 (by omega)
  rw [numF_1] at e9
  rw [e0, numL_cut L 1 2 (by omega), numL_cut L 3 6 (by omega), e9]
theorem rreadReq_short (A : Option Addr) (n c : Nat) (w : World) (hn : n < 12) :
    Calls Try.prog 21 #[.slice A n c] w (RReadQ none w) := by
  obtain ⟨w0, hw0⟩ : ∃ w0, w.alloc (.cells #[.int .i64 0, .int .i64 0, .int .i64 0, .int .i64 0, .slice none 0 0] 27) = w0 := ⟨_, rfl⟩
  have HW0 := Lib.hid hw0
  obtain ⟨H, hH⟩ : ∃ H, w.heap.size = H := ⟨_, rfl⟩
  have HH := Lib.hid hH
  have HB0 : Hid (Below H w w0) := Lib.hid (by rw [← hw0, ← hH]; exact (Below.refl _ _).alloc (Nat.le_refl _) _)
  have HK0 : Hid (QV w0 H 0 0 0 0 none 0 0) := Lib.hid (by rw [← hw0]; exact QV.of_new hH)
  have e1 : (n : Int) < 12 := by omega
  have z0 := HK0.out.c0
  have z1 := HK0.out.c1
  have z2 := HK0.out.c2
  have z3 := HK0.out.c3
  have z4 := HK0.out.c4
  have zf := HK0.out.f
  clear hw0
  go_enter Try.func21, Try.ntmps21
  go_upto_region 1 with fail
  rw [HW0.out]
  go_wp2_with fail
  refine bodyPost_ret (v := .tuple #[rqv 0 0 0 0 none 0 0, .bool false]) ?_ rfl ?_
  · rw [results_cell_tmp rfl]
    simp [(HK0.out.put5 (k' := 0) (s' := 0) (g' := 0) (i' := 0) (A' := none) (m' := 0) (c' := 0)).load, Result.andThen, asAddr]
  exact ⟨_, rfl, ⟨none, 0, rfl, BL.nil, By.nil⟩, by rw [hH]; exact ((((HB0.out.setCell (by simp) _).setCell (by simp) _).setCell (by simp) _).setCell (by simp) _).setCell (by simp) _⟩
theorem rreadReq (b : Nat) (L : List Nat) (cb : Nat) (w : World) (hL : BL w (some ⟨b, 0, none⟩) L) (hc : L.length ≤ cb) (hby : By L) (hl : L.length ≤ 140737488355328) :
    Calls Try.prog 21 #[.slice (some ⟨b, 0, none⟩) L.length cb] w (RReadQ (refQ L) w) := by
  by_cases h12 : L.length < 12
  · have e : refQ L = none := if_neg (by omega)
    rw [e]
    exact rreadReq_short _ _ _ w h12
  have h12' : 12 ≤ L.length := by omega
  clear h12
  obtain ⟨w0, hw0⟩ : ∃ w0, w.alloc (.cells #[.int .i64 0, .int .i64 0, .int .i64 0, .int .i64 0, .slice none 0 0] 27) = w0 := ⟨_, rfl⟩
  have HW0 := Lib.hid hw0
  obtain ⟨H, hH⟩ : ∃ H, w.heap.size = H := ⟨_, rfl⟩
  have HH := Lib.hid hH
  have HB0 : Hid (Below H w w0) := Lib.hid (by rw [← hw0, ← hH]; exact (Below.refl _ _).alloc (Nat.le_refl _) _)
  have HK0 : Hid (QV w0 H 0 0 0 0 none 0 0) := Lib.hid (by rw [← hw0]; exact QV.of_new hH)
  have hL0 : BL w0 (some ⟨b, 0, none⟩) L := hL.below (by rw [hH]; exact HB0.out)
  have HL0 := Lib.hid hL0
  obtain ⟨base, hbase⟩ : ∃ base, w0.heap.size = base := ⟨_, rfl⟩
  have HBS := Lib.hid hbase
  have hHb : H < base := by rw [← hbase]; exact HK0.out.lt
  have hbl : base ≤ w0.heap.size := Nat.le_of_eq hbase.symm
  have BD : Hid (Below base w0 w0.drew) := Lib.hid (by rw [← hbase]; exact below_drewN 1 w0)
  have BA : Hid (∀ o, Below base w0 (w0.alloc o).drew) := Lib.hid (fun o => by rw [← hbase]; exact ((Below.refl _ _).alloc (Nat.le_refl _) o).drew)
  have BA2 : Hid (∀ o o', Below base w0 ((w0.alloc o).alloc o').drew) := Lib.hid (fun o o' => by rw [← hbase]; exact (((Below.refl _ _).alloc (Nat.le_refl _) o).alloc (by simp) o').drew)
  have HLW : Hid (∀ W, Below base w0 W → BL W (some ⟨b, 0, none⟩) L) := Lib.hid (fun W hW => HL0.out.below (by rw [hbase]; exact hW))
  have HCQ := Lib.hid (cutQ_eq h12')
  have HNF : Hid (∀ k m, k + m ≤ L.length → m ≤ 6 → ∀ W, Below base w0 W → Calls Try.prog 44 #[.slice (some ⟨b, k, none⟩) m (cb - k)] W fun e w' => e = .returned (.int .i64 (numF (fun j => gt L (k + j)) m : Nat)) ∧ w' = W) := Lib.hid (fun k m hk hm W hW => rfrom (some ⟨b, k, none⟩) m (cb - k) (fun j => gt L (k + j)) W (by have := (HLW.out W hW).rd.cut (k := k) (m := m) hk; rwa [Nat.zero_add] at this) (fun j hj => hby.gt _) (by omega))
  have HSX : Hid (∀ W, Below base w0 W → W.cell? ⟨b, 0, none⟩ = some (.int .u8 (gt L 0 : Nat)) ∧ W.cell? ⟨b, 9, none⟩ = some (.int .u8 (gt L 9 : Nat))) := Lib.hid (fun W hW => by
    have h1 := (HLW.out W hW).rd
    have h2 := h1.some_ (k := 0) (by omega)
    have h3 := h1.some_ (k := 9) (by omega)
    rw [Nat.zero_add] at h2 h3
    exact ⟨h2, h3⟩)
  obtain ⟨A8, hA8⟩ : ∃ A8, (if cb = 12 then (some ⟨b, 0, none⟩ : Option Addr) else some ⟨b, 12, none⟩) = A8 := ⟨_, rfl⟩
  have HR8 : Hid (∀ W, Below base w0 W → BL W A8 (L.drop 12)) := Lib.hid (fun W hW => (HLW.out W hW).drop 12 A8 (fun hk g o e => by
    cases e
    rw [← hA8, if_neg (by omega), Nat.zero_add]))
  have b0 := hby.gt 0
  have b9 := hby.gt 9
  have NF1 := Lib.hid (HNF.out 1 2 (by omega) (by omega))
  have NF3 := Lib.hid (HNF.out 3 6 (by omega) (by omega))
  have HD12 : Hid ((L.drop 12).length = L.length - 12) := Lib.hid (by rw [List.length_drop])
  have HBY := Lib.hid hby
  have HDB : Hid (By (L.drop 12)) := Lib.hid (hby.drop 12)
  have HRF : Hid (refQ L = if (cutQ L).Right ∧ (cutQ L).lay = L then some (cutQ L) else none) := Lib.hid (by
    unfold refQ
    by_cases h : (cutQ L).Right ∧ (cutQ L).lay = L
    · rw [if_pos h, if_pos ⟨h12', h⟩]
    · rw [if_neg h, if_neg (fun a => h a.2)])
  rw [HCQ.out] at HRF
  have HCV : Hid (∀ W, Below base w0 W → Sem.run Try.prog (convert 22 9 (.slice (some ⟨b, 0, none⟩) L.length cb)) W = .ok (.string (strOf L)) W) := Lib.hid (fun W hW => conv_L cb (HLW.out W hW))
  obtain ⟨x0, hx0⟩ : ∃ x0, gt L 0 = x0 := ⟨_, rfl⟩
  obtain ⟨x9, hx9⟩ : ∃ x9, gt L 9 = x9 := ⟨_, rfl⟩
  obtain ⟨xs, hxs⟩ : ∃ xs, numF (fun j => gt L (1 + j)) 2 = xs := ⟨_, rfl⟩
  obtain ⟨xg, hxg⟩ : ∃ xg, numF (fun j => gt L (3 + j)) 6 = xg := ⟨_, rfl⟩
  obtain ⟨D, hD⟩ : ∃ D, L.drop 12 = D := ⟨_, rfl⟩
  rw [hx0, hx9] at HSX
  rw [hxs] at NF1
  rw [hxg] at NF3
  rw [hx0] at b0
  rw [hx9] at b9
  rw [hD] at HR8 HD12 HDB
  rw [hx0, hx9, hxs, hxg, hD] at HRF
  obtain ⟨o, ho⟩ : ∃ o, refQ L = o := ⟨_, rfl⟩
  rw [ho] at HRF ⊢
  obtain ⟨n, hn⟩ : ∃ n, L.length = n := ⟨_, rfl⟩
  have HN := Lib.hid hn
  rw [hn] at h12' hc hl HCV HD12 ⊢
  obtain ⟨m, hm⟩ : ∃ m, n - 12 = m := ⟨_, rfl⟩
  have HMM := Lib.hid hm
  rw [hm] at HD12
  have wx0 : IntKind.i64.wrap (x0 : Int) = (x0 : Int) := IntWalk.i64_in _ (by omega)
  have wx9 : IntKind.i64.wrap (x9 : Int) = (x9 : Int) := IntWalk.i64_in _ (by omega)
  have d1 : (1 : Int) ≤ (cb : Int) := by omega
  have d3 : (3 : Int) ≤ (cb : Int) := by omega
  have d9 : (9 : Int) ≤ (cb : Int) := by omega
  have d12 : (12 : Int) ≤ (cb : Int) := by omega
  have d12n : (12 : Int) ≤ (n : Int) := by omega
  have dnc : (n : Int) ≤ (cb : Int) := by omega
  have l0 : (0 : Int) < (n : Int) := by omega
  have l9 : (9 : Int) < (n : Int) := by omega
  have n12 : ¬ (n : Int) < 12 := by omega
  have n1 : ¬ cb = 1 := by omega
  have l0n : 0 < n := by omega
  have l9n : 9 < n := by omega
  have n3 : ¬ cb = 3 := by omega
  have HEa : Hid (OwnL (((w0.alloc (.cells #[.int .i64 0, .int .i64 0, .int .i64 0, .int .i64 0, .slice none 0 0] 27)).alloc (.cells #[] 5)).drew) base (.slice (some ⟨w0.heap.size + 1, 0, none⟩) 0 0) []) := Lib.hid (own_empty (by
    have e : (w0.alloc (.cells #[.int .i64 0, .int .i64 0, .int .i64 0, .int .i64 0, .slice none 0 0] 27)).heap.size = w0.heap.size + 1 := by simp
    rw [← e]
    exact alloc_block _ _) (by omega))
  have HEb : Hid (OwnL (((w0.alloc (.cells #[] 5)).alloc (.cells #[.int .i64 0, .int .i64 0, .int .i64 0, .int .i64 0, .slice none 0 0] 27)).drew) base (.slice (some ⟨w0.heap.size, 0, none⟩) 0 0) []) := Lib.hid (own_empty ((((Below.refl _ _).alloc (Nat.le_refl _) _ : Below (w0.alloc (.cells #[] 5)).heap.size (w0.alloc (.cells #[] 5)) _).block w0.heap.size (by simp)).trans (alloc_block w0 _)) (by omega))
  have HEc : Hid (OwnL (w0.alloc (.cells #[] 5)).drew base (.slice (some ⟨w0.heap.size, 0, none⟩) 0 0) []) := Lib.hid (own_empty (alloc_block w0 _) (by omega))
  have HIa : Hid (QV ((w0.alloc (.cells #[.int .i64 0, .int .i64 0, .int .i64 0, .int .i64 0, .slice none 0 0] 27)).alloc (.cells #[] 5)).drew w0.heap.size 0 0 0 0 none 0 0) := Lib.hid ((QV.of_new (w := w0) rfl).below ((Below.refl _ _).alloc (Nat.le_refl _) _).drew)
  have HIb : Hid (QV ((w0.alloc (.cells #[] 5)).alloc (.cells #[.int .i64 0, .int .i64 0, .int .i64 0, .int .i64 0, .slice none 0 0] 27)).drew (w0.heap.size + 1) 0 0 0 0 none 0 0) := Lib.hid (QV.of_new (by simp))
  have HNEW : Hid (∀ W k' s' g' i' A' n' c', QV (World.alloc W (.cells #[.int .i64 k', .int .i64 s', .int .i64 g', .int .i64 i', .slice A' n' c'] 27)) W.heap.size k' s' g' i' A' n' c') := Lib.hid (fun W _ _ _ _ _ _ _ => QV.of_new rfl)
  have HFIN : Hid (∀ W k A c, QV W k 0 0 0 0 none 0 0 → BL W A D → Below base w0 W → base ≤ k →
      QV (((((W.setCell ⟨k, 0, none⟩ (.int .i64 (x0 : Int))).setCell ⟨k, 1, none⟩ (.int .i64 (xs : Int))).setCell ⟨k, 2, none⟩ (.int .i64 (xg : Int))).setCell ⟨k, 3, none⟩ (.int .i64 (x9 : Int))).setCell ⟨k, 4, none⟩ (.slice A m c)) k (x0 : Int) (xs : Int) (xg : Int) (x9 : Int) A m c ∧
      BL (((((W.setCell ⟨k, 0, none⟩ (.int .i64 (x0 : Int))).setCell ⟨k, 1, none⟩ (.int .i64 (xs : Int))).setCell ⟨k, 2, none⟩ (.int .i64 (xg : Int))).setCell ⟨k, 3, none⟩ (.int .i64 (x9 : Int))).setCell ⟨k, 4, none⟩ (.slice A m c)) A D ∧
      Below base w0 (((((W.setCell ⟨k, 0, none⟩ (.int .i64 (x0 : Int))).setCell ⟨k, 1, none⟩ (.int .i64 (xs : Int))).setCell ⟨k, 2, none⟩ (.int .i64 (xg : Int))).setCell ⟨k, 3, none⟩ (.int .i64 (x9 : Int))).setCell ⟨k, 4, none⟩ (.slice A m c))) := Lib.hid (fun W k A c hI hD hB hk => by
    have k0 := hI.put0 (x0 : Int)
    have k1 := k0.put1 (xs : Int)
    have k2 := k1.put2 (xg : Int)
    have k3 := k2.put3 (x9 : Int)
    exact ⟨hI.put5, ((((hD.set hI (by decide)).set k0 (by decide)).set k1 (by decide)).set k2 (by decide)).set k3 (by decide), ((((hB.setCell hk _).setCell hk _).setCell hk _).setCell hk _).setCell hk _⟩)
  clear hw0 hL hL0 hby ho hx0 hx9 hxs hxg hD hn hbase HNF
  go_enter Try.func21, Try.ntmps21
  go_upto_region 1 with fail
  rw [HW0.out]
  go_upto_region 3 with fail
  have HRD : Hid (∀ W, Below base w0 W → Rd W A8 m (gt D)) := Lib.hid (fun W hW => by have h := (HR8.out W hW).rd; rwa [HD12.out] at h)
  go_cut [4] from 9 to 27 (fun s4 wx => ∃ k A c, s4 = .pointer (some ⟨k, 0, none⟩) ∧ base ≤ k ∧ Hid (m ≤ c ∧ QV wx k (x0 : Int) (xs : Int) (xg : Int) (x9 : Int) A m c ∧ BL wx A D ∧ Below base w0 wx))
  case first =>
    go_wp2_with fail
    go_region_held_law (fun W => W.cell? ⟨b, 0, none⟩ = some (.int .u8 (x0 : Int)) ∧ W.cell? ⟨b, 9, none⟩ = some (.int .u8 (x9 : Int)))
      (first | (with_reducible assumption) | (with_reducible exact HSX.out _ BD.out) | (with_reducible exact HSX.out _ (BA.out _)) | (with_reducible exact HSX.out _ (BA2.out _ _)) | (with_reducible exact HSX.out _ HB3.out) | (with_reducible exact HSX.out _ (HB3.out.alloc hz3 _)) | exact HSX.out _ (HFIN.out _ _ _ _ HK3.out HD3.out HB3.out (by omega)).2.2 | exact HSX.out _ (HFIN.out _ _ _ _ (QV.of_new rfl) (HD3.out.below ((Below.refl _ _).alloc (Nat.le_refl _) _)) (HB3.out.alloc hz3 _) hz3).2.2)
      (first
        | (refine step_append_rd _ rfl (.tmp 23) (.tmp 25) 22 rfl Try.underlying22 base (.slice (some ⟨w0.heap.size + 1, 0, none⟩) 0 0) 0 (gt []) rfl HEa.out A8 m (cb - 12) (gt D) rfl (HRD.out _ (BA2.out _ _)) (by omega) (Nat.le_trans hbl (BA2.out _ _).size) ?_; intro v3 w3 own3 gr3 _ hne3; have HO3 : Hid (OwnL w3 base v3 D) := Lib.hid (OwnL.app (L := []) rfl HD12.out rfl rfl own3); have HB3 : Hid (Below base w0 w3) := Lib.hid (Below.grown (BA2.out _ _) gr3 (Nat.le_trans hbl (BA2.out _ _).size) (fun k hk => by have hk2 : w0.heap.size + 1 = k := Option.some.inj hk; omega)); obtain ⟨g3, c3, hv3, hk3, _, _, hc3⟩ := HO3.out.some_ (hne3 (by simp)); rw [HD12.out] at hv3 hc3; subst hv3; have HD3 : Hid (BL w3 (some ⟨g3, 0, none⟩) D) := Lib.hid (BL.blk hk3 rfl (fun _ _ => rfl)); have HK3 : Hid (QV w3 w0.heap.size 0 0 0 0 none 0 0) := Lib.hid (HIa.out.keep (gr3.block _ HIa.out.lt (by simp [Value.ownBlock]))); have y0 := HK3.out.c0; have y1 := HK3.out.c1; have y2 := HK3.out.c2; have y3 := HK3.out.c3; have y4 := HK3.out.c4; have yf := HK3.out.f; have hz3 : base ≤ w3.heap.size := Nat.le_trans hbl HB3.out.size; clear own3 gr3 hne3 hk3)
        | (refine step_append_rd _ rfl (.tmp 23) (.tmp 25) 22 rfl Try.underlying22 base (.slice (some ⟨w0.heap.size, 0, none⟩) 0 0) 0 (gt []) rfl HEb.out A8 m (cb - 12) (gt D) rfl (HRD.out _ (BA2.out _ _)) (by omega) (Nat.le_trans hbl (BA2.out _ _).size) ?_; intro v3 w3 own3 gr3 _ hne3; have HO3 : Hid (OwnL w3 base v3 D) := Lib.hid (OwnL.app (L := []) rfl HD12.out rfl rfl own3); have HB3 : Hid (Below base w0 w3) := Lib.hid (Below.grown (BA2.out _ _) gr3 (Nat.le_trans hbl (BA2.out _ _).size) (fun k hk => by have hk2 : w0.heap.size = k := Option.some.inj hk; omega)); obtain ⟨g3, c3, hv3, hk3, _, _, hc3⟩ := HO3.out.some_ (hne3 (by simp)); rw [HD12.out] at hv3 hc3; subst hv3; have HD3 : Hid (BL w3 (some ⟨g3, 0, none⟩) D) := Lib.hid (BL.blk hk3 rfl (fun _ _ => rfl)); have HK3 : Hid (QV w3 (w0.heap.size + 1) 0 0 0 0 none 0 0) := Lib.hid (HIb.out.keep (gr3.block _ HIb.out.lt (by simp [Value.ownBlock]))); have y0 := HK3.out.c0; have y1 := HK3.out.c1; have y2 := HK3.out.c2; have y3 := HK3.out.c3; have y4 := HK3.out.c4; have yf := HK3.out.f; have hz3 : base ≤ w3.heap.size := Nat.le_trans hbl HB3.out.size; clear own3 gr3 hne3 hk3)
        | (refine step_append_rd _ rfl (.tmp 23) (.tmp 25) 22 rfl Try.underlying22 base (.slice (some ⟨w0.heap.size, 0, none⟩) 0 0) 0 (gt []) rfl HEc.out A8 m (cb - 12) (gt D) rfl (HRD.out _ (BA.out _)) (by omega) (Nat.le_trans hbl (BA.out _).size) ?_; intro v3 w3 own3 gr3 _ hne3; have HO3 : Hid (OwnL w3 base v3 D) := Lib.hid (OwnL.app (L := []) rfl HD12.out rfl rfl own3); have HB3 : Hid (Below base w0 w3) := Lib.hid (Below.grown (BA.out _) gr3 (Nat.le_trans hbl (BA.out _).size) (fun k hk => by have hk2 : w0.heap.size = k := Option.some.inj hk; omega)); obtain ⟨g3, c3, hv3, hk3, _, _, hc3⟩ := HO3.out.some_ (hne3 (by simp)); rw [HD12.out] at hv3 hc3; subst hv3; have HD3 : Hid (BL w3 (some ⟨g3, 0, none⟩) D) := Lib.hid (BL.blk hk3 rfl (fun _ _ => rfl)); have y0 := (QV.of_new (w := w3) (k := 0) (s := 0) (g := 0) (i := 0) (A := none) (m := 0) (c := 0) rfl).c0; have y1 := (QV.of_new (w := w3) (k := 0) (s := 0) (g := 0) (i := 0) (A := none) (m := 0) (c := 0) rfl).c1; have y2 := (QV.of_new (w := w3) (k := 0) (s := 0) (g := 0) (i := 0) (A := none) (m := 0) (c := 0) rfl).c2; have y3 := (QV.of_new (w := w3) (k := 0) (s := 0) (g := 0) (i := 0) (A := none) (m := 0) (c := 0) rfl).c3; have y4 := (QV.of_new (w := w3) (k := 0) (s := 0) (g := 0) (i := 0) (A := none) (m := 0) (c := 0) rfl).c4; have yf := (QV.of_new (w := w3) (k := 0) (s := 0) (g := 0) (i := 0) (A := none) (m := 0) (c := 0) rfl).f; have hz3 : base ≤ w3.heap.size := Nat.le_trans hbl HB3.out.size; clear own3 gr3 hne3 hk3)
        | (go_simp; go_at_call 44; (with_reducible refine (NF1.out _ (by first | exact BD.out | exact BA.out _ | exact BA2.out _ _ | exact HB3.out | exact HB3.out.alloc hz3 _)).mono ?_); rintro e wn ⟨rfl, hw⟩; obtain rfl := hw.symm; (try dsimp only))
        | (go_simp; go_at_call 44; (with_reducible refine (NF3.out _ (by first | exact BD.out | exact BA.out _ | exact BA2.out _ _ | exact HB3.out | exact HB3.out.alloc hz3 _)).mono ?_); rintro e wn ⟨rfl, hw⟩; obtain rfl := hw.symm; (try dsimp only))
        | fail)
    all_goals
      go_wp2_with fail
      go_meet
      first
        | exact ⟨_, _, _, rfl, hz3, Lib.hid ⟨hc3, QV.of_new rfl, HD3.out.below ((Below.refl _ _).alloc (Nat.le_refl _) _), HB3.out.alloc hz3 _⟩⟩
        | exact ⟨_, _, _, rfl, by omega, Lib.hid ⟨hc3, HFIN.out _ _ _ _ HK3.out HD3.out HB3.out (by omega)⟩⟩
        | exact ⟨_, _, _, rfl, hz3, Lib.hid ⟨hc3, HFIN.out _ _ _ _ (QV.of_new rfl) (HD3.out.below ((Below.refl _ _).alloc (Nat.le_refl _) _)) (HB3.out.alloc hz3 _) hz3⟩⟩
  case rest =>
    obtain ⟨k, A, c, rfl, hk, HC⟩ := hcut
    have HI := Lib.hid HC.out.2.1
    have HD := Lib.hid HC.out.2.2.1
    have HBw := Lib.hid HC.out.2.2.2
    have HZw : Hid (base ≤ wc.heap.size) := Lib.hid (Nat.le_trans hbl HBw.out.size)
    have HBB : Hid (∀ W, Below wc.heap.size wc W → Below base w0 W) := Lib.hid (fun W hW => HBw.out.trans (hW.mono HZw.out))
    have HKH : Hid (∀ W, Below wc.heap.size wc W → QV W H 0 0 0 0 none 0 0) := Lib.hid (fun W hW => HK0.out.below (by rw [HBS.out]; exact HBB.out W hW))
    have HSY : Hid (∀ W, Below wc.heap.size wc W → (W.cell? ⟨k, 0, none⟩ = some (.int .i64 (x0 : Int)) ∧ W.cell? ⟨k, 1, none⟩ = some (.int .i64 (xs : Int)) ∧ W.cell? ⟨k, 2, none⟩ = some (.int .i64 (xg : Int)) ∧ W.cell? ⟨k, 3, none⟩ = some (.int .i64 (x9 : Int)) ∧ W.cell? ⟨k, 4, none⟩ = some (.slice A m c)) ∧ Sem.run Try.prog (convert 22 9 (.slice (some ⟨b, 0, none⟩) n cb)) W = .ok (.string (strOf L)) W) := Lib.hid (fun W hW => by
      have e := HI.out.below hW
      exact ⟨⟨e.c0, e.c1, e.c2, e.c3, e.c4⟩, HCV.out W (HBB.out W hW)⟩)
    obtain ⟨z, hz⟩ := bool_of (OkQ (x0 : Int) (xs : Int) (xg : Int) (x9 : Int) m)
    have HZ := Lib.hid hz
    have HRT : Hid (∀ W, Calls Try.prog 17 #[rqv (x0 : Int) (xs : Int) (xg : Int) (x9 : Int) A m c] W fun e w' => e = .returned (.bool z) ∧ Below W.heap.size W w') := Lib.hid (fun W => rrightReq (x0 : Int) (xs : Int) (xg : Int) (x9 : Int) A m c W z hz)
    clear hz
    have hbW : Below wc.heap.size wc wc.drew := below_drewN 1 wc
    have z0 := (HKH.out _ hbW).c0
    have z1 := (HKH.out _ hbW).c1
    have z2 := (HKH.out _ hbW).c2
    have z3 := (HKH.out _ hbW).c3
    have z4 := (HKH.out _ hbW).c4
    have zf := (HKH.out _ hbW).f
    have zne : ¬ k = H := by omega
    have HNO : Hid (o = none → ∀ W, Below wc.heap.size wc W → ∀ e, e = Ending.returned (.tuple #[rqv 0 0 0 0 none 0 0, .bool false]) → RReadQ o w e (((((W.setCell ⟨H, 0, none⟩ (.int .i64 0)).setCell ⟨H, 1, none⟩ (.int .i64 0)).setCell ⟨H, 2, none⟩ (.int .i64 0)).setCell ⟨H, 3, none⟩ (.int .i64 0)).setCell ⟨H, 4, none⟩ (.slice none 0 0))) := Lib.hid (fun ho W hW e he => by
      subst ho he
      have hB := HB0.out.trans ((HBB.out _ hW).mono (Nat.le_of_lt hHb))
      exact ⟨_, rfl, ⟨none, 0, rfl, BL.nil, By.nil⟩, by rw [HH.out]; exact ((((hB.setCell (by simp) _).setCell (by simp) _).setCell (by simp) _).setCell (by simp) _).setCell (by simp) _⟩)
    have HYES : Hid (o = some ⟨(x0 : Int), (xs : Int), (xg : Int), (x9 : Int), D⟩ → ∀ W, Below wc.heap.size wc W → ∀ e, e = Ending.returned (.tuple #[rqv (x0 : Int) (xs : Int) (xg : Int) (x9 : Int) A m c, .bool true]) → RReadQ o w e (((((W.setCell ⟨H, 0, none⟩ (.int .i64 (x0 : Int))).setCell ⟨H, 1, none⟩ (.int .i64 (xs : Int))).setCell ⟨H, 2, none⟩ (.int .i64 (xg : Int))).setCell ⟨H, 3, none⟩ (.int .i64 (x9 : Int))).setCell ⟨H, 4, none⟩ (.slice A m c))) := Lib.hid (fun ho W hW e he => by
      subst ho he
      have hB := HB0.out.trans ((HBB.out _ hW).mono (Nat.le_of_lt hHb))
      have hI := HKH.out _ hW
      have k0 := hI.put0 (x0 : Int)
      have k1 := k0.put1 (xs : Int)
      have k2 := k1.put2 (xg : Int)
      have k3 := k2.put3 (x9 : Int)
      refine ⟨_, rfl, ⟨A, c, by rw [show (Option.getD (some (⟨(x0 : Int), (xs : Int), (xg : Int), (x9 : Int), D⟩ : Qx)) Qx.no) = ⟨(x0 : Int), (xs : Int), (xg : Int), (x9 : Int), D⟩ from rfl]; dsimp only; rw [HD12.out], (((((HD.out.below hW).set hI (by decide)).set k0 (by decide)).set k1 (by decide)).set k2 (by decide)).set k3 (by decide), HDB.out⟩, by rw [HH.out]; exact ((((hB.setCell (by simp) _).setCell (by simp) _).setCell (by simp) _).setCell (by simp) _).setCell (by simp) _⟩)
    unfold rqv at HRT
    clear HC HEa HEb HEc HIa HIb HFIN HNEW NF1 NF3 BA BA2 hA8
    go_upto_region 4 with fail
    cases z with
    | false =>
      have HON : Hid (o = none) := Lib.hid (by rw [HRF.out]; exact if_neg (fun h => by have := HZ.out.2 (by have h1 := h.1; unfold Qx.Right at h1; dsimp only at h1; rw [HD12.out] at h1; exact h1); cases this))
      go_wp2_with fail
      try simp only [List.append_eq, List.cons_append, List.nil_append]
      refine wp_region_held_drew (S := fun W => (W.cell? ⟨k, 0, none⟩ = some (.int .i64 (x0 : Int)) ∧ W.cell? ⟨k, 1, none⟩ = some (.int .i64 (xs : Int)) ∧ W.cell? ⟨k, 2, none⟩ = some (.int .i64 (xg : Int)) ∧ W.cell? ⟨k, 3, none⟩ = some (.int .i64 (x9 : Int)) ∧ W.cell? ⟨k, 4, none⟩ = some (.slice A m c)) ∧ Sem.run Try.prog (convert 22 9 (.slice (some ⟨b, 0, none⟩) n cb)) W = .ok (.string (strOf L)) W) (by as_aux_lemma => kernel_rfl) ?_ (fun hHeld => ?_)
      · exact HSY.out _ hbW
      refine wpAnyH_take (i := 0) (v := ?_) rfl (by as_aux_lemma => kernel_rfl) (by as_aux_lemma => kernel_rfl) (by as_aux_lemma => kernel_rfl) (fun _ _ _ h => h) (Or.inl ⟨by rfl, ?_⟩) (by assumption) ?_
      rotate_left
      · intro w hSw; (try dsimp only at hSw); go_simp; (try with_reducible rfl)
      simp only [Act.put, List.getElem_toArray, List.getElem_cons_zero, List.setIfInBounds_toArray, List.set_cons_zero, List.set_cons_succ]
      refine wpAnyH_ready (rs := [1]) (by as_aux_lemma => kernel_rfl) (by simp) ?_
      refine AllReadyH.cons rfl (fun K hK => ?_) AllReadyH.nil
      go_simp
      go_wp2_with fail
      refine (HRT.out _).mono ?_
      rintro e wn1 ⟨rfl, hb⟩
      try dsimp only
      have hbW' := hbW.trans (hb.mono hbW.size)
      clear hb hbW z0 z1 z2 z3 z4 zf
      have hbW := hbW'
      clear hbW'
      have z0 := (HKH.out _ hbW).c0; have z1 := (HKH.out _ hbW).c1; have z2 := (HKH.out _ hbW).c2; have z3 := (HKH.out _ hbW).c3; have z4 := (HKH.out _ hbW).c4; have zf := (HKH.out _ hbW).f
      refine hK.out _ _ ?_ (fun hHeld2 => ?_)
      · (try dsimp only); exact HSY.out _ hbW
      clear hK K hHeld
      have hHeld := hHeld2
      clear hHeld2
      refine wpAnyH_take (i := 2) (v := ?_) rfl (by as_aux_lemma => kernel_rfl) (by as_aux_lemma => kernel_rfl) (by as_aux_lemma => kernel_rfl) (fun _ _ _ h => h) (Or.inl ⟨by rfl, ?_⟩) (by assumption) ?_
      rotate_left
      · intro w hSw; (try dsimp only at hSw); go_simp; (try with_reducible rfl)
      simp only [Act.put, List.getElem_toArray, List.getElem_cons_zero, List.getElem_cons_succ, List.setIfInBounds_toArray, List.set_cons_zero, List.set_cons_succ]
      refine wpAnyH_take (i := 3) (v := ?_) rfl (by as_aux_lemma => kernel_rfl) (by as_aux_lemma => kernel_rfl) (by as_aux_lemma => kernel_rfl) (fun _ _ _ h => h) (Or.inl ⟨by rfl, ?_⟩) (by assumption) ?_
      rotate_left
      · intro w hSw; (try dsimp only at hSw); go_simp; (try with_reducible rfl)
      simp only [Act.put, List.getElem_toArray, List.getElem_cons_zero, List.getElem_cons_succ, List.setIfInBounds_toArray, List.set_cons_zero, List.set_cons_succ]
      refine wpAnyH_take (i := 4) rfl (by as_aux_lemma => kernel_rfl) (by as_aux_lemma => kernel_rfl) (by as_aux_lemma => kernel_rfl) (fun _ _ _ h => h) (Or.inr ⟨by rfl, rfl⟩) (by assumption) ?_
      simp only [Act.put, List.getElem_toArray, List.getElem_cons_zero, List.getElem_cons_succ, List.setIfInBounds_toArray, List.set_cons_zero, List.set_cons_succ]
      refine wpAnyH_take (i := 5) rfl (by as_aux_lemma => kernel_rfl) (by as_aux_lemma => kernel_rfl) (by as_aux_lemma => kernel_rfl) (fun _ _ _ h => h) (Or.inr ⟨by rfl, rfl⟩) (by assumption) ?_
      simp only [Act.put, List.getElem_toArray, List.getElem_cons_zero, List.getElem_cons_succ, List.setIfInBounds_toArray, List.set_cons_zero, List.set_cons_succ]
      refine wpAnyH_take (i := 6) rfl (by as_aux_lemma => kernel_rfl) (by as_aux_lemma => kernel_rfl) (by as_aux_lemma => kernel_rfl) (fun _ _ _ h => h) (Or.inr ⟨by rfl, rfl⟩) (by assumption) ?_
      simp only [Act.put, List.getElem_toArray, List.getElem_cons_zero, List.getElem_cons_succ, List.setIfInBounds_toArray, List.set_cons_zero, List.set_cons_succ]
      refine wpAnyH_take (i := 7) rfl (by as_aux_lemma => kernel_rfl) (by as_aux_lemma => kernel_rfl) (by as_aux_lemma => kernel_rfl) (fun _ _ _ h => h) (Or.inr ⟨by rfl, rfl⟩) (by assumption) ?_
      simp only [Act.put, List.getElem_toArray, List.getElem_cons_zero, List.getElem_cons_succ, List.setIfInBounds_toArray, List.set_cons_zero, List.set_cons_succ]
      refine wpAnyH_take (i := 8) rfl (by as_aux_lemma => kernel_rfl) (by as_aux_lemma => kernel_rfl) (by as_aux_lemma => kernel_rfl) (fun _ _ _ h => h) (Or.inr ⟨by rfl, rfl⟩) (by assumption) ?_
      simp only [Act.put, List.getElem_toArray, List.getElem_cons_zero, List.getElem_cons_succ, List.setIfInBounds_toArray, List.set_cons_zero, List.set_cons_succ]
      refine wpAnyH_take (i := 9) rfl (by as_aux_lemma => kernel_rfl) (by as_aux_lemma => kernel_rfl) (by as_aux_lemma => kernel_rfl) (fun _ _ _ h => h) (Or.inr ⟨by rfl, rfl⟩) (by assumption) ?_
      simp only [Act.put, List.getElem_toArray, List.getElem_cons_zero, List.getElem_cons_succ, List.setIfInBounds_toArray, List.set_cons_zero, List.set_cons_succ]
      refine wpAnyH_take (i := 10) (v := ?_) rfl (by as_aux_lemma => kernel_rfl) (by as_aux_lemma => kernel_rfl) (by as_aux_lemma => kernel_rfl) (fun _ _ _ h => h) (Or.inl ⟨by rfl, ?_⟩) (by assumption) ?_
      rotate_left
      · intro w hSw; (try dsimp only at hSw); go_simp; (try with_reducible rfl)
      simp only [Act.put, List.getElem_toArray, List.getElem_cons_zero, List.getElem_cons_succ, List.setIfInBounds_toArray, List.set_cons_zero, List.set_cons_succ]
      refine wpAnyH_done (by as_aux_lemma => kernel_rfl) ?_ _
      go_wp2_with fail
      refine bodyPost_ret (v := .tuple #[rqv 0 0 0 0 none 0 0, .bool false]) ?_ rfl ?_
      · rw [results_cell_tmp rfl]
        simp [((HKH.out _ hbW).put5 (k' := 0) (s' := 0) (g' := 0) (i' := 0) (A' := none) (m' := 0) (c' := 0)).load, Result.andThen, asAddr]
      exact HNO.out HON.out _ hbW _ rfl
    | true =>
      have hOQ := HZ.out.1 rfl
      have HOQ := Lib.hid hOQ
      obtain ⟨T, hT⟩ : ∃ T, byteL x0 1 ++ byteL xs 2 ++ byteL xg 6 ++ byteL x9 1 ++ byteL m 2 ++ D = T := ⟨_, rfl⟩
      have HLY : Hid (∀ W, Below wc.heap.size wc W → Calls Try.prog 18 #[rqv (x0 : Int) (xs : Int) (xg : Int) (x9 : Int) A m c] W (CatRet T W)) := Lib.hid (fun W hW => by
        have h := rlayReq x0 xs xg x9 D A c W (by rw [HD12.out]; exact HOQ.out.2.2.2.2.2.2.2.2) (HD.out.below hW)
        rw [HD12.out, hT] at h
        exact h)
      have HTB : Hid (By T) := Lib.hid (by rw [← hT]; exact (((((byteL_by _ _).app (byteL_by _ _)).app (byteL_by _ _)).app (byteL_by _ _)).app (byteL_by _ _)).app HDB.out)
      have HTL : Hid ((⟨(x0 : Int), (xs : Int), (xg : Int), (x9 : Int), D⟩ : Qx).Right ∧ (⟨(x0 : Int), (xs : Int), (xg : Int), (x9 : Int), D⟩ : Qx).lay = T) := Lib.hid (by
        refine ⟨by unfold Qx.Right; dsimp only; rw [HD12.out]; exact HOQ.out, ?_⟩
        rw [← hT]
        unfold Qx.lay
        dsimp only
        simp only [Int.toNat_natCast, HD12.out, List.append_assoc])
      have HSE := Lib.hid (str_eqL HTB.out HBY.out)
      obtain ⟨y, hy⟩ : ∃ y : Bool, ((strOf T).toList == (strOf L).toList) = y := ⟨_, rfl⟩
      have HY := Lib.hid hy
      clear hT hOQ
      unfold rqv at HLY
      go_wp2_with fail
      try simp only [List.append_eq, List.cons_append, List.nil_append]
      refine wp_region_held_drew (S := fun W => (W.cell? ⟨k, 0, none⟩ = some (.int .i64 (x0 : Int)) ∧ W.cell? ⟨k, 1, none⟩ = some (.int .i64 (xs : Int)) ∧ W.cell? ⟨k, 2, none⟩ = some (.int .i64 (xg : Int)) ∧ W.cell? ⟨k, 3, none⟩ = some (.int .i64 (x9 : Int)) ∧ W.cell? ⟨k, 4, none⟩ = some (.slice A m c)) ∧ Sem.run Try.prog (convert 22 9 (.slice (some ⟨b, 0, none⟩) n cb)) W = .ok (.string (strOf L)) W) (by as_aux_lemma => kernel_rfl) ?_ (fun hHeld => ?_)
      · exact HSY.out _ hbW
      refine wpAnyH_take (i := 0) (v := ?_) rfl (by as_aux_lemma => kernel_rfl) (by as_aux_lemma => kernel_rfl) (by as_aux_lemma => kernel_rfl) (fun _ _ _ h => h) (Or.inl ⟨by rfl, ?_⟩) (by assumption) ?_
      rotate_left
      · intro w hSw; (try dsimp only at hSw); go_simp; (try with_reducible rfl)
      simp only [Act.put, List.getElem_toArray, List.getElem_cons_zero, List.setIfInBounds_toArray, List.set_cons_zero, List.set_cons_succ]
      refine wpAnyH_ready (rs := [1]) (by as_aux_lemma => kernel_rfl) (by simp) ?_
      refine AllReadyH.cons rfl (fun K hK => ?_) AllReadyH.nil
      go_simp
      go_wp2_with fail
      refine (HRT.out _).mono ?_
      rintro e wn1 ⟨rfl, hb⟩
      try dsimp only
      have hbW' := hbW.trans (hb.mono hbW.size)
      clear hb hbW z0 z1 z2 z3 z4 zf
      have hbW := hbW'
      clear hbW'
      have z0 := (HKH.out _ hbW).c0; have z1 := (HKH.out _ hbW).c1; have z2 := (HKH.out _ hbW).c2; have z3 := (HKH.out _ hbW).c3; have z4 := (HKH.out _ hbW).c4; have zf := (HKH.out _ hbW).f
      refine hK.out _ _ ?_ (fun hHeld2 => ?_)
      · (try dsimp only); exact HSY.out _ hbW
      clear hK K hHeld
      have hHeld := hHeld2
      clear hHeld2
      refine wpAnyH_take (i := 2) (v := ?_) rfl (by as_aux_lemma => kernel_rfl) (by as_aux_lemma => kernel_rfl) (by as_aux_lemma => kernel_rfl) (fun _ _ _ h => h) (Or.inl ⟨by rfl, ?_⟩) (by assumption) ?_
      rotate_left
      · intro w hSw; (try dsimp only at hSw); go_simp; (try with_reducible rfl)
      simp only [Act.put, List.getElem_toArray, List.getElem_cons_zero, List.getElem_cons_succ, List.setIfInBounds_toArray, List.set_cons_zero, List.set_cons_succ]
      refine wpAnyH_take (i := 3) (v := ?_) rfl (by as_aux_lemma => kernel_rfl) (by as_aux_lemma => kernel_rfl) (by as_aux_lemma => kernel_rfl) (fun _ _ _ h => h) (Or.inl ⟨by rfl, ?_⟩) (by assumption) ?_
      rotate_left
      · intro w hSw; (try dsimp only at hSw); go_simp; (try with_reducible rfl)
      simp only [Act.put, List.getElem_toArray, List.getElem_cons_zero, List.getElem_cons_succ, List.setIfInBounds_toArray, List.set_cons_zero, List.set_cons_succ]
      refine wpAnyH_take (i := 4) (v := ?_) rfl (by as_aux_lemma => kernel_rfl) (by as_aux_lemma => kernel_rfl) (by as_aux_lemma => kernel_rfl) (fun _ _ _ h => h) (Or.inl ⟨by rfl, ?_⟩) (by assumption) ?_
      rotate_left
      · intro w hSw; (try dsimp only at hSw); go_simp; (try with_reducible rfl)
      simp only [Act.put, List.getElem_toArray, List.getElem_cons_zero, List.getElem_cons_succ, List.setIfInBounds_toArray, List.set_cons_zero, List.set_cons_succ]
      refine wpAnyH_take (i := 7) (v := ?_) rfl (by as_aux_lemma => kernel_rfl) (by as_aux_lemma => kernel_rfl) (by as_aux_lemma => kernel_rfl) (fun _ _ _ h => h) (Or.inl ⟨by rfl, ?_⟩) (by assumption) ?_
      rotate_left
      · intro w hSw; (try dsimp only at hSw); go_simp; (try with_reducible rfl)
      simp only [Act.put, List.getElem_toArray, List.getElem_cons_zero, List.getElem_cons_succ, List.setIfInBounds_toArray, List.set_cons_zero, List.set_cons_succ]
      refine wpAnyH_take (i := 8) (v := ?_) rfl (by as_aux_lemma => kernel_rfl) (by as_aux_lemma => kernel_rfl) (by as_aux_lemma => kernel_rfl) (fun _ _ _ h => h) (Or.inl ⟨by rfl, ?_⟩) (by assumption) ?_
      rotate_left
      · intro w hSw; (try dsimp only at hSw); go_simp; (try with_reducible rfl)
      simp only [Act.put, List.getElem_toArray, List.getElem_cons_zero, List.getElem_cons_succ, List.setIfInBounds_toArray, List.set_cons_zero, List.set_cons_succ]
      refine wpAnyH_ready (rs := [5]) (by as_aux_lemma => kernel_rfl) (by simp) ?_
      refine AllReadyH.cons rfl (fun K hK => ?_) AllReadyH.nil
      go_simp
      go_wp2_with fail
      refine (HLY.out _ hbW).mono ?_
      rintro e wn5 ⟨g33, c33, rfl, hk33, hb, hc33, _⟩
      try dsimp only
      have hbW' := hbW.trans (hb.mono hbW.size)
      have hcv := conv_blk c33 hk33
      have HC33 := Lib.hid hk33
      clear hk33 hc33
      clear hb hbW z0 z1 z2 z3 z4 zf
      have hbW := hbW'
      clear hbW'
      have z0 := (HKH.out _ hbW).c0; have z1 := (HKH.out _ hbW).c1; have z2 := (HKH.out _ hbW).c2; have z3 := (HKH.out _ hbW).c3; have z4 := (HKH.out _ hbW).c4; have zf := (HKH.out _ hbW).f
      refine hK.out _ _ ?_ (fun hHeld2 => ?_)
      · (try dsimp only); exact HSY.out _ hbW
      clear hK K hHeld
      have hHeld := hHeld2
      clear hHeld2
      refine wpAnyH_ready (rs := [6]) (by as_aux_lemma => kernel_rfl) (by simp) ?_
      refine AllReadyH.cons rfl (fun K hK => ?_) AllReadyH.nil
      go_simp
      go_wp2_with fail
      refine hK.out _ _ ?_ (fun hHeld2 => ?_)
      · (try dsimp only); exact HSY.out _ hbW
      clear hK K hHeld
      have hHeld := hHeld2
      clear hHeld2
      refine wpAnyH_take (i := 9) (v := ?_) rfl (by as_aux_lemma => kernel_rfl) (by as_aux_lemma => kernel_rfl) (by as_aux_lemma => kernel_rfl) (fun _ _ _ h => h) (Or.inl ⟨by rfl, ?_⟩) (by assumption) ?_
      rotate_left
      · intro w hSw; (try dsimp only at hSw); go_simp; (try with_reducible rfl)
      simp only [Act.put, List.getElem_toArray, List.getElem_cons_zero, List.getElem_cons_succ, List.setIfInBounds_toArray, List.set_cons_zero, List.set_cons_succ]
      refine wpAnyH_take (i := 10) (v := ?_) rfl (by as_aux_lemma => kernel_rfl) (by as_aux_lemma => kernel_rfl) (by as_aux_lemma => kernel_rfl) (fun _ _ _ h => h) (Or.inl ⟨by rfl, ?_⟩) (by assumption) ?_
      rotate_left
      · intro w hSw; (try dsimp only at hSw); go_simp; (try with_reducible rfl)
      simp only [Act.put, List.getElem_toArray, List.getElem_cons_zero, List.getElem_cons_succ, List.setIfInBounds_toArray, List.set_cons_zero, List.set_cons_succ]
      refine wpAnyH_done (by as_aux_lemma => kernel_rfl) ?_ _
      cases y with
      | false =>
        have HON : Hid (o = none) := Lib.hid (by
          rw [HRF.out]
          refine if_neg (fun h => ?_)
          have h2 := h.2
          rw [HTL.out.2] at h2
          have := HSE.out.2 h2
          have hy := HY.out
          rw [beq_eq_false_iff_ne] at hy
          exact hy this)
        go_wp2_with fail
        refine bodyPost_ret (v := .tuple #[rqv 0 0 0 0 none 0 0, .bool false]) ?_ rfl ?_
        · rw [results_cell_tmp rfl]
          simp [((HKH.out _ hbW).put5 (k' := 0) (s' := 0) (g' := 0) (i' := 0) (A' := none) (m' := 0) (c' := 0)).load, Result.andThen, asAddr]
        exact HNO.out HON.out _ hbW _ rfl
      | true =>
        have HOS : Hid (o = some ⟨(x0 : Int), (xs : Int), (xg : Int), (x9 : Int), D⟩) := Lib.hid (by
          rw [HRF.out]
          refine if_pos ⟨HTL.out.1, ?_⟩
          rw [HTL.out.2]
          apply HSE.out.1
          have hy := HY.out
          rw [beq_iff_eq] at hy
          exact hy)
        have y0 := (HSY.out _ hbW).1.1
        have y1 := (HSY.out _ hbW).1.2.1
        have y2 := (HSY.out _ hbW).1.2.2.1
        have y3 := (HSY.out _ hbW).1.2.2.2.1
        have y4 := (HSY.out _ hbW).1.2.2.2.2
        go_wp2_with fail
        refine bodyPost_ret (v := .tuple #[rqv (x0 : Int) (xs : Int) (xg : Int) (x9 : Int) A m c, .bool true]) ?_ rfl ?_
        · rw [results_cell_tmp rfl]
          simp [((HKH.out _ hbW).put5 (k' := (x0 : Int)) (s' := (xs : Int)) (g' := (xg : Int)) (i' := (x9 : Int)) (A' := A) (m' := m) (c' := c)).load, Result.andThen, asAddr]
        exact HYES.out HOS.out _ hbW _ rfl
end Go.Proofs.Ytoofgcdilgfclaa
