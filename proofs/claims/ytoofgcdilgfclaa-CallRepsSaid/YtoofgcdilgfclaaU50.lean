import Derived.Test.YtoofgcdilgfclaaU49
import Derived.Deep.RegionHeldLaw
namespace Go.Proofs.Ytoofgcdilgfclaa
open Go.RowKit Go.Sort
set_option maxRecDepth 100000
set_option maxHeartbeats 4000000

def RReadR (o : Option Rx) (w : World) (e : Ending) (w' : World) : Prop := ∃ v, e = .returned (.tuple #[v, .bool o.isSome]) ∧ RVal w' v (o.getD Rx.no) ∧ Below w.heap.size w w'
/-- The first bytes, or the bytes behind them, as a piece. -/
theorem RPcRetQ.px {R : List Nat} {w : World} {e : Ending} {w' : World} (hR : By R) (hl : 40 ≤ R.length) (h : RPcRetQ (gt R) 40 w e w') :
    ∃ v, e = .returned v ∧ PxV w' v ⟨(gt R 0 : Nat), (numF (fun j => gt R (1 + j)) 6 : Nat), (gt R 7 : Nat), (R.drop 8).take 32⟩ ∧ Below w.heap.size w w' := by
  obtain ⟨g, c, rfl, hk, hb⟩ := h
  have hD : ((R.drop 8).take 32).length = 32 := by rw [List.length_take, List.length_drop]; omega
  refine ⟨_, rfl, ⟨some ⟨g, 0, none⟩, c, by dsimp only; rw [hD], BL.blk hk hD (fun j hj => ?_), (hR.drop 8).take 32⟩, hb⟩
  have hj' : j < 32 := hj
  rw [gt_take hj', gt_drop]
/-- What other blocks than those of one type hold is as it was. -/
theorem keep_other {T : TypeId} {B : Nat} {v v' : World} (ht : ∃ S0, Turn S0 v v' ∧ ∀ k ∈ S0, B ≤ k ∧ ∃ cs, v.heap[k]? = some (Obj.cells cs T (0, 0))) {g : Nat} {cs : Array Value} {ty : TypeId} (hg : v.heap[g]? = some (Obj.cells cs ty (0, 0))) (hne : ty ≠ T) : v'.heap[g]? = v.heap[g]? := by
  obtain ⟨S0, t, hS⟩ := ht
  refine t.block g (heap_lt hg) (fun hm => ?_)
  obtain ⟨_, cs', h'⟩ := hS g hm
  rw [hg] at h'
  injection h' with h'
  injection h' with _ h'
  exact hne h'
theorem BL.c0 {W : World} {g o : Nat} {R : List Nat} (h : BL W (some ⟨g, o, none⟩) R) (hl : 0 < R.length) : W.cell? ⟨g, o, none⟩ = some (.int .u8 (gt R 0 : Nat)) := by
  have := h.rd.some_ (k := 0) hl
  rwa [Nat.add_zero] at this
theorem rreadRep_short (A : Option Addr) (n c : Nat) (w : World) (hn : n < 6) : Calls Try.prog 25 #[.slice A n c] w (RReadR none w) := by
  obtain ⟨w0, hw0⟩ : ∃ w0, w.alloc (.cells #[.int .i64 0, .int .i64 0, .slice none 0 0, .slice none 0 0] 39) = w0 := ⟨_, rfl⟩
  have HW0 := Lib.hid hw0
  obtain ⟨H, hH⟩ : ∃ H, w.heap.size = H := ⟨_, rfl⟩
  have HB0 : Hid (Below H w w0) := Lib.hid (by rw [← hw0, ← hH]; exact (Below.refl _ _).alloc (Nat.le_refl _) _)
  have HK0 : Hid (RV w0 H 0 0 (.slice none 0 0) (.slice none 0 0)) := Lib.hid (by rw [← hw0]; exact RV.of_new hH)
  have e1 : (n : Int) < 6 := by omega
  have z0 := HK0.out.c0
  have z1 := HK0.out.c1
  have z2 := HK0.out.c2
  have z3 := HK0.out.c3
  have zf := HK0.out.f
  clear hw0
  go_enter Try.func25, Try.ntmps25
  go_upto_region 1 with fail
  rw [HW0.out]
  go_wp2_with fail
  refine bodyPost_ret (v := .tuple #[rpv 0 0 (.slice none 0 0) (.slice none 0 0), .bool false]) ?_ rfl ?_
  · rw [results_cell_tmp rfl]
    simp [(HK0.out.put4 (code' := 0) (boot' := 0) (u' := .slice none 0 0) (v' := .slice none 0 0)).load, Result.andThen, asAddr]
  exact ⟨_, rfl, RVal.no, by rw [hH]; exact (((HB0.out.setCell (by simp) _).setCell (by simp) _).setCell (by simp) _).setCell (by simp) _⟩
theorem rreadRep (b : Nat) (L : List Nat) (cb : Nat) (w : World) (hL : BL w (some ⟨b, 0, none⟩) L) (hc : L.length ≤ cb) (hby : By L) (hl : L.length ≤ 140737488355328) :
    Calls Try.prog 25 #[.slice (some ⟨b, 0, none⟩) L.length cb] w (RReadR (projR L) w) := by
  by_cases h6 : L.length < 6
  · rw [projR_short hby (by omega)]
    exact rreadRep_short _ _ _ w h6
  have h6' : 6 ≤ L.length := by omega
  clear h6
  obtain ⟨w0, hw0⟩ : ∃ w0, w.alloc (.cells #[.int .i64 0, .int .i64 0, .slice none 0 0, .slice none 0 0] 39) = w0 := ⟨_, rfl⟩
  have HW0 := Lib.hid hw0
  obtain ⟨H, hH⟩ : ∃ H, w.heap.size = H := ⟨_, rfl⟩
  have HH := Lib.hid hH
  have HB0 : Hid (Below H w w0) := Lib.hid (by rw [← hw0, ← hH]; exact (Below.refl _ _).alloc (Nat.le_refl _) _)
  have HK0 : Hid (RV w0 H 0 0 (.slice none 0 0) (.slice none 0 0)) := Lib.hid (by rw [← hw0]; exact RV.of_new hH)
  have HL0 : Hid (BL w0 (some ⟨b, 0, none⟩) L) := Lib.hid (hL.below (by rw [hH]; exact HB0.out))
  obtain ⟨base, hbase⟩ : ∃ base, w0.heap.size = base := ⟨_, rfl⟩
  have HBS := Lib.hid hbase
  have hHb : H < base := by rw [← hbase]; exact HK0.out.lt
  have BD : Hid (Below base w0 w0.drew) := Lib.hid (by rw [← hbase]; exact below_drewN 1 w0)
  have BA : Hid (∀ o, Below base w0 (w0.alloc o).drew) := Lib.hid (fun o => by rw [← hbase]; exact ((Below.refl _ _).alloc (Nat.le_refl _) o).drew)
  have HLW : Hid (∀ W, Below base w0 W → BL W (some ⟨b, 0, none⟩) L) := Lib.hid (fun W hW => HL0.out.below (by rw [hbase]; exact hW))
  have NF : Hid (∀ W, Below base w0 W → Calls Try.prog 44 #[.slice (some ⟨b, 1, none⟩) 4 (cb - 1)] W fun e w' => e = .returned (.int .i64 (numF (fun j => gt L (1 + j)) 4 : Nat)) ∧ w' = W) := Lib.hid (fun W hW => rfrom (some ⟨b, 1, none⟩) 4 (cb - 1) (fun j => gt L (1 + j)) W (by have := (HLW.out W hW).rd.cut (k := 1) (m := 4) (by omega); rwa [Nat.zero_add] at this) (fun j _ => hby.gt _) (by omega))
  have HSX : Hid (∀ W, Below base w0 W → W.cell? ⟨b, 0, none⟩ = some (.int .u8 (gt L 0 : Nat)) ∧ W.cell? ⟨b, 5, none⟩ = some (.int .u8 (gt L 5 : Nat))) := Lib.hid (fun W hW => by
    have h1 := (HLW.out W hW).rd
    have h2 := h1.some_ (k := 0) (by omega)
    have h3 := h1.some_ (k := 5) (by omega)
    rw [Nat.zero_add] at h2 h3
    exact ⟨h2, h3⟩)
  have b0 := hby.gt 0
  have b5 := hby.gt 5
  have HBY := Lib.hid hby
  have HSH := Lib.hid (projR_short hby)
  have HRF : Hid (∀ {p : Rx} {rest : List Nat}, rdR L = (p, rest, false) → projR L = if p.Right ∧ p.lay = L then some p else none) := Lib.hid (fun h => projR_ref hby h)
  have HEN : Hid (∀ {n1 n2 : Nat} {l : List Px} {m : List Ix}, gt L 5 = n1 → rdPs n1 (L.drop 6, false) = (l, L.drop (6 + 40 * n1), false) → 6 + 40 * n1 + 1 ≤ L.length → gt L (6 + 40 * n1) = n2 → rdIs n2 (L.drop (7 + 40 * n1), false) = (m, (L.drop (7 + 40 * n1)).drop (135 * n2), false) → rdR L = (⟨(gt L 0 : Nat), (numF (fun j => gt L (1 + j)) 4 : Nat), l, m⟩, (L.drop (7 + 40 * n1)).drop (135 * n2), false)) := Lib.hid (fun a b c d e => rdR_end h6' a b c d e)
  have HCV : Hid (∀ W, BL W (some ⟨b, 0, none⟩) L → Sem.run Try.prog (convert 22 9 (.slice (some ⟨b, 0, none⟩) L.length cb)) W = .ok (.string (strOf L)) W) := Lib.hid (fun W hW => conv_L cb hW)
  obtain ⟨A6, hA6⟩ : ∃ A6, (if cb = 6 then (some ⟨b, 0, none⟩ : Option Addr) else some ⟨b, 6, none⟩) = A6 := ⟨_, rfl⟩
  have HR6 : Hid (∀ W, Below base w0 W → BL W A6 (L.drop 6)) := Lib.hid (fun W hW => (HLW.out W hW).drop 6 A6 (fun hk g o e => by
    cases e
    rw [← hA6, if_neg (by omega), Nat.zero_add]))
  obtain ⟨x0, hx0⟩ : ∃ x0, gt L 0 = x0 := ⟨_, rfl⟩
  obtain ⟨n1, hx5⟩ : ∃ n1, gt L 5 = n1 := ⟨_, rfl⟩
  obtain ⟨xb, hxb⟩ : ∃ xb, numF (fun j => gt L (1 + j)) 4 = xb := ⟨_, rfl⟩
  rw [hx0, hx5] at HSX
  rw [hxb] at NF
  rw [hx0, hxb] at HEN
  rw [hx0] at b0
  rw [hx5] at b5 HSH
  have HN1 := Lib.hid hx5
  obtain ⟨o, ho⟩ : ∃ o, projR L = o := ⟨_, rfl⟩
  rw [ho] at HSH HRF ⊢
  obtain ⟨n, hn⟩ : ∃ n, L.length = n := ⟨_, rfl⟩
  have HN := Lib.hid hn
  rw [hn] at h6' hc hl HCV HSH HEN ⊢
  have wx0 : IntKind.i64.wrap (x0 : Int) = (x0 : Int) := IntWalk.i64_in _ (by omega)
  have wx5 : IntKind.i64.wrap (n1 : Int) = (n1 : Int) := IntWalk.i64_in _ (by omega)
  have d1 : (1 : Int) ≤ (cb : Int) := by omega
  have d5 : (5 : Int) ≤ (cb : Int) := by omega
  have d6 : (6 : Int) ≤ (cb : Int) := by omega
  have d6n : (6 : Int) ≤ (n : Int) := by omega
  have dnc : (n : Int) ≤ (cb : Int) := by omega
  have l0 : (0 : Int) < (n : Int) := by omega
  have l5 : (5 : Int) < (n : Int) := by omega
  have l0n : 0 < n := by omega
  have l5n : 5 < n := by omega
  have n6 : ¬ (n : Int) < 6 := by omega
  have nn1 : ¬ cb = 1 := by omega
  have HNO : Hid (o = none → ∀ W, Below H w W → ∀ e, e = Ending.returned (.tuple #[rpv 0 0 (.slice none 0 0) (.slice none 0 0), .bool false]) → RReadR o w e ((((W.setCell ⟨H, 0, none⟩ (.int .i64 0)).setCell ⟨H, 1, none⟩ (.int .i64 0)).setCell ⟨H, 2, none⟩ (.slice none 0 0)).setCell ⟨H, 3, none⟩ (.slice none 0 0))) := Lib.hid (fun ho W hW e he => by
    subst ho he
    exact ⟨_, rfl, RVal.no, by rw [HH.out]; exact (((hW.setCell (by simp) _).setCell (by simp) _).setCell (by simp) _).setCell (by simp) _⟩)
  have HQN : Hid (RV (w0.alloc (.cells #[.int .i64 0, .int .i64 0, .slice none 0 0, .slice none 0 0] 39)).drew base 0 0 (.slice none 0 0) (.slice none 0 0)) := Lib.hid (RV.of_new hbase)
  have HQX : Hid (RV (w0.alloc (.cells #[.int .i64 (x0 : Int), .int .i64 (xb : Int), .slice none 0 0, .slice none 0 0] 39)).drew base (x0 : Int) (xb : Int) (.slice none 0 0) (.slice none 0 0)) := Lib.hid (RV.of_new hbase)
  clear hw0 hL hby ho hx0 hx5 hxb hn hbase
  go_enter Try.func25, Try.ntmps25
  go_upto_region 1 with fail
  rw [HW0.out]
  go_upto_region 4 with fail
  go_cut [5] from 12 to 19 (fun s5 wx => s5 = .pointer (some ⟨base, 0, none⟩) ∧ Hid (RV wx base (x0 : Int) (xb : Int) (.slice none 0 0) (.slice none 0 0) ∧ Below base w0 wx))
  case first =>
    go_wp2_with fail
    go_region_held_law (fun W => W.cell? ⟨b, 0, none⟩ = some (.int .u8 (x0 : Int)))
      (first | (with_reducible assumption) | (with_reducible exact (HSX.out _ BD.out).1) | (with_reducible exact (HSX.out _ (BA.out _)).1))
      (first
        | (go_simp; go_at_call 44; (with_reducible refine (NF.out _ (by first | exact BD.out | exact BA.out _)).mono ?_); rintro e wn ⟨rfl, hw⟩; obtain rfl := hw.symm; (try dsimp only))
        | fail)
    all_goals
      go_wp2_with fail
      go_meet
      exact ⟨by rw [HBS.out], Lib.hid ⟨HQX.out, BA.out _⟩⟩
  case rest =>
    obtain ⟨rfl, HC⟩ := hcut
    have HRP0 : Hid (RPS w H base wc (x0 : Int) (xb : Int) (.slice none 0 0) (.slice none 0 0) [] []) := Lib.hid ⟨HC.out.1, PL1.nil, IL1.nil, HB0.out.trans (HC.out.2.mono (Nat.le_of_lt hHb)), Nat.le_of_lt hHb⟩
    have HRS0 : Hid (RV wc H 0 0 (.slice none 0 0) (.slice none 0 0)) := Lib.hid (HK0.out.below (by rw [HBS.out]; exact HC.out.2))
    have HBL0 : Hid (BL wc A6 (L.drop 6)) := Lib.hid (HR6.out wc HC.out.2)
    have HBA0 : Hid (BL wc (some ⟨b, 0, none⟩) L) := Lib.hid (HLW.out wc HC.out.2)
    have f5 := (HSX.out wc HC.out.2).2
    clear HQN HQX NF HC
    have m6 : n - 6 ≤ cb - 6 := by omega
    go_wp2_with fail
    clear f5
    go_loopg [0, 6] n1 (fun q s0 s6 v => ∃ (k d N c : Nat) (A : Option Addr) (u1 : Value) (l : List Px), s0 = .slice A N c ∧ s6 = .int .i64 (d : Int) ∧ d + k = n1 ∧ d = q ∧ N + (6 + 40 * k) = n ∧ l.length = k ∧ N ≤ c ∧ Hid (RPS w H base v (x0 : Int) (xb : Int) u1 (.slice none 0 0) l [] ∧ RV v H 0 0 (.slice none 0 0) (.slice none 0 0) ∧ BL v A (L.drop (6 + 40 * k)) ∧ BL v (some ⟨b, 0, none⟩) L ∧ rdPs k (L.drop 6, false) = (l, L.drop (6 + 40 * k), false)))
    case atStart => exact ⟨0, n1, n - 6, cb - 6, A6, _, [], rfl, rfl, by omega, rfl, by omega, rfl, by omega, Lib.hid ⟨HRP0.out, HRS0.out, HBL0.out, HBA0.out, rfl⟩⟩
    case round =>
      obtain ⟨k, d, N, c, A, u1, l, rfl, rfl, hdk, rfl, hNn, hlk, hNc, HV⟩ := hrel
      clear HRP0 HRS0 HBL0 HBA0 m6
      by_cases hd : 0 < d
      · have hd' : (0 : Int) < (d : Int) := by omega
        by_cases h40 : N < 40
        · have h40' : (N : Int) < 40 := by omega
          have HRES := Lib.hid HV.out.2.1
          have HBW := Lib.hid HV.out.1.blw
          have HON : Hid (o = none) := Lib.hid (HSH.out (by have := hdk; omega))
          have z0 := HRES.out.c0
          have z1 := HRES.out.c1
          have z2 := HRES.out.c2
          have z3 := HRES.out.c3
          have zf := HRES.out.f
          go_wp2_with fail
          refine bodyPost_ret (v := .tuple #[rpv 0 0 (.slice none 0 0) (.slice none 0 0), .bool false]) ?_ rfl ?_
          · rw [results_cell_tmp rfl]
            simp [(HRES.out.put4 (code' := 0) (boot' := 0) (u' := .slice none 0 0) (v' := .slice none 0 0)).load, Result.andThen, asAddr]
          exact HNO.out HON.out _ HBW.out _ rfl
        · have h40' : ¬ (N : Int) < 40 := by omega
          have h40c : (40 : Int) ≤ (c : Int) := by omega
          have h40d : (40 : Int) ≤ (N : Int) := by omega
          have hNcI : (N : Int) ≤ (c : Int) := by omega
          obtain ⟨R, hR⟩ : ∃ R, L.drop (6 + 40 * k) = R := ⟨_, rfl⟩
          have hRl : R.length = N := by rw [← hR, List.length_drop, HN.out]; omega
          have hRb : By R := by rw [← hR]; exact HBY.out.drop _
          have hbl := HV.out.2.2.1
          rw [hR] at hbl
          obtain ⟨g, o', hA⟩ : ∃ g o', A = some ⟨g, o', none⟩ := by
            rcases hbl with h | ⟨g, o', cs, h, _⟩
            · omega
            · exact ⟨g, o', h⟩
          subst hA
          obtain ⟨A', hA'⟩ : ∃ A', (if c = 40 then (some ⟨g, o', none⟩ : Option Addr) else some ⟨g, o' + 40, none⟩) = A' := ⟨_, rfl⟩
          have HAD : Hid (∀ W, BL W (some ⟨g, o', none⟩) R → BL W A' (L.drop (6 + 40 * (k + 1)))) := Lib.hid (fun W hW => by
            rw [show L.drop (6 + 40 * (k + 1)) = R.drop 40 by rw [← hR, List.drop_drop]; congr 1]
            exact hW.drop 40 A' (fun hk g2 o2 e => by
              cases e
              rw [← hA', if_neg (by omega)]))
          have HSTEP : Hid (rdPs (k + 1) (L.drop 6, false) = (l ++ [⟨(gt R 0 : Nat), (numF (fun j => gt R (1 + j)) 6 : Nat), (gt R 7 : Nat), (R.drop 8).take 32⟩], L.drop (6 + 40 * (k + 1)), false)) := Lib.hid (by
            have h := rdPs_step HV.out.2.2.2.2 (by rw [HN.out]; omega)
            rw [hR] at h
            exact h)
          obtain ⟨x, hx⟩ : ∃ x : Px, (⟨(gt R 0 : Nat), (numF (fun j => gt R (1 + j)) 6 : Nat), (gt R 7 : Nat), (R.drop 8).take 32⟩ : Px) = x := ⟨_, rfl⟩
          rw [hx] at HSTEP
          have HVd : Hid (RPS w H base wr.drew (x0 : Int) (xb : Int) u1 (.slice none 0 0) l []) := Lib.hid (HV.out.1.below (below_drewN 1 wr))
          have HPC := Lib.hid ((rpieceQ g o' 40 c (gt R) wr.drew ((hbl.below (below_drewN 1 wr)).rd.less (by omega)) (fun j _ => hRb.gt j) (by omega) (by omega) (by omega)).mono (fun e w' h => h.px hRb (by omega)))
          rw [hx] at HPC
          have HBLr := Lib.hid hbl
          have HRVr := Lib.hid HV.out.2.1
          have HBAr := Lib.hid HV.out.2.2.2.1
          have c2 : wr.drew.cell? ⟨base, 2, none⟩ = some u1 := HVd.out.cur.c2
          have HLN : Hid (l.length ≤ 1000000) := Lib.hid (by omega)
          have HLK := Lib.hid hlk
          clear hR hbl hx HV hRb hlk hRl
          go_upto_region 11 with fail
          go_cut [] from 34 to 41 (fun wx => Hid (∃ u, RPS w H base wx (x0 : Int) (xb : Int) u (.slice none 0 0) (l ++ [x]) [] ∧ RV wx H 0 0 (.slice none 0 0) (.slice none 0 0) ∧ BL wx (some ⟨g, o', none⟩) R ∧ BL wx (some ⟨b, 0, none⟩) L))
          case first =>
            go_wp2_with fail
            go_region_law
              (first
                | (refine step_append_P _ rfl (.tmp 35) (.tmp 39) rfl u1 l x rfl (HT6.out _).ps w5'.heap.size rfl ⟨A5', d5', PV.new w5' _ _ _ _ _ _, HD5.out.below ((Below.refl _ _).alloc (Nat.le_refl _) _), HY5.out⟩ HLN.out (by have h1 := (HT6.out (.cells #[.int .i64 x.s, .int .i64 x.g, .int .i64 x.i, .slice A5' x.D.length d5'] 31)).cur.lt; have h2 := HT5.out.big; omega) ?_; intro v9 w9 hl9 hb9 hz9 ht9; obtain ⟨A9, c9, hv9⟩ := hl9.form; subst hv9; obtain ⟨q3, q4⟩ := (HT6.out _).appP hb9 ht9 hl9; have HT9 := Lib.hid q4; have HX9 : Hid (RV (w9.setCell ⟨base, 2, none⟩ (.slice A9 (l ++ [x]).length c9)) H 0 0 (.slice none 0 0) (.slice none 0 0) ∧ BL (w9.setCell ⟨base, 2, none⟩ (.slice A9 (l ++ [x]).length c9)) (some ⟨g, o', none⟩) R ∧ BL (w9.setCell ⟨base, 2, none⟩ (.slice A9 (l ++ [x]).length c9)) (some ⟨b, 0, none⟩) L) := Lib.hid ⟨((HY6.out _).1.keep (keep_other ht9 (HY6.out _).1 (by decide))).keep (set_other (Nat.ne_of_lt hHb) _ _), ((HY6.out _).2.1.keep (fun g cs hg => keep_other ht9 hg (by decide))).set q3 (by decide), ((HY6.out _).2.2.keep (fun g cs hg => keep_other ht9 hg (by decide))).set q3 (by decide)⟩; have qf := q3.f; have q3c := q3.c2; clear q3 q4 hl9 hb9 hz9 ht9)
                | (go_simp; go_at_call 48; (with_reducible refine HPC.out.mono ?_); rintro e w5' ⟨v5, rfl, ⟨A5', d5', rfl, hd5, hy5⟩, hb5⟩; (try dsimp only); have HT5 := Lib.hid (HVd.out.below hb5); have y2 := HT5.out.cur.c2; have y2' : ∀ o, (w5'.alloc o).cell? ⟨base, 2, none⟩ = some u1 := fun o => (HT5.out.below ((Below.refl _ _).alloc (Nat.le_refl _) o)).cur.c2; have HT6 := Lib.hid (fun o => HT5.out.below ((Below.refl _ _).alloc (Nat.le_refl _) o)); have HY6 : Hid (∀ o, RV (w5'.alloc o) H 0 0 (.slice none 0 0) (.slice none 0 0) ∧ BL (w5'.alloc o) (some ⟨g, o', none⟩) R ∧ BL (w5'.alloc o) (some ⟨b, 0, none⟩) L) := Lib.hid (fun o => by
                    have hB : Below wr.heap.size wr (w5'.alloc o) := ((below_drewN 1 wr).trans (hb5.mono (Nat.le_refl _))).alloc hb5.size _
                    exact ⟨HRVr.out.below hB, HBLr.out.below hB, HBAr.out.below hB⟩); have HD5 := Lib.hid hd5; have HY5 := Lib.hid hy5; clear hd5 hy5 hb5)
                )
            all_goals
              go_wp2_with fail
              go_meet
              have h := HT9.out
              have h2 := HX9.out
              rw [List.length_append] at h h2
              exact Lib.hid ⟨_, h, h2.1, h2.2.1, h2.2.2⟩
          case rest =>
            have HCU := hcut
            clear hcut
            obtain ⟨u, hu⟩ := HCU.out
            have HU := Lib.hid hu
            clear hu HCU c2
            go_wp2_with fail
            go_roundg (d - 1)
            case measure => omega
            case rel => exact ⟨k + 1, d - 1, N - 40, c - 40, A', u, l ++ [x], rfl, by go_num, by omega, rfl, by omega, by rw [List.length_append, HLK.out]; rfl, by omega, Lib.hid ⟨HU.out.1, HU.out.2.1, HAD.out _ HU.out.2.2.1, HU.out.2.2.2, HSTEP.out⟩⟩
      · obtain rfl : d = 0 := by omega
        have hkn : k = n1 := by omega
        rw [hkn] at HV hNn hlk
        clear hkn hdk hd
        by_cases hN1 : N < 1
        · have hN1' : (N : Int) < 1 := by omega
          have HRES := Lib.hid HV.out.2.1
          have HBW := Lib.hid HV.out.1.blw
          have HON : Hid (o = none) := Lib.hid (HSH.out (by omega))
          have z0 := HRES.out.c0
          have z1 := HRES.out.c1
          have z2 := HRES.out.c2
          have z3 := HRES.out.c3
          have zf := HRES.out.f
          go_wp2_with fail
          refine bodyPost_ret (v := .tuple #[rpv 0 0 (.slice none 0 0) (.slice none 0 0), .bool false]) ?_ rfl ?_
          · rw [results_cell_tmp rfl]
            simp [(HRES.out.put4 (code' := 0) (boot' := 0) (u' := .slice none 0 0) (v' := .slice none 0 0)).load, Result.andThen, asAddr]
          exact HNO.out HON.out _ HBW.out _ rfl
        · have hN1' : ¬ (N : Int) < 1 := by omega
          have l0N : (0 : Int) < (N : Int) := by omega
          have l0Nn : 0 < N := by omega
          have d1c : (1 : Int) ≤ (c : Int) := by omega
          have d1N : (1 : Int) ≤ (N : Int) := by omega
          have hNcI : (N : Int) ≤ (c : Int) := by omega
          have hbl := HV.out.2.2.1
          have hRl : (L.drop (6 + 40 * n1)).length = N := by rw [List.length_drop, HN.out]; omega
          obtain ⟨g, o', hA⟩ : ∃ g o', A = some ⟨g, o', none⟩ := by
            rcases hbl with h | ⟨g, o', cs, h, _⟩
            · omega
            · exact ⟨g, o', h⟩
          subst hA
          obtain ⟨AM, hAM⟩ : ∃ A', (if c = 1 then (some ⟨g, o', none⟩ : Option Addr) else some ⟨g, o' + 1, none⟩) = A' := ⟨_, rfl⟩
          have f0 := hbl.c0 (by omega)
          rw [gt_drop, Nat.add_zero] at f0
          have b2 := HBY.out.gt (6 + 40 * n1)
          obtain ⟨n2, hn2⟩ : ∃ n2, gt L (6 + 40 * n1) = n2 := ⟨_, rfl⟩
          have HN2 := Lib.hid hn2
          rw [hn2] at f0 HSH b2
          have wx2 : IntKind.i64.wrap (n2 : Int) = (n2 : Int) := IntWalk.i64_in _ (by omega)
          have HM0 : Hid (BL wr AM (L.drop (7 + 40 * n1))) := Lib.hid (by
            rw [show L.drop (7 + 40 * n1) = (L.drop (6 + 40 * n1)).drop 1 by rw [List.drop_drop]; congr 1; omega]
            exact hbl.drop 1 AM (fun hk g2 o2 e => by
              cases e
              rw [← hAM, if_neg (by omega)]))
          have HPS := Lib.hid HV.out.2.2.2.2
          have HV1 := Lib.hid HV.out.1
          have HV2 := Lib.hid HV.out.2.1
          have HV3 := Lib.hid HV.out.2.2.2.1
          have HML : Hid ((L.drop (7 + 40 * n1)).length = n - (7 + 40 * n1)) := Lib.hid (by rw [List.length_drop, HN.out])
          have HLK := Lib.hid hlk
          clear HV hbl hRl hn2 hlk
          go_wp2_with fail
          clear f0
          go_loopg [0, 6] n2 (fun q s0 s6 v => ∃ (j d N c : Nat) (A : Option Addr) (u2 : Value) (m : List Ix), s0 = .slice A N c ∧ s6 = .int .i64 (d : Int) ∧ d + j = n2 ∧ d = q ∧ N + (7 + 40 * n1 + 135 * j) = n ∧ m.length = j ∧ N ≤ c ∧ Hid (RPS w H base v (x0 : Int) (xb : Int) u1 u2 l m ∧ RV v H 0 0 (.slice none 0 0) (.slice none 0 0) ∧ BL v A ((L.drop (7 + 40 * n1)).drop (135 * j)) ∧ BL v (some ⟨b, 0, none⟩) L ∧ rdIs j (L.drop (7 + 40 * n1), false) = (m, (L.drop (7 + 40 * n1)).drop (135 * j), false)))
          case atStart => exact ⟨0, n2, N - 1, c - 1, AM, _, [], by first | rfl | go_num, rfl, by omega, rfl, by omega, rfl, by omega, Lib.hid ⟨HV1.out, HV2.out, HM0.out, HV3.out, rfl⟩⟩
          case round =>
            clear HM0 HV1 HV2 HV3 hAM hN1 hN1' l0N l0Nn d1c d1N hNcI hNn hNc
            obtain ⟨j, d, N, c, A, u2, m, rfl, rfl, hdk, rfl, hNn, hlm, hNc, HV⟩ := hrel
            by_cases hd : 0 < d
            · have hd' : (0 : Int) < (d : Int) := by omega
              by_cases h135 : N < 135
              · have h135' : (N : Int) < 135 := by omega
                have HRES := Lib.hid HV.out.2.1
                have HBW := Lib.hid HV.out.1.blw
                have HON : Hid (o = none) := Lib.hid (HSH.out (by have := hdk; omega))
                have z0 := HRES.out.c0
                have z1 := HRES.out.c1
                have z2 := HRES.out.c2
                have z3 := HRES.out.c3
                have zf := HRES.out.f
                go_wp2_with fail
                refine bodyPost_ret (v := .tuple #[rpv 0 0 (.slice none 0 0) (.slice none 0 0), .bool false]) ?_ rfl ?_
                · rw [results_cell_tmp rfl]
                  simp [(HRES.out.put4 (code' := 0) (boot' := 0) (u' := .slice none 0 0) (v' := .slice none 0 0)).load, Result.andThen, asAddr]
                exact HNO.out HON.out _ HBW.out _ rfl
              · have h135' : ¬ (N : Int) < 135 := by omega
                have e135c : (135 : Int) ≤ (c : Int) := by omega
                have e135N : (135 : Int) ≤ (N : Int) := by omega
                have e7c : (7 : Int) ≤ (c : Int) := by omega
                have e1c : (1 : Int) ≤ (c : Int) := by omega
                have hNcI : (N : Int) ≤ (c : Int) := by omega
                have l0N : (0 : Int) < (N : Int) := by omega
                have l0Nn : 0 < N := by omega
                have nc1 : ¬ c = 1 := by omega
                have nc7 : ¬ c = 7 := by omega
                obtain ⟨R, hR⟩ : ∃ R, (L.drop (7 + 40 * n1)).drop (135 * j) = R := ⟨_, rfl⟩
                have hRl : R.length = N := by rw [← hR, List.length_drop, HML.out]; omega
                have hRb : By R := by rw [← hR]; exact (HBY.out.drop _).drop _
                have hbl := HV.out.2.2.1
                rw [hR] at hbl
                obtain ⟨g, o', hA⟩ : ∃ g o', A = some ⟨g, o', none⟩ := by
                  rcases hbl with h | ⟨g, o', cs, h, _⟩
                  · omega
                  · exact ⟨g, o', h⟩
                subst hA
                obtain ⟨A', hA'⟩ : ∃ A', (if c = 135 then (some ⟨g, o', none⟩ : Option Addr) else some ⟨g, o' + 135, none⟩) = A' := ⟨_, rfl⟩
                have HAD : Hid (∀ W, BL W (some ⟨g, o', none⟩) R → BL W A' ((L.drop (7 + 40 * n1)).drop (135 * (j + 1)))) := Lib.hid (fun W hW => by
                  rw [show (L.drop (7 + 40 * n1)).drop (135 * (j + 1)) = R.drop 135 by rw [← hR]; simp only [List.drop_drop]; congr 1]
                  exact hW.drop 135 A' (fun hk g2 o2 e => by
                    cases e
                    rw [← hA', if_neg (by omega)]))
                have HSTEP : Hid (rdIs (j + 1) (L.drop (7 + 40 * n1), false) = (m ++ [⟨(gt R 0 : Nat), (numF (fun j => gt R (1 + j)) 6 : Nat), (R.drop 7).take 128⟩], (L.drop (7 + 40 * n1)).drop (135 * (j + 1)), false)) := Lib.hid (by
                  have h := rdIs_step HV.out.2.2.2.2 (by rw [HML.out]; omega)
                  rw [hR] at h
                  exact h)
                obtain ⟨P, hP⟩ : ∃ P, wr.heap.size = P := ⟨_, rfl⟩
                have HVB : Hid (∀ W, Below P wr W → RPS w H base W (x0 : Int) (xb : Int) u1 u2 l m) := Lib.hid (fun W hW => HV.out.1.below (by rw [hP]; exact hW))
                have HXB : Hid (∀ W, Below P wr W → RV W H 0 0 (.slice none 0 0) (.slice none 0 0) ∧ BL W (some ⟨g, o', none⟩) R ∧ BL W (some ⟨b, 0, none⟩) L) := Lib.hid (fun W hW => by
                  have hW' : Below wr.heap.size wr W := by rw [hP]; exact hW
                  exact ⟨HV.out.2.1.below hW', hbl.below hW', HV.out.2.2.2.1.below hW'⟩)
                have NG : Hid (∀ W, Below P wr W → Calls Try.prog 44 #[.slice (some ⟨g, o' + 1, none⟩) 6 (c - 1)] W fun e w' => e = .returned (.int .i64 (numF (fun j => gt R (1 + j)) 6 : Nat)) ∧ w' = W) := Lib.hid (fun W hW => rfrom (some ⟨g, o' + 1, none⟩) 6 (c - 1) (fun j => gt R (1 + j)) W ((HXB.out W hW).2.1.rd.cut (k := 1) (m := 6) (by omega)) (fun j _ => hRb.gt _) (by omega))
                have HR7 : Hid (∀ W, Below P wr W → BL W (some ⟨g, o' + 7, none⟩) ((R.drop 7).take 128)) := Lib.hid (fun W hW => ((HXB.out W hW).2.1.drop 7 (some ⟨g, o' + 7, none⟩) (fun _ g2 o2 e => by cases e; rfl)).take 128)
                have HCE : Hid (∀ W, BL W (some ⟨g, o', none⟩) R → W.cell? ⟨g, o', none⟩ = some (.int .u8 (gt R 0 : Nat))) := Lib.hid (fun W hW => hW.c0 (by omega))
                have y0b := hRb.gt 0
                have HDL : Hid (((R.drop 7).take 128).length = 128) := Lib.hid (by rw [List.length_take, List.length_drop]; omega)
                have HDB : Hid (By ((R.drop 7).take 128)) := Lib.hid ((hRb.drop 7).take 128)
                obtain ⟨y0, hy0⟩ : ∃ y0, gt R 0 = y0 := ⟨_, rfl⟩
                obtain ⟨yg, hyg⟩ : ∃ yg, numF (fun j => gt R (1 + j)) 6 = yg := ⟨_, rfl⟩
                obtain ⟨D, hD⟩ : ∃ D, (R.drop 7).take 128 = D := ⟨_, rfl⟩
                rw [hy0, hyg, hD] at HSTEP
                rw [hyg] at NG
                rw [hD] at HR7 HDL HDB
                rw [hy0] at HCE y0b
                have wy0 : IntKind.i64.wrap (y0 : Int) = (y0 : Int) := IntWalk.i64_in _ (by omega)
                have BD : Hid (Below P wr wr.drew) := Lib.hid (by rw [← hP]; exact below_drewN 1 wr)
                have BA : Hid (∀ o, Below P wr (wr.alloc o).drew) := Lib.hid (fun o => by rw [← hP]; exact ((Below.refl _ _).alloc (Nat.le_refl _) o).drew)
                have HE : Hid (OwnL (wr.alloc (.cells #[] 5)).drew P (.slice (some ⟨wr.heap.size, 0, none⟩) 0 0) []) := Lib.hid (by rw [← hP]; exact own_empty (alloc_block wr _) (Nat.le_refl _))
                have HZA : Hid (P ≤ (wr.alloc (.cells #[] 5)).drew.heap.size) := Lib.hid (by rw [← hP]; have := ((Below.refl wr.heap.size wr).alloc (Nat.le_refl _) (.cells #[] 5)).drew.size; exact this)
                have hbP : base < P := by rw [← hP]; exact HV.out.1.cur.lt
                have u3 : wr.drew.cell? ⟨base, 3, none⟩ = some u2 := (HVB.out _ BD.out).cur.c3
                have u3' : ∀ o, (wr.alloc o).drew.cell? ⟨base, 3, none⟩ = some u2 := fun o => (HVB.out _ (BA.out o)).cur.c3
                have HLN : Hid (m.length ≤ 1000000) := Lib.hid (by omega)
                have HLM := Lib.hid hlm
                obtain ⟨x, hx⟩ : ∃ x : Ix, (⟨(y0 : Nat), (yg : Nat), D⟩ : Ix) = x := ⟨_, rfl⟩
                rw [hx] at HSTEP
                have HX := Lib.hid hx
                clear hR hRl hRb hbl hP hy0 hyg hD HV hlm hx
                go_upto_region 21 with fail
                go_cut [] from 62 to 78 (fun wx => Hid (∃ u, RPS w H base wx (x0 : Int) (xb : Int) u1 u l (m ++ [x]) ∧ RV wx H 0 0 (.slice none 0 0) (.slice none 0 0) ∧ BL wx (some ⟨g, o', none⟩) R ∧ BL wx (some ⟨b, 0, none⟩) L))
                case first =>
                  go_wp2_with fail
                  refine wp_region_held_drew (S := (fun W => W.cell? ⟨g, o', none⟩ = some (.int .u8 (y0 : Int)))) (by as_aux_lemma => kernel_rfl) ?_ (fun hHeld => ?_)
                  · (first | (with_reducible assumption) | (with_reducible exact HCE.out _ (HXB.out _ BD.out).2.1) | (with_reducible exact HCE.out _ (HXB.out _ (BA.out _)).2.1) | (with_reducible exact HCE.out _ (HXB.out _ HB3.out).2.1) | (with_reducible exact HCE.out _ (HY6.out _).2.1))
                  refine wpAnyH_take (i := 0) (v := ?_) rfl (by as_aux_lemma => kernel_rfl) (by as_aux_lemma => kernel_rfl) (by as_aux_lemma => kernel_rfl) (fun _ _ _ h => h) (Or.inl ⟨by rfl, ?_⟩) (by assumption) ?_
                  rotate_left
                  · intro w hSw; (try dsimp only at hSw); go_simp; (try with_reducible rfl)
                  simp only [Act.put, List.getElem_toArray, List.getElem_cons_zero, List.setIfInBounds_toArray, List.set_cons_zero, List.set_cons_succ]
                  refine wpAnyH_take (i := 2) (v := ?_) rfl (by as_aux_lemma => kernel_rfl) (by as_aux_lemma => kernel_rfl) (by as_aux_lemma => kernel_rfl) (fun _ _ _ h => h) (Or.inl ⟨by rfl, ?_⟩) (by assumption) ?_
                  rotate_left
                  · intro w hSw; (try dsimp only at hSw); go_simp; (try with_reducible rfl)
                  simp only [Act.put, List.getElem_toArray, List.getElem_cons_zero, List.getElem_cons_succ, List.setIfInBounds_toArray, List.set_cons_zero, List.set_cons_succ]
                  refine wpAnyH_take (i := 3) (v := ?_) rfl (by as_aux_lemma => kernel_rfl) (by as_aux_lemma => kernel_rfl) (by as_aux_lemma => kernel_rfl) (fun _ _ _ h => h) (Or.inl ⟨by rfl, ?_⟩) (by assumption) ?_
                  rotate_left
                  · intro w hSw; (try dsimp only at hSw); go_simp; (try with_reducible rfl)
                  simp only [Act.put, List.getElem_toArray, List.getElem_cons_zero, List.getElem_cons_succ, List.setIfInBounds_toArray, List.set_cons_zero, List.set_cons_succ]
                  refine wpAnyH_take (i := 4) (v := ?_) rfl (by as_aux_lemma => kernel_rfl) (by as_aux_lemma => kernel_rfl) (by as_aux_lemma => kernel_rfl) (fun _ _ _ h => h) (Or.inl ⟨by rfl, ?_⟩) (by assumption) ?_
                  rotate_left
                  · intro w hSw; (try dsimp only at hSw); go_simp; (try with_reducible rfl)
                  simp only [Act.put, List.getElem_toArray, List.getElem_cons_zero, List.getElem_cons_succ, List.setIfInBounds_toArray, List.set_cons_zero, List.set_cons_succ]
                  refine wpAnyH_take (i := 5) (v := ?_) rfl (by as_aux_lemma => kernel_rfl) (by as_aux_lemma => kernel_rfl) (by as_aux_lemma => kernel_rfl) (fun _ _ _ h => h) (Or.inl ⟨by rfl, ?_⟩) (by assumption) ?_
                  rotate_left
                  · intro w hSw; (try dsimp only at hSw); go_simp; (try with_reducible rfl)
                  simp only [Act.put, List.getElem_toArray, List.getElem_cons_zero, List.getElem_cons_succ, List.setIfInBounds_toArray, List.set_cons_zero, List.set_cons_succ]
                  refine wpAnyH_take (i := 6) (v := ?_) rfl (by as_aux_lemma => kernel_rfl) (by as_aux_lemma => kernel_rfl) (by as_aux_lemma => kernel_rfl) (fun _ _ _ h => h) (Or.inl ⟨by rfl, ?_⟩) (by assumption) ?_
                  rotate_left
                  · intro w hSw; (try dsimp only at hSw); go_simp; (try with_reducible rfl)
                  simp only [Act.put, List.getElem_toArray, List.getElem_cons_zero, List.getElem_cons_succ, List.setIfInBounds_toArray, List.set_cons_zero, List.set_cons_succ]
                  refine wpAnyH_take (i := 7) (v := ?_) rfl (by as_aux_lemma => kernel_rfl) (by as_aux_lemma => kernel_rfl) (by as_aux_lemma => kernel_rfl) (fun _ _ _ h => h) (Or.inl ⟨by rfl, ?_⟩) (by assumption) ?_
                  rotate_left
                  · intro w hSw; (try dsimp only at hSw); go_simp; (try with_reducible rfl)
                  simp only [Act.put, List.getElem_toArray, List.getElem_cons_zero, List.getElem_cons_succ, List.setIfInBounds_toArray, List.set_cons_zero, List.set_cons_succ]
                  refine wpAnyH_take (i := 10) (v := ?_) rfl (by as_aux_lemma => kernel_rfl) (by as_aux_lemma => kernel_rfl) (by as_aux_lemma => kernel_rfl) (fun _ _ _ h => h) (Or.inl ⟨by rfl, ?_⟩) (by assumption) ?_
                  rotate_left
                  · intro w hSw; (try dsimp only at hSw); go_simp; (try with_reducible rfl)
                  simp only [Act.put, List.getElem_toArray, List.getElem_cons_zero, List.getElem_cons_succ, List.setIfInBounds_toArray, List.set_cons_zero, List.set_cons_succ]
                  refine wpAnyH_take (i := 11) (v := ?_) rfl (by as_aux_lemma => kernel_rfl) (by as_aux_lemma => kernel_rfl) (by as_aux_lemma => kernel_rfl) (fun _ _ _ h => h) (Or.inl ⟨by rfl, ?_⟩) (by assumption) ?_
                  rotate_left
                  · intro w hSw; (try dsimp only at hSw); go_simp; (try with_reducible rfl)
                  simp only [Act.put, List.getElem_toArray, List.getElem_cons_zero, List.getElem_cons_succ, List.setIfInBounds_toArray, List.set_cons_zero, List.set_cons_succ]
                  refine wpAnyH_ready (rs := [1, 8, 9]) (by as_aux_lemma => kernel_rfl) (by simp) ?_
                  refine AllReadyH.cons rfl (fun K hK => ?_) (AllReadyH.cons rfl (fun K hK => ?_) (AllReadyH.cons rfl (fun K hK => ?_) AllReadyH.nil))
                  go_simp
                  refine hK.out _ _ ?_ (fun hHeld2 => ?_)
                  · (try dsimp only); (first | (with_reducible assumption) | (with_reducible exact HCE.out _ (HXB.out _ BD.out).2.1) | (with_reducible exact HCE.out _ (HXB.out _ (BA.out _)).2.1) | (with_reducible exact HCE.out _ (HXB.out _ HB3.out).2.1) | (with_reducible exact HCE.out _ (HY6.out _).2.1))
                  clear hK K hHeld
                  have hHeld := hHeld2
                  clear hHeld2
                  refine wpAnyH_ready (rs := [8, 9]) (by as_aux_lemma => kernel_rfl) (by simp) ?_
                  refine AllReadyH.cons rfl (fun K hK => ?_) (AllReadyH.cons rfl (fun K hK => ?_) AllReadyH.nil)
                  (go_simp; go_at_call 44; (with_reducible refine (NG.out _ (by first | exact BD.out | exact BA.out _ | exact HB3.out)).mono ?_); rintro e wn ⟨rfl, hw⟩; obtain rfl := hw.symm; (try dsimp only))
                  refine hK.out _ _ ?_ (fun hHeld2 => ?_)
                  · (try dsimp only); (first | (with_reducible assumption) | (with_reducible exact HCE.out _ (HXB.out _ BD.out).2.1) | (with_reducible exact HCE.out _ (HXB.out _ (BA.out _)).2.1) | (with_reducible exact HCE.out _ (HXB.out _ HB3.out).2.1) | (with_reducible exact HCE.out _ (HY6.out _).2.1))
                  clear hK K hHeld
                  have hHeld := hHeld2
                  clear hHeld2
                  refine wpAnyH_ready (rs := [9]) (by as_aux_lemma => kernel_rfl) (by simp) ?_
                  refine AllReadyH.cons rfl (fun K hK => ?_) AllReadyH.nil
                  go_simp
                  refine hK.out _ _ ?_ (fun hHeld2 => ?_)
                  · (try dsimp only); (first | (with_reducible assumption) | (with_reducible exact HCE.out _ (HXB.out _ BD.out).2.1) | (with_reducible exact HCE.out _ (HXB.out _ (BA.out _)).2.1) | (with_reducible exact HCE.out _ (HXB.out _ HB3.out).2.1) | (with_reducible exact HCE.out _ (HY6.out _).2.1))
                  clear hK K hHeld
                  have hHeld := hHeld2
                  clear hHeld2
                  refine wpAnyH_ready (rs := [12]) (by as_aux_lemma => kernel_rfl) (by simp) ?_
                  refine AllReadyH.cons rfl (fun K hK => ?_) AllReadyH.nil
                  (refine step_append_L _ rfl (.tmp 71) (.tmp 73) 22 rfl Try.underlying22 (.slice (some ⟨wr.heap.size, 0, none⟩) 0 0) [] rfl HE.out (some ⟨g, o' + 7, none⟩) 128 (c - 7) D rfl HDL.out (HR7.out _ (BA.out _)) (by decide) (BA.out _) HZA.out ?_; intro v3 w3 own3 hb3 hz3 hne3; rw [List.nil_append] at own3; obtain ⟨g3, c3, hv3, hk3, _, _, _⟩ := own3.some_ (hne3 (by simp)); subst hv3; have HB3 := Lib.hid hb3; have HD3 : Hid (BL w3 (some ⟨g3, 0, none⟩) D) := Lib.hid (BL.blk hk3 rfl (fun _ _ => rfl)); have HT6 : Hid (∀ o, RPS w H base (w3.alloc o) (x0 : Int) (xb : Int) u1 u2 l m) := Lib.hid (fun o => HVB.out _ (HB3.out.alloc hz3 o)); have HY6 : Hid (∀ o, RV (w3.alloc o) H 0 0 (.slice none 0 0) (.slice none 0 0) ∧ BL (w3.alloc o) (some ⟨g, o', none⟩) R ∧ BL (w3.alloc o) (some ⟨b, 0, none⟩) L) := Lib.hid (fun o => HXB.out _ (HB3.out.alloc hz3 o)); have HZ6 : Hid (∀ o, H ≤ (w3.alloc o).heap.size) := Lib.hid (fun o => by have := (HT6.out o).cur.lt; have := (HT6.out o).big; omega); have u5 := (HVB.out _ HB3.out).cur.c3; have u5' : ∀ o, (w3.alloc o).cell? ⟨base, 3, none⟩ = some u2 := fun o => (HT6.out o).cur.c3; clear own3 hb3 hz3 hne3 hk3)
                  refine hK.out _ _ ?_ (fun hHeld2 => ?_)
                  · (try dsimp only); (first | (with_reducible assumption) | (with_reducible exact HCE.out _ (HXB.out _ BD.out).2.1) | (with_reducible exact HCE.out _ (HXB.out _ (BA.out _)).2.1) | (with_reducible exact HCE.out _ (HXB.out _ HB3.out).2.1) | (with_reducible exact HCE.out _ (HY6.out _).2.1))
                  clear hK K hHeld
                  have hHeld := hHeld2
                  clear hHeld2
                  refine wpAnyH_take (i := 13) (v := ?_) rfl (by as_aux_lemma => kernel_rfl) (by as_aux_lemma => kernel_rfl) (by as_aux_lemma => kernel_rfl) (fun _ _ _ h => h) (Or.inl ⟨by rfl, ?_⟩) (by assumption) ?_
                  rotate_left
                  · intro w hSw; (try dsimp only at hSw); go_simp; (try with_reducible rfl)
                  simp only [Act.put, List.getElem_toArray, List.getElem_cons_zero, List.getElem_cons_succ, List.setIfInBounds_toArray, List.set_cons_zero, List.set_cons_succ]
                  refine wpAnyH_ready (rs := [14]) (by as_aux_lemma => kernel_rfl) (by simp) ?_
                  refine AllReadyH.cons rfl (fun K hK => ?_) AllReadyH.nil
                  go_simp
                  refine hK.out _ _ ?_ (fun hHeld2 => ?_)
                  · (try dsimp only); (first | (with_reducible assumption) | (with_reducible exact HCE.out _ (HXB.out _ BD.out).2.1) | (with_reducible exact HCE.out _ (HXB.out _ (BA.out _)).2.1) | (with_reducible exact HCE.out _ (HXB.out _ HB3.out).2.1) | (with_reducible exact HCE.out _ (HY6.out _).2.1))
                  clear hK K hHeld
                  have hHeld := hHeld2
                  clear hHeld2
                  refine wpAnyH_ready (rs := [15]) (by as_aux_lemma => kernel_rfl) (by simp) ?_
                  refine AllReadyH.cons rfl (fun K hK => ?_) AllReadyH.nil
                  (refine step_append_I _ rfl (.tmp 63) (.tmp 76) rfl u2 m ⟨(y0 : Nat), (yg : Nat), D⟩ rfl (HT6.out _).xs w3.heap.size rfl ⟨some ⟨g3, 0, none⟩, c3, IV.new w3 _ _ _ _ _, HD3.out.below ((Below.refl _ _).alloc (Nat.le_refl _) _), HDB.out⟩ HLN.out (HZ6.out _) ?_; intro v9 w9 hl9 hb9 hz9 ht9; rw [HX.out] at hl9; obtain ⟨A9, c9, hv9⟩ := hl9.form; subst hv9; obtain ⟨q3, q4⟩ := (HT6.out _).appI hb9 ht9 hl9; have HT9 := Lib.hid q4; have HX9 : Hid (RV (w9.setCell ⟨base, 3, none⟩ (.slice A9 (m ++ [x]).length c9)) H 0 0 (.slice none 0 0) (.slice none 0 0) ∧ BL (w9.setCell ⟨base, 3, none⟩ (.slice A9 (m ++ [x]).length c9)) (some ⟨g, o', none⟩) R ∧ BL (w9.setCell ⟨base, 3, none⟩ (.slice A9 (m ++ [x]).length c9)) (some ⟨b, 0, none⟩) L) := Lib.hid ⟨((HY6.out _).1.keep (keep_other ht9 (HY6.out _).1 (by decide))).keep (set_other (Nat.ne_of_lt hHb) _ _), ((HY6.out _).2.1.keep (fun g cs hg => keep_other ht9 hg (by decide))).set q3 (by decide), ((HY6.out _).2.2.keep (fun g cs hg => keep_other ht9 hg (by decide))).set q3 (by decide)⟩; have qx := HCE.out _ ((HY6.out _).2.1.keep (fun g cs hg => keep_other ht9 hg (by decide))); have qy : (w9.setCell ⟨base, 3, none⟩ (.slice A9 (m.length + 1) c9)).cell? ⟨g, o', none⟩ = some (.int .u8 (y0 : Int)) := (by have h := HCE.out _ HX9.out.2.1; rw [List.length_append] at h; exact h); have qf := q3.f; have q3c := q3.c3; clear q3 q4 hl9 hb9 hz9 ht9)
                  refine hK.out _ _ ?_ (fun hHeld2 => ?_)
                  · (try dsimp only); (first | (with_reducible assumption) | (with_reducible exact HCE.out _ (HXB.out _ BD.out).2.1) | (with_reducible exact HCE.out _ (HXB.out _ (BA.out _)).2.1) | (with_reducible exact HCE.out _ (HXB.out _ HB3.out).2.1) | (with_reducible exact HCE.out _ (HY6.out _).2.1))
                  clear hK K hHeld
                  have hHeld := hHeld2
                  clear hHeld2
                  refine wpAnyH_take (i := 16) (v := ?_) rfl (by as_aux_lemma => kernel_rfl) (by as_aux_lemma => kernel_rfl) (by as_aux_lemma => kernel_rfl) (fun _ _ _ h => h) (Or.inl ⟨by rfl, ?_⟩) (by assumption) ?_
                  rotate_left
                  · intro w hSw; (try dsimp only at hSw); go_simp; (try with_reducible rfl)
                  simp only [Act.put, List.getElem_toArray, List.getElem_cons_zero, List.getElem_cons_succ, List.setIfInBounds_toArray, List.set_cons_zero, List.set_cons_succ]
                  refine wpAnyH_ready (rs := [17]) (by as_aux_lemma => kernel_rfl) (by simp) ?_
                  refine AllReadyH.cons rfl (fun K hK => ?_) AllReadyH.nil
                  go_simp
                  refine hK.out _ _ ?_ (fun hHeld2 => ?_)
                  · (try dsimp only); (first | (with_reducible assumption) | (with_reducible exact HCE.out _ (HXB.out _ BD.out).2.1) | (with_reducible exact HCE.out _ (HXB.out _ (BA.out _)).2.1) | (with_reducible exact HCE.out _ (HXB.out _ HB3.out).2.1) | (with_reducible exact HCE.out _ (HY6.out _).2.1))
                  clear hK K hHeld
                  have hHeld := hHeld2
                  clear hHeld2
                  refine wpAnyH_done (by as_aux_lemma => kernel_rfl) ?_ _
                  rotate_left
                  go_simp
                  refine hK.out _ _ ?_ (fun hHeld2 => ?_)
                  · (try dsimp only); (first | (with_reducible assumption) | (with_reducible exact HCE.out _ (HXB.out _ BD.out).2.1) | (with_reducible exact HCE.out _ (HXB.out _ (BA.out _)).2.1) | (with_reducible exact HCE.out _ (HXB.out _ HB3.out).2.1) | (with_reducible exact HCE.out _ (HY6.out _).2.1))
                  clear hK K hHeld
                  have hHeld := hHeld2
                  clear hHeld2
                  refine wpAnyH_ready (rs := [8]) (by as_aux_lemma => kernel_rfl) (by simp) ?_
                  refine AllReadyH.cons rfl (fun K hK => ?_) AllReadyH.nil
                  (go_simp; go_at_call 44; (with_reducible refine (NG.out _ (by first | exact BD.out | exact BA.out _ | exact HB3.out)).mono ?_); rintro e wn ⟨rfl, hw⟩; obtain rfl := hw.symm; (try dsimp only))
                  refine hK.out _ _ ?_ (fun hHeld2 => ?_)
                  · (try dsimp only); (first | (with_reducible assumption) | (with_reducible exact HCE.out _ (HXB.out _ BD.out).2.1) | (with_reducible exact HCE.out _ (HXB.out _ (BA.out _)).2.1) | (with_reducible exact HCE.out _ (HXB.out _ HB3.out).2.1) | (with_reducible exact HCE.out _ (HY6.out _).2.1))
                  clear hK K hHeld
                  have hHeld := hHeld2
                  clear hHeld2
                  refine wpAnyH_ready (rs := [12]) (by as_aux_lemma => kernel_rfl) (by simp) ?_
                  refine AllReadyH.cons rfl (fun K hK => ?_) AllReadyH.nil
                  (refine step_append_L _ rfl (.tmp 71) (.tmp 73) 22 rfl Try.underlying22 (.slice (some ⟨wr.heap.size, 0, none⟩) 0 0) [] rfl HE.out (some ⟨g, o' + 7, none⟩) 128 (c - 7) D rfl HDL.out (HR7.out _ (BA.out _)) (by decide) (BA.out _) HZA.out ?_; intro v3 w3 own3 hb3 hz3 hne3; rw [List.nil_append] at own3; obtain ⟨g3, c3, hv3, hk3, _, _, _⟩ := own3.some_ (hne3 (by simp)); subst hv3; have HB3 := Lib.hid hb3; have HD3 : Hid (BL w3 (some ⟨g3, 0, none⟩) D) := Lib.hid (BL.blk hk3 rfl (fun _ _ => rfl)); have HT6 : Hid (∀ o, RPS w H base (w3.alloc o) (x0 : Int) (xb : Int) u1 u2 l m) := Lib.hid (fun o => HVB.out _ (HB3.out.alloc hz3 o)); have HY6 : Hid (∀ o, RV (w3.alloc o) H 0 0 (.slice none 0 0) (.slice none 0 0) ∧ BL (w3.alloc o) (some ⟨g, o', none⟩) R ∧ BL (w3.alloc o) (some ⟨b, 0, none⟩) L) := Lib.hid (fun o => HXB.out _ (HB3.out.alloc hz3 o)); have HZ6 : Hid (∀ o, H ≤ (w3.alloc o).heap.size) := Lib.hid (fun o => by have := (HT6.out o).cur.lt; have := (HT6.out o).big; omega); have u5 := (HVB.out _ HB3.out).cur.c3; have u5' : ∀ o, (w3.alloc o).cell? ⟨base, 3, none⟩ = some u2 := fun o => (HT6.out o).cur.c3; clear own3 hb3 hz3 hne3 hk3)
                  refine hK.out _ _ ?_ (fun hHeld2 => ?_)
                  · (try dsimp only); (first | (with_reducible assumption) | (with_reducible exact HCE.out _ (HXB.out _ BD.out).2.1) | (with_reducible exact HCE.out _ (HXB.out _ (BA.out _)).2.1) | (with_reducible exact HCE.out _ (HXB.out _ HB3.out).2.1) | (with_reducible exact HCE.out _ (HY6.out _).2.1))
                  clear hK K hHeld
                  have hHeld := hHeld2
                  clear hHeld2
                  refine wpAnyH_take (i := 13) (v := ?_) rfl (by as_aux_lemma => kernel_rfl) (by as_aux_lemma => kernel_rfl) (by as_aux_lemma => kernel_rfl) (fun _ _ _ h => h) (Or.inl ⟨by rfl, ?_⟩) (by assumption) ?_
                  rotate_left
                  · intro w hSw; (try dsimp only at hSw); go_simp; (try with_reducible rfl)
                  simp only [Act.put, List.getElem_toArray, List.getElem_cons_zero, List.getElem_cons_succ, List.setIfInBounds_toArray, List.set_cons_zero, List.set_cons_succ]
                  refine wpAnyH_ready (rs := [14]) (by as_aux_lemma => kernel_rfl) (by simp) ?_
                  refine AllReadyH.cons rfl (fun K hK => ?_) AllReadyH.nil
                  go_simp
                  refine hK.out _ _ ?_ (fun hHeld2 => ?_)
                  · (try dsimp only); (first | (with_reducible assumption) | (with_reducible exact HCE.out _ (HXB.out _ BD.out).2.1) | (with_reducible exact HCE.out _ (HXB.out _ (BA.out _)).2.1) | (with_reducible exact HCE.out _ (HXB.out _ HB3.out).2.1) | (with_reducible exact HCE.out _ (HY6.out _).2.1))
                  clear hK K hHeld
                  have hHeld := hHeld2
                  clear hHeld2
                  refine wpAnyH_ready (rs := [15]) (by as_aux_lemma => kernel_rfl) (by simp) ?_
                  refine AllReadyH.cons rfl (fun K hK => ?_) AllReadyH.nil
                  (refine step_append_I _ rfl (.tmp 63) (.tmp 76) rfl u2 m ⟨(y0 : Nat), (yg : Nat), D⟩ rfl (HT6.out _).xs w3.heap.size rfl ⟨some ⟨g3, 0, none⟩, c3, IV.new w3 _ _ _ _ _, HD3.out.below ((Below.refl _ _).alloc (Nat.le_refl _) _), HDB.out⟩ HLN.out (HZ6.out _) ?_; intro v9 w9 hl9 hb9 hz9 ht9; rw [HX.out] at hl9; obtain ⟨A9, c9, hv9⟩ := hl9.form; subst hv9; obtain ⟨q3, q4⟩ := (HT6.out _).appI hb9 ht9 hl9; have HT9 := Lib.hid q4; have HX9 : Hid (RV (w9.setCell ⟨base, 3, none⟩ (.slice A9 (m ++ [x]).length c9)) H 0 0 (.slice none 0 0) (.slice none 0 0) ∧ BL (w9.setCell ⟨base, 3, none⟩ (.slice A9 (m ++ [x]).length c9)) (some ⟨g, o', none⟩) R ∧ BL (w9.setCell ⟨base, 3, none⟩ (.slice A9 (m ++ [x]).length c9)) (some ⟨b, 0, none⟩) L) := Lib.hid ⟨((HY6.out _).1.keep (keep_other ht9 (HY6.out _).1 (by decide))).keep (set_other (Nat.ne_of_lt hHb) _ _), ((HY6.out _).2.1.keep (fun g cs hg => keep_other ht9 hg (by decide))).set q3 (by decide), ((HY6.out _).2.2.keep (fun g cs hg => keep_other ht9 hg (by decide))).set q3 (by decide)⟩; have qx := HCE.out _ ((HY6.out _).2.1.keep (fun g cs hg => keep_other ht9 hg (by decide))); have qy : (w9.setCell ⟨base, 3, none⟩ (.slice A9 (m.length + 1) c9)).cell? ⟨g, o', none⟩ = some (.int .u8 (y0 : Int)) := (by have h := HCE.out _ HX9.out.2.1; rw [List.length_append] at h; exact h); have qf := q3.f; have q3c := q3.c3; clear q3 q4 hl9 hb9 hz9 ht9)
                  refine hK.out _ _ ?_ (fun hHeld2 => ?_)
                  · (try dsimp only); (first | (with_reducible assumption) | (with_reducible exact HCE.out _ (HXB.out _ BD.out).2.1) | (with_reducible exact HCE.out _ (HXB.out _ (BA.out _)).2.1) | (with_reducible exact HCE.out _ (HXB.out _ HB3.out).2.1) | (with_reducible exact HCE.out _ (HY6.out _).2.1))
                  clear hK K hHeld
                  have hHeld := hHeld2
                  clear hHeld2
                  refine wpAnyH_take (i := 16) (v := ?_) rfl (by as_aux_lemma => kernel_rfl) (by as_aux_lemma => kernel_rfl) (by as_aux_lemma => kernel_rfl) (fun _ _ _ h => h) (Or.inl ⟨by rfl, ?_⟩) (by assumption) ?_
                  rotate_left
                  · intro w hSw; (try dsimp only at hSw); go_simp; (try with_reducible rfl)
                  simp only [Act.put, List.getElem_toArray, List.getElem_cons_zero, List.getElem_cons_succ, List.setIfInBounds_toArray, List.set_cons_zero, List.set_cons_succ]
                  refine wpAnyH_ready (rs := [17]) (by as_aux_lemma => kernel_rfl) (by simp) ?_
                  refine AllReadyH.cons rfl (fun K hK => ?_) AllReadyH.nil
                  go_simp
                  refine hK.out _ _ ?_ (fun hHeld2 => ?_)
                  · (try dsimp only); (first | (with_reducible assumption) | (with_reducible exact HCE.out _ (HXB.out _ BD.out).2.1) | (with_reducible exact HCE.out _ (HXB.out _ (BA.out _)).2.1) | (with_reducible exact HCE.out _ (HXB.out _ HB3.out).2.1) | (with_reducible exact HCE.out _ (HY6.out _).2.1))
                  clear hK K hHeld
                  have hHeld := hHeld2
                  clear hHeld2
                  refine wpAnyH_done (by as_aux_lemma => kernel_rfl) ?_ _
                  rotate_left
                  (go_simp; go_at_call 44; (with_reducible refine (NG.out _ (by first | exact BD.out | exact BA.out _ | exact HB3.out)).mono ?_); rintro e wn ⟨rfl, hw⟩; obtain rfl := hw.symm; (try dsimp only))
                  refine hK.out _ _ ?_ (fun hHeld2 => ?_)
                  · (try dsimp only); (first | (with_reducible assumption) | (with_reducible exact HCE.out _ (HXB.out _ BD.out).2.1) | (with_reducible exact HCE.out _ (HXB.out _ (BA.out _)).2.1) | (with_reducible exact HCE.out _ (HXB.out _ HB3.out).2.1) | (with_reducible exact HCE.out _ (HY6.out _).2.1))
                  clear hK K hHeld
                  have hHeld := hHeld2
                  clear hHeld2
                  refine wpAnyH_ready (rs := [1, 9]) (by as_aux_lemma => kernel_rfl) (by simp) ?_
                  refine AllReadyH.cons rfl (fun K hK => ?_) (AllReadyH.cons rfl (fun K hK => ?_) AllReadyH.nil)
                  go_simp
                  refine hK.out _ _ ?_ (fun hHeld2 => ?_)
                  · (try dsimp only); (first | (with_reducible assumption) | (with_reducible exact HCE.out _ (HXB.out _ BD.out).2.1) | (with_reducible exact HCE.out _ (HXB.out _ (BA.out _)).2.1) | (with_reducible exact HCE.out _ (HXB.out _ HB3.out).2.1) | (with_reducible exact HCE.out _ (HY6.out _).2.1))
                  clear hK K hHeld
                  have hHeld := hHeld2
                  clear hHeld2
                  refine wpAnyH_ready (rs := [9]) (by as_aux_lemma => kernel_rfl) (by simp) ?_
                  refine AllReadyH.cons rfl (fun K hK => ?_) AllReadyH.nil
                  go_simp
                  refine hK.out _ _ ?_ (fun hHeld2 => ?_)
                  · (try dsimp only); (first | (with_reducible assumption) | (with_reducible exact HCE.out _ (HXB.out _ BD.out).2.1) | (with_reducible exact HCE.out _ (HXB.out _ (BA.out _)).2.1) | (with_reducible exact HCE.out _ (HXB.out _ HB3.out).2.1) | (with_reducible exact HCE.out _ (HY6.out _).2.1))
                  clear hK K hHeld
                  have hHeld := hHeld2
                  clear hHeld2
                  refine wpAnyH_ready (rs := [12]) (by as_aux_lemma => kernel_rfl) (by simp) ?_
                  refine AllReadyH.cons rfl (fun K hK => ?_) AllReadyH.nil
                  (refine step_append_L _ rfl (.tmp 71) (.tmp 73) 22 rfl Try.underlying22 (.slice (some ⟨wr.heap.size, 0, none⟩) 0 0) [] rfl HE.out (some ⟨g, o' + 7, none⟩) 128 (c - 7) D rfl HDL.out (HR7.out _ (BA.out _)) (by decide) (BA.out _) HZA.out ?_; intro v3 w3 own3 hb3 hz3 hne3; rw [List.nil_append] at own3; obtain ⟨g3, c3, hv3, hk3, _, _, _⟩ := own3.some_ (hne3 (by simp)); subst hv3; have HB3 := Lib.hid hb3; have HD3 : Hid (BL w3 (some ⟨g3, 0, none⟩) D) := Lib.hid (BL.blk hk3 rfl (fun _ _ => rfl)); have HT6 : Hid (∀ o, RPS w H base (w3.alloc o) (x0 : Int) (xb : Int) u1 u2 l m) := Lib.hid (fun o => HVB.out _ (HB3.out.alloc hz3 o)); have HY6 : Hid (∀ o, RV (w3.alloc o) H 0 0 (.slice none 0 0) (.slice none 0 0) ∧ BL (w3.alloc o) (some ⟨g, o', none⟩) R ∧ BL (w3.alloc o) (some ⟨b, 0, none⟩) L) := Lib.hid (fun o => HXB.out _ (HB3.out.alloc hz3 o)); have HZ6 : Hid (∀ o, H ≤ (w3.alloc o).heap.size) := Lib.hid (fun o => by have := (HT6.out o).cur.lt; have := (HT6.out o).big; omega); have u5 := (HVB.out _ HB3.out).cur.c3; have u5' : ∀ o, (w3.alloc o).cell? ⟨base, 3, none⟩ = some u2 := fun o => (HT6.out o).cur.c3; clear own3 hb3 hz3 hne3 hk3)
                  refine hK.out _ _ ?_ (fun hHeld2 => ?_)
                  · (try dsimp only); (first | (with_reducible assumption) | (with_reducible exact HCE.out _ (HXB.out _ BD.out).2.1) | (with_reducible exact HCE.out _ (HXB.out _ (BA.out _)).2.1) | (with_reducible exact HCE.out _ (HXB.out _ HB3.out).2.1) | (with_reducible exact HCE.out _ (HY6.out _).2.1))
                  clear hK K hHeld
                  have hHeld := hHeld2
                  clear hHeld2
                  refine wpAnyH_take (i := 13) (v := ?_) rfl (by as_aux_lemma => kernel_rfl) (by as_aux_lemma => kernel_rfl) (by as_aux_lemma => kernel_rfl) (fun _ _ _ h => h) (Or.inl ⟨by rfl, ?_⟩) (by assumption) ?_
                  rotate_left
                  · intro w hSw; (try dsimp only at hSw); go_simp; (try with_reducible rfl)
                  simp only [Act.put, List.getElem_toArray, List.getElem_cons_zero, List.getElem_cons_succ, List.setIfInBounds_toArray, List.set_cons_zero, List.set_cons_succ]
                  refine wpAnyH_ready (rs := [14]) (by as_aux_lemma => kernel_rfl) (by simp) ?_
                  refine AllReadyH.cons rfl (fun K hK => ?_) AllReadyH.nil
                  go_simp
                  refine hK.out _ _ ?_ (fun hHeld2 => ?_)
                  · (try dsimp only); (first | (with_reducible assumption) | (with_reducible exact HCE.out _ (HXB.out _ BD.out).2.1) | (with_reducible exact HCE.out _ (HXB.out _ (BA.out _)).2.1) | (with_reducible exact HCE.out _ (HXB.out _ HB3.out).2.1) | (with_reducible exact HCE.out _ (HY6.out _).2.1))
                  clear hK K hHeld
                  have hHeld := hHeld2
                  clear hHeld2
                  refine wpAnyH_ready (rs := [15]) (by as_aux_lemma => kernel_rfl) (by simp) ?_
                  refine AllReadyH.cons rfl (fun K hK => ?_) AllReadyH.nil
                  (refine step_append_I _ rfl (.tmp 63) (.tmp 76) rfl u2 m ⟨(y0 : Nat), (yg : Nat), D⟩ rfl (HT6.out _).xs w3.heap.size rfl ⟨some ⟨g3, 0, none⟩, c3, IV.new w3 _ _ _ _ _, HD3.out.below ((Below.refl _ _).alloc (Nat.le_refl _) _), HDB.out⟩ HLN.out (HZ6.out _) ?_; intro v9 w9 hl9 hb9 hz9 ht9; rw [HX.out] at hl9; obtain ⟨A9, c9, hv9⟩ := hl9.form; subst hv9; obtain ⟨q3, q4⟩ := (HT6.out _).appI hb9 ht9 hl9; have HT9 := Lib.hid q4; have HX9 : Hid (RV (w9.setCell ⟨base, 3, none⟩ (.slice A9 (m ++ [x]).length c9)) H 0 0 (.slice none 0 0) (.slice none 0 0) ∧ BL (w9.setCell ⟨base, 3, none⟩ (.slice A9 (m ++ [x]).length c9)) (some ⟨g, o', none⟩) R ∧ BL (w9.setCell ⟨base, 3, none⟩ (.slice A9 (m ++ [x]).length c9)) (some ⟨b, 0, none⟩) L) := Lib.hid ⟨((HY6.out _).1.keep (keep_other ht9 (HY6.out _).1 (by decide))).keep (set_other (Nat.ne_of_lt hHb) _ _), ((HY6.out _).2.1.keep (fun g cs hg => keep_other ht9 hg (by decide))).set q3 (by decide), ((HY6.out _).2.2.keep (fun g cs hg => keep_other ht9 hg (by decide))).set q3 (by decide)⟩; have qx := HCE.out _ ((HY6.out _).2.1.keep (fun g cs hg => keep_other ht9 hg (by decide))); have qy : (w9.setCell ⟨base, 3, none⟩ (.slice A9 (m.length + 1) c9)).cell? ⟨g, o', none⟩ = some (.int .u8 (y0 : Int)) := (by have h := HCE.out _ HX9.out.2.1; rw [List.length_append] at h; exact h); have qf := q3.f; have q3c := q3.c3; clear q3 q4 hl9 hb9 hz9 ht9)
                  refine hK.out _ _ ?_ (fun hHeld2 => ?_)
                  · (try dsimp only); (first | (with_reducible assumption) | (with_reducible exact HCE.out _ (HXB.out _ BD.out).2.1) | (with_reducible exact HCE.out _ (HXB.out _ (BA.out _)).2.1) | (with_reducible exact HCE.out _ (HXB.out _ HB3.out).2.1) | (with_reducible exact HCE.out _ (HY6.out _).2.1))
                  clear hK K hHeld
                  have hHeld := hHeld2
                  clear hHeld2
                  refine wpAnyH_take (i := 16) (v := ?_) rfl (by as_aux_lemma => kernel_rfl) (by as_aux_lemma => kernel_rfl) (by as_aux_lemma => kernel_rfl) (fun _ _ _ h => h) (Or.inl ⟨by rfl, ?_⟩) (by assumption) ?_
                  rotate_left
                  · intro w hSw; (try dsimp only at hSw); go_simp; (try with_reducible rfl)
                  simp only [Act.put, List.getElem_toArray, List.getElem_cons_zero, List.getElem_cons_succ, List.setIfInBounds_toArray, List.set_cons_zero, List.set_cons_succ]
                  refine wpAnyH_ready (rs := [17]) (by as_aux_lemma => kernel_rfl) (by simp) ?_
                  refine AllReadyH.cons rfl (fun K hK => ?_) AllReadyH.nil
                  go_simp
                  refine hK.out _ _ ?_ (fun hHeld2 => ?_)
                  · (try dsimp only); (first | (with_reducible assumption) | (with_reducible exact HCE.out _ (HXB.out _ BD.out).2.1) | (with_reducible exact HCE.out _ (HXB.out _ (BA.out _)).2.1) | (with_reducible exact HCE.out _ (HXB.out _ HB3.out).2.1) | (with_reducible exact HCE.out _ (HY6.out _).2.1))
                  clear hK K hHeld
                  have hHeld := hHeld2
                  clear hHeld2
                  refine wpAnyH_done (by as_aux_lemma => kernel_rfl) ?_ _
                  rotate_left
                  go_simp
                  refine hK.out _ _ ?_ (fun hHeld2 => ?_)
                  · (try dsimp only); (first | (with_reducible assumption) | (with_reducible exact HCE.out _ (HXB.out _ BD.out).2.1) | (with_reducible exact HCE.out _ (HXB.out _ (BA.out _)).2.1) | (with_reducible exact HCE.out _ (HXB.out _ HB3.out).2.1) | (with_reducible exact HCE.out _ (HY6.out _).2.1))
                  clear hK K hHeld
                  have hHeld := hHeld2
                  clear hHeld2
                  refine wpAnyH_ready (rs := [1, 12]) (by as_aux_lemma => kernel_rfl) (by simp) ?_
                  refine AllReadyH.cons rfl (fun K hK => ?_) (AllReadyH.cons rfl (fun K hK => ?_) AllReadyH.nil)
                  go_simp
                  refine hK.out _ _ ?_ (fun hHeld2 => ?_)
                  · (try dsimp only); (first | (with_reducible assumption) | (with_reducible exact HCE.out _ (HXB.out _ BD.out).2.1) | (with_reducible exact HCE.out _ (HXB.out _ (BA.out _)).2.1) | (with_reducible exact HCE.out _ (HXB.out _ HB3.out).2.1) | (with_reducible exact HCE.out _ (HY6.out _).2.1))
                  clear hK K hHeld
                  have hHeld := hHeld2
                  clear hHeld2
                  refine wpAnyH_ready (rs := [12]) (by as_aux_lemma => kernel_rfl) (by simp) ?_
                  refine AllReadyH.cons rfl (fun K hK => ?_) AllReadyH.nil
                  (refine step_append_L _ rfl (.tmp 71) (.tmp 73) 22 rfl Try.underlying22 (.slice (some ⟨wr.heap.size, 0, none⟩) 0 0) [] rfl HE.out (some ⟨g, o' + 7, none⟩) 128 (c - 7) D rfl HDL.out (HR7.out _ (BA.out _)) (by decide) (BA.out _) HZA.out ?_; intro v3 w3 own3 hb3 hz3 hne3; rw [List.nil_append] at own3; obtain ⟨g3, c3, hv3, hk3, _, _, _⟩ := own3.some_ (hne3 (by simp)); subst hv3; have HB3 := Lib.hid hb3; have HD3 : Hid (BL w3 (some ⟨g3, 0, none⟩) D) := Lib.hid (BL.blk hk3 rfl (fun _ _ => rfl)); have HT6 : Hid (∀ o, RPS w H base (w3.alloc o) (x0 : Int) (xb : Int) u1 u2 l m) := Lib.hid (fun o => HVB.out _ (HB3.out.alloc hz3 o)); have HY6 : Hid (∀ o, RV (w3.alloc o) H 0 0 (.slice none 0 0) (.slice none 0 0) ∧ BL (w3.alloc o) (some ⟨g, o', none⟩) R ∧ BL (w3.alloc o) (some ⟨b, 0, none⟩) L) := Lib.hid (fun o => HXB.out _ (HB3.out.alloc hz3 o)); have HZ6 : Hid (∀ o, H ≤ (w3.alloc o).heap.size) := Lib.hid (fun o => by have := (HT6.out o).cur.lt; have := (HT6.out o).big; omega); have u5 := (HVB.out _ HB3.out).cur.c3; have u5' : ∀ o, (w3.alloc o).cell? ⟨base, 3, none⟩ = some u2 := fun o => (HT6.out o).cur.c3; clear own3 hb3 hz3 hne3 hk3)
                  refine hK.out _ _ ?_ (fun hHeld2 => ?_)
                  · (try dsimp only); (first | (with_reducible assumption) | (with_reducible exact HCE.out _ (HXB.out _ BD.out).2.1) | (with_reducible exact HCE.out _ (HXB.out _ (BA.out _)).2.1) | (with_reducible exact HCE.out _ (HXB.out _ HB3.out).2.1) | (with_reducible exact HCE.out _ (HY6.out _).2.1))
                  clear hK K hHeld
                  have hHeld := hHeld2
                  clear hHeld2
                  refine wpAnyH_take (i := 13) (v := ?_) rfl (by as_aux_lemma => kernel_rfl) (by as_aux_lemma => kernel_rfl) (by as_aux_lemma => kernel_rfl) (fun _ _ _ h => h) (Or.inl ⟨by rfl, ?_⟩) (by assumption) ?_
                  rotate_left
                  · intro w hSw; (try dsimp only at hSw); go_simp; (try with_reducible rfl)
                  simp only [Act.put, List.getElem_toArray, List.getElem_cons_zero, List.getElem_cons_succ, List.setIfInBounds_toArray, List.set_cons_zero, List.set_cons_succ]
                  refine wpAnyH_ready (rs := [14]) (by as_aux_lemma => kernel_rfl) (by simp) ?_
                  refine AllReadyH.cons rfl (fun K hK => ?_) AllReadyH.nil
                  go_simp
                  refine hK.out _ _ ?_ (fun hHeld2 => ?_)
                  · (try dsimp only); (first | (with_reducible assumption) | (with_reducible exact HCE.out _ (HXB.out _ BD.out).2.1) | (with_reducible exact HCE.out _ (HXB.out _ (BA.out _)).2.1) | (with_reducible exact HCE.out _ (HXB.out _ HB3.out).2.1) | (with_reducible exact HCE.out _ (HY6.out _).2.1))
                  clear hK K hHeld
                  have hHeld := hHeld2
                  clear hHeld2
                  refine wpAnyH_ready (rs := [15]) (by as_aux_lemma => kernel_rfl) (by simp) ?_
                  refine AllReadyH.cons rfl (fun K hK => ?_) AllReadyH.nil
                  (refine step_append_I _ rfl (.tmp 63) (.tmp 76) rfl u2 m ⟨(y0 : Nat), (yg : Nat), D⟩ rfl (HT6.out _).xs w3.heap.size rfl ⟨some ⟨g3, 0, none⟩, c3, IV.new w3 _ _ _ _ _, HD3.out.below ((Below.refl _ _).alloc (Nat.le_refl _) _), HDB.out⟩ HLN.out (HZ6.out _) ?_; intro v9 w9 hl9 hb9 hz9 ht9; rw [HX.out] at hl9; obtain ⟨A9, c9, hv9⟩ := hl9.form; subst hv9; obtain ⟨q3, q4⟩ := (HT6.out _).appI hb9 ht9 hl9; have HT9 := Lib.hid q4; have HX9 : Hid (RV (w9.setCell ⟨base, 3, none⟩ (.slice A9 (m ++ [x]).length c9)) H 0 0 (.slice none 0 0) (.slice none 0 0) ∧ BL (w9.setCell ⟨base, 3, none⟩ (.slice A9 (m ++ [x]).length c9)) (some ⟨g, o', none⟩) R ∧ BL (w9.setCell ⟨base, 3, none⟩ (.slice A9 (m ++ [x]).length c9)) (some ⟨b, 0, none⟩) L) := Lib.hid ⟨((HY6.out _).1.keep (keep_other ht9 (HY6.out _).1 (by decide))).keep (set_other (Nat.ne_of_lt hHb) _ _), ((HY6.out _).2.1.keep (fun g cs hg => keep_other ht9 hg (by decide))).set q3 (by decide), ((HY6.out _).2.2.keep (fun g cs hg => keep_other ht9 hg (by decide))).set q3 (by decide)⟩; have qx := HCE.out _ ((HY6.out _).2.1.keep (fun g cs hg => keep_other ht9 hg (by decide))); have qy : (w9.setCell ⟨base, 3, none⟩ (.slice A9 (m.length + 1) c9)).cell? ⟨g, o', none⟩ = some (.int .u8 (y0 : Int)) := (by have h := HCE.out _ HX9.out.2.1; rw [List.length_append] at h; exact h); have qf := q3.f; have q3c := q3.c3; clear q3 q4 hl9 hb9 hz9 ht9)
                  refine hK.out _ _ ?_ (fun hHeld2 => ?_)
                  · (try dsimp only); (first | (with_reducible assumption) | (with_reducible exact HCE.out _ (HXB.out _ BD.out).2.1) | (with_reducible exact HCE.out _ (HXB.out _ (BA.out _)).2.1) | (with_reducible exact HCE.out _ (HXB.out _ HB3.out).2.1) | (with_reducible exact HCE.out _ (HY6.out _).2.1))
                  clear hK K hHeld
                  have hHeld := hHeld2
                  clear hHeld2
                  refine wpAnyH_take (i := 16) (v := ?_) rfl (by as_aux_lemma => kernel_rfl) (by as_aux_lemma => kernel_rfl) (by as_aux_lemma => kernel_rfl) (fun _ _ _ h => h) (Or.inl ⟨by rfl, ?_⟩) (by assumption) ?_
                  rotate_left
                  · intro w hSw; (try dsimp only at hSw); go_simp; (try with_reducible rfl)
                  simp only [Act.put, List.getElem_toArray, List.getElem_cons_zero, List.getElem_cons_succ, List.setIfInBounds_toArray, List.set_cons_zero, List.set_cons_succ]
                  refine wpAnyH_ready (rs := [17]) (by as_aux_lemma => kernel_rfl) (by simp) ?_
                  refine AllReadyH.cons rfl (fun K hK => ?_) AllReadyH.nil
                  go_simp
                  refine hK.out _ _ ?_ (fun hHeld2 => ?_)
                  · (try dsimp only); (first | (with_reducible assumption) | (with_reducible exact HCE.out _ (HXB.out _ BD.out).2.1) | (with_reducible exact HCE.out _ (HXB.out _ (BA.out _)).2.1) | (with_reducible exact HCE.out _ (HXB.out _ HB3.out).2.1) | (with_reducible exact HCE.out _ (HY6.out _).2.1))
                  clear hK K hHeld
                  have hHeld := hHeld2
                  clear hHeld2
                  refine wpAnyH_done (by as_aux_lemma => kernel_rfl) ?_ _
                  rotate_left
                  (refine step_append_L _ rfl (.tmp 71) (.tmp 73) 22 rfl Try.underlying22 (.slice (some ⟨wr.heap.size, 0, none⟩) 0 0) [] rfl HE.out (some ⟨g, o' + 7, none⟩) 128 (c - 7) D rfl HDL.out (HR7.out _ (BA.out _)) (by decide) (BA.out _) HZA.out ?_; intro v3 w3 own3 hb3 hz3 hne3; rw [List.nil_append] at own3; obtain ⟨g3, c3, hv3, hk3, _, _, _⟩ := own3.some_ (hne3 (by simp)); subst hv3; have HB3 := Lib.hid hb3; have HD3 : Hid (BL w3 (some ⟨g3, 0, none⟩) D) := Lib.hid (BL.blk hk3 rfl (fun _ _ => rfl)); have HT6 : Hid (∀ o, RPS w H base (w3.alloc o) (x0 : Int) (xb : Int) u1 u2 l m) := Lib.hid (fun o => HVB.out _ (HB3.out.alloc hz3 o)); have HY6 : Hid (∀ o, RV (w3.alloc o) H 0 0 (.slice none 0 0) (.slice none 0 0) ∧ BL (w3.alloc o) (some ⟨g, o', none⟩) R ∧ BL (w3.alloc o) (some ⟨b, 0, none⟩) L) := Lib.hid (fun o => HXB.out _ (HB3.out.alloc hz3 o)); have HZ6 : Hid (∀ o, H ≤ (w3.alloc o).heap.size) := Lib.hid (fun o => by have := (HT6.out o).cur.lt; have := (HT6.out o).big; omega); have u5 := (HVB.out _ HB3.out).cur.c3; have u5' : ∀ o, (w3.alloc o).cell? ⟨base, 3, none⟩ = some u2 := fun o => (HT6.out o).cur.c3; clear own3 hb3 hz3 hne3 hk3)
                  refine hK.out _ _ ?_ (fun hHeld2 => ?_)
                  · (try dsimp only); (first | (with_reducible assumption) | (with_reducible exact HCE.out _ (HXB.out _ BD.out).2.1) | (with_reducible exact HCE.out _ (HXB.out _ (BA.out _)).2.1) | (with_reducible exact HCE.out _ (HXB.out _ HB3.out).2.1) | (with_reducible exact HCE.out _ (HY6.out _).2.1))
                  clear hK K hHeld
                  have hHeld := hHeld2
                  clear hHeld2
                  refine wpAnyH_take (i := 13) (v := ?_) rfl (by as_aux_lemma => kernel_rfl) (by as_aux_lemma => kernel_rfl) (by as_aux_lemma => kernel_rfl) (fun _ _ _ h => h) (Or.inl ⟨by rfl, ?_⟩) (by assumption) ?_
                  rotate_left
                  · intro w hSw; (try dsimp only at hSw); go_simp; (try with_reducible rfl)
                  simp only [Act.put, List.getElem_toArray, List.getElem_cons_zero, List.getElem_cons_succ, List.setIfInBounds_toArray, List.set_cons_zero, List.set_cons_succ]
                  refine wpAnyH_ready (rs := [1, 14]) (by as_aux_lemma => kernel_rfl) (by simp) ?_
                  refine AllReadyH.cons rfl (fun K hK => ?_) (AllReadyH.cons rfl (fun K hK => ?_) AllReadyH.nil)
                  go_simp
                  refine hK.out _ _ ?_ (fun hHeld2 => ?_)
                  · (try dsimp only); (first | (with_reducible assumption) | (with_reducible exact HCE.out _ (HXB.out _ BD.out).2.1) | (with_reducible exact HCE.out _ (HXB.out _ (BA.out _)).2.1) | (with_reducible exact HCE.out _ (HXB.out _ HB3.out).2.1) | (with_reducible exact HCE.out _ (HY6.out _).2.1))
                  clear hK K hHeld
                  have hHeld := hHeld2
                  clear hHeld2
                  refine wpAnyH_ready (rs := [14]) (by as_aux_lemma => kernel_rfl) (by simp) ?_
                  refine AllReadyH.cons rfl (fun K hK => ?_) AllReadyH.nil
                  go_simp
                  refine hK.out _ _ ?_ (fun hHeld2 => ?_)
                  · (try dsimp only); (first | (with_reducible assumption) | (with_reducible exact HCE.out _ (HXB.out _ BD.out).2.1) | (with_reducible exact HCE.out _ (HXB.out _ (BA.out _)).2.1) | (with_reducible exact HCE.out _ (HXB.out _ HB3.out).2.1) | (with_reducible exact HCE.out _ (HY6.out _).2.1))
                  clear hK K hHeld
                  have hHeld := hHeld2
                  clear hHeld2
                  refine wpAnyH_ready (rs := [15]) (by as_aux_lemma => kernel_rfl) (by simp) ?_
                  refine AllReadyH.cons rfl (fun K hK => ?_) AllReadyH.nil
                  (refine step_append_I _ rfl (.tmp 63) (.tmp 76) rfl u2 m ⟨(y0 : Nat), (yg : Nat), D⟩ rfl (HT6.out _).xs w3.heap.size rfl ⟨some ⟨g3, 0, none⟩, c3, IV.new w3 _ _ _ _ _, HD3.out.below ((Below.refl _ _).alloc (Nat.le_refl _) _), HDB.out⟩ HLN.out (HZ6.out _) ?_; intro v9 w9 hl9 hb9 hz9 ht9; rw [HX.out] at hl9; obtain ⟨A9, c9, hv9⟩ := hl9.form; subst hv9; obtain ⟨q3, q4⟩ := (HT6.out _).appI hb9 ht9 hl9; have HT9 := Lib.hid q4; have HX9 : Hid (RV (w9.setCell ⟨base, 3, none⟩ (.slice A9 (m ++ [x]).length c9)) H 0 0 (.slice none 0 0) (.slice none 0 0) ∧ BL (w9.setCell ⟨base, 3, none⟩ (.slice A9 (m ++ [x]).length c9)) (some ⟨g, o', none⟩) R ∧ BL (w9.setCell ⟨base, 3, none⟩ (.slice A9 (m ++ [x]).length c9)) (some ⟨b, 0, none⟩) L) := Lib.hid ⟨((HY6.out _).1.keep (keep_other ht9 (HY6.out _).1 (by decide))).keep (set_other (Nat.ne_of_lt hHb) _ _), ((HY6.out _).2.1.keep (fun g cs hg => keep_other ht9 hg (by decide))).set q3 (by decide), ((HY6.out _).2.2.keep (fun g cs hg => keep_other ht9 hg (by decide))).set q3 (by decide)⟩; have qx := HCE.out _ ((HY6.out _).2.1.keep (fun g cs hg => keep_other ht9 hg (by decide))); have qy : (w9.setCell ⟨base, 3, none⟩ (.slice A9 (m.length + 1) c9)).cell? ⟨g, o', none⟩ = some (.int .u8 (y0 : Int)) := (by have h := HCE.out _ HX9.out.2.1; rw [List.length_append] at h; exact h); have qf := q3.f; have q3c := q3.c3; clear q3 q4 hl9 hb9 hz9 ht9)
                  refine hK.out _ _ ?_ (fun hHeld2 => ?_)
                  · (try dsimp only); (first | (with_reducible assumption) | (with_reducible exact HCE.out _ (HXB.out _ BD.out).2.1) | (with_reducible exact HCE.out _ (HXB.out _ (BA.out _)).2.1) | (with_reducible exact HCE.out _ (HXB.out _ HB3.out).2.1) | (with_reducible exact HCE.out _ (HY6.out _).2.1))
                  clear hK K hHeld
                  have hHeld := hHeld2
                  clear hHeld2
                  refine wpAnyH_take (i := 16) (v := ?_) rfl (by as_aux_lemma => kernel_rfl) (by as_aux_lemma => kernel_rfl) (by as_aux_lemma => kernel_rfl) (fun _ _ _ h => h) (Or.inl ⟨by rfl, ?_⟩) (by assumption) ?_
                  rotate_left
                  · intro w hSw; (try dsimp only at hSw); go_simp; (try with_reducible rfl)
                  simp only [Act.put, List.getElem_toArray, List.getElem_cons_zero, List.getElem_cons_succ, List.setIfInBounds_toArray, List.set_cons_zero, List.set_cons_succ]
                  refine wpAnyH_ready (rs := [17]) (by as_aux_lemma => kernel_rfl) (by simp) ?_
                  refine AllReadyH.cons rfl (fun K hK => ?_) AllReadyH.nil
                  go_simp
                  refine hK.out _ _ ?_ (fun hHeld2 => ?_)
                  · (try dsimp only); (first | (with_reducible assumption) | (with_reducible exact HCE.out _ (HXB.out _ BD.out).2.1) | (with_reducible exact HCE.out _ (HXB.out _ (BA.out _)).2.1) | (with_reducible exact HCE.out _ (HXB.out _ HB3.out).2.1) | (with_reducible exact HCE.out _ (HY6.out _).2.1))
                  clear hK K hHeld
                  have hHeld := hHeld2
                  clear hHeld2
                  refine wpAnyH_done (by as_aux_lemma => kernel_rfl) ?_ _
                  rotate_left
                  go_simp
                  refine hK.out _ _ ?_ (fun hHeld2 => ?_)
                  · (try dsimp only); (first | (with_reducible assumption) | (with_reducible exact HCE.out _ (HXB.out _ BD.out).2.1) | (with_reducible exact HCE.out _ (HXB.out _ (BA.out _)).2.1) | (with_reducible exact HCE.out _ (HXB.out _ HB3.out).2.1) | (with_reducible exact HCE.out _ (HY6.out _).2.1))
                  clear hK K hHeld
                  have hHeld := hHeld2
                  clear hHeld2
                  refine wpAnyH_ready (rs := [1]) (by as_aux_lemma => kernel_rfl) (by simp) ?_
                  refine AllReadyH.cons rfl (fun K hK => ?_) AllReadyH.nil
                  go_simp
                  refine hK.out _ _ ?_ (fun hHeld2 => ?_)
                  · (try dsimp only); (first | (with_reducible assumption) | (with_reducible exact HCE.out _ (HXB.out _ BD.out).2.1) | (with_reducible exact HCE.out _ (HXB.out _ (BA.out _)).2.1) | (with_reducible exact HCE.out _ (HXB.out _ HB3.out).2.1) | (with_reducible exact HCE.out _ (HY6.out _).2.1))
                  clear hK K hHeld
                  have hHeld := hHeld2
                  clear hHeld2
                  refine wpAnyH_ready (rs := [15]) (by as_aux_lemma => kernel_rfl) (by simp) ?_
                  refine AllReadyH.cons rfl (fun K hK => ?_) AllReadyH.nil
                  (refine step_append_I _ rfl (.tmp 63) (.tmp 76) rfl u2 m ⟨(y0 : Nat), (yg : Nat), D⟩ rfl (HT6.out _).xs w3.heap.size rfl ⟨some ⟨g3, 0, none⟩, c3, IV.new w3 _ _ _ _ _, HD3.out.below ((Below.refl _ _).alloc (Nat.le_refl _) _), HDB.out⟩ HLN.out (HZ6.out _) ?_; intro v9 w9 hl9 hb9 hz9 ht9; rw [HX.out] at hl9; obtain ⟨A9, c9, hv9⟩ := hl9.form; subst hv9; obtain ⟨q3, q4⟩ := (HT6.out _).appI hb9 ht9 hl9; have HT9 := Lib.hid q4; have HX9 : Hid (RV (w9.setCell ⟨base, 3, none⟩ (.slice A9 (m ++ [x]).length c9)) H 0 0 (.slice none 0 0) (.slice none 0 0) ∧ BL (w9.setCell ⟨base, 3, none⟩ (.slice A9 (m ++ [x]).length c9)) (some ⟨g, o', none⟩) R ∧ BL (w9.setCell ⟨base, 3, none⟩ (.slice A9 (m ++ [x]).length c9)) (some ⟨b, 0, none⟩) L) := Lib.hid ⟨((HY6.out _).1.keep (keep_other ht9 (HY6.out _).1 (by decide))).keep (set_other (Nat.ne_of_lt hHb) _ _), ((HY6.out _).2.1.keep (fun g cs hg => keep_other ht9 hg (by decide))).set q3 (by decide), ((HY6.out _).2.2.keep (fun g cs hg => keep_other ht9 hg (by decide))).set q3 (by decide)⟩; have qx := HCE.out _ ((HY6.out _).2.1.keep (fun g cs hg => keep_other ht9 hg (by decide))); have qy : (w9.setCell ⟨base, 3, none⟩ (.slice A9 (m.length + 1) c9)).cell? ⟨g, o', none⟩ = some (.int .u8 (y0 : Int)) := (by have h := HCE.out _ HX9.out.2.1; rw [List.length_append] at h; exact h); have qf := q3.f; have q3c := q3.c3; clear q3 q4 hl9 hb9 hz9 ht9)
                  refine hK.out _ _ ?_ (fun hHeld2 => ?_)
                  · (try dsimp only); (first | (with_reducible assumption) | (with_reducible exact HCE.out _ (HXB.out _ BD.out).2.1) | (with_reducible exact HCE.out _ (HXB.out _ (BA.out _)).2.1) | (with_reducible exact HCE.out _ (HXB.out _ HB3.out).2.1) | (with_reducible exact HCE.out _ (HY6.out _).2.1))
                  clear hK K hHeld
                  have hHeld := hHeld2
                  clear hHeld2
                  refine wpAnyH_take (i := 16) (v := ?_) rfl (by as_aux_lemma => kernel_rfl) (by as_aux_lemma => kernel_rfl) (by as_aux_lemma => kernel_rfl) (fun _ _ _ h => h) (Or.inl ⟨by rfl, ?_⟩) (by assumption) ?_
                  rotate_left
                  · intro w hSw; (try dsimp only at hSw); go_simp; (try with_reducible rfl)
                  simp only [Act.put, List.getElem_toArray, List.getElem_cons_zero, List.getElem_cons_succ, List.setIfInBounds_toArray, List.set_cons_zero, List.set_cons_succ]
                  refine wpAnyH_ready (rs := [17]) (by as_aux_lemma => kernel_rfl) (by simp) ?_
                  refine AllReadyH.cons rfl (fun K hK => ?_) AllReadyH.nil
                  go_simp
                  refine hK.out _ _ ?_ (fun hHeld2 => ?_)
                  · (try dsimp only); (first | (with_reducible assumption) | (with_reducible exact HCE.out _ (HXB.out _ BD.out).2.1) | (with_reducible exact HCE.out _ (HXB.out _ (BA.out _)).2.1) | (with_reducible exact HCE.out _ (HXB.out _ HB3.out).2.1) | (with_reducible exact HCE.out _ (HY6.out _).2.1))
                  clear hK K hHeld
                  have hHeld := hHeld2
                  clear hHeld2
                  refine wpAnyH_done (by as_aux_lemma => kernel_rfl) ?_ _
                  rotate_left
                  go_simp
                  refine hK.out _ _ ?_ (fun hHeld2 => ?_)
                  · (try dsimp only); (first | (with_reducible assumption) | (with_reducible exact HCE.out _ (HXB.out _ BD.out).2.1) | (with_reducible exact HCE.out _ (HXB.out _ (BA.out _)).2.1) | (with_reducible exact HCE.out _ (HXB.out _ HB3.out).2.1) | (with_reducible exact HCE.out _ (HY6.out _).2.1))
                  clear hK K hHeld
                  have hHeld := hHeld2
                  clear hHeld2
                  refine wpAnyH_ready (rs := [1, 8]) (by as_aux_lemma => kernel_rfl) (by simp) ?_
                  refine AllReadyH.cons rfl (fun K hK => ?_) (AllReadyH.cons rfl (fun K hK => ?_) AllReadyH.nil)
                  go_simp
                  refine hK.out _ _ ?_ (fun hHeld2 => ?_)
                  · (try dsimp only); (first | (with_reducible assumption) | (with_reducible exact HCE.out _ (HXB.out _ BD.out).2.1) | (with_reducible exact HCE.out _ (HXB.out _ (BA.out _)).2.1) | (with_reducible exact HCE.out _ (HXB.out _ HB3.out).2.1) | (with_reducible exact HCE.out _ (HY6.out _).2.1))
                  clear hK K hHeld
                  have hHeld := hHeld2
                  clear hHeld2
                  refine wpAnyH_ready (rs := [8]) (by as_aux_lemma => kernel_rfl) (by simp) ?_
                  refine AllReadyH.cons rfl (fun K hK => ?_) AllReadyH.nil
                  (go_simp; go_at_call 44; (with_reducible refine (NG.out _ (by first | exact BD.out | exact BA.out _ | exact HB3.out)).mono ?_); rintro e wn ⟨rfl, hw⟩; obtain rfl := hw.symm; (try dsimp only))
                  refine hK.out _ _ ?_ (fun hHeld2 => ?_)
                  · (try dsimp only); (first | (with_reducible assumption) | (with_reducible exact HCE.out _ (HXB.out _ BD.out).2.1) | (with_reducible exact HCE.out _ (HXB.out _ (BA.out _)).2.1) | (with_reducible exact HCE.out _ (HXB.out _ HB3.out).2.1) | (with_reducible exact HCE.out _ (HY6.out _).2.1))
                  clear hK K hHeld
                  have hHeld := hHeld2
                  clear hHeld2
                  refine wpAnyH_ready (rs := [12]) (by as_aux_lemma => kernel_rfl) (by simp) ?_
                  refine AllReadyH.cons rfl (fun K hK => ?_) AllReadyH.nil
                  (refine step_append_L _ rfl (.tmp 71) (.tmp 73) 22 rfl Try.underlying22 (.slice (some ⟨wr.heap.size, 0, none⟩) 0 0) [] rfl HE.out (some ⟨g, o' + 7, none⟩) 128 (c - 7) D rfl HDL.out (HR7.out _ (BA.out _)) (by decide) (BA.out _) HZA.out ?_; intro v3 w3 own3 hb3 hz3 hne3; rw [List.nil_append] at own3; obtain ⟨g3, c3, hv3, hk3, _, _, _⟩ := own3.some_ (hne3 (by simp)); subst hv3; have HB3 := Lib.hid hb3; have HD3 : Hid (BL w3 (some ⟨g3, 0, none⟩) D) := Lib.hid (BL.blk hk3 rfl (fun _ _ => rfl)); have HT6 : Hid (∀ o, RPS w H base (w3.alloc o) (x0 : Int) (xb : Int) u1 u2 l m) := Lib.hid (fun o => HVB.out _ (HB3.out.alloc hz3 o)); have HY6 : Hid (∀ o, RV (w3.alloc o) H 0 0 (.slice none 0 0) (.slice none 0 0) ∧ BL (w3.alloc o) (some ⟨g, o', none⟩) R ∧ BL (w3.alloc o) (some ⟨b, 0, none⟩) L) := Lib.hid (fun o => HXB.out _ (HB3.out.alloc hz3 o)); have HZ6 : Hid (∀ o, H ≤ (w3.alloc o).heap.size) := Lib.hid (fun o => by have := (HT6.out o).cur.lt; have := (HT6.out o).big; omega); have u5 := (HVB.out _ HB3.out).cur.c3; have u5' : ∀ o, (w3.alloc o).cell? ⟨base, 3, none⟩ = some u2 := fun o => (HT6.out o).cur.c3; clear own3 hb3 hz3 hne3 hk3)
                  refine hK.out _ _ ?_ (fun hHeld2 => ?_)
                  · (try dsimp only); (first | (with_reducible assumption) | (with_reducible exact HCE.out _ (HXB.out _ BD.out).2.1) | (with_reducible exact HCE.out _ (HXB.out _ (BA.out _)).2.1) | (with_reducible exact HCE.out _ (HXB.out _ HB3.out).2.1) | (with_reducible exact HCE.out _ (HY6.out _).2.1))
                  clear hK K hHeld
                  have hHeld := hHeld2
                  clear hHeld2
                  refine wpAnyH_take (i := 13) (v := ?_) rfl (by as_aux_lemma => kernel_rfl) (by as_aux_lemma => kernel_rfl) (by as_aux_lemma => kernel_rfl) (fun _ _ _ h => h) (Or.inl ⟨by rfl, ?_⟩) (by assumption) ?_
                  rotate_left
                  · intro w hSw; (try dsimp only at hSw); go_simp; (try with_reducible rfl)
                  simp only [Act.put, List.getElem_toArray, List.getElem_cons_zero, List.getElem_cons_succ, List.setIfInBounds_toArray, List.set_cons_zero, List.set_cons_succ]
                  refine wpAnyH_ready (rs := [14]) (by as_aux_lemma => kernel_rfl) (by simp) ?_
                  refine AllReadyH.cons rfl (fun K hK => ?_) AllReadyH.nil
                  go_simp
                  refine hK.out _ _ ?_ (fun hHeld2 => ?_)
                  · (try dsimp only); (first | (with_reducible assumption) | (with_reducible exact HCE.out _ (HXB.out _ BD.out).2.1) | (with_reducible exact HCE.out _ (HXB.out _ (BA.out _)).2.1) | (with_reducible exact HCE.out _ (HXB.out _ HB3.out).2.1) | (with_reducible exact HCE.out _ (HY6.out _).2.1))
                  clear hK K hHeld
                  have hHeld := hHeld2
                  clear hHeld2
                  refine wpAnyH_ready (rs := [15]) (by as_aux_lemma => kernel_rfl) (by simp) ?_
                  refine AllReadyH.cons rfl (fun K hK => ?_) AllReadyH.nil
                  (refine step_append_I _ rfl (.tmp 63) (.tmp 76) rfl u2 m ⟨(y0 : Nat), (yg : Nat), D⟩ rfl (HT6.out _).xs w3.heap.size rfl ⟨some ⟨g3, 0, none⟩, c3, IV.new w3 _ _ _ _ _, HD3.out.below ((Below.refl _ _).alloc (Nat.le_refl _) _), HDB.out⟩ HLN.out (HZ6.out _) ?_; intro v9 w9 hl9 hb9 hz9 ht9; rw [HX.out] at hl9; obtain ⟨A9, c9, hv9⟩ := hl9.form; subst hv9; obtain ⟨q3, q4⟩ := (HT6.out _).appI hb9 ht9 hl9; have HT9 := Lib.hid q4; have HX9 : Hid (RV (w9.setCell ⟨base, 3, none⟩ (.slice A9 (m ++ [x]).length c9)) H 0 0 (.slice none 0 0) (.slice none 0 0) ∧ BL (w9.setCell ⟨base, 3, none⟩ (.slice A9 (m ++ [x]).length c9)) (some ⟨g, o', none⟩) R ∧ BL (w9.setCell ⟨base, 3, none⟩ (.slice A9 (m ++ [x]).length c9)) (some ⟨b, 0, none⟩) L) := Lib.hid ⟨((HY6.out _).1.keep (keep_other ht9 (HY6.out _).1 (by decide))).keep (set_other (Nat.ne_of_lt hHb) _ _), ((HY6.out _).2.1.keep (fun g cs hg => keep_other ht9 hg (by decide))).set q3 (by decide), ((HY6.out _).2.2.keep (fun g cs hg => keep_other ht9 hg (by decide))).set q3 (by decide)⟩; have qx := HCE.out _ ((HY6.out _).2.1.keep (fun g cs hg => keep_other ht9 hg (by decide))); have qy : (w9.setCell ⟨base, 3, none⟩ (.slice A9 (m.length + 1) c9)).cell? ⟨g, o', none⟩ = some (.int .u8 (y0 : Int)) := (by have h := HCE.out _ HX9.out.2.1; rw [List.length_append] at h; exact h); have qf := q3.f; have q3c := q3.c3; clear q3 q4 hl9 hb9 hz9 ht9)
                  refine hK.out _ _ ?_ (fun hHeld2 => ?_)
                  · (try dsimp only); (first | (with_reducible assumption) | (with_reducible exact HCE.out _ (HXB.out _ BD.out).2.1) | (with_reducible exact HCE.out _ (HXB.out _ (BA.out _)).2.1) | (with_reducible exact HCE.out _ (HXB.out _ HB3.out).2.1) | (with_reducible exact HCE.out _ (HY6.out _).2.1))
                  clear hK K hHeld
                  have hHeld := hHeld2
                  clear hHeld2
                  refine wpAnyH_take (i := 16) (v := ?_) rfl (by as_aux_lemma => kernel_rfl) (by as_aux_lemma => kernel_rfl) (by as_aux_lemma => kernel_rfl) (fun _ _ _ h => h) (Or.inl ⟨by rfl, ?_⟩) (by assumption) ?_
                  rotate_left
                  · intro w hSw; (try dsimp only at hSw); go_simp; (try with_reducible rfl)
                  simp only [Act.put, List.getElem_toArray, List.getElem_cons_zero, List.getElem_cons_succ, List.setIfInBounds_toArray, List.set_cons_zero, List.set_cons_succ]
                  refine wpAnyH_ready (rs := [17]) (by as_aux_lemma => kernel_rfl) (by simp) ?_
                  refine AllReadyH.cons rfl (fun K hK => ?_) AllReadyH.nil
                  go_simp
                  refine hK.out _ _ ?_ (fun hHeld2 => ?_)
                  · (try dsimp only); (first | (with_reducible assumption) | (with_reducible exact HCE.out _ (HXB.out _ BD.out).2.1) | (with_reducible exact HCE.out _ (HXB.out _ (BA.out _)).2.1) | (with_reducible exact HCE.out _ (HXB.out _ HB3.out).2.1) | (with_reducible exact HCE.out _ (HY6.out _).2.1))
                  clear hK K hHeld
                  have hHeld := hHeld2
                  clear hHeld2
                  refine wpAnyH_done (by as_aux_lemma => kernel_rfl) ?_ _
                  rotate_left
                  (go_simp; go_at_call 44; (with_reducible refine (NG.out _ (by first | exact BD.out | exact BA.out _ | exact HB3.out)).mono ?_); rintro e wn ⟨rfl, hw⟩; obtain rfl := hw.symm; (try dsimp only))
                  refine hK.out _ _ ?_ (fun hHeld2 => ?_)
                  · (try dsimp only); (first | (with_reducible assumption) | (with_reducible exact HCE.out _ (HXB.out _ BD.out).2.1) | (with_reducible exact HCE.out _ (HXB.out _ (BA.out _)).2.1) | (with_reducible exact HCE.out _ (HXB.out _ HB3.out).2.1) | (with_reducible exact HCE.out _ (HY6.out _).2.1))
                  clear hK K hHeld
                  have hHeld := hHeld2
                  clear hHeld2
                  refine wpAnyH_ready (rs := [1, 12]) (by as_aux_lemma => kernel_rfl) (by simp) ?_
                  refine AllReadyH.cons rfl (fun K hK => ?_) (AllReadyH.cons rfl (fun K hK => ?_) AllReadyH.nil)
                  go_simp
                  refine hK.out _ _ ?_ (fun hHeld2 => ?_)
                  · (try dsimp only); (first | (with_reducible assumption) | (with_reducible exact HCE.out _ (HXB.out _ BD.out).2.1) | (with_reducible exact HCE.out _ (HXB.out _ (BA.out _)).2.1) | (with_reducible exact HCE.out _ (HXB.out _ HB3.out).2.1) | (with_reducible exact HCE.out _ (HY6.out _).2.1))
                  clear hK K hHeld
                  have hHeld := hHeld2
                  clear hHeld2
                  refine wpAnyH_ready (rs := [12]) (by as_aux_lemma => kernel_rfl) (by simp) ?_
                  refine AllReadyH.cons rfl (fun K hK => ?_) AllReadyH.nil
                  (refine step_append_L _ rfl (.tmp 71) (.tmp 73) 22 rfl Try.underlying22 (.slice (some ⟨wr.heap.size, 0, none⟩) 0 0) [] rfl HE.out (some ⟨g, o' + 7, none⟩) 128 (c - 7) D rfl HDL.out (HR7.out _ (BA.out _)) (by decide) (BA.out _) HZA.out ?_; intro v3 w3 own3 hb3 hz3 hne3; rw [List.nil_append] at own3; obtain ⟨g3, c3, hv3, hk3, _, _, _⟩ := own3.some_ (hne3 (by simp)); subst hv3; have HB3 := Lib.hid hb3; have HD3 : Hid (BL w3 (some ⟨g3, 0, none⟩) D) := Lib.hid (BL.blk hk3 rfl (fun _ _ => rfl)); have HT6 : Hid (∀ o, RPS w H base (w3.alloc o) (x0 : Int) (xb : Int) u1 u2 l m) := Lib.hid (fun o => HVB.out _ (HB3.out.alloc hz3 o)); have HY6 : Hid (∀ o, RV (w3.alloc o) H 0 0 (.slice none 0 0) (.slice none 0 0) ∧ BL (w3.alloc o) (some ⟨g, o', none⟩) R ∧ BL (w3.alloc o) (some ⟨b, 0, none⟩) L) := Lib.hid (fun o => HXB.out _ (HB3.out.alloc hz3 o)); have HZ6 : Hid (∀ o, H ≤ (w3.alloc o).heap.size) := Lib.hid (fun o => by have := (HT6.out o).cur.lt; have := (HT6.out o).big; omega); have u5 := (HVB.out _ HB3.out).cur.c3; have u5' : ∀ o, (w3.alloc o).cell? ⟨base, 3, none⟩ = some u2 := fun o => (HT6.out o).cur.c3; clear own3 hb3 hz3 hne3 hk3)
                  refine hK.out _ _ ?_ (fun hHeld2 => ?_)
                  · (try dsimp only); (first | (with_reducible assumption) | (with_reducible exact HCE.out _ (HXB.out _ BD.out).2.1) | (with_reducible exact HCE.out _ (HXB.out _ (BA.out _)).2.1) | (with_reducible exact HCE.out _ (HXB.out _ HB3.out).2.1) | (with_reducible exact HCE.out _ (HY6.out _).2.1))
                  clear hK K hHeld
                  have hHeld := hHeld2
                  clear hHeld2
                  refine wpAnyH_take (i := 13) (v := ?_) rfl (by as_aux_lemma => kernel_rfl) (by as_aux_lemma => kernel_rfl) (by as_aux_lemma => kernel_rfl) (fun _ _ _ h => h) (Or.inl ⟨by rfl, ?_⟩) (by assumption) ?_
                  rotate_left
                  · intro w hSw; (try dsimp only at hSw); go_simp; (try with_reducible rfl)
                  simp only [Act.put, List.getElem_toArray, List.getElem_cons_zero, List.getElem_cons_succ, List.setIfInBounds_toArray, List.set_cons_zero, List.set_cons_succ]
                  refine wpAnyH_ready (rs := [14]) (by as_aux_lemma => kernel_rfl) (by simp) ?_
                  refine AllReadyH.cons rfl (fun K hK => ?_) AllReadyH.nil
                  go_simp
                  refine hK.out _ _ ?_ (fun hHeld2 => ?_)
                  · (try dsimp only); (first | (with_reducible assumption) | (with_reducible exact HCE.out _ (HXB.out _ BD.out).2.1) | (with_reducible exact HCE.out _ (HXB.out _ (BA.out _)).2.1) | (with_reducible exact HCE.out _ (HXB.out _ HB3.out).2.1) | (with_reducible exact HCE.out _ (HY6.out _).2.1))
                  clear hK K hHeld
                  have hHeld := hHeld2
                  clear hHeld2
                  refine wpAnyH_ready (rs := [15]) (by as_aux_lemma => kernel_rfl) (by simp) ?_
                  refine AllReadyH.cons rfl (fun K hK => ?_) AllReadyH.nil
                  (refine step_append_I _ rfl (.tmp 63) (.tmp 76) rfl u2 m ⟨(y0 : Nat), (yg : Nat), D⟩ rfl (HT6.out _).xs w3.heap.size rfl ⟨some ⟨g3, 0, none⟩, c3, IV.new w3 _ _ _ _ _, HD3.out.below ((Below.refl _ _).alloc (Nat.le_refl _) _), HDB.out⟩ HLN.out (HZ6.out _) ?_; intro v9 w9 hl9 hb9 hz9 ht9; rw [HX.out] at hl9; obtain ⟨A9, c9, hv9⟩ := hl9.form; subst hv9; obtain ⟨q3, q4⟩ := (HT6.out _).appI hb9 ht9 hl9; have HT9 := Lib.hid q4; have HX9 : Hid (RV (w9.setCell ⟨base, 3, none⟩ (.slice A9 (m ++ [x]).length c9)) H 0 0 (.slice none 0 0) (.slice none 0 0) ∧ BL (w9.setCell ⟨base, 3, none⟩ (.slice A9 (m ++ [x]).length c9)) (some ⟨g, o', none⟩) R ∧ BL (w9.setCell ⟨base, 3, none⟩ (.slice A9 (m ++ [x]).length c9)) (some ⟨b, 0, none⟩) L) := Lib.hid ⟨((HY6.out _).1.keep (keep_other ht9 (HY6.out _).1 (by decide))).keep (set_other (Nat.ne_of_lt hHb) _ _), ((HY6.out _).2.1.keep (fun g cs hg => keep_other ht9 hg (by decide))).set q3 (by decide), ((HY6.out _).2.2.keep (fun g cs hg => keep_other ht9 hg (by decide))).set q3 (by decide)⟩; have qx := HCE.out _ ((HY6.out _).2.1.keep (fun g cs hg => keep_other ht9 hg (by decide))); have qy : (w9.setCell ⟨base, 3, none⟩ (.slice A9 (m.length + 1) c9)).cell? ⟨g, o', none⟩ = some (.int .u8 (y0 : Int)) := (by have h := HCE.out _ HX9.out.2.1; rw [List.length_append] at h; exact h); have qf := q3.f; have q3c := q3.c3; clear q3 q4 hl9 hb9 hz9 ht9)
                  refine hK.out _ _ ?_ (fun hHeld2 => ?_)
                  · (try dsimp only); (first | (with_reducible assumption) | (with_reducible exact HCE.out _ (HXB.out _ BD.out).2.1) | (with_reducible exact HCE.out _ (HXB.out _ (BA.out _)).2.1) | (with_reducible exact HCE.out _ (HXB.out _ HB3.out).2.1) | (with_reducible exact HCE.out _ (HY6.out _).2.1))
                  clear hK K hHeld
                  have hHeld := hHeld2
                  clear hHeld2
                  refine wpAnyH_take (i := 16) (v := ?_) rfl (by as_aux_lemma => kernel_rfl) (by as_aux_lemma => kernel_rfl) (by as_aux_lemma => kernel_rfl) (fun _ _ _ h => h) (Or.inl ⟨by rfl, ?_⟩) (by assumption) ?_
                  rotate_left
                  · intro w hSw; (try dsimp only at hSw); go_simp; (try with_reducible rfl)
                  simp only [Act.put, List.getElem_toArray, List.getElem_cons_zero, List.getElem_cons_succ, List.setIfInBounds_toArray, List.set_cons_zero, List.set_cons_succ]
                  refine wpAnyH_ready (rs := [17]) (by as_aux_lemma => kernel_rfl) (by simp) ?_
                  refine AllReadyH.cons rfl (fun K hK => ?_) AllReadyH.nil
                  go_simp
                  refine hK.out _ _ ?_ (fun hHeld2 => ?_)
                  · (try dsimp only); (first | (with_reducible assumption) | (with_reducible exact HCE.out _ (HXB.out _ BD.out).2.1) | (with_reducible exact HCE.out _ (HXB.out _ (BA.out _)).2.1) | (with_reducible exact HCE.out _ (HXB.out _ HB3.out).2.1) | (with_reducible exact HCE.out _ (HY6.out _).2.1))
                  clear hK K hHeld
                  have hHeld := hHeld2
                  clear hHeld2
                  refine wpAnyH_done (by as_aux_lemma => kernel_rfl) ?_ _
                  rotate_left
                  (refine step_append_L _ rfl (.tmp 71) (.tmp 73) 22 rfl Try.underlying22 (.slice (some ⟨wr.heap.size, 0, none⟩) 0 0) [] rfl HE.out (some ⟨g, o' + 7, none⟩) 128 (c - 7) D rfl HDL.out (HR7.out _ (BA.out _)) (by decide) (BA.out _) HZA.out ?_; intro v3 w3 own3 hb3 hz3 hne3; rw [List.nil_append] at own3; obtain ⟨g3, c3, hv3, hk3, _, _, _⟩ := own3.some_ (hne3 (by simp)); subst hv3; have HB3 := Lib.hid hb3; have HD3 : Hid (BL w3 (some ⟨g3, 0, none⟩) D) := Lib.hid (BL.blk hk3 rfl (fun _ _ => rfl)); have HT6 : Hid (∀ o, RPS w H base (w3.alloc o) (x0 : Int) (xb : Int) u1 u2 l m) := Lib.hid (fun o => HVB.out _ (HB3.out.alloc hz3 o)); have HY6 : Hid (∀ o, RV (w3.alloc o) H 0 0 (.slice none 0 0) (.slice none 0 0) ∧ BL (w3.alloc o) (some ⟨g, o', none⟩) R ∧ BL (w3.alloc o) (some ⟨b, 0, none⟩) L) := Lib.hid (fun o => HXB.out _ (HB3.out.alloc hz3 o)); have HZ6 : Hid (∀ o, H ≤ (w3.alloc o).heap.size) := Lib.hid (fun o => by have := (HT6.out o).cur.lt; have := (HT6.out o).big; omega); have u5 := (HVB.out _ HB3.out).cur.c3; have u5' : ∀ o, (w3.alloc o).cell? ⟨base, 3, none⟩ = some u2 := fun o => (HT6.out o).cur.c3; clear own3 hb3 hz3 hne3 hk3)
                  refine hK.out _ _ ?_ (fun hHeld2 => ?_)
                  · (try dsimp only); (first | (with_reducible assumption) | (with_reducible exact HCE.out _ (HXB.out _ BD.out).2.1) | (with_reducible exact HCE.out _ (HXB.out _ (BA.out _)).2.1) | (with_reducible exact HCE.out _ (HXB.out _ HB3.out).2.1) | (with_reducible exact HCE.out _ (HY6.out _).2.1))
                  clear hK K hHeld
                  have hHeld := hHeld2
                  clear hHeld2
                  refine wpAnyH_take (i := 13) (v := ?_) rfl (by as_aux_lemma => kernel_rfl) (by as_aux_lemma => kernel_rfl) (by as_aux_lemma => kernel_rfl) (fun _ _ _ h => h) (Or.inl ⟨by rfl, ?_⟩) (by assumption) ?_
                  rotate_left
                  · intro w hSw; (try dsimp only at hSw); go_simp; (try with_reducible rfl)
                  simp only [Act.put, List.getElem_toArray, List.getElem_cons_zero, List.getElem_cons_succ, List.setIfInBounds_toArray, List.set_cons_zero, List.set_cons_succ]
                  refine wpAnyH_ready (rs := [1, 14]) (by as_aux_lemma => kernel_rfl) (by simp) ?_
                  refine AllReadyH.cons rfl (fun K hK => ?_) (AllReadyH.cons rfl (fun K hK => ?_) AllReadyH.nil)
                  go_simp
                  refine hK.out _ _ ?_ (fun hHeld2 => ?_)
                  · (try dsimp only); (first | (with_reducible assumption) | (with_reducible exact HCE.out _ (HXB.out _ BD.out).2.1) | (with_reducible exact HCE.out _ (HXB.out _ (BA.out _)).2.1) | (with_reducible exact HCE.out _ (HXB.out _ HB3.out).2.1) | (with_reducible exact HCE.out _ (HY6.out _).2.1))
                  clear hK K hHeld
                  have hHeld := hHeld2
                  clear hHeld2
                  refine wpAnyH_ready (rs := [14]) (by as_aux_lemma => kernel_rfl) (by simp) ?_
                  refine AllReadyH.cons rfl (fun K hK => ?_) AllReadyH.nil
                  go_simp
                  refine hK.out _ _ ?_ (fun hHeld2 => ?_)
                  · (try dsimp only); (first | (with_reducible assumption) | (with_reducible exact HCE.out _ (HXB.out _ BD.out).2.1) | (with_reducible exact HCE.out _ (HXB.out _ (BA.out _)).2.1) | (with_reducible exact HCE.out _ (HXB.out _ HB3.out).2.1) | (with_reducible exact HCE.out _ (HY6.out _).2.1))
                  clear hK K hHeld
                  have hHeld := hHeld2
                  clear hHeld2
                  refine wpAnyH_ready (rs := [15]) (by as_aux_lemma => kernel_rfl) (by simp) ?_
                  refine AllReadyH.cons rfl (fun K hK => ?_) AllReadyH.nil
                  (refine step_append_I _ rfl (.tmp 63) (.tmp 76) rfl u2 m ⟨(y0 : Nat), (yg : Nat), D⟩ rfl (HT6.out _).xs w3.heap.size rfl ⟨some ⟨g3, 0, none⟩, c3, IV.new w3 _ _ _ _ _, HD3.out.below ((Below.refl _ _).alloc (Nat.le_refl _) _), HDB.out⟩ HLN.out (HZ6.out _) ?_; intro v9 w9 hl9 hb9 hz9 ht9; rw [HX.out] at hl9; obtain ⟨A9, c9, hv9⟩ := hl9.form; subst hv9; obtain ⟨q3, q4⟩ := (HT6.out _).appI hb9 ht9 hl9; have HT9 := Lib.hid q4; have HX9 : Hid (RV (w9.setCell ⟨base, 3, none⟩ (.slice A9 (m ++ [x]).length c9)) H 0 0 (.slice none 0 0) (.slice none 0 0) ∧ BL (w9.setCell ⟨base, 3, none⟩ (.slice A9 (m ++ [x]).length c9)) (some ⟨g, o', none⟩) R ∧ BL (w9.setCell ⟨base, 3, none⟩ (.slice A9 (m ++ [x]).length c9)) (some ⟨b, 0, none⟩) L) := Lib.hid ⟨((HY6.out _).1.keep (keep_other ht9 (HY6.out _).1 (by decide))).keep (set_other (Nat.ne_of_lt hHb) _ _), ((HY6.out _).2.1.keep (fun g cs hg => keep_other ht9 hg (by decide))).set q3 (by decide), ((HY6.out _).2.2.keep (fun g cs hg => keep_other ht9 hg (by decide))).set q3 (by decide)⟩; have qx := HCE.out _ ((HY6.out _).2.1.keep (fun g cs hg => keep_other ht9 hg (by decide))); have qy : (w9.setCell ⟨base, 3, none⟩ (.slice A9 (m.length + 1) c9)).cell? ⟨g, o', none⟩ = some (.int .u8 (y0 : Int)) := (by have h := HCE.out _ HX9.out.2.1; rw [List.length_append] at h; exact h); have qf := q3.f; have q3c := q3.c3; clear q3 q4 hl9 hb9 hz9 ht9)
                  refine hK.out _ _ ?_ (fun hHeld2 => ?_)
                  · (try dsimp only); (first | (with_reducible assumption) | (with_reducible exact HCE.out _ (HXB.out _ BD.out).2.1) | (with_reducible exact HCE.out _ (HXB.out _ (BA.out _)).2.1) | (with_reducible exact HCE.out _ (HXB.out _ HB3.out).2.1) | (with_reducible exact HCE.out _ (HY6.out _).2.1))
                  clear hK K hHeld
                  have hHeld := hHeld2
                  clear hHeld2
                  refine wpAnyH_take (i := 16) (v := ?_) rfl (by as_aux_lemma => kernel_rfl) (by as_aux_lemma => kernel_rfl) (by as_aux_lemma => kernel_rfl) (fun _ _ _ h => h) (Or.inl ⟨by rfl, ?_⟩) (by assumption) ?_
                  rotate_left
                  · intro w hSw; (try dsimp only at hSw); go_simp; (try with_reducible rfl)
                  simp only [Act.put, List.getElem_toArray, List.getElem_cons_zero, List.getElem_cons_succ, List.setIfInBounds_toArray, List.set_cons_zero, List.set_cons_succ]
                  refine wpAnyH_ready (rs := [17]) (by as_aux_lemma => kernel_rfl) (by simp) ?_
                  refine AllReadyH.cons rfl (fun K hK => ?_) AllReadyH.nil
                  go_simp
                  refine hK.out _ _ ?_ (fun hHeld2 => ?_)
                  · (try dsimp only); (first | (with_reducible assumption) | (with_reducible exact HCE.out _ (HXB.out _ BD.out).2.1) | (with_reducible exact HCE.out _ (HXB.out _ (BA.out _)).2.1) | (with_reducible exact HCE.out _ (HXB.out _ HB3.out).2.1) | (with_reducible exact HCE.out _ (HY6.out _).2.1))
                  clear hK K hHeld
                  have hHeld := hHeld2
                  clear hHeld2
                  refine wpAnyH_done (by as_aux_lemma => kernel_rfl) ?_ _
                  rotate_left
                  go_simp
                  refine hK.out _ _ ?_ (fun hHeld2 => ?_)
                  · (try dsimp only); (first | (with_reducible assumption) | (with_reducible exact HCE.out _ (HXB.out _ BD.out).2.1) | (with_reducible exact HCE.out _ (HXB.out _ (BA.out _)).2.1) | (with_reducible exact HCE.out _ (HXB.out _ HB3.out).2.1) | (with_reducible exact HCE.out _ (HY6.out _).2.1))
                  clear hK K hHeld
                  have hHeld := hHeld2
                  clear hHeld2
                  refine wpAnyH_ready (rs := [1]) (by as_aux_lemma => kernel_rfl) (by simp) ?_
                  refine AllReadyH.cons rfl (fun K hK => ?_) AllReadyH.nil
                  go_simp
                  refine hK.out _ _ ?_ (fun hHeld2 => ?_)
                  · (try dsimp only); (first | (with_reducible assumption) | (with_reducible exact HCE.out _ (HXB.out _ BD.out).2.1) | (with_reducible exact HCE.out _ (HXB.out _ (BA.out _)).2.1) | (with_reducible exact HCE.out _ (HXB.out _ HB3.out).2.1) | (with_reducible exact HCE.out _ (HY6.out _).2.1))
                  clear hK K hHeld
                  have hHeld := hHeld2
                  clear hHeld2
                  refine wpAnyH_ready (rs := [15]) (by as_aux_lemma => kernel_rfl) (by simp) ?_
                  refine AllReadyH.cons rfl (fun K hK => ?_) AllReadyH.nil
                  (refine step_append_I _ rfl (.tmp 63) (.tmp 76) rfl u2 m ⟨(y0 : Nat), (yg : Nat), D⟩ rfl (HT6.out _).xs w3.heap.size rfl ⟨some ⟨g3, 0, none⟩, c3, IV.new w3 _ _ _ _ _, HD3.out.below ((Below.refl _ _).alloc (Nat.le_refl _) _), HDB.out⟩ HLN.out (HZ6.out _) ?_; intro v9 w9 hl9 hb9 hz9 ht9; rw [HX.out] at hl9; obtain ⟨A9, c9, hv9⟩ := hl9.form; subst hv9; obtain ⟨q3, q4⟩ := (HT6.out _).appI hb9 ht9 hl9; have HT9 := Lib.hid q4; have HX9 : Hid (RV (w9.setCell ⟨base, 3, none⟩ (.slice A9 (m ++ [x]).length c9)) H 0 0 (.slice none 0 0) (.slice none 0 0) ∧ BL (w9.setCell ⟨base, 3, none⟩ (.slice A9 (m ++ [x]).length c9)) (some ⟨g, o', none⟩) R ∧ BL (w9.setCell ⟨base, 3, none⟩ (.slice A9 (m ++ [x]).length c9)) (some ⟨b, 0, none⟩) L) := Lib.hid ⟨((HY6.out _).1.keep (keep_other ht9 (HY6.out _).1 (by decide))).keep (set_other (Nat.ne_of_lt hHb) _ _), ((HY6.out _).2.1.keep (fun g cs hg => keep_other ht9 hg (by decide))).set q3 (by decide), ((HY6.out _).2.2.keep (fun g cs hg => keep_other ht9 hg (by decide))).set q3 (by decide)⟩; have qx := HCE.out _ ((HY6.out _).2.1.keep (fun g cs hg => keep_other ht9 hg (by decide))); have qy : (w9.setCell ⟨base, 3, none⟩ (.slice A9 (m.length + 1) c9)).cell? ⟨g, o', none⟩ = some (.int .u8 (y0 : Int)) := (by have h := HCE.out _ HX9.out.2.1; rw [List.length_append] at h; exact h); have qf := q3.f; have q3c := q3.c3; clear q3 q4 hl9 hb9 hz9 ht9)
                  refine hK.out _ _ ?_ (fun hHeld2 => ?_)
                  · (try dsimp only); (first | (with_reducible assumption) | (with_reducible exact HCE.out _ (HXB.out _ BD.out).2.1) | (with_reducible exact HCE.out _ (HXB.out _ (BA.out _)).2.1) | (with_reducible exact HCE.out _ (HXB.out _ HB3.out).2.1) | (with_reducible exact HCE.out _ (HY6.out _).2.1))
                  clear hK K hHeld
                  have hHeld := hHeld2
                  clear hHeld2
                  refine wpAnyH_take (i := 16) (v := ?_) rfl (by as_aux_lemma => kernel_rfl) (by as_aux_lemma => kernel_rfl) (by as_aux_lemma => kernel_rfl) (fun _ _ _ h => h) (Or.inl ⟨by rfl, ?_⟩) (by assumption) ?_
                  rotate_left
                  · intro w hSw; (try dsimp only at hSw); go_simp; (try with_reducible rfl)
                  simp only [Act.put, List.getElem_toArray, List.getElem_cons_zero, List.getElem_cons_succ, List.setIfInBounds_toArray, List.set_cons_zero, List.set_cons_succ]
                  refine wpAnyH_ready (rs := [17]) (by as_aux_lemma => kernel_rfl) (by simp) ?_
                  refine AllReadyH.cons rfl (fun K hK => ?_) AllReadyH.nil
                  go_simp
                  refine hK.out _ _ ?_ (fun hHeld2 => ?_)
                  · (try dsimp only); (first | (with_reducible assumption) | (with_reducible exact HCE.out _ (HXB.out _ BD.out).2.1) | (with_reducible exact HCE.out _ (HXB.out _ (BA.out _)).2.1) | (with_reducible exact HCE.out _ (HXB.out _ HB3.out).2.1) | (with_reducible exact HCE.out _ (HY6.out _).2.1))
                  clear hK K hHeld
                  have hHeld := hHeld2
                  clear hHeld2
                  refine wpAnyH_done (by as_aux_lemma => kernel_rfl) ?_ _
                  rotate_left
                  all_goals
                    go_wp2_with fail
                    go_meet
                    have h := HT9.out
                    have h2 := HX9.out
                    rw [List.length_append] at h h2
                    exact Lib.hid ⟨_, h, h2.1, h2.2.1, h2.2.2⟩
                case rest =>
                  have HCU := hcut
                  clear hcut
                  obtain ⟨u, hu⟩ := HCU.out
                  have HU := Lib.hid hu
                  clear hu HCU u3 u3'
                  go_wp2_with fail
                  go_roundg (d - 1)
                  case measure => omega
                  case rel => exact ⟨j + 1, d - 1, N - 135, c - 135, A', u, m ++ [x], rfl, by go_num, by omega, rfl, by omega, by rw [List.length_append, HLM.out]; rfl, by omega, Lib.hid ⟨HU.out.1, HU.out.2.1, HAD.out _ HU.out.2.2.1, HU.out.2.2.2, HSTEP.out⟩⟩
            · obtain rfl : d = 0 := by omega
              have hjn : j = n2 := by omega
              rw [hjn] at HV hNn hlm
              clear hjn hdk hd
              obtain ⟨A1, c1, hu1⟩ := HV.out.1.ps.form
              obtain ⟨A2, c2, hu2⟩ := HV.out.1.xs.form
              subst hu1
              subst hu2
              obtain ⟨p, hp⟩ : ∃ p : Rx, (⟨(x0 : Int), (xb : Int), l, m⟩ : Rx) = p := ⟨_, rfl⟩
              have hRD := HEN.out HN1.out HPS.out (by omega) HN2.out HV.out.2.2.2.2
              rw [hp] at hRD
              have HOE := Lib.hid (HRF.out hRD)
              have HVB : Hid (∀ W, Below wr.heap.size wr W → RPS w H base W (x0 : Int) (xb : Int) (.slice A1 l.length c1) (.slice A2 m.length c2) l m) := Lib.hid (fun W hW => HV.out.1.below hW)
              have HKH : Hid (∀ W, Below wr.heap.size wr W → RV W H 0 0 (.slice none 0 0) (.slice none 0 0)) := Lib.hid (fun W hW => HV.out.2.1.below hW)
              have HVL : Hid (∀ W, Below wr.heap.size wr W → RVal W (rpv (x0 : Int) (xb : Int) (.slice A1 l.length c1) (.slice A2 m.length c2)) p) := Lib.hid (fun W hW => by rw [← hp]; exact (HVB.out W hW).val rfl rfl)
              have HSY : Hid (∀ W, Below wr.heap.size wr W → (W.cell? ⟨base, 0, none⟩ = some (.int .i64 (x0 : Int)) ∧ W.cell? ⟨base, 1, none⟩ = some (.int .i64 (xb : Int)) ∧ W.cell? ⟨base, 2, none⟩ = some (.slice A1 l.length c1) ∧ W.cell? ⟨base, 3, none⟩ = some (.slice A2 m.length c2)) ∧ Sem.run Try.prog (convert 22 9 (.slice (some ⟨b, 0, none⟩) n cb)) W = .ok (.string (strOf L)) W) := Lib.hid (fun W hW => by
                have e := (HVB.out W hW).cur
                exact ⟨⟨e.c0, e.c1, e.c2, e.c3⟩, HCV.out W (HV.out.2.2.2.1.below hW)⟩)
              obtain ⟨t, ht⟩ := bool_of p.Right
              have HT := Lib.hid ht
              have hl1 : p.ps.length ≤ 1000000 := by rw [← hp]; show l.length ≤ _; have := HLK.out; omega
              have hl2 : p.xs.length ≤ 1000000 := by rw [← hp]; show m.length ≤ _; omega
              have HRT : Hid (∀ W, Below wr.heap.size wr W → Calls Try.prog 23 #[rpv (x0 : Int) (xb : Int) (.slice A1 l.length c1) (.slice A2 m.length c2)] W fun e w' => e = .returned (.bool t) ∧ Below W.heap.size W w') := Lib.hid (fun W hW => rrightRep (HVL.out W hW) hl1 hl2 t ht)
              obtain ⟨T, hT⟩ : ∃ T, p.lay = T := ⟨_, rfl⟩
              have HTL := Lib.hid hT
              have HTB : Hid (By T) := Lib.hid (by rw [← hT, ← hp]; exact Rx.lay_by HV.out.1.ps.by_ HV.out.1.xs.by_)
              have HSE := Lib.hid (str_eqL HTB.out HBY.out)
              have hbW : Below wr.heap.size wr wr.drew := below_drewN 1 wr
              have z0 := (HKH.out _ hbW).c0
              have z1 := (HKH.out _ hbW).c1
              have z2 := (HKH.out _ hbW).c2
              have z3 := (HKH.out _ hbW).c3
              have zf := (HKH.out _ hbW).f
              have zne : ¬ base = H := by omega
              have HYES : Hid (o = some p → ∀ W, Below wr.heap.size wr W → ∀ e, e = Ending.returned (.tuple #[rpv (x0 : Int) (xb : Int) (.slice A1 l.length c1) (.slice A2 m.length c2), .bool true]) → RReadR o w e ((((W.setCell ⟨H, 0, none⟩ (.int .i64 (x0 : Int))).setCell ⟨H, 1, none⟩ (.int .i64 (xb : Int))).setCell ⟨H, 2, none⟩ (.slice A1 l.length c1)).setCell ⟨H, 3, none⟩ (.slice A2 m.length c2))) := Lib.hid (fun ho W hW e he => by
                subst ho he
                have hB := (HVB.out _ hW).blw
                have hI := HKH.out _ hW
                have k0 := hI.put0 (code' := (x0 : Int))
                have k1 := k0.put1 (xb : Int)
                have k2 := k1.put2 (u' := .slice A1 l.length c1)
                have r1 := (((((HVB.out _ hW).ps.set hI (by decide) (by decide) (j := 0) (u := .int .i64 (x0 : Int))).set k0 (by decide) (by decide) (j := 1) (u := .int .i64 (xb : Int))).set k1 (by decide) (by decide) (j := 2) (u := .slice A1 l.length c1)).set k2 (by decide) (by decide) (j := 3) (u := .slice A2 m.length c2)).read
                have r2 := (((((HVB.out _ hW).xs.set hI (by decide) (by decide) (j := 0) (u := .int .i64 (x0 : Int))).set k0 (by decide) (by decide) (j := 1) (u := .int .i64 (xb : Int))).set k1 (by decide) (by decide) (j := 2) (u := .slice A1 l.length c1)).set k2 (by decide) (by decide) (j := 3) (u := .slice A2 m.length c2)).read
                exact ⟨_, rfl, by show RVal _ _ p; rw [← hp]; exact ⟨A1, c1, A2, c2, rfl, r1, r2⟩, by rw [HH.out]; exact (((hB.setCell (by simp) _).setCell (by simp) _).setCell (by simp) _).setCell (by simp) _⟩)
              have HLY : Hid (t = true → ∀ W, Below wr.heap.size wr W → Calls Try.prog 24 #[rpv (x0 : Int) (xb : Int) (.slice A1 l.length c1) (.slice A2 m.length c2)] W (CatRet T W)) := Lib.hid (fun ht' W hW => by
                have h := rlayRep (HVL.out W hW) (ht.1 ht')
                rw [hT] at h
                exact h)
              unfold rpv at HRT HLY
              clear hp hRD ht hT hl1 hl2 hlm
              go_upto_region 23 with fail
              cases t with
              | false =>
                have HON : Hid (o = none) := Lib.hid (by rw [HOE.out]; exact if_neg (fun h => by have := HT.out.2 h.1; cases this))
                go_wp2_with fail
                try simp only [List.append_eq, List.cons_append, List.nil_append]
                refine wp_region_held_drew (S := fun W => (W.cell? ⟨base, 0, none⟩ = some (.int .i64 (x0 : Int)) ∧ W.cell? ⟨base, 1, none⟩ = some (.int .i64 (xb : Int)) ∧ W.cell? ⟨base, 2, none⟩ = some (.slice A1 l.length c1) ∧ W.cell? ⟨base, 3, none⟩ = some (.slice A2 m.length c2)) ∧ Sem.run Try.prog (convert 22 9 (.slice (some ⟨b, 0, none⟩) n cb)) W = .ok (.string (strOf L)) W) (by as_aux_lemma => kernel_rfl) ?_ (fun hHeld => ?_)
                · exact HSY.out _ hbW
                refine wpAnyH_take (i := 0) (v := ?_) rfl (by as_aux_lemma => kernel_rfl) (by as_aux_lemma => kernel_rfl) (by as_aux_lemma => kernel_rfl) (fun _ _ _ h => h) (Or.inl ⟨by rfl, ?_⟩) (by assumption) ?_
                rotate_left
                · intro w hSw; (try dsimp only at hSw); go_simp; (try with_reducible rfl)
                simp only [Act.put, List.getElem_toArray, List.getElem_cons_zero, List.setIfInBounds_toArray, List.set_cons_zero, List.set_cons_succ]
                refine wpAnyH_ready (rs := [1]) (by as_aux_lemma => kernel_rfl) (by simp) ?_
                refine AllReadyH.cons rfl (fun K hK => ?_) AllReadyH.nil
                go_simp
                go_wp2_with fail
                refine (HRT.out _ hbW).mono ?_
                rintro e wn1 ⟨rfl, hb⟩
                try dsimp only
                have hbW' := hbW.trans (hb.mono hbW.size)
                clear hb hbW z0 z1 z2 z3 zf
                have hbW := hbW'
                clear hbW'
                have z0 := (HKH.out _ hbW).c0; have z1 := (HKH.out _ hbW).c1; have z2 := (HKH.out _ hbW).c2; have z3 := (HKH.out _ hbW).c3; have zf := (HKH.out _ hbW).f
                refine hK.out _ _ ?_ (fun hHeld2 => ?_)
                · (try dsimp only); exact HSY.out _ hbW
                clear hK K hHeld
                have hHeld := hHeld2
                clear hHeld2
                refine wpAnyH_take (i := 2) (v := ?_) rfl (by as_aux_lemma => kernel_rfl) (by as_aux_lemma => kernel_rfl) (by as_aux_lemma => kernel_rfl) (fun _ _ _ h => h) (Or.inl ⟨by rfl, ?_⟩) (by assumption) ?_
                rotate_left
                · intro w hSw; (try dsimp only at hSw); go_simp; (try with_reducible rfl)
                simp only [Act.put, List.getElem_toArray, List.getElem_cons_zero, List.getElem_cons_succ, List.setIfInBounds_toArray, List.set_cons_zero, List.set_cons_succ]
                refine wpAnyH_take (i := 3) (v := ?_) rfl (by as_aux_lemma => kernel_rfl) (by as_aux_lemma => kernel_rfl) (by as_aux_lemma => kernel_rfl) (fun _ _ _ h => h) (Or.inl ⟨by rfl, ?_⟩) (by assumption) ?_
                rotate_left
                · intro w hSw; (try dsimp only at hSw); go_simp; (try with_reducible rfl)
                simp only [Act.put, List.getElem_toArray, List.getElem_cons_zero, List.getElem_cons_succ, List.setIfInBounds_toArray, List.set_cons_zero, List.set_cons_succ]
                refine wpAnyH_take (i := 4) rfl (by as_aux_lemma => kernel_rfl) (by as_aux_lemma => kernel_rfl) (by as_aux_lemma => kernel_rfl) (fun _ _ _ h => h) (Or.inr ⟨by rfl, rfl⟩) (by assumption) ?_
                simp only [Act.put, List.getElem_toArray, List.getElem_cons_zero, List.getElem_cons_succ, List.setIfInBounds_toArray, List.set_cons_zero, List.set_cons_succ]
                refine wpAnyH_take (i := 5) rfl (by as_aux_lemma => kernel_rfl) (by as_aux_lemma => kernel_rfl) (by as_aux_lemma => kernel_rfl) (fun _ _ _ h => h) (Or.inr ⟨by rfl, rfl⟩) (by assumption) ?_
                simp only [Act.put, List.getElem_toArray, List.getElem_cons_zero, List.getElem_cons_succ, List.setIfInBounds_toArray, List.set_cons_zero, List.set_cons_succ]
                refine wpAnyH_take (i := 6) rfl (by as_aux_lemma => kernel_rfl) (by as_aux_lemma => kernel_rfl) (by as_aux_lemma => kernel_rfl) (fun _ _ _ h => h) (Or.inr ⟨by rfl, rfl⟩) (by assumption) ?_
                simp only [Act.put, List.getElem_toArray, List.getElem_cons_zero, List.getElem_cons_succ, List.setIfInBounds_toArray, List.set_cons_zero, List.set_cons_succ]
                refine wpAnyH_take (i := 7) rfl (by as_aux_lemma => kernel_rfl) (by as_aux_lemma => kernel_rfl) (by as_aux_lemma => kernel_rfl) (fun _ _ _ h => h) (Or.inr ⟨by rfl, rfl⟩) (by assumption) ?_
                simp only [Act.put, List.getElem_toArray, List.getElem_cons_zero, List.getElem_cons_succ, List.setIfInBounds_toArray, List.set_cons_zero, List.set_cons_succ]
                refine wpAnyH_take (i := 8) rfl (by as_aux_lemma => kernel_rfl) (by as_aux_lemma => kernel_rfl) (by as_aux_lemma => kernel_rfl) (fun _ _ _ h => h) (Or.inr ⟨by rfl, rfl⟩) (by assumption) ?_
                simp only [Act.put, List.getElem_toArray, List.getElem_cons_zero, List.getElem_cons_succ, List.setIfInBounds_toArray, List.set_cons_zero, List.set_cons_succ]
                refine wpAnyH_take (i := 9) rfl (by as_aux_lemma => kernel_rfl) (by as_aux_lemma => kernel_rfl) (by as_aux_lemma => kernel_rfl) (fun _ _ _ h => h) (Or.inr ⟨by rfl, rfl⟩) (by assumption) ?_
                simp only [Act.put, List.getElem_toArray, List.getElem_cons_zero, List.getElem_cons_succ, List.setIfInBounds_toArray, List.set_cons_zero, List.set_cons_succ]
                refine wpAnyH_take (i := 10) (v := ?_) rfl (by as_aux_lemma => kernel_rfl) (by as_aux_lemma => kernel_rfl) (by as_aux_lemma => kernel_rfl) (fun _ _ _ h => h) (Or.inl ⟨by rfl, ?_⟩) (by assumption) ?_
                rotate_left
                · intro w hSw; (try dsimp only at hSw); go_simp; (try with_reducible rfl)
                simp only [Act.put, List.getElem_toArray, List.getElem_cons_zero, List.getElem_cons_succ, List.setIfInBounds_toArray, List.set_cons_zero, List.set_cons_succ]
                refine wpAnyH_done (by as_aux_lemma => kernel_rfl) ?_ _
                go_wp2_with fail
                refine bodyPost_ret (v := .tuple #[rpv 0 0 (.slice none 0 0) (.slice none 0 0), .bool false]) ?_ rfl ?_
                · rw [results_cell_tmp rfl]
                  simp [((HKH.out _ hbW).put4 (code' := 0) (boot' := 0) (u' := .slice none 0 0) (v' := .slice none 0 0)).load, Result.andThen, asAddr]
                exact HNO.out HON.out _ (HVB.out _ hbW).blw _ rfl
              | true =>
                have HLZ := Lib.hid (HLY.out rfl)
                clear HLY
                obtain ⟨y, hy⟩ : ∃ y : Bool, ((strOf T).toList == (strOf L).toList) = y := ⟨_, rfl⟩
                have HY := Lib.hid hy
                go_wp2_with fail
                try simp only [List.append_eq, List.cons_append, List.nil_append]
                refine wp_region_held_drew (S := fun W => (W.cell? ⟨base, 0, none⟩ = some (.int .i64 (x0 : Int)) ∧ W.cell? ⟨base, 1, none⟩ = some (.int .i64 (xb : Int)) ∧ W.cell? ⟨base, 2, none⟩ = some (.slice A1 l.length c1) ∧ W.cell? ⟨base, 3, none⟩ = some (.slice A2 m.length c2)) ∧ Sem.run Try.prog (convert 22 9 (.slice (some ⟨b, 0, none⟩) n cb)) W = .ok (.string (strOf L)) W) (by as_aux_lemma => kernel_rfl) ?_ (fun hHeld => ?_)
                · exact HSY.out _ hbW
                refine wpAnyH_take (i := 0) (v := ?_) rfl (by as_aux_lemma => kernel_rfl) (by as_aux_lemma => kernel_rfl) (by as_aux_lemma => kernel_rfl) (fun _ _ _ h => h) (Or.inl ⟨by rfl, ?_⟩) (by assumption) ?_
                rotate_left
                · intro w hSw; (try dsimp only at hSw); go_simp; (try with_reducible rfl)
                simp only [Act.put, List.getElem_toArray, List.getElem_cons_zero, List.setIfInBounds_toArray, List.set_cons_zero, List.set_cons_succ]
                refine wpAnyH_ready (rs := [1]) (by as_aux_lemma => kernel_rfl) (by simp) ?_
                refine AllReadyH.cons rfl (fun K hK => ?_) AllReadyH.nil
                go_simp
                go_wp2_with fail
                refine (HRT.out _ hbW).mono ?_
                rintro e wn1 ⟨rfl, hb⟩
                try dsimp only
                have hbW' := hbW.trans (hb.mono hbW.size)
                clear hb hbW z0 z1 z2 z3 zf
                have hbW := hbW'
                clear hbW'
                have z0 := (HKH.out _ hbW).c0; have z1 := (HKH.out _ hbW).c1; have z2 := (HKH.out _ hbW).c2; have z3 := (HKH.out _ hbW).c3; have zf := (HKH.out _ hbW).f
                refine hK.out _ _ ?_ (fun hHeld2 => ?_)
                · (try dsimp only); exact HSY.out _ hbW
                clear hK K hHeld
                have hHeld := hHeld2
                clear hHeld2
                refine wpAnyH_take (i := 2) (v := ?_) rfl (by as_aux_lemma => kernel_rfl) (by as_aux_lemma => kernel_rfl) (by as_aux_lemma => kernel_rfl) (fun _ _ _ h => h) (Or.inl ⟨by rfl, ?_⟩) (by assumption) ?_
                rotate_left
                · intro w hSw; (try dsimp only at hSw); go_simp; (try with_reducible rfl)
                simp only [Act.put, List.getElem_toArray, List.getElem_cons_zero, List.getElem_cons_succ, List.setIfInBounds_toArray, List.set_cons_zero, List.set_cons_succ]
                refine wpAnyH_take (i := 3) (v := ?_) rfl (by as_aux_lemma => kernel_rfl) (by as_aux_lemma => kernel_rfl) (by as_aux_lemma => kernel_rfl) (fun _ _ _ h => h) (Or.inl ⟨by rfl, ?_⟩) (by assumption) ?_
                rotate_left
                · intro w hSw; (try dsimp only at hSw); go_simp; (try with_reducible rfl)
                simp only [Act.put, List.getElem_toArray, List.getElem_cons_zero, List.getElem_cons_succ, List.setIfInBounds_toArray, List.set_cons_zero, List.set_cons_succ]
                refine wpAnyH_take (i := 4) (v := ?_) rfl (by as_aux_lemma => kernel_rfl) (by as_aux_lemma => kernel_rfl) (by as_aux_lemma => kernel_rfl) (fun _ _ _ h => h) (Or.inl ⟨by rfl, ?_⟩) (by assumption) ?_
                rotate_left
                · intro w hSw; (try dsimp only at hSw); go_simp; (try with_reducible rfl)
                simp only [Act.put, List.getElem_toArray, List.getElem_cons_zero, List.getElem_cons_succ, List.setIfInBounds_toArray, List.set_cons_zero, List.set_cons_succ]
                refine wpAnyH_take (i := 7) (v := ?_) rfl (by as_aux_lemma => kernel_rfl) (by as_aux_lemma => kernel_rfl) (by as_aux_lemma => kernel_rfl) (fun _ _ _ h => h) (Or.inl ⟨by rfl, ?_⟩) (by assumption) ?_
                rotate_left
                · intro w hSw; (try dsimp only at hSw); go_simp; (try with_reducible rfl)
                simp only [Act.put, List.getElem_toArray, List.getElem_cons_zero, List.getElem_cons_succ, List.setIfInBounds_toArray, List.set_cons_zero, List.set_cons_succ]
                refine wpAnyH_take (i := 8) (v := ?_) rfl (by as_aux_lemma => kernel_rfl) (by as_aux_lemma => kernel_rfl) (by as_aux_lemma => kernel_rfl) (fun _ _ _ h => h) (Or.inl ⟨by rfl, ?_⟩) (by assumption) ?_
                rotate_left
                · intro w hSw; (try dsimp only at hSw); go_simp; (try with_reducible rfl)
                simp only [Act.put, List.getElem_toArray, List.getElem_cons_zero, List.getElem_cons_succ, List.setIfInBounds_toArray, List.set_cons_zero, List.set_cons_succ]
                refine wpAnyH_ready (rs := [5]) (by as_aux_lemma => kernel_rfl) (by simp) ?_
                refine AllReadyH.cons rfl (fun K hK => ?_) AllReadyH.nil
                go_simp
                go_wp2_with fail
                refine (HLZ.out _ hbW).mono ?_
                rintro e wn5 ⟨g33, c33, rfl, hk33, hb, hc33, _⟩
                try dsimp only
                have hbW' := hbW.trans (hb.mono hbW.size)
                have hcv := conv_blk c33 hk33
                clear hk33 hc33
                clear hb hbW z0 z1 z2 z3 zf
                have hbW := hbW'
                clear hbW'
                have z0 := (HKH.out _ hbW).c0; have z1 := (HKH.out _ hbW).c1; have z2 := (HKH.out _ hbW).c2; have z3 := (HKH.out _ hbW).c3; have zf := (HKH.out _ hbW).f
                refine hK.out _ _ ?_ (fun hHeld2 => ?_)
                · (try dsimp only); exact HSY.out _ hbW
                clear hK K hHeld
                have hHeld := hHeld2
                clear hHeld2
                refine wpAnyH_ready (rs := [6]) (by as_aux_lemma => kernel_rfl) (by simp) ?_
                refine AllReadyH.cons rfl (fun K hK => ?_) AllReadyH.nil
                go_simp
                go_wp2_with fail
                refine hK.out _ _ ?_ (fun hHeld2 => ?_)
                · (try dsimp only); exact HSY.out _ hbW
                clear hK K hHeld
                have hHeld := hHeld2
                clear hHeld2
                refine wpAnyH_take (i := 9) (v := ?_) rfl (by as_aux_lemma => kernel_rfl) (by as_aux_lemma => kernel_rfl) (by as_aux_lemma => kernel_rfl) (fun _ _ _ h => h) (Or.inl ⟨by rfl, ?_⟩) (by assumption) ?_
                rotate_left
                · intro w hSw; (try dsimp only at hSw); go_simp; (try with_reducible rfl)
                simp only [Act.put, List.getElem_toArray, List.getElem_cons_zero, List.getElem_cons_succ, List.setIfInBounds_toArray, List.set_cons_zero, List.set_cons_succ]
                refine wpAnyH_take (i := 10) (v := ?_) rfl (by as_aux_lemma => kernel_rfl) (by as_aux_lemma => kernel_rfl) (by as_aux_lemma => kernel_rfl) (fun _ _ _ h => h) (Or.inl ⟨by rfl, ?_⟩) (by assumption) ?_
                rotate_left
                · intro w hSw; (try dsimp only at hSw); go_simp; (try with_reducible rfl)
                simp only [Act.put, List.getElem_toArray, List.getElem_cons_zero, List.getElem_cons_succ, List.setIfInBounds_toArray, List.set_cons_zero, List.set_cons_succ]
                refine wpAnyH_done (by as_aux_lemma => kernel_rfl) ?_ _
                cases y with
                | false =>
                  have HON : Hid (o = none) := Lib.hid (by
                    rw [HOE.out]
                    refine if_neg (fun h => ?_)
                    have h2 := h.2
                    rw [HTL.out] at h2
                    have := HSE.out.2 h2
                    have hy := HY.out
                    rw [beq_eq_false_iff_ne] at hy
                    exact hy this)
                  go_wp2_with fail
                  refine bodyPost_ret (v := .tuple #[rpv 0 0 (.slice none 0 0) (.slice none 0 0), .bool false]) ?_ rfl ?_
                  · rw [results_cell_tmp rfl]
                    simp [((HKH.out _ hbW).put4 (code' := 0) (boot' := 0) (u' := .slice none 0 0) (v' := .slice none 0 0)).load, Result.andThen, asAddr]
                  exact HNO.out HON.out _ (HVB.out _ hbW).blw _ rfl
                | true =>
                  have HOS : Hid (o = some p) := Lib.hid (by
                    rw [HOE.out]
                    refine if_pos ⟨HT.out.1 (by simp), ?_⟩
                    rw [HTL.out]
                    apply HSE.out.1
                    have hy := HY.out
                    rw [beq_iff_eq] at hy
                    exact hy)
                  have y0 := (HSY.out _ hbW).1.1
                  have y1 := (HSY.out _ hbW).1.2.1
                  have y2 := (HSY.out _ hbW).1.2.2.1
                  have y3 := (HSY.out _ hbW).1.2.2.2
                  go_wp2_with fail
                  refine bodyPost_ret (v := .tuple #[rpv (x0 : Int) (xb : Int) (.slice A1 l.length c1) (.slice A2 m.length c2), .bool true]) ?_ rfl ?_
                  · rw [results_cell_tmp rfl]
                    simp [((HKH.out _ hbW).put4 (code' := (x0 : Int)) (boot' := (xb : Int)) (u' := .slice A1 l.length c1) (v' := .slice A2 m.length c2)).load, Result.andThen, asAddr]
                  exact HYES.out HOS.out _ hbW _ rfl
end Go.Proofs.Ytoofgcdilgfclaa
