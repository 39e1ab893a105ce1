import Derived.Test.YtofmilkjhnkgjaaGreatW30
import Derived.Test.YtofmilkjhnkgjaaGreatW08
import Derived.Deep.RegionHeldLaw
namespace Go.Proofs.YtofmilkjhnkgjaaGreat
open Go.RowKit Go.Sort
set_option maxRecDepth 100000
set_option maxHeartbeats 2000000

theorem Blk8.farB {w : World} {g n b k : Nat} {F : Nat → Nat} {cs : Array Value} {t : TypeId} {fr : Nat × Nat} {v : Value} (h : Blk8 w g n F) (hb : w.heap[b]? = some (.cells cs t fr)) (ht : t ≠ 5) : Blk8 (w.setCell ⟨b, k, none⟩ v) g n F :=
  h.keep (set_other (by rintro rfl; obtain ⟨cs', h1, _⟩ := h; rw [hb] at h1; cases h1; exact ht rfl) k v)
/-- corbelref7.piece. -/
def RPcRet (B : Nat → Nat) (L : Nat) (w : World) (e : Ending) (w' : World) : Prop :=
  ∃ g c, e = .returned (pv (B 0 : Nat) (numF (fun j => B (1 + j)) 6 : Nat) (B 7 : Nat) (some ⟨g, 0, none⟩) (L - 8) c) ∧ Blk8 w' g (L - 8) (fun j => B (8 + j)) ∧ Below w.heap.size w w'
theorem rpiece (b L cb : Nat) (B : Nat → Nat) (w : World) (h : Rd w (some ⟨b, 0, none⟩) L B) (hB : ∀ j, j < L → B j < 256) (h8 : 8 ≤ L) (hL : L ≤ 160) (hcb : L ≤ cb) :
    Calls Tryz.prog 97 #[.slice (some ⟨b, 0, none⟩) L cb] w (RPcRet B L w) := by
  obtain ⟨w1, hw1⟩ : ∃ w1, w.alloc (.cells #[.int .i64 0, .int .i64 0, .int .i64 0, .slice none 0 0] 74) = w1 := ⟨_, rfl⟩
  have HW1 := Lib.hid hw1
  obtain ⟨H, hH⟩ : ∃ H, w.heap.size = H := ⟨_, rfl⟩
  have HH := Lib.hid hH
  have HK1 : Hid (PV w1 H 0 0 0 none 0 0) := Lib.hid (by rw [← hw1]; exact PV.of_new hH)
  have hb1 : Below H w w1 := by rw [← hw1, ← hH]; exact (Below.refl _ _).alloc (Nat.le_refl _) _
  have HB1 := Lib.hid hb1
  have HR1 : Hid (Rd w1 (some ⟨b, 0, none⟩) L B) := Lib.hid (h.keep (by rw [hH]; exact hb1))
  have hbH : b < H := by rw [← hH]; exact cell?_lt (h.some_ (k := 0) (by omega))
  obtain ⟨base, hbase⟩ : ∃ base, w1.heap.size = base := ⟨_, rfl⟩
  have HBS := Lib.hid hbase
  have hHb : H < base := by rw [← hbase]; exact HK1.out.lt
  have BD : Hid (Below base w1 w1.drew) := Lib.hid (by rw [← hbase]; exact below_drewN 1 w1)
  have BA : Hid (∀ o, Below base w1 (w1.alloc o).drew) := Lib.hid (fun o => by rw [← hbase]; exact ((Below.refl _ _).alloc (Nat.le_refl _) o).drew)
  have HSX : Hid (∀ W, Below base w1 W → W.cell? ⟨b, 0, none⟩ = some (.int .u8 (B 0 : Nat)) ∧ W.cell? ⟨b, 7, none⟩ = some (.int .u8 (B 7 : Nat))) := Lib.hid (fun W hW => by
    have h1 := HR1.out.keep (by rw [hbase]; exact hW)
    exact ⟨h1.some_ (k := 0) (by omega), h1.some_ (k := 7) (by omega)⟩)
  have HST : Hid (∀ W v0 v1 v2 v3, Below base w1 W → ((((W.setCell ⟨H, 0, none⟩ v0).setCell ⟨H, 1, none⟩ v1).setCell ⟨H, 2, none⟩ v2).setCell ⟨H, 3, none⟩ v3).cell? ⟨b, 0, none⟩ = some (.int .u8 (B 0 : Nat)) ∧ ((((W.setCell ⟨H, 0, none⟩ v0).setCell ⟨H, 1, none⟩ v1).setCell ⟨H, 2, none⟩ v2).setCell ⟨H, 3, none⟩ v3).cell? ⟨b, 7, none⟩ = some (.int .u8 (B 7 : Nat))) := Lib.hid (fun W v0 v1 v2 v3 hW => by
    obtain ⟨p1, p2⟩ := HSX.out W hW
    have hne : b ≠ H := by omega
    rw [cell_far (Or.inl hne), cell_far (Or.inl hne), cell_far (Or.inl hne), cell_far (Or.inl hne), cell_far (Or.inl hne), cell_far (Or.inl hne), cell_far (Or.inl hne), cell_far (Or.inl hne)]
    exact ⟨p1, p2⟩)
  have NF : Hid (∀ W, Below base w1 W → Calls Tryz.prog 84 #[.slice (some ⟨b, 1, none⟩) 6 (cb - 1)] W fun e w' => e = .returned (.int .i64 (numF (fun j => B (1 + j)) 6 : Nat)) ∧ w' = W) := Lib.hid (fun W hW => rfrom (some ⟨b, 1, none⟩) 6 (cb - 1) (fun j => B (1 + j)) W (by have := (HR1.out.cut (k := 1) (m := 6) (by omega)).keep (by rw [hbase]; exact hW); rwa [Nat.zero_add] at this) (fun j hj => hB _ (by omega)) (by omega))
  have b0 := hB 0 (by omega)
  have b7 := hB 7 (by omega)
  obtain ⟨A8, hA8⟩ : ∃ A8, (if cb = 8 then (some ⟨b, 0, none⟩ : Option Addr) else some ⟨b, 8, none⟩) = A8 := ⟨_, rfl⟩
  have HR8 : Hid (∀ W, Below base w1 W → Rd W A8 (L - 8) (fun j => B (8 + j))) := Lib.hid (fun W hW hn => by
    have e : A8 = some ⟨b, 8, none⟩ := by rw [← hA8, if_neg (by omega)]
    rw [e]
    have h1 := (HR1.out.cut (k := 8) (m := L - 8) (by omega)).keep (by rw [hbase]; exact hW)
    rw [Nat.zero_add] at h1
    exact h1 hn)
  have n8b : L - 8 ≤ 152 := by omega
  have HE : Hid ((w1.alloc (.cells #[] 5)).drew.ownsRow base 5 1 (.slice (some ⟨w1.heap.size, 0, none⟩) 0 0) 0 (rowL 0 (fun _ => 0))) := Lib.hid (own_empty (alloc_block w1 _) (Nat.le_of_eq hbase.symm))
  have HZA : Hid (base ≤ (w1.alloc (.cells #[] 5)).drew.heap.size) := Lib.hid (by rw [← hbase]; exact (BA.out _).size)
  obtain ⟨x0, hx0⟩ : ∃ x0, B 0 = x0 := ⟨_, rfl⟩
  obtain ⟨x7, hx7⟩ : ∃ x7, B 7 = x7 := ⟨_, rfl⟩
  obtain ⟨xg, hxg⟩ : ∃ xg, numF (fun j => B (1 + j)) 6 = xg := ⟨_, rfl⟩
  have HX0 := Lib.hid hx0
  have HX7 := Lib.hid hx7
  have HXG := Lib.hid hxg
  rw [hx0, hx7] at HSX HST
  rw [hxg] at NF
  rw [hx0] at b0
  rw [hx7] at b7
  have wx0 : IntKind.i64.wrap (x0 : Int) = (x0 : Int) := IntWalk.i64_in _ (by omega)
  have wx7 : IntKind.i64.wrap (x7 : Int) = (x7 : Int) := IntWalk.i64_in _ (by omega)
  have d1 : (1 : Int) ≤ (cb : Int) := by omega
  have d7 : (7 : Int) ≤ (cb : Int) := by omega
  have d8 : (8 : Int) ≤ (cb : Int) := by omega
  have d8L : (8 : Int) ≤ (L : Int) := by omega
  have dLc : (L : Int) ≤ (cb : Int) := by omega
  have l0 : (0 : Int) < (L : Int) := by omega
  have l7 : (7 : Int) < (L : Int) := by omega
  have n1 : ¬ cb = 1 := by omega
  clear hw1 hH hb1 h hbase hx0 hx7 hxg hB
  have z0 := HK1.out.c0
  have z1 := HK1.out.c1
  have z2 := HK1.out.c2
  have z3 := HK1.out.c3
  have fz := HK1.out.f
  go_enter Tryz.func97, Tryz.ntmps97
  go_wp2_with fail
  rw [HW1.out, HH.out]
  go_region_held_law (fun W => W.cell? ⟨b, 0, none⟩ = some (.int .u8 (x0 : Int)) ∧ W.cell? ⟨b, 7, none⟩ = some (.int .u8 (x7 : Int)))
    (first | (with_reducible assumption) | (with_reducible exact HSX.out _ BD.out) | (with_reducible exact HSX.out _ (BA.out _)) | (with_reducible exact HSX.out _ HB3.out) | (with_reducible exact HST.out _ _ _ _ _ HB3.out))
    (first
      | (refine step_append_rd _ rfl (.tmp 14) (.tmp 16) 35 rfl Tryz.underlying35 base (.slice (some ⟨w1.heap.size, 0, none⟩) 0 0) 0 (fun _ => 0) rfl HE.out A8 (L - 8) (cb - 8) (fun j => B (8 + j)) rfl (HR8.out _ (BA.out _)) (by omega) HZA.out ?_; intro v3 w3 own3 gr3 _ hne3; rw [Nat.zero_add] at own3; have HO3 : Hid (w3.ownsRow base 5 1 v3 (L - 8) (rowL (L - 8) (fun j => B (8 + j)))) := Lib.hid (own_congr own3 (fun j hj => if_neg (Nat.not_lt_zero j))); have HB3 : Hid (Below base w1 w3) := Lib.hid (Below.grown (BA.out _) gr3 HZA.out (fun k hk => by cases hk; exact Nat.le_of_eq HBS.out.symm)); obtain ⟨g3, c3, hv3, _, _, _⟩ := own_some own3 (hne3 (by simp)); subst hv3; have HK3 : Hid (PV w3 H 0 0 0 none 0 0) := Lib.hid (HK1.out.below (by rw [HBS.out]; exact HB3.out)); have y0 := HK3.out.c0; have y1 := HK3.out.c1; have y2 := HK3.out.c2; have y3 := HK3.out.c3; have yf := HK3.out.f; clear own3 gr3 hne3)
      | (go_simp; go_at_call 84; (with_reducible refine (NF.out _ (by first | exact BD.out | exact BA.out _ | exact HB3.out)).mono ?_); rintro e wn ⟨rfl, hw⟩; obtain rfl := hw.symm; (try dsimp only))
      | fail)
  all_goals
    go_wp2_with fail
    refine bodyPost_ret (v := pv (x0 : Int) (xg : Int) (x7 : Int) (some ⟨g3, 0, none⟩) (L - 8) c3) ?_ rfl ?_
    · rw [results_cell1 rfl]
      simp [HK3.out.put.load, Result.andThen, asAddr]
    refine ⟨g3, c3, by rw [HX0.out, HX7.out, HXG.out], ?_, by rw [HH.out]; exact below_put4 (HB1.out.trans (HB3.out.mono (Nat.le_of_lt hHb))) (Nat.le_refl _) _ _ _ _⟩
    have k3 := own_blk HO3.out
    have h1 := set_block HK3.out 0 (.int .i64 (x0 : Int))
    have h2 := set_block h1 1 (.int .i64 (xg : Int))
    have h3 := set_block h2 2 (.int .i64 (x7 : Int))
    exact (((k3.farB HK3.out (by decide)).farB h1 (by decide)).farB h2 (by decide)).farB h3 (by decide)
end Go.Proofs.YtofmilkjhnkgjaaGreat
namespace Go.Proofs.YtofmilkjhnkgjaaGreat
open Go.RowKit Go.Sort
set_option maxRecDepth 100000
set_option maxHeartbeats 1000000

/-- corbelref3.Open. -/
theorem ropen_len (A : Option Addr) (n cap : Nat) (w : World) (hn : n ≠ 160) :
    Calls Tryz.prog 83 #[.slice A n cap] w fun e w' => e = .returned (.tuple #[.int .i64 0, .slice none 0 0, .int .i64 2]) ∧ w' = w := by
  have e1 : ((n : Int) != 160) = true := by rw [bne_iff_ne]; omega
  clear hn
  go_enter Tryz.func83, Tryz.ntmps83
  go_wp2_with fail
  go_ret3
  exact ⟨rfl, rfl⟩
theorem ropen_all (g q cap : Nat) (F : Nat → Nat) (w : World) (Q : Ending → World → Prop) (h : Rd w (some ⟨g, q, none⟩) 160 F) (hc : 160 ≤ cap) (hF : ∀ j, j < 160 → F j < 256)
    (hmark : num4 F 156 ≠ sumF F 156 → ∀ w', Below w.heap.size w w' → Q (.returned (.tuple #[.int .i64 0, .slice none 0 0, .int .i64 3])) w')
    (hbad : num4 F 156 = sumF F 156 → ¬ OpenOk F → ∀ w', Below w.heap.size w w' → Q (.returned (.tuple #[.int .i64 0, .slice none 0 0, .int .i64 2])) w') (hgood : num4 F 156 = sumF F 156 → OpenOk F → ∀ e w', OpenRet F w e w' → Q e w') :
    Calls Tryz.prog 83 #[.slice (some ⟨g, q, none⟩) 160 cap] w Q := by
  have HS := Lib.hid (rsum (some ⟨g, q, none⟩) 156 cap F w (h.less (by omega)) (fun j hj => hF _ (by omega)) (by omega))
  have c1 : (156 : Int) ≤ (cap : Int) := by omega
  have HH := Lib.hid h
  have HF := Lib.hid hF
  have HM := Lib.hid hmark
  have HB := Lib.hid hbad
  have HG := Lib.hid hgood
  have hls := sumF_lt F 156
  have l1 := hF 1 (by omega)
  have l2 := hF 2 (by omega)
  have l0 := hF 0 (by omega)
  have a0 := h.some_ (k := 0) (by omega)
  have a1 := h.some_ (k := 1) (by omega)
  have a2 := h.some_ (k := 2) (by omega)
  have HOR := Lib.hid (bits_or_i64 (F 1) (F 2) (by omega) l2)
  clear h hF hmark hbad hgood
  go_enter Tryz.func83, Tryz.ntmps83
  go_wp2_with fail
  go_loopg [6, 7] 4 (fun q' s6 s7 v => ∃ k : Nat, s6 = .int .i64 (numF (fun j => F (156 + j)) k : Nat) ∧ s7 = .int .i64 ((156 + k : Nat) : Int) ∧ k ≤ 4 ∧ q' = 4 - k ∧ w = v)
  case atStart => exact ⟨0, by unfold numF; rfl, rfl, by omega, rfl, rfl⟩
  case round =>
    obtain ⟨k, rfl, rfl, hk, rfl, rfl⟩ := hrel
    by_cases hlt : k < 4
    · have hl : ((156 + k : Nat) : Int) < 160 := by omega
      have hl0 : (0 : Int) ≤ ((156 + k : Nat) : Int) := by omega
      have b1 := HH.out.some_ (k := 156 + k) (by omega)
      have HN := Lib.hid (numF_succ (fun j => F (156 + j)) k)
      have hx := HF.out (156 + k) (by omega)
      have hs : numF (fun j => F (156 + j)) k < 16777216 := by
        have h1 := numF_lt (F := fun j => F (156 + j)) (k := k) (fun j hj => HF.out _ (by omega))
        have h2 : (256 : Nat) ^ k ≤ 256 ^ 3 := Nat.pow_le_pow_right (by decide) (by omega)
        omega
      generalize numF (fun j => F (156 + j)) k = s at *
      generalize F (156 + k) = x at *
      have hor := bits_or_i64 s x (by omega) hx
      clear a0 a1 a2 HOR
      go_wp2_with fail
      go_roundg (4 - (k + 1))
      case measure => omega
      case rel => exact ⟨k + 1, by rw [HN.out]; congr 1, by go_num, by omega, rfl, rfl⟩
    · obtain rfl : k = 4 := by omega
      have hge : ¬ ((156 + 4 : Nat) : Int) < 160 := by omega
      have HNE := Lib.hid (num4_eq F)
      obtain ⟨y, hy⟩ : ∃ y, sumF F 156 = y := ⟨_, rfl⟩
      have HY := Lib.hid hy
      rw [hy] at hls HS
      have hnb : numF (fun j => F (156 + j)) 4 < 4294967296 := by
        exact numF_lt (F := fun j => F (156 + j)) (k := 4) (fun j hj => HF.out _ (by omega))
      rw [← HNE.out] at hnb ⊢
      obtain ⟨x, hx⟩ : ∃ x, num4 F 156 = x := ⟨_, rfl⟩
      have HX := Lib.hid hx
      rw [hx] at hnb ⊢
      clear hx
      clear hy
      by_cases hne : y = x
      · obtain rfl := hne
        have HNX : Hid (num4 F 156 = sumF F 156) := Lib.hid (by rw [HY.out, HX.out])
        obtain ⟨L, hL⟩ : ∃ L, F 1 * 256 + F 2 = L := ⟨_, rfl⟩
        have HLL := Lib.hid hL
        have hor : bits .or .i64 (((F 1 : Nat) : Int) * 256) ((F 2 : Nat) : Int) = (L : Int) := by rw [HOR.out]; omega
        have hLb : L ≤ 65535 := by omega
        obtain ⟨f1, hf1⟩ : ∃ f1, F 1 = f1 := ⟨_, rfl⟩
        obtain ⟨f2, hf2⟩ : ∃ f2, F 2 = f2 := ⟨_, rfl⟩
        obtain ⟨kd, hkd⟩ : ∃ kd, F 0 = kd := ⟨_, rfl⟩
        have HKD := Lib.hid hkd
        rw [hf1] at a1 hor l1
        rw [hf2] at a2 hor l2
        rw [hkd] at a0 l0
        clear hL hf1 hf2 hkd HOR
        by_cases hbig : 153 < L
        · have hbi : (153 : Int) < (L : Int) := by omega
          have HNO : Hid (¬ OpenOk F) := Lib.hid (fun h => by have := h.2.1; rw [HLL.out] at this; omega)
          clear a0
          go_wp2_with fail
          refine HS.out.mono ?_
          rintro e w' ⟨rfl, d, rfl⟩
          try dsimp only
          go_wp2_with fail
          go_big_quiet (fail)
          go_wp2_with fail
          go_ret3
          exact HB.out HNX.out HNO.out _ (by first | exact below_drewN _ w | (rw [World.drewN_drewN]; exact below_drewN _ w))
        · have hbi : (L : Int) ≤ 153 := by omega
          have hL0 : (0 : Int) ≤ (L : Int) := by omega
          have m1 : (3 : Int) + (L : Int) ≤ (cap : Int) := by omega
          have M2 : Hid ((3 + (L : Int)).toNat = 3 + L) := Lib.hid (by omega)
          have M3 : Hid (((3 : Int) + (L : Int) - 3).toNat = L) := Lib.hid (by omega)
          have c4 : ¬ cap = 3 := by omega
          have c5 : (3 : Int) ≤ (cap : Int) := by omega
          have HE0 : Hid (∀ w2 : World, Rd w2 (some ⟨g, q, none⟩) 160 F → (w2.alloc (.cells #[] 5)).ownsRow w2.heap.size 5 1 (.slice (some ⟨w2.heap.size, 0, none⟩) 0 0) 0 (rowL 0 (fun _ => 0)) ∧ Below w2.heap.size w2 (w2.alloc (.cells #[] 5)) ∧ Rd (w2.alloc (.cells #[] 5)) (some ⟨g, q + 3, none⟩) L (fun j => F (3 + j))) := Lib.hid (fun w2 hr => by
            have hb : Below w2.heap.size w2 (w2.alloc (.cells #[] 5)) := (Below.refl _ _).alloc (Nat.le_refl _) _
            exact ⟨own_empty (alloc_block w2 _) (Nat.le_refl _), hb, (hr.cut (k := 3) (m := L) (by omega)).keep hb⟩)
          go_wp2_with fail
          refine HS.out.mono ?_
          rintro e w' ⟨rfl, d, rfl⟩
          try dsimp only
          go_wp2_with fail
          go_big_quiet (fail)
          obtain ⟨w2, hw2⟩ : ∃ w2, (w.drewN d).drewN nq = w2 := ⟨_, rfl⟩
          have HB2 : Hid (Below w.heap.size w w2) := Lib.hid (by rw [← hw2]; exact ⟨rfl, rfl, rfl, Nat.le_refl _, fun _ _ => rfl⟩)
          have HR2 : Hid (Rd w2 (some ⟨g, q, none⟩) 160 F) := Lib.hid (HH.out.keep HB2.out)
          have b0 : w2.cell? ⟨g, q, none⟩ = some (.int .u8 (kd : Int)) := (HB2.out.cell (p := ⟨g, q, none⟩) (cell?_lt a0)).trans a0
          rw [hw2]
          clear hw2 a0 a1 a2 hor
          obtain ⟨ho0, hb0, hr0⟩ := HE0.out w2 HR2.out
          have HO0 := Lib.hid ho0
          have HB0 := Lib.hid hb0
          have HR0 := Lib.hid hr0
          clear ho0 hb0 hr0 HE0
          have HCB : Hid (∀ w4 : World, Below w2.heap.size w2 w4 → w4.cell? ⟨g, q, none⟩ = some (.int .u8 (kd : Int))) := Lib.hid (fun w4 h => (h.cell (p := ⟨g, q, none⟩) (cell?_lt b0)).trans b0)
          clear b0
          have m2 := M2.out
          have m3 := M3.out
          go_wp2_with (at_builtin; refine append_rd _ rfl (.tmp 46) (.tmp 50) 35 rfl Tryz.underlying35 w2.heap.size (.slice (some ⟨w2.heap.size, 0, none⟩) 0 0) 0 (fun _ => 0) rfl HO0.out (some ⟨g, q + 3, none⟩) L (cap - 3) (fun j => F (3 + j)) rfl HR0.out (by omega) HB0.out.size ?_; intro v1 w3 own gr _ hne; rw [Nat.zero_add] at own; have HO3 : Hid (w3.ownsRow w2.heap.size 5 1 v1 L (rowL L (fun j => F (3 + j)))) := Lib.hid (own_congr own (fun j hj => if_neg (Nat.not_lt_zero j))); have HB3 : Hid (Below w2.heap.size w2 w3) := Lib.hid (Below.grown HB0.out gr HB0.out.size (fun k hk => by cases hk; exact Nat.le_refl _)); obtain ⟨gb, cb, hv, _, _, hlc⟩ := own_some own (hne (by simp)); have HV1 := Lib.hid hv; have HLC := Lib.hid hlc; clear own gr hne hv hlc; have b0 := HCB.out w3 HB3.out)
          obtain rfl := HV1.out
          have HR3 : Hid (Rd w3 (some ⟨g, q, none⟩) 160 F) := Lib.hid (HR2.out.keep HB3.out)
          have HW3 : Hid (Below w.heap.size w w3) := Lib.hid (HB2.out.trans (HB3.out.mono HB2.out.size))
          have HRB := Lib.hid (own_rd HO3.out)
          have HRBB := Lib.hid (own_blk HO3.out)
          clear m2 m3 HO0 HB0 HR0 HCB HO3 HV1
          by_cases hk0 : kd = 0
          · have HNO : Hid (¬ OpenOk F) := Lib.hid (fun h => by have := h.1; rw [HKD.out] at this; omega)
            have HSE := Lib.hid (rseal_no (kd : Int) L cb (some ⟨gb, 0, none⟩) w3 (by omega) (by omega))
            clear hk0
            refine HSE.out.mono ?_
            rintro e w4 ⟨rfl, hw⟩
            obtain rfl := hw.symm
            try dsimp only
            go_wp2_with fail
            go_ret3
            exact HB.out HNX.out HNO.out _ HW3.out
          · have HSE := Lib.hid (rseal kd L cb (some ⟨gb, 0, none⟩) (fun k => F (3 + k)) w3 (by omega) l0 (by omega) HRB.out (fun j hj => HF.out _ (by omega)))
            have hS := sealF_lt (kind := kd) (n := L) (B := fun k => F (3 + k)) l0 (fun j hj => HF.out _ (by omega))
            have HS3 := Lib.hid hS
            clear hS b0
            refine HSE.out.mono ?_
            rintro e w4 ⟨gs, cs, rfl, k4, hb4, _⟩
            try dsimp only
            have HW4 : Hid (Below w.heap.size w w4) := Lib.hid (HW3.out.trans (hb4.mono HW3.out.size))
            have HRB4 := Lib.hid (HRBB.out.below hb4)
            have hr4 := HR3.out.keep hb4
            have b0 := hr4.some_ (k := 0) (by omega)
            rw [Nat.add_zero, HKD.out] at b0
            have v1 := conv_rd (cap := cs) k4
            have v2 := conv_rd (cap := cap) hr4
            by_cases hall : ∀ j, j < 160 → sealF kd L (fun k => F (3 + k)) j = F j
            · have HOK : Hid (OpenOk F) := Lib.hid ⟨by rw [HKD.out]; omega, by rw [HLL.out]; omega, by rw [HKD.out, HLL.out]; exact hall⟩
              have e1 := beq_iff_eq.2 ((str_eq (n := 160) (m := 160) (fun j _ => HS3.out j) HF.out).2 ⟨rfl, hall⟩)
              have e2 : ((strOf ((List.range 160).map (sealF kd L (fun k => F (3 + k))))).toList != (strOf ((List.range 160).map F)).toList) = false := by rw [bne, e1]; rfl
              generalize strOf ((List.range 160).map (sealF kd L (fun k => F (3 + k)))) = s1 at *
              generalize strOf ((List.range 160).map F) = s2 at *
              clear hall hr4 k4 hb4
              go_wp2_with fail
              go_ret3
              exact HG.out HNX.out HOK.out _ _ ⟨gb, cb, by rw [HKD.out, HLL.out]; rfl, by rw [HLL.out]; exact HRB4.out, HW4.out, by rw [HLL.out]; exact HLC.out⟩
            · have HNO : Hid (¬ OpenOk F) := Lib.hid (fun h => hall (by have := h.2.2; rwa [HKD.out, HLL.out] at this))
              have e1 : ((strOf ((List.range 160).map (sealF kd L (fun k => F (3 + k))))).toList == (strOf ((List.range 160).map F)).toList) = false := beq_eq_false_iff_ne.2 (fun e => hall ((str_eq (n := 160) (m := 160) (fun j _ => HS3.out j) HF.out).1 e).2)
              have e2 : ((strOf ((List.range 160).map (sealF kd L (fun k => F (3 + k))))).toList != (strOf ((List.range 160).map F)).toList) = true := by rw [bne, e1]; rfl
              generalize strOf ((List.range 160).map (sealF kd L (fun k => F (3 + k)))) = s1 at *
              generalize strOf ((List.range 160).map F) = s2 at *
              clear hall hr4 k4 hb4
              go_wp2_with fail
              go_ret3
              exact HB.out HNX.out HNO.out _ HW4.out
      · have e1 : ((y : Int) != (x : Int)) = true := by rw [bne_iff_ne]; omega
        have HNX := Lib.hid hne
        clear hne a0 a1 a2 HOR
        go_wp2_with fail
        refine HS.out.mono ?_
        rintro e w' ⟨rfl, d, rfl⟩
        go_wp2_with fail
        go_ret3
        exact HM.out (by rw [HY.out, HX.out]; exact fun e => HNX.out e.symm) _ (below_drewN d w)
end Go.Proofs.YtofmilkjhnkgjaaGreat
