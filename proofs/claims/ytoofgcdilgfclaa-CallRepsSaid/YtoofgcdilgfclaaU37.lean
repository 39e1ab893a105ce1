import Derived.Test.YtoofgcdilgfclaaU19
import Derived.Test.YtoofgcdilgfclaaU31
import Derived.Test.YtoofgcdilgfclaaU10
import Derived.Deep.RegionHeldLaw
namespace Go.Proofs.Ytoofgcdilgfclaa
open Go.RowKit Go.Sort
set_option maxRecDepth 100000
set_option maxHeartbeats 1000000

/-- SamePiece. -/
theorem rsame (s g i s' g' i' : Int) (A A' : Option Addr) (n c n' c' : Nat) (D D' : Nat → Nat) (w : World) (h1 : Rd w A n D) (h2 : Rd w A' n' D') (b1 : ∀ j, j < n → D j < 256) (b2 : ∀ j, j < n' → D' j < 256)
    (t : Bool) (ht : t = true ↔ s = s' ∧ g = g' ∧ i = i' ∧ n = n' ∧ ∀ j, j < n → D j = D' j) :
    Calls Try.prog 59 #[pv s g i A n c, pv s' g' i' A' n' c'] w fun e w' => e = .returned (.bool t) ∧ Below w.heap.size w w' := by
  have HT := Lib.hid ht
  obtain ⟨w1, hw1⟩ : ∃ w1, (w.alloc (.cells #[.int .i64 s, .int .i64 g, .int .i64 i, .slice A n c] 31)).alloc (.cells #[.int .i64 s', .int .i64 g', .int .i64 i', .slice A' n' c'] 31) = w1 := ⟨_, rfl⟩
  have HB1 : Hid (Below w.heap.size w w1) := Lib.hid (by rw [← hw1]; exact ((Below.refl _ _).alloc (Nat.le_refl _) _).alloc (by simp) _)
  have HW1 := Lib.hid hw1
  have v1 := conv_rd (cap := c) (h1.keep HB1.out)
  have v2 := conv_rd (cap := c') (h2.keep HB1.out)
  have HST := Lib.hid (str_eq b1 b2)
  generalize strOf ((List.range n).map D) = s1 at *
  generalize strOf ((List.range n').map D') = s2 at *
  rw [← hw1] at v1 v2
  clear ht h1 h2 b1 b2 hw1
  unfold pv
  by_cases hs : s = s'
  · have e1 : (s == s') = true := beq_iff_eq.2 hs
    have HS := Lib.hid hs
    clear hs
    by_cases hg : g = g'
    · have e2 : (g == g') = true := beq_iff_eq.2 hg
      have HG := Lib.hid hg
      clear hg
      by_cases hi : i = i'
      · have e3 : (i == i') = true := beq_iff_eq.2 hi
        have HI := Lib.hid hi
        clear hi
        have e4 : (s1.toList == s2.toList) = t := by
          cases ht' : t with
          | true => exact beq_iff_eq.2 (HST.out.2 (HT.out.1 ht').2.2.2)
          | false => exact beq_eq_false_iff_ne.2 (fun e => by have := HT.out.2 ⟨HS.out, HG.out, HI.out, HST.out.1 e⟩; rw [ht'] at this; cases this)
        go_enter Try.func59, Try.ntmps59
        go_wp2_with fail
        go_ret
        rw [HW1.out]
        exact ⟨rfl, HB1.out⟩
      · have e3 : (i == i') = false := beq_eq_false_iff_ne.2 hi
        obtain rfl : t = false := not_true HT.out (fun h => hi h.2.2.1)
        clear hi
        go_enter Try.func59, Try.ntmps59
        go_wp2_with fail
        go_ret
        rw [HW1.out]
        exact ⟨rfl, HB1.out⟩
    · have e2 : (g == g') = false := beq_eq_false_iff_ne.2 hg
      obtain rfl : t = false := not_true HT.out (fun h => hg h.2.1)
      clear hg
      go_enter Try.func59, Try.ntmps59
      go_wp2_with fail
      go_ret
      rw [HW1.out]
      exact ⟨rfl, HB1.out⟩
  · have e1 : (s == s') = false := beq_eq_false_iff_ne.2 hs
    obtain rfl : t = false := not_true HT.out (fun h => hs h.1)
    clear hs
    go_enter Try.func59, Try.ntmps59
    go_wp2_with fail
    go_ret
    rw [HW1.out]
    exact ⟨rfl, HB1.out⟩

/-- SamePiece of pieces that are handed about. -/
theorem rsameV {w : World} {v v' : Value} {p q : Pc} (h : PcV w v p) (h' : PcV w v' q) (hp : ∀ j, j < 32 → p.D j < 256) (hq : ∀ j, j < 32 → q.D j < 256) (t : Bool) (ht : t = true ↔ p.Alike q) :
    Calls Try.prog 59 #[v, v'] w fun e w' => e = .returned (.bool t) ∧ Below w.heap.size w w' := by
  obtain ⟨A, c, rfl, d⟩ := h
  obtain ⟨A', c', rfl, d'⟩ := h'
  refine rsame _ _ _ _ _ _ A A' 32 c 32 c' p.D q.D w d.rd d'.rd hp hq t ?_
  rw [ht]
  unfold Pc.Alike
  constructor
  · rintro ⟨a, b, e, f⟩
    exact ⟨by omega, by omega, by omega, rfl, f⟩
  · rintro ⟨a, b, e, _, f⟩
    exact ⟨by omega, by omega, by omega, f⟩
end Go.Proofs.Ytoofgcdilgfclaa
namespace Go.Proofs.Ytoofgcdilgfclaa
open Go.RowKit Go.Sort
set_option maxRecDepth 100000
set_option maxHeartbeats 2000000

theorem Blk8.farB {w : World} {g n b k : Nat} {F : Nat → Nat} {cs : Array Value} {t : TypeId} {fr : Nat × Nat} {v : Value} (h : Blk8 w g n F) (hb : w.heap[b]? = some (.cells cs t fr)) (ht : t ≠ 5) : Blk8 (w.setCell ⟨b, k, none⟩ v) g n F :=
  h.keep (set_other (by rintro rfl; obtain ⟨cs', h1, _⟩ := h; rw [hb] at h1; cases h1; exact ht rfl) k v)
/-- corbelref7.piece. -/
def RPcRet (B : Nat → Nat) (L : Nat) (w : World) (e : Ending) (w' : World) : Prop :=
  ∃ g c, e = .returned (pv (B 0 : Nat) (numF (fun j => B (1 + j)) 6 : Nat) (B 7 : Nat) (some ⟨g, 0, none⟩) (L - 8) c) ∧ Blk8 w' g (L - 8) (fun j => B (8 + j)) ∧ Below w.heap.size w w'
theorem rpiece (b L cb : Nat) (B : Nat → Nat) (w : World) (h : Rd w (some ⟨b, 0, none⟩) L B) (hB : ∀ j, j < L → B j < 256) (h8 : 8 ≤ L) (hL : L ≤ 160) (hcb : L ≤ cb) :
    Calls Try.prog 48 #[.slice (some ⟨b, 0, none⟩) L cb] w (RPcRet B L w) := by
  obtain ⟨w1, hw1⟩ : ∃ w1, w.alloc (.cells #[.int .i64 0, .int .i64 0, .int .i64 0, .slice none 0 0] 31) = w1 := ⟨_, rfl⟩
  have HW1 := Lib.hid hw1
  obtain ⟨H, hH⟩ : ∃ H, w.heap.size = H := ⟨_, rfl⟩
  have HH := Lib.hid hH
  have HK1 : Hid (PV w1 H 0 0 0 none 0 0) := Lib.hid (by rw [← hw1]; exact PV.of_new hH)
  have hb1 : Below H w w1 := by rw [← hw1, ← hH]; exact (Below.refl _ _).alloc (Nat.le_refl _) _
  have HB1 := Lib.hid hb1
  have HR1 : Hid (Rd w1 (some ⟨b, 0, none⟩) L B) := Lib.hid (h.keep (by rw [hH]; exact hb1))
  have hbH : b < H := by rw [← hH]; exact cell?_lt (h.some_ (k := 0) (by omega))
  obtain ⟨base, hbase⟩ : ∃ base, w1.heap.size = base := ⟨_, rfl⟩
  have HBS := Lib.hid hbase
  have hHb : H < base := by rw [← hbase]; exact HK1.out.lt
  have BD : Hid (Below base w1 w1.drew) := Lib.hid (by rw [← hbase]; exact below_drewN 1 w1)
  have BA : Hid (∀ o, Below base w1 (w1.alloc o).drew) := Lib.hid (fun o => by rw [← hbase]; exact ((Below.refl _ _).alloc (Nat.le_refl _) o).drew)
  have HSX : Hid (∀ W, Below base w1 W → W.cell? ⟨b, 0, none⟩ = some (.int .u8 (B 0 : Nat)) ∧ W.cell? ⟨b, 7, none⟩ = some (.int .u8 (B 7 : Nat))) := Lib.hid (fun W hW => by
    have h1 := HR1.out.keep (by rw [hbase]; exact hW)
    exact ⟨h1.some_ (k := 0) (by omega), h1.some_ (k := 7) (by omega)⟩)
  have HST : Hid (∀ W v0 v1 v2 v3, Below base w1 W → ((((W.setCell ⟨H, 0, none⟩ v0).setCell ⟨H, 1, none⟩ v1).setCell ⟨H, 2, none⟩ v2).setCell ⟨H, 3, none⟩ v3).cell? ⟨b, 0, none⟩ = some (.int .u8 (B 0 : Nat)) ∧ ((((W.setCell ⟨H, 0, none⟩ v0).setCell ⟨H, 1, none⟩ v1).setCell ⟨H, 2, none⟩ v2).setCell ⟨H, 3, none⟩ v3).cell? ⟨b, 7, none⟩ = some (.int .u8 (B 7 : Nat))) := Lib.hid (fun W v0 v1 v2 v3 hW => by
    obtain ⟨p1, p2⟩ := HSX.out W hW
    have hne : b ≠ H := by omega
    rw [cell_far (Or.inl hne), cell_far (Or.inl hne), cell_far (Or.inl hne), cell_far (Or.inl hne), cell_far (Or.inl hne), cell_far (Or.inl hne), cell_far (Or.inl hne), cell_far (Or.inl hne)]
    exact ⟨p1, p2⟩)
  have NF : Hid (∀ W, Below base w1 W → Calls Try.prog 44 #[.slice (some ⟨b, 1, none⟩) 6 (cb - 1)] W fun e w' => e = .returned (.int .i64 (numF (fun j => B (1 + j)) 6 : Nat)) ∧ w' = W) := Lib.hid (fun W hW => rfrom (some ⟨b, 1, none⟩) 6 (cb - 1) (fun j => B (1 + j)) W (by have := (HR1.out.cut (k := 1) (m := 6) (by omega)).keep (by rw [hbase]; exact hW); rwa [Nat.zero_add] at this) (fun j hj => hB _ (by omega)) (by omega))
  have b0 := hB 0 (by omega)
  have b7 := hB 7 (by omega)
  obtain ⟨A8, hA8⟩ : ∃ A8, (if cb = 8 then (some ⟨b, 0, none⟩ : Option Addr) else some ⟨b, 8, none⟩) = A8 := ⟨_, rfl⟩
  have HR8 : Hid (∀ W, Below base w1 W → Rd W A8 (L - 8) (fun j => B (8 + j))) := Lib.hid (fun W hW hn => by
    have e : A8 = some ⟨b, 8, none⟩ := by rw [← hA8, if_neg (by omega)]
    rw [e]
    have h1 := (HR1.out.cut (k := 8) (m := L - 8) (by omega)).keep (by rw [hbase]; exact hW)
    rw [Nat.zero_add] at h1
    exact h1 hn)
  have n8b : L - 8 ≤ 152 := by omega
  have HE : Hid ((w1.alloc (.cells #[] 5)).drew.ownsRow base 5 1 (.slice (some ⟨w1.heap.size, 0, none⟩) 0 0) 0 (rowL 0 (fun _ => 0))) := Lib.hid (own_empty (alloc_block w1 _) (Nat.le_of_eq hbase.symm))
  have HZA : Hid (base ≤ (w1.alloc (.cells #[] 5)).drew.heap.size) := Lib.hid (by rw [← hbase]; exact (BA.out _).size)
  obtain ⟨x0, hx0⟩ : ∃ x0, B 0 = x0 := ⟨_, rfl⟩
  obtain ⟨x7, hx7⟩ : ∃ x7, B 7 = x7 := ⟨_, rfl⟩
  obtain ⟨xg, hxg⟩ : ∃ xg, numF (fun j => B (1 + j)) 6 = xg := ⟨_, rfl⟩
  have HX0 := Lib.hid hx0
  have HX7 := Lib.hid hx7
  have HXG := Lib.hid hxg
  rw [hx0, hx7] at HSX HST
  rw [hxg] at NF
  rw [hx0] at b0
  rw [hx7] at b7
  have wx0 : IntKind.i64.wrap (x0 : Int) = (x0 : Int) := IntWalk.i64_in _ (by omega)
  have wx7 : IntKind.i64.wrap (x7 : Int) = (x7 : Int) := IntWalk.i64_in _ (by omega)
  have d1 : (1 : Int) ≤ (cb : Int) := by omega
  have d7 : (7 : Int) ≤ (cb : Int) := by omega
  have d8 : (8 : Int) ≤ (cb : Int) := by omega
  have d8L : (8 : Int) ≤ (L : Int) := by omega
  have dLc : (L : Int) ≤ (cb : Int) := by omega
  have l0 : (0 : Int) < (L : Int) := by omega
  have l7 : (7 : Int) < (L : Int) := by omega
  have n1 : ¬ cb = 1 := by omega
  clear hw1 hH hb1 h hbase hx0 hx7 hxg hB
  have z0 := HK1.out.c0
  have z1 := HK1.out.c1
  have z2 := HK1.out.c2
  have z3 := HK1.out.c3
  have fz := HK1.out.f
  go_enter Try.func48, Try.ntmps48
  go_wp2_with fail
  rw [HW1.out, HH.out]
  go_region_held_law (fun W => W.cell? ⟨b, 0, none⟩ = some (.int .u8 (x0 : Int)) ∧ W.cell? ⟨b, 7, none⟩ = some (.int .u8 (x7 : Int)))
    (first | (with_reducible assumption) | (with_reducible exact HSX.out _ BD.out) | (with_reducible exact HSX.out _ (BA.out _)) | (with_reducible exact HSX.out _ HB3.out) | (with_reducible exact HST.out _ _ _ _ _ HB3.out))
    (first
      | (refine step_append_rd _ rfl (.tmp 14) (.tmp 16) 22 rfl Try.underlying22 base (.slice (some ⟨w1.heap.size, 0, none⟩) 0 0) 0 (fun _ => 0) rfl HE.out A8 (L - 8) (cb - 8) (fun j => B (8 + j)) rfl (HR8.out _ (BA.out _)) (by omega) HZA.out ?_; intro v3 w3 own3 gr3 _ hne3; rw [Nat.zero_add] at own3; have HO3 : Hid (w3.ownsRow base 5 1 v3 (L - 8) (rowL (L - 8) (fun j => B (8 + j)))) := Lib.hid (own_congr own3 (fun j hj => if_neg (Nat.not_lt_zero j))); have HB3 : Hid (Below base w1 w3) := Lib.hid (Below.grown (BA.out _) gr3 HZA.out (fun k hk => by cases hk; exact Nat.le_of_eq HBS.out.symm)); obtain ⟨g3, c3, hv3, _, _, _⟩ := own_some own3 (hne3 (by simp)); subst hv3; have HK3 : Hid (PV w3 H 0 0 0 none 0 0) := Lib.hid (HK1.out.below (by rw [HBS.out]; exact HB3.out)); have y0 := HK3.out.c0; have y1 := HK3.out.c1; have y2 := HK3.out.c2; have y3 := HK3.out.c3; have yf := HK3.out.f; clear own3 gr3 hne3)
      | (go_simp; go_at_call 44; (with_reducible refine (NF.out _ (by first | exact BD.out | exact BA.out _ | exact HB3.out)).mono ?_); rintro e wn ⟨rfl, hw⟩; obtain rfl := hw.symm; (try dsimp only))
      | fail)
  all_goals
    go_wp2_with fail
    refine bodyPost_ret (v := pv (x0 : Int) (xg : Int) (x7 : Int) (some ⟨g3, 0, none⟩) (L - 8) c3) ?_ rfl ?_
    · rw [results_cell1 rfl]
      simp [HK3.out.put.load, Result.andThen, asAddr]
    refine ⟨g3, c3, by rw [HX0.out, HX7.out, HXG.out], ?_, by rw [HH.out]; exact below_put4 (HB1.out.trans (HB3.out.mono (Nat.le_of_lt hHb))) (Nat.le_refl _) _ _ _ _⟩
    have k3 := own_blk HO3.out
    have h1 := set_block HK3.out 0 (.int .i64 (x0 : Int))
    have h2 := set_block h1 1 (.int .i64 (xg : Int))
    have h3 := set_block h2 2 (.int .i64 (x7 : Int))
    exact (((k3.farB HK3.out (by decide)).farB h1 (by decide)).farB h2 (by decide)).farB h3 (by decide)
end Go.Proofs.Ytoofgcdilgfclaa
