import Derived.Test.YtjbicpekpgaokaaCh6
import Derived.Test.YtjbicpekpgaokaaCh5
import Derived.Test.YtjbicpekpgaokaaCh2
namespace Go.Proofs.Ytjbicpekpgaokaa
open Go.RowKit Go.Sort
set_option maxRecDepth 100000
set_option maxHeartbeats 1000000

theorem results_cell1 {fn : Func} {p : Tmp} {ty : TypeId} (h : fn.results = #[.cell p ty]) (tmps : Array Value) (P : Program) (w : World) :
    (results fn tmps).run P w = ((asAddr (tmps.getD p undef)).run P w).andThen fun a w₁ => (loadVar ty a).run P w₁ := by
  simp only [results, h]
  simp [Sem.run_bind, Result.andThen]
/-- chunk.Same. -/
theorem csame (s g i s' g' i' : Int) (A A' : Option Addr) (n c n' c' : Nat) (D D' : Nat → Nat) (w : World) (h1 : Rd w A n D) (h2 : Rd w A' n' D') (b1 : ∀ j, j < n → D j < 256) (b2 : ∀ j, j < n' → D' j < 256)
    (t : Bool) (ht : t = true ↔ s = s' ∧ g = g' ∧ i = i' ∧ n = n' ∧ ∀ j, j < n → D j = D' j) :
    Calls Try.prog 31 #[pv s g i A n c, pv s' g' i' A' n' c'] w fun e w' => e = .returned (.bool t) ∧ Below w.heap.size w w' := by
  have HT := Lib.hid ht
  obtain ⟨w1, hw1⟩ : ∃ w1, (w.alloc (.cells #[.int .i64 s, .int .i64 g, .int .i64 i, .slice A n c] 42)).alloc (.cells #[.int .i64 s', .int .i64 g', .int .i64 i', .slice A' n' c'] 42) = w1 := ⟨_, rfl⟩
  have HB1 : Hid (Below w.heap.size w w1) := Lib.hid (by rw [← hw1]; exact ((Below.refl _ _).alloc (Nat.le_refl _) _).alloc (by simp) _)
  have HW1 := Lib.hid hw1
  have HE := Lib.hid (fun t' ht' => bequal A A' n n' c c' D D' w1 (h1.keep HB1.out) (h2.keep HB1.out) b1 b2 t' ht')
  clear ht h1 h2 b1 b2 hw1
  unfold pv
  by_cases hs : s = s'
  · have e1 : (s == s') = true := beq_iff_eq.2 hs
    have HS := Lib.hid hs
    clear hs
    by_cases hg : g = g'
    · have e2 : (g == g') = true := beq_iff_eq.2 hg
      have HG := Lib.hid hg
      clear hg
      by_cases hi : i = i'
      · have e3 : (i == i') = true := beq_iff_eq.2 hi
        have HI := Lib.hid hi
        clear hi
        have HE2 := Lib.hid (HE.out t ⟨fun h => (HT.out.1 h).2.2.2, fun h => HT.out.2 ⟨HS.out, HG.out, HI.out, h⟩⟩)
        go_enter Try.func31, Try.ntmps31
        go_wp2_with fail
        rw [HW1.out]
        refine HE2.out.mono ?_
        rintro e w' ⟨rfl, hw⟩
        obtain rfl := hw.symm
        go_wp2_with fail
        go_ret
        exact ⟨rfl, HB1.out⟩
      · have e3 : (i == i') = false := beq_eq_false_iff_ne.2 hi
        obtain rfl : t = false := not_true HT.out (fun h => hi h.2.2.1)
        clear hi
        go_enter Try.func31, Try.ntmps31
        go_wp2_with fail
        go_ret
        rw [HW1.out]
        exact ⟨rfl, HB1.out⟩
    · have e2 : (g == g') = false := beq_eq_false_iff_ne.2 hg
      obtain rfl : t = false := not_true HT.out (fun h => hg h.2.1)
      clear hg
      go_enter Try.func31, Try.ntmps31
      go_wp2_with fail
      go_ret
      rw [HW1.out]
      exact ⟨rfl, HB1.out⟩
  · have e1 : (s == s') = false := beq_eq_false_iff_ne.2 hs
    obtain rfl : t = false := not_true HT.out (fun h => hs h.1)
    clear hs
    go_enter Try.func31, Try.ntmps31
    go_wp2_with fail
    go_ret
    rw [HW1.out]
    exact ⟨rfl, HB1.out⟩

/-- A piece as it is handed about. -/
def PcV (w : World) (v : Value) (p : Pc) : Prop := ∃ A c, v = pv (p.s : Int) (p.g : Int) (p.i : Int) A 32 c ∧ Dat w A p.D
/-- one. -/
def oneP (s g i : Nat) (x : Int) : Pc := ⟨s, g, i, bytesF x⟩
def LOneRet (p : Pc) (w : World) (e : Ending) (w' : World) : Prop := ∃ v, e = .returned v ∧ PcV w' v p ∧ Below w.heap.size w w'
theorem lone (s g i : Nat) (x : Int) (w : World) : Calls Try.prog 62 #[.int .i64 (s : Int), .int .i64 (g : Int), .int .i64 (i : Int), .int .i64 x] w (LOneRet (oneP s g i x) w) := by
  obtain ⟨w1, hw1⟩ : ∃ w1, w.alloc (.cells #[.int .i64 0, .int .i64 0, .int .i64 0, .slice none 0 0] 42) = w1 := ⟨_, rfl⟩
  have HW1 := Lib.hid hw1
  obtain ⟨H, hH⟩ : ∃ H, w.heap.size = H := ⟨_, rfl⟩
  have HH := Lib.hid hH
  have HK1 : Hid (PV w1 H 0 0 0 none 0 0) := Lib.hid (by rw [← hw1]; exact PV.of_new hH)
  have HB1 : Hid (Below H w w1) := Lib.hid (by rw [← hw1, ← hH]; exact (Below.refl _ _).alloc (Nat.le_refl _) _)
  have HC := Lib.hid (cbytes x 32 32 rfl w1 (by omega))
  clear hw1 hH
  go_enter Try.func62, Try.ntmps62
  go_wp2_with fail
  rw [HW1.out, HH.out]
  refine HC.out.mono ?_
  rintro e w2 ⟨b, rfl, hk2, hb2, hl2⟩
  try dsimp only
  have HK2 := Lib.hid (HK1.out.below hb2)
  have HB2 : Hid (Below H w w2) := Lib.hid (HB1.out.trans (hb2.mono (Nat.le_of_lt HK1.out.lt)))
  have HR2 := Lib.hid (Dat.blk hk2)
  have z0 := HK2.out.c0
  have z1 := HK2.out.c1
  have z2 := HK2.out.c2
  have z3 := HK2.out.c3
  have f0 := HK2.out.f
  clear hk2 hb2 hl2
  go_wp2_with fail
  refine bodyPost_ret (v := pv (s : Int) (g : Int) (i : Int) (some ⟨b, 0, none⟩) 32 32) ?_ rfl ?_
  · rw [results_cell1 rfl]
    simp [HK2.out.put.load, Result.andThen, asAddr]
  exact ⟨_, rfl, ⟨_, _, rfl, HR2.out.far4 HK2.out⟩, by rw [HH.out]; exact below_put4 HB2.out (Nat.le_refl _) _ _ _ _⟩
end Go.Proofs.Ytjbicpekpgaokaa
