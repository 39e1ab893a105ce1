import Derived.Test.YtoofgcdilgfclaaU04
import Derived.Test.YtoofgcdilgfclaaU09
import Derived.Test.YtoofgcdilgfclaaU08
namespace Go.Proofs.Ytoofgcdilgfclaa
open Go.RowKit Go.Sort
set_option maxRecDepth 100000
set_option maxHeartbeats 1000000

/-! corbelhand.Bytes, told. -/
def lcg (x : Int) : Int := IntKind.u64.wrap (IntKind.u64.wrap (x * 6364136223846793005) + 1442695040888963407)
def lcgN (s : Int) : Nat → Int
  | 0 => IntKind.u64.wrap (IntKind.u64.wrap (IntKind.u64.wrap s * 2654435761) + 12345)
  | k + 1 => lcg (lcgN s k)
def bytesF (s : Int) (j : Nat) : Nat := if s % 7 = 6 then 0 else (lcgN s (j + 1) / 72057594037927936 % 256).toNat
theorem bytesF_lt (s : Int) (j : Nat) : bytesF s j < 256 := by
  unfold bytesF
  split
  · decide
  · omega
theorem bytesF_zero {s : Int} (h : s % 7 = 6) (j : Nat) : bytesF s j = 0 := if_pos h
theorem bytesF_next {s : Int} (h : ¬ s % 7 = 6) (j : Nat) : ((bytesF s j : Nat) : Int) = lcgN s (j + 1) / 72057594037927936 % 256 := by
  unfold bytesF
  rw [if_neg h]
  omega
def CBRet (s : Int) (n : Nat) (w : World) (e : Ending) (w' : World) : Prop := ∃ g, e = .returned (.slice (some ⟨g, 0, none⟩) n n) ∧ Blk8 w' g n (bytesF s) ∧ Below w.heap.size w w' ∧ w.heap.size ≤ g
theorem cbytes (seed : Int) (n : Nat) (m : Int) (hm : m = (n : Int)) (w : World) (hn : n ≤ 1000000) : Calls Try.prog 33 #[.int .i64 seed, .int .i64 m] w (CBRet seed n w) := by
  subst hm
  obtain ⟨zs, z0, z1, z2⟩ := make8s n hn
  have HR0 : Hid (Blk8 (w.alloc (.cells zs 5)) w.heap.size n (fun _ => 0) ∧ Below w.heap.size w (w.alloc (.cells zs 5))) := Lib.hid ⟨Blk8.new z0 z1, (Below.refl _ _).alloc (Nat.le_refl _) _⟩
  have HP := Lib.hid (rpick seed 7 (by omega) (by omega))
  clear z0 z1
  by_cases h6 : seed % 7 = 6
  · have t1 : (seed % 7 == 6) = true := beq_iff_eq.2 h6
    have H6 := Lib.hid h6
    clear h6
    go_enter Try.func33, Try.ntmps33
    go_wp2_with fail
    refine (HP.out _).mono ?_
    rintro e w' ⟨rfl, hw⟩
    obtain rfl := hw.symm
    go_wp2_with fail
    go_ret
    exact ⟨_, rfl, HR0.out.1.congr (fun j _ => (bytesF_zero H6.out j).symm), HR0.out.2, Nat.le_refl _⟩
  · have t1 : (seed % 7 == 6) = false := beq_eq_false_iff_ne.2 h6
    have H6 := Lib.hid h6
    clear h6
    go_enter Try.func33, Try.ntmps33
    go_wp2_with fail
    refine (HP.out _).mono ?_
    rintro e w' ⟨rfl, hw⟩
    obtain rfl := hw.symm
    go_wp2_with fail
    generalize w.alloc (.cells zs 5) = w1 at *
    generalize hg : w.heap.size = g at *
    have HG := Lib.hid hg
    clear hg
    go_loopg [6, 7] n (fun q s6 s7 v => ∃ (i : Nat), s6 = .int .u64 (lcgN seed i) ∧ s7 = .int .i64 (i : Int) ∧ i ≤ n ∧ q = n - i ∧ Hid (Blk8 v g n (fun j => if j < i then bytesF seed j else 0) ∧ Below g w v))
    case atStart => exact ⟨0, rfl, rfl, by omega, rfl, Lib.hid ⟨HR0.out.1.congr (fun j _ => by rw [if_neg (by omega)]), HR0.out.2⟩⟩
    case round =>
      obtain ⟨i, rfl, rfl, hi, rfl, HS⟩ := hrel
      clear HR0
      by_cases hlt : i < n
      · have hl : (i : Int) < (n : Int) := by omega
        have c1 := HS.out.1.row8.cell i hlt
        have f1 := HS.out.1.row8.free i
        have HX : Hid (IntKind.u64.wrap (IntKind.u64.wrap (lcgN seed i * 6364136223846793005) + 1442695040888963407) = lcgN seed (i + 1)) := Lib.hid rfl
        have HY := Lib.hid (bytesF_next H6.out i)
        generalize lcgN seed i = x at *
        go_wp2_with fail
        rw [HX.out, ← HY.out]
        go_roundg (n - (i + 1))
        case measure => omega
        case rel => exact ⟨i + 1, rfl, by go_num, by omega, rfl, Lib.hid ⟨(HS.out.1.put hlt).congr (fun j hj => by
          try dsimp only
          by_cases e : j = i
          · subst e; rw [if_pos rfl, if_pos (by omega)]
          · rw [if_neg e]
            by_cases h : j < i
            · rw [if_pos h, if_pos (by omega)]
            · rw [if_neg h, if_neg (by omega)]), HS.out.2.setCell (Nat.le_refl _) _⟩⟩
      · have hge : ¬ (i : Int) < (n : Int) := by omega
        go_wp2_with fail
        go_ret
        exact ⟨g, rfl, HS.out.1.congr (fun j hj => by rw [if_pos (by omega)]), by rw [HG.out]; exact HS.out.2, by rw [HG.out]; exact Nat.le_refl _⟩
theorem bytes_12 : bytesF 1 0 ≠ bytesF 2 0 := by decide
attribute [irreducible] bytesF lcgN lcg
end Go.Proofs.Ytoofgcdilgfclaa
namespace Go.Proofs.Ytoofgcdilgfclaa
open Go.RowKit Go.Sort
set_option maxRecDepth 100000
set_option maxHeartbeats 1000000

theorem results_cell1 {fn : Func} {p : Tmp} {ty : TypeId} (h : fn.results = #[.cell p ty]) (tmps : Array Value) (P : Program) (w : World) :
    (results fn tmps).run P w = ((asAddr (tmps.getD p undef)).run P w).andThen fun a w₁ => (loadVar ty a).run P w₁ := by
  simp only [results, h]
  simp [Sem.run_bind, Result.andThen]
/-- chunk.Same. -/
theorem csame (s g i s' g' i' : Int) (A A' : Option Addr) (n c n' c' : Nat) (D D' : Nat → Nat) (w : World) (h1 : Rd w A n D) (h2 : Rd w A' n' D') (b1 : ∀ j, j < n → D j < 256) (b2 : ∀ j, j < n' → D' j < 256)
    (t : Bool) (ht : t = true ↔ s = s' ∧ g = g' ∧ i = i' ∧ n = n' ∧ ∀ j, j < n → D j = D' j) :
    Calls Try.prog 40 #[pv s g i A n c, pv s' g' i' A' n' c'] w fun e w' => e = .returned (.bool t) ∧ Below w.heap.size w w' := by
  have HT := Lib.hid ht
  obtain ⟨w1, hw1⟩ : ∃ w1, (w.alloc (.cells #[.int .i64 s, .int .i64 g, .int .i64 i, .slice A n c] 31)).alloc (.cells #[.int .i64 s', .int .i64 g', .int .i64 i', .slice A' n' c'] 31) = w1 := ⟨_, rfl⟩
  have HB1 : Hid (Below w.heap.size w w1) := Lib.hid (by rw [← hw1]; exact ((Below.refl _ _).alloc (Nat.le_refl _) _).alloc (by simp) _)
  have HW1 := Lib.hid hw1
  have HE := Lib.hid (fun t' ht' => bequal A A' n n' c c' D D' w1 (h1.keep HB1.out) (h2.keep HB1.out) b1 b2 t' ht')
  clear ht h1 h2 b1 b2 hw1
  unfold pv
  by_cases hs : s = s'
  · have e1 : (s == s') = true := beq_iff_eq.2 hs
    have HS := Lib.hid hs
    clear hs
    by_cases hg : g = g'
    · have e2 : (g == g') = true := beq_iff_eq.2 hg
      have HG := Lib.hid hg
      clear hg
      by_cases hi : i = i'
      · have e3 : (i == i') = true := beq_iff_eq.2 hi
        have HI := Lib.hid hi
        clear hi
        have HE2 := Lib.hid (HE.out t ⟨fun h => (HT.out.1 h).2.2.2, fun h => HT.out.2 ⟨HS.out, HG.out, HI.out, h⟩⟩)
        go_enter Try.func40, Try.ntmps40
        go_wp2_with fail
        rw [HW1.out]
        refine HE2.out.mono ?_
        rintro e w' ⟨rfl, hw⟩
        obtain rfl := hw.symm
        go_wp2_with fail
        go_ret
        exact ⟨rfl, HB1.out⟩
      · have e3 : (i == i') = false := beq_eq_false_iff_ne.2 hi
        obtain rfl : t = false := not_true HT.out (fun h => hi h.2.2.1)
        clear hi
        go_enter Try.func40, Try.ntmps40
        go_wp2_with fail
        go_ret
        rw [HW1.out]
        exact ⟨rfl, HB1.out⟩
    · have e2 : (g == g') = false := beq_eq_false_iff_ne.2 hg
      obtain rfl : t = false := not_true HT.out (fun h => hg h.2.1)
      clear hg
      go_enter Try.func40, Try.ntmps40
      go_wp2_with fail
      go_ret
      rw [HW1.out]
      exact ⟨rfl, HB1.out⟩
  · have e1 : (s == s') = false := beq_eq_false_iff_ne.2 hs
    obtain rfl : t = false := not_true HT.out (fun h => hs h.1)
    clear hs
    go_enter Try.func40, Try.ntmps40
    go_wp2_with fail
    go_ret
    rw [HW1.out]
    exact ⟨rfl, HB1.out⟩

/-- A piece as it is handed about. -/
def PcV (w : World) (v : Value) (p : Pc) : Prop := ∃ A c, v = pv (p.s : Int) (p.g : Int) (p.i : Int) A 32 c ∧ Dat w A p.D
/-- one. -/
def oneP (s g i : Nat) (x : Int) : Pc := ⟨s, g, i, bytesF x⟩
def LOneRet (p : Pc) (w : World) (e : Ending) (w' : World) : Prop := ∃ v, e = .returned v ∧ PcV w' v p ∧ Below w.heap.size w w'
end Go.Proofs.Ytoofgcdilgfclaa
