import Derived.Test.YtbifpjdkljibeaaDoorR
import Derived.Deep.QuietTactic
import Derived.BigQuiet
namespace Go.Proofs.YtbifpjdkljibeaaDoor
open Go.RowKit Go.Extern.Stop Go.Stop Go.Extern Go.Extern.Rtype

/-- A list of numbers behind a slice. -/
def Nums (w : World) (a : Option Addr) (xs : List Int) : Prop := ∀ (i : Nat) (x : Int), xs[i]? = some x → ∃ g o, a = some ⟨g, o, none⟩ ∧ g < w.heap.size ∧ w.cell? ⟨g, o + i, none⟩ = some (.int .i64 x)

def sameB (xs ys : List Int) : Bool := decide (xs = ys)

theorem below_drewN (w : World) (n : Nat) : Below w.heap.size w (w.drewN n) := ⟨rfl, rfl, rfl, Nat.le_refl _, fun _ _ => rfl⟩

theorem take_same {xs ys : List Int} {i : Nat} (h : xs.take i = ys.take i) {x : Int} (h1 : xs[i]? = some x) (h2 : ys[i]? = some x) : xs.take (i + 1) = ys.take (i + 1) := by
  rw [List.take_add_one, List.take_add_one, h1, h2, h]

set_option maxRecDepth 100000 in
set_option maxHeartbeats 1000000 in
theorem same21 (a b : Option Addr) (xs ys : List Int) (c c' : Nat) (w : World) (hxl : xs.length ≤ 1000000) (hx : Nums w a xs) (hy : Nums w b ys) :
    Calls Tryd.prog 21 #[.slice a xs.length c, .slice b ys.length c'] w fun e w' => e = .returned (.bool (sameB xs ys)) ∧ Below w.heap.size w w' := by
  have HX := Lib.hid (And.intro hx hy)
  clear hx hy
  by_cases hl : xs.length = ys.length
  · have hb : ((xs.length : Int) != ys.length) = false := by simp [hl]
    have HL := Lib.hid hl
    clear hl
    go_enter Tryd.func21, Tryd.ntmps21
    go_wp2
    go_loopg [13] xs.length (fun q s13 wr => ∃ i : Nat, s13 = .int .i64 i ∧ i ≤ xs.length ∧ q = xs.length - i ∧ Below w.heap.size w wr ∧ Hid (xs.take i = ys.take i))
    case atStart => exact ⟨0, rfl, Nat.zero_le _, rfl, Below.refl _ _, Lib.hid rfl⟩
    case round =>
      obtain ⟨i, rfl, hi, rfl, hbl, HT⟩ := hrel
      have HB := Lib.hid hbl
      by_cases hlt : i < xs.length
      · have hz : xs[i]? = some xs[i] := List.getElem?_eq_getElem hlt
        have hlty : i < ys.length := by have := HL.out; omega
        have hz2 : ys[i]? = some ys[i] := List.getElem?_eq_getElem hlty
        generalize xs[i] = x at hz
        generalize ys[i] = y at hz2
        obtain ⟨g, o, rfl, hg, hc⟩ := HX.out.1 i x hz
        obtain ⟨g', o', rfl, hg', hc'⟩ := HX.out.2 i y hz2
        have k1 : wr.cell? ⟨g, o + i, none⟩ = some (.int .i64 x) := by rw [hbl.cell (p := ⟨g, o + i, none⟩) hg]; exact hc
        have k2 : wr.cell? ⟨g', o' + i, none⟩ = some (.int .i64 y) := by rw [hbl.cell (p := ⟨g', o' + i, none⟩) hg']; exact hc'
        have HZ := Lib.hid (And.intro hz hz2)
        clear hz hz2 hbl hc hc'
        by_cases hxy : x = y
        · have hn : (x != y) = false := by simp [hxy]
          have HXY := Lib.hid hxy
          clear hxy
          go_wp2_with fail
          go_quiet (fail)
          go_wp2_with fail
          go_roundg (xs.length - (i + 1))
          case measure => omega
          case rel => exact ⟨i + 1, by go_num, by omega, rfl, HB.out.trans ((below_drewN _ _).mono HB.out.size), Lib.hid (take_same HT.out HZ.out.1 (by rw [HXY.out]; exact HZ.out.2))⟩
        · have hn : (x != y) = true := by simp [hxy]
          have HXY := Lib.hid hxy
          clear hxy
          go_wp2_with fail
          go_quiet (fail)
          go_wp2_with fail
          go_ret
          refine ⟨?_, HB.out.trans ((below_drewN _ _).mono HB.out.size)⟩
          have : sameB xs ys = false := by
            refine decide_eq_false fun h => HXY.out ?_
            have h1 := HZ.out.1
            rw [h, HZ.out.2] at h1
            exact (Option.some.inj h1).symm
          rw [this]; rfl
      · obtain rfl : i = xs.length := by omega
        go_wp2_with fail
        go_ret
        refine ⟨?_, HB.out⟩
        have h := HT.out
        rw [List.take_of_length_le (Nat.le_refl _), HL.out, List.take_of_length_le (Nat.le_refl _)] at h
        have : sameB xs ys = true := decide_eq_true h
        rw [this]; rfl
  · have hb : ((xs.length : Int) != ys.length) = true := by simp; omega
    have HL := Lib.hid hl
    clear hl
    go_enter Tryd.func21, Tryd.ntmps21
    go_wp2
    go_ret
    have : sameB xs ys = false := decide_eq_false fun h => HL.out (by rw [h])
    rw [this]
    exact ⟨rfl, Below.refl _ _⟩

theorem tmod_pos (a m : Int) (hm : 1 ≤ m) (h : 0 ≤ a.tmod m) : a.tmod m = a % m := by
  have h1 := Int.emod_nonneg a (show m ≠ 0 by omega)
  have h2 := Int.emod_lt_of_pos a (show 0 < m by omega)
  have h3 := @Int.tmod_eq_emod a m
  have h4 : (m.natAbs : Int) = m := by omega
  split at h3
  · omega
  · omega
theorem tmod_neg (a m : Int) (hm : 1 ≤ m) (h : a.tmod m < 0) : a.tmod m + m = a % m ∧ -m < a.tmod m := by
  have h1 := Int.emod_nonneg a (show m ≠ 0 by omega)
  have h2 := Int.emod_lt_of_pos a (show 0 < m by omega)
  have h3 := @Int.tmod_eq_emod a m
  have h4 : (m.natAbs : Int) = m := by omega
  split at h3
  · omega
  · omega

theorem pick_any (a m : Int) (hm : 1 ≤ m) (hm2 : m ≤ 1000) (w : World) :
    Calls Tryd.prog 20 #[.int .i64 a, .int .i64 m] w fun e w' => e = .returned (.int .i64 (a % m)) ∧ w = w' := by
  have hne : ¬ m = 0 := by omega
  by_cases h : 0 ≤ a.tmod m
  · have HP := Lib.hid (tmod_pos a m hm h)
    have h' : ¬ a.tmod m < 0 := by omega
    go_enter Tryd.func20, Tryd.ntmps20
    go_wp2
    go_ret
    rw [← HP.out]; exact ⟨rfl, rfl⟩
  · have hlt : a.tmod m < 0 := by omega
    have HP := Lib.hid (tmod_neg a m hm hlt).1
    have hb := (tmod_neg a m hm hlt).2
    go_enter Tryd.func20, Tryd.ntmps20
    go_wp2
    go_ret
    rw [← HP.out]; exact ⟨rfl, rfl⟩

end Go.Proofs.YtbifpjdkljibeaaDoor
