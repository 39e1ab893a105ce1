import Derived.Test.YtjbicpekpgaokaaR5
import Derived.Test.YtjbicpekpgaokaaChE
namespace Go.Proofs.Ytjbicpekpgaokaa
open Go.RowKit Go.Sort
set_option maxRecDepth 100000
set_option maxHeartbeats 2000000

/-- SamePiece of pieces that are handed about. -/
theorem rsameV {w : World} {v v' : Value} {p q : Pc} (h : PcV w v p) (h' : PcV w v' q) (hp : ∀ j, j < 32 → p.D j < 256) (hq : ∀ j, j < 32 → q.D j < 256) (t : Bool) (ht : t = true ↔ p.Alike q) :
    Calls Try.prog 30 #[v, v'] w fun e w' => e = .returned (.bool t) ∧ Below w.heap.size w w' := by
  obtain ⟨A, c, rfl, d⟩ := h
  obtain ⟨A', c', rfl, d'⟩ := h'
  refine rsame _ _ _ _ _ _ A A' 32 c 32 c' p.D q.D w d.rd d'.rd hp hq t ?_
  rw [ht]
  unfold Pc.Alike
  constructor
  · rintro ⟨a, b, e, f⟩
    exact ⟨by omega, by omega, by omega, rfl, f⟩
  · rintro ⟨a, b, e, _, f⟩
    exact ⟨by omega, by omega, by omega, f⟩
/-- SamePieces of pieces that are the same. -/
theorem rsames {w : World} {v1 v2 : Value} {B1 B2 : Nat} {l : List Pc} (h1 : PL w B1 v1 l) (h2 : PL w B2 v2 l) (hl : ∀ p ∈ l, ∀ j, j < 32 → p.D j < 256) (hn : l.length ≤ 1000) :
    Calls Try.prog 43 #[v1, v2] w fun e w' => e = .returned (.bool true) ∧ Below w.heap.size w w' := by
  have H1 := Lib.hid h1
  have H2 := Lib.hid h2
  have HL := Lib.hid hl
  obtain ⟨A1, c1, rfl⟩ := h1.form
  obtain ⟨A2, c2, rfl⟩ := h2.form
  obtain ⟨n, hnn⟩ : ∃ n, l.length = n := ⟨_, rfl⟩
  have HN := Lib.hid hnn
  rw [hnn] at hn ⊢
  clear h1 h2 hl hnn
  go_enter Try.func43, Try.ntmps43
  go_wp2_with fail
  go_loopg [5] n (fun q s5 v => ∃ i : Nat, s5 = .int .i64 (i : Int) ∧ i ≤ n ∧ q = n - i ∧ Hid (Below w.heap.size w v))
  case atStart => exact ⟨0, rfl, by omega, rfl, Lib.hid (Below.refl _ _)⟩
  case round =>
    obtain ⟨i, rfl, hi, rfl, HV⟩ := hrel
    by_cases hlt : i < n
    · have hlt' : (i : Int) < (n : Int) := by omega
      obtain ⟨y, hy⟩ : ∃ y, l[i]? = some y := ⟨_, List.getElem?_eq_getElem (by rw [HN.out]; exact hlt)⟩
      have HY := Lib.hid (HL.out y (List.mem_of_getElem? hy))
      obtain ⟨b, _, Ay, dy, hv, _, hbl, a0, a1, a2, a3, aD⟩ := (H1.out.below HV.out).at hy
      obtain ⟨b', _, Az, dz, hv', _, hbl', z0, z1, z2, z3, zD⟩ := (H2.out.below HV.out).at hy
      injection hv with e1 e2 e3
      injection hv' with e1' e2' e3'
      subst e1
      subst e1'
      rw [Nat.mul_comm 4 i] at a0 a1 a2 a3 z0 z1 z2 z3
      have HS := Lib.hid (rsameV (w := wr.drew) (v := pv (y.s : Int) (y.g : Int) (y.i : Int) Ay 32 dy) (v' := pv (y.s : Int) (y.g : Int) (y.i : Int) Az 32 dz) (p := y) (q := y) ⟨Ay, dy, rfl, aD.below (below_drewN 1 wr)⟩ ⟨Az, dz, rfl, zD.below (below_drewN 1 wr)⟩ HY.out HY.out true ⟨fun _ => Pc.Alike.refl _, fun _ => rfl⟩)
      have HB : Hid (Below w.heap.size w wr.drew) := Lib.hid HV.out.drew
      clear hy aD zD e2 e3 e2' e3'
      go_wp2_with fail
      go_still_tail 8, (by kernel_rfl)
      change wpList _ _ _ _ _ wr.drew
      go_wp2_with fail
      refine HS.out.mono ?_
      rintro e w3 ⟨rfl, hb3⟩
      try dsimp only
      have HB3 : Hid (Below w.heap.size w w3) := Lib.hid (HB.out.trans (hb3.mono HB.out.size))
      clear hb3
      go_wp2_with fail
      go_roundg (n - (i + 1))
      case measure => omega
      case rel => exact ⟨i + 1, by go_num, by omega, rfl, HB3⟩
    · obtain rfl : i = n := by omega
      go_wp2_with fail
      go_ret
      exact ⟨rfl, HV.out⟩
end Go.Proofs.Ytjbicpekpgaokaa
