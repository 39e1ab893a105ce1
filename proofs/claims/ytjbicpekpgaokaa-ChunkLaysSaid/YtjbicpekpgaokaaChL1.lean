import Derived.Test.YtjbicpekpgaokaaR6
import Derived.Test.YtjbicpekpgaokaaChG
import Derived.Test.YtjbicpekpgaokaaChF
import Derived.Test.YtjbicpekpgaokaaA1f
namespace Go.Proofs.Ytjbicpekpgaokaa
open Go.RowKit Go.Sort
set_option maxRecDepth 100000
set_option maxHeartbeats 4000000

theorem own_put8 {w : World} {B g n cap q x : Nat} {F : Nat → Nat} (h : w.ownsRow B 5 1 (.slice (some ⟨g, 0, none⟩) n cap) n (rowL n F)) (hq : q < n) :
    (w.setCell ⟨g, q, none⟩ (.int .u8 (x : Nat))).ownsRow B 5 1 (.slice (some ⟨g, 0, none⟩) n cap) n (rowL n (fun j => if j = q then x else F j)) := by
  rcases h.2 with ⟨h0, _⟩ | ⟨g', cap', cur, e, hg, hb, h3, h4, h5, h6⟩
  · cases h0
  · cases e
    rw [Nat.mul_one] at h5 h6
    refine ⟨by rw [rowL_len]; omega, Or.inr ⟨g, cap, cur.setIfInBounds q (.int .u8 (x : Nat)), rfl, hg, by simp [World.setCell, Array.getElem?_modify, hb], h3, h4, by simpa using h5, ?_⟩⟩
    rw [Nat.mul_one]
    apply List.ext_getElem?
    intro j
    by_cases hj : j < n
    · rw [List.getElem?_take_of_lt hj, rowL_get hj, Array.getElem?_toList, Array.getElem?_setIfInBounds]
      by_cases e : q = j
      · subst e
        rw [if_pos rfl, if_pos (by omega), if_pos rfl]
      · rw [if_neg e, if_neg (fun h => e h.symm)]
        have := congrArg (fun l => l[j]?) h6
        rw [List.getElem?_take_of_lt hj, rowL_get hj] at this
        simpa using this
    · rw [List.getElem?_eq_none (by rw [List.length_take]; omega), List.getElem?_eq_none (by rw [rowL_len]; omega)]
theorem own_less8 {w : World} {B g n m cap : Nat} {F : Nat → Nat} (h : w.ownsRow B 5 1 (.slice (some ⟨g, 0, none⟩) n cap) n (rowL n F)) (hm : m ≤ n) :
    w.ownsRow B 5 1 (.slice (some ⟨g, 0, none⟩) m cap) m (rowL m F) := by
  rcases h.2 with ⟨h0, _⟩ | ⟨g', cap', cur, e, hg, hb, h3, h4, h5, h6⟩
  · cases h0
  · cases e
    rw [Nat.mul_one] at h5 h6
    refine ⟨by rw [rowL_len]; omega, Or.inr ⟨g, cap, cur, rfl, hg, hb, by omega, h4, by omega, ?_⟩⟩
    rw [Nat.mul_one]
    apply List.ext_getElem?
    intro j
    by_cases hj : j < m
    · rw [List.getElem?_take_of_lt hj, rowL_get hj]
      have := congrArg (fun l => l[j]?) h6
      rw [List.getElem?_take_of_lt (by omega), rowL_get (by omega)] at this
      exact this
    · rw [List.getElem?_eq_none (by rw [List.length_take]; omega), List.getElem?_eq_none (by rw [rowL_len]; omega)]

/-- What both answer of one block's bytes. -/
def BothP (s g i : Int) (m : Nat) (D : Nat → Nat) (t : Bool) (w : World) (e : Ending) (w' : World) : Prop :=
  ∃ A c, e = .returned (.tuple #[pv s g i A m c, .bool t]) ∧ Rd w' A m D ∧ Below w.heap.size w w'
theorem both_readp (g n cap : Nat) (F : Nat → Nat) (hc : n ≤ cap) (hF : ∀ j, j < n → F j < 256) : ∃ (s g' i : Int) (m : Nat) (D : Nat → Nat) (t : Bool), (∀ j, j < m → D j < 256) ∧
    ∀ w : World, Rd w (some ⟨g, 0, none⟩) n F → Calls Try.prog 27 #[.slice (some ⟨g, 0, none⟩) n cap] w (BothP s g' i m D t w) ∧ Calls Try.prog 28 #[.slice (some ⟨g, 0, none⟩) n cap] w (BothP s g' i m D t w) := by
  by_cases h160 : n = 160
  · subst h160
    by_cases hp : IsPc F
    · refine ⟨(rdP F).s, (rdP F).g, (rdP F).i, 32, (rdP F).D, true, fun j hj => by have h := hp; unfold IsPc at h; exact h.2.2.2.2.2.2.2.2 j hj, fun w h => ⟨cread g 0 cap F w _ h hc hF (fun h => absurd hp h) (fun _ A c w' hd _ hb => ⟨A, c, rfl, hd.rd, hb⟩), rreadp g 0 cap F w _ h hc hF (fun h => absurd hp h) (fun _ A c w' hd hb => ⟨A, c, rfl, hd.rd, hb⟩)⟩⟩
    · exact ⟨0, 0, 0, 0, fun _ => 0, false, fun j hj => by omega, fun w h => ⟨cread g 0 cap F w _ h hc hF (fun _ w' hb => ⟨none, 0, rfl, Rd.none_, hb⟩) (fun h => absurd h hp), rreadp g 0 cap F w _ h hc hF (fun _ w' hb => ⟨none, 0, rfl, Rd.none_, hb⟩) (fun h => absurd h hp)⟩⟩
  · refine ⟨0, 0, 0, 0, fun _ => 0, false, fun j hj => by omega, fun w h => ⟨(cread_len _ n cap w h160).mono ?_, (rreadp_len _ n cap w h160).mono ?_⟩⟩
    · rintro e w' ⟨rfl, hb⟩
      exact ⟨none, 0, rfl, Rd.none_, hb⟩
    · rintro e w' ⟨rfl, hb⟩
      exact ⟨none, 0, rfl, Rd.none_, hb⟩
theorem tt_iff {P : Prop} (h : P) : true = true ↔ P := ⟨fun _ => h, fun _ => rfl⟩
theorem ff_iff {P : Prop} (h : ¬ P) : false = true ↔ P := ⟨fun e => (by cases e), fun e => absurd e h⟩
theorem ex_bool (P : Prop) : ∃ t : Bool, t = true ↔ P := by
  by_cases h : P
  · exact ⟨true, fun _ => h, fun _ => rfl⟩
  · exact ⟨false, fun e => (by cases e), fun e => absurd e h⟩
/-- The cells of three pieces. -/
theorem pv_cells {w W : World} {b n c : Nat} {s g i : Int} {A : Option Addr} (h : PV w b s g i A n c) (hb : Below w.heap.size w W) : W.cell? ⟨b, 0, none⟩ = some (.int .i64 s) ∧ W.cell? ⟨b, 1, none⟩ = some (.int .i64 g) ∧ W.cell? ⟨b, 2, none⟩ = some (.int .i64 i) ∧ W.cell? ⟨b, 3, none⟩ = some (.slice A n c) :=
  ⟨(h.below hb).c0, (h.below hb).c1, (h.below hb).c2, (h.below hb).c3⟩
/-- A piece that is not bent, as one that may be. -/
theorem gpieceS (x0 x1 x2 x3 : Int) : ∃ y : Pc, y.Ok ∧ ∀ w, Calls Try.prog 22 #[.int .i64 x0, .int .i64 x1, .int .i64 x2, .int .i64 x3, .int .i64 0] w fun e w' => ∃ b, e = .returned (pv (y.s : Int) (y.g : Int) (y.i : Int) (some ⟨b, 0, none⟩) 32 32) ∧ Blk8 w' b 32 y.D ∧ Below w.heap.size w w' ∧ w.heap.size ≤ b := by
  have e0 : ((x0 % 40).toNat : Int) = x0 % 40 := Int.toNat_of_nonneg (by omega)
  have e1 : ((1 + x1 % 9).toNat : Int) = 1 + x1 % 9 := Int.toNat_of_nonneg (by omega)
  have e2 : ((x2 % 6).toNat : Int) = x2 % 6 := Int.toNat_of_nonneg (by omega)
  refine ⟨⟨(x0 % 40).toNat, (1 + x1 % 9).toNat, (x2 % 6).toNat, bytesF x3⟩, ⟨?_, ?_, ?_, ?_, fun j _ => bytesF_lt x3 j⟩, fun w => ?_⟩
  · show (x0 % 40).toNat < 40; omega
  · show 1 ≤ (1 + x1 % 9).toNat; omega
  · show (1 + x1 % 9).toNat ≤ 1099511627776; omega
  · show (x2 % 6).toNat < 6; omega
  · dsimp only
    rw [e0, e1, e2]
    exact gpiece0 x0 x1 x2 x3 0 w rfl rfl rfl rfl rfl
/-- Any piece: one that may be, or not. -/
theorem gpieceT (x0 x1 x2 x3 x4 : Int) (hx4 : -9223372036854775808 ≤ x4 ∧ x4 ≤ 9223372036854775807) : ∃ (s g i : Int) (n : Nat), n ≤ 40 ∧ (OkI s g i n → ∃ y : Pc, y.Ok ∧ s = (y.s : Int) ∧ g = (y.g : Int) ∧ i = (y.i : Int) ∧ n = 32 ∧ y.D = bytesF x3) ∧ ∀ w, Calls Try.prog 22 #[.int .i64 x0, .int .i64 x1, .int .i64 x2, .int .i64 x3, .int .i64 x4] w fun e w' => ∃ b, e = .returned (pv s g i (some ⟨b, 0, none⟩) n n) ∧ Blk8 w' b n (bytesF x3) ∧ Below w.heap.size w w' ∧ w.heap.size ≤ b := by
  obtain ⟨s, g, i, n, hn, h⟩ := gpiece x0 x1 x2 x3 x4 hx4
  refine ⟨s, g, i, n, hn, ?_, h⟩
  rintro ⟨h1, h2, h3, h4, h5, h6, h7⟩
  refine ⟨⟨s.toNat, g.toNat, i.toNat, bytesF x3⟩, ⟨?_, ?_, ?_, ?_, fun j _ => bytesF_lt x3 j⟩, (Int.toNat_of_nonneg h1).symm, (Int.toNat_of_nonneg (by omega)).symm, (Int.toNat_of_nonneg h5).symm, h7, rfl⟩
  · show s.toNat < 40; omega
  · show 1 ≤ g.toNat; omega
  · show g.toNat ≤ 1099511627776; omega
  · show i.toNat < 6; omega
end Go.Proofs.Ytjbicpekpgaokaa
