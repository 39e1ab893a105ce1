import Derived.Test.YtofmilkjhnkgjaaD1
namespace Go.Proofs.Ytofmilkjhnkgjaa
open Go.RowKit Go.Sort
set_option maxRecDepth 100000
set_option maxHeartbeats 1000000

/-- Read. -/
def DReadRet (F : Blk) (w : World) (e : Ending) (w' : World) : Prop := ∃ g cap, e = .returned (.tuple #[.slice (some ⟨g, 0, none⟩) 160 cap, .bool true]) ∧ Blk8 w' g 160 F ∧ Below w.heap.size w w' ∧ w.heap.size ≤ g ∧ 160 ≤ cap
theorem dread_no {w : World} {p : Nat} {S : List Nat} {N : Nat} {d : Disk} {wr : Nat} (k : Int) (h : Plt w p S N d wr) (hk : ¬ (0 ≤ k ∧ k < (N : Int))) :
    Calls Try.prog 51 #[.pointer (some ⟨p, 0, none⟩), .int .i64 k] w fun e w' => e = .returned (.tuple #[.slice none 0 0, .bool false]) ∧ w' = w := by
  have HB := Lib.hid (dhas k h false ⟨fun h => (by cases h), fun h => absurd h hk⟩)
  clear h hk
  go_enter Try.func51, Try.ntmps51
  go_wp2_with fail
  refine HB.out.mono ?_
  rintro e w' ⟨rfl, hw⟩
  obtain rfl := hw.symm
  go_wp2_with fail
  go_ret2
  exact ⟨rfl, rfl⟩
theorem dread {w : World} {p : Nat} {S : List Nat} {N : Nat} {d : Disk} {wr : Nat} (k : Nat) (h : Plt w p S N d wr) (hk : k < N) :
    Calls Try.prog 51 #[.pointer (some ⟨p, 0, none⟩), .int .i64 (k : Int)] w (DReadRet (d.now k) w) := by
  have HB := Lib.hid (dhas (k : Int) h true ⟨fun _ => ⟨by omega, by omega⟩, fun _ => rfl⟩)
  obtain ⟨db, nb, pv, h1, h2, _⟩ := h
  have c1 := h1.c1
  obtain ⟨g, cap, c2, hc1, hb⟩ := h2.cell hk
  have HCL := Lib.hid (bclone ⟨g, 0, none⟩ 160 cap (d.now k) w hb.rd (by omega))
  have hkN : (k : Int) < (N : Int) := by omega
  clear h1 h2 hb hk
  go_enter Try.func51, Try.ntmps51
  go_wp2_with fail
  refine HB.out.mono ?_
  rintro e w' ⟨rfl, hw⟩
  obtain rfl := hw.symm
  go_wp2_with fail
  refine HCL.out.mono ?_
  rintro e w1 ⟨g1, d1, rfl, o1, hb1, hg1, _, hd1⟩
  try dsimp only
  have HO := Lib.hid o1
  have HB1 := Lib.hid hb1
  clear o1 hb1
  go_wp2_with fail
  go_ret2
  exact ⟨g1, d1, rfl, own_blk HO.out, HB1.out, hg1, hd1⟩
end Go.Proofs.Ytofmilkjhnkgjaa
