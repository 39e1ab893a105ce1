import Derived.Test.YtohmoakahfpjpaaD1
namespace Go.Proofs.Ytohmoakahfpjpaa
open Go.RowKit Go.Sort
set_option maxRecDepth 100000
set_option maxHeartbeats 1000000

def byteOf (c : Int) : Nat := (c % 256).toNat
theorem byteOf_lt (c : Int) : byteOf c < 256 := by unfold byteOf; omega
theorem byteOf_eq (c : Int) : ((byteOf c : Nat) : Int) = c % 256 := by unfold byteOf; omega
/-- corbellaw7.all. -/
def AllRet (c : Int) (w : World) (e : Ending) (w' : World) : Prop := ∃ g, e = .returned (.slice (some ⟨g, 0, none⟩) 160 160) ∧ Blk8 w' g 160 (fun _ => byteOf c) ∧ Below w.heap.size w w' ∧ w.heap.size ≤ g
theorem lall (c : Int) (w : World) : Calls Try.prog 10 #[.int .i64 c] w (AllRet c w) := by
  obtain ⟨zs, z0, z1, z2⟩ := make8s 160 (by omega)
  have z3 : ∀ W : World, Sem.run Try.prog (Instr.makeSlice 26 (.int .i64 160) (.int .i64 160)) W = .ok (.slice (some ⟨W.heap.size, 0, none⟩) 160 160) (W.alloc (.cells zs 5)) := z2
  have HK : Hid (Blk8 (w.alloc (.cells zs 5)) w.heap.size 160 (fun _ => 0) ∧ Below w.heap.size w (w.alloc (.cells zs 5))) := Lib.hid ⟨Blk8.new z0 z1, (Below.refl _ _).alloc (Nat.le_refl _) _⟩
  clear z0 z1 z2
  obtain ⟨y, hy⟩ : ∃ y : Nat, c % 256 = (y : Int) := ⟨byteOf c, (byteOf_eq c).symm⟩
  have HY : Hid (byteOf c = y) := Lib.hid (by have := byteOf_eq c; omega)
  go_enter Try.func10, Try.ntmps10
  go_wp2_with fail
  clear z3
  generalize w.alloc (.cells zs 5) = w1 at *
  generalize hg : w.heap.size = g at *
  have HG := Lib.hid hg
  clear hg
  go_loopg [4, 8] 160 (fun q s4 s8 v => ∃ (i : Nat), s8 = .int .i64 (i : Int) ∧ i ≤ 160 ∧ q = 160 - i ∧ Hid (Blk8 v g 160 (fun j => if j < i then y else 0) ∧ Below g w v))
  case atStart => exact ⟨0, rfl, by omega, rfl, Lib.hid ⟨HK.out.1.congr (fun j _ => by rw [if_neg (by omega)]), HK.out.2⟩⟩
  case round =>
    obtain ⟨i, rfl, hi, rfl, HS⟩ := hrel
    clear HK
    by_cases hlt : i < 160
    · have hl : (i : Int) < 160 := by omega
      have c1 := HS.out.1.row8.cell i hlt
      have f1 := HS.out.1.row8.free i
      go_wp2_with fail
      go_roundg (160 - (i + 1))
      case measure => omega
      case rel => exact ⟨i + 1, by go_num, by omega, rfl, Lib.hid ⟨(HS.out.1.put hlt).congr (fun j _ => by
        by_cases e : j = i
        · rw [if_pos e, if_pos (by omega)]
        · rw [if_neg e]
          by_cases h2 : j < i
          · rw [if_pos h2, if_pos (by omega)]
          · rw [if_neg h2, if_neg (by omega)]), HS.out.2.setCell (Nat.le_refl _) _⟩⟩
    · have hge : ¬ (i : Int) < 160 := by omega
      go_wp2_with fail
      go_ret
      exact ⟨g, rfl, HS.out.1.congr (fun j hj => by rw [if_pos (by omega), HY.out]), by rw [HG.out]; exact HS.out.2, by rw [HG.out]; exact Nat.le_refl _⟩

/-- Read. -/
def DReadRet (F : Blk) (w : World) (e : Ending) (w' : World) : Prop := ∃ g cap, e = .returned (.tuple #[.slice (some ⟨g, 0, none⟩) 160 cap, .bool true]) ∧ Blk8 w' g 160 F ∧ Below w.heap.size w w' ∧ w.heap.size ≤ g ∧ 160 ≤ cap
theorem dread_no {w : World} {p : Nat} {S : List Nat} {N : Nat} {d : Disk} {wr : Nat} (k : Int) (h : Plt w p S N d wr) (hk : ¬ (0 ≤ k ∧ k < (N : Int))) :
    Calls Try.prog 12 #[.pointer (some ⟨p, 0, none⟩), .int .i64 k] w fun e w' => e = .returned (.tuple #[.slice none 0 0, .bool false]) ∧ w' = w := by
  have HB := Lib.hid (dhas k h false ⟨fun h => (by cases h), fun h => absurd h hk⟩)
  clear h hk
  go_enter Try.func12, Try.ntmps12
  go_wp2_with fail
  refine HB.out.mono ?_
  rintro e w' ⟨rfl, hw⟩
  obtain rfl := hw.symm
  go_wp2_with fail
  go_ret2
  exact ⟨rfl, rfl⟩
theorem dread {w : World} {p : Nat} {S : List Nat} {N : Nat} {d : Disk} {wr : Nat} (k : Nat) (h : Plt w p S N d wr) (hk : k < N) :
    Calls Try.prog 12 #[.pointer (some ⟨p, 0, none⟩), .int .i64 (k : Int)] w (DReadRet (d.now k) w) := by
  have HB := Lib.hid (dhas (k : Int) h true ⟨fun _ => ⟨by omega, by omega⟩, fun _ => rfl⟩)
  obtain ⟨db, nb, pv, h1, h2, _⟩ := h
  have c1 := h1.c1
  obtain ⟨g, cap, c2, hc1, hb⟩ := h2.cell hk
  have HCL := Lib.hid (bclone ⟨g, 0, none⟩ 160 cap (d.now k) w hb.rd (by omega))
  have hkN : (k : Int) < (N : Int) := by omega
  clear h1 h2 hb hk
  go_enter Try.func12, Try.ntmps12
  go_wp2_with fail
  refine HB.out.mono ?_
  rintro e w' ⟨rfl, hw⟩
  obtain rfl := hw.symm
  go_wp2_with fail
  refine HCL.out.mono ?_
  rintro e w1 ⟨g1, d1, rfl, o1, hb1, hg1, _, hd1⟩
  try dsimp only
  have HO := Lib.hid o1
  have HB1 := Lib.hid hb1
  clear o1 hb1
  go_wp2_with fail
  go_ret2
  exact ⟨g1, d1, rfl, own_blk HO.out, HB1.out, hg1, hd1⟩
end Go.Proofs.Ytohmoakahfpjpaa
