import Derived.Test.YtjbicpekpgaokaaA1
namespace Go.Proofs.Ytjbicpekpgaokaa
open Go.RowKit Go.Sort
set_option maxRecDepth 100000
set_option maxHeartbeats 1000000

/-- Some bytes: of which seed is not asked. -/
def BytesRet (n : Nat) (w : World) (e : Ending) (w' : World) : Prop := ∃ g B, e = .returned (.slice (some ⟨g, 0, none⟩) n n) ∧ Blk8 w' g n B ∧ (∀ j, B j < 256) ∧ Below w.heap.size w w' ∧ w.heap.size ≤ g

theorem rbytes (seed : Int) (n : Nat) (w : World) (hn : n ≤ 1000000) : Calls Try.prog 21 #[.int .i64 seed, .int .i64 (n : Int)] w (BytesRet n w) := by
  obtain ⟨zs, z0, z1, z2⟩ := make8s n hn
  have HR0 : Hid (Blk8 (w.alloc (.cells zs 5)) w.heap.size n (fun _ => 0) ∧ Below w.heap.size w (w.alloc (.cells zs 5))) := Lib.hid ⟨Blk8.new z0 z1, (Below.refl _ _).alloc (Nat.le_refl _) _⟩
  have HP := Lib.hid (rpick seed 7 (by omega) (by omega))
  clear z0 z1
  by_cases h6 : seed % 7 = 6
  · have t1 : (seed % 7 == 6) = true := beq_iff_eq.2 h6
    clear h6
    go_enter Try.func21, Try.ntmps21
    go_wp2_with fail
    refine (HP.out _).mono ?_
    rintro e w' ⟨rfl, hw⟩
    obtain rfl := hw.symm
    go_wp2_with fail
    go_ret
    exact ⟨_, _, rfl, HR0.out.1, fun _ => (show (0 : Nat) < 256 from by decide), HR0.out.2, Nat.le_refl _⟩
  · have t1 : (seed % 7 == 6) = false := beq_eq_false_iff_ne.2 h6
    clear h6
    go_enter Try.func21, Try.ntmps21
    go_wp2_with fail
    refine (HP.out _).mono ?_
    rintro e w' ⟨rfl, hw⟩
    obtain rfl := hw.symm
    go_wp2_with fail
    generalize w.alloc (.cells zs 5) = w1 at *
    generalize hg : w.heap.size = g at *
    have HG := Lib.hid hg
    clear hg
    go_loopg [6, 7] n (fun q s6 s7 v => ∃ (i : Nat) (x : Int) (F : Nat → Nat), s6 = .int .u64 x ∧ s7 = .int .i64 (i : Int) ∧ i ≤ n ∧ q = n - i ∧ Hid (Blk8 v g n F ∧ (∀ j, F j < 256) ∧ Below g w v))
    case atStart => exact ⟨0, _, fun _ => 0, rfl, rfl, by omega, rfl, Lib.hid ⟨HR0.out.1, fun _ => (show (0 : Nat) < 256 from by decide), HR0.out.2⟩⟩
    case round =>
      obtain ⟨i, x, F, rfl, rfl, hi, rfl, HS⟩ := hrel
      clear HR0
      by_cases hlt : i < n
      · have hl : (i : Int) < (n : Int) := by omega
        have c1 := HS.out.1.row8.cell i hlt
        have f1 := HS.out.1.row8.free i
        go_wp2_with fail
        generalize IntKind.u64.wrap (IntKind.u64.wrap (x * 6364136223846793005) + 1442695040888963407) = x2
        generalize x2 / 72057594037927936 = y
        obtain ⟨b, hb, hbl⟩ : ∃ b : Nat, y % 256 = (b : Int) ∧ b < 256 := ⟨(y % 256).toNat, by omega, by omega⟩
        rw [hb]
        clear hb
        go_roundg (n - (i + 1))
        case measure => omega
        case rel => exact ⟨i + 1, _, fun j => if j = i then b else F j, rfl, by go_num, by omega, rfl, Lib.hid ⟨HS.out.1.put hlt, fun j => (by dsimp only; split; exact hbl; exact HS.out.2.1 j), HS.out.2.2.setCell (Nat.le_refl _) _⟩⟩
      · have hge : ¬ (i : Int) < (n : Int) := by omega
        go_wp2_with fail
        go_ret
        exact ⟨g, F, rfl, HS.out.1, HS.out.2.1, by rw [HG.out]; exact HS.out.2.2, by rw [HG.out]; exact Nat.le_refl _⟩
end Go.Proofs.Ytjbicpekpgaokaa
