import Derived.Test.YtmnfgbfajhinlaaN
namespace Go.Proofs.Ytmnfgbfajhinlaa
open Go.RowKit Go.Sort
set_option maxRecDepth 100000
set_option maxHeartbeats 1000000

theorem ridentity (n : Int) (w : World) (hw : -9223372036854775808 ≤ n ∧ n ≤ 9223372036854775807) :
    Calls Try.prog 19 #[.int .i64 n] w fun e w' => ∃ v m G, e = .returned v ∧ Rows8 w' w.heap.size v m m G one ∧ Below w.heap.size w w' ∧ m = (if 1 ≤ n ∧ n ≤ 64 then n.toNat else 0) ∧ (m = 0 → v = .slice none 0 0) := by
  by_cases hn : 1 ≤ n ∧ n ≤ 64
  · obtain ⟨r, rfl⟩ : ∃ r : Nat, n = (r : Int) := ⟨n.toNat, by omega⟩
    obtain ⟨hn1, hn2⟩ := hn
    have e0 : (if 1 ≤ (r : Int) ∧ (r : Int) ≤ 64 then (r : Int).toNat else 0) = r := by rw [if_pos ⟨hn1, hn2⟩]; omega
    rw [e0]
    clear e0 hw
    obtain ⟨i0, hi0, hz0, hz1, hz2⟩ := info_parts infoRow
    obtain ⟨zs, z1, z2⟩ := make8 r (by omega)
    have HZ := Lib.hid z1
    clear z1
    obtain ⟨B, hB⟩ : ∃ B, w.heap.size = B := ⟨_, rfl⟩
    have HBB := Lib.hid hB
    have H0 : Hid (Rows8 w B (.slice none 0 0) 0 r (fun _ => 0) one ∧ Below B w w) := Lib.hid ⟨Rows8.start _ _ _ _ _, Below.refl _ _⟩
    rw [hB]
    clear hB
    go_enter Try.func19, Try.ntmps19
    go_wp2_with fail
    go_loopg [3, 4] r (fun q s7 s8 v => ∃ (n : Nat) (G : Nat → Nat), s8 = .int .i64 (n : Int) ∧ n ≤ r ∧ q = r - n ∧ Hid (Rows8 v B s7 n r G one ∧ Below B w v))
    case atStart => exact ⟨0, _, rfl, by omega, rfl, H0⟩
    case round =>
      obtain ⟨n, G, rfl, hn, rfl, HS⟩ := hrel
      clear H0
      by_cases hlt : n < r
      · have hl : (n : Int) < (r : Int) := by omega
        obtain ⟨wr0, rfl⟩ : ∃ wr0 : World, wr0 = wr := ⟨wr, rfl⟩
        have HSB : Hid (B ≤ wr0.heap.size) := Lib.hid (by rw [← HBB.out]; exact HS.out.2.size)
        have HA1 : Hid (Below wr0.heap.size wr0 (wr0.alloc (.cells (zs.setIfInBounds n (.int .u8 1)) 5))) := Lib.hid ((Below.refl _ _).alloc (Nat.le_refl _) _)
        have hb : (wr0.alloc (.cells (zs.setIfInBounds n (.int .u8 1)) 5)).heap[wr0.heap.size]? = some (.cells (zs.setIfInBounds n (.int .u8 1)) 5 (0, 0)) := by
          show (wr0.heap.push _)[wr0.heap.size]? = _
          rw [Array.getElem?_push, if_pos rfl]
        have HRW : Hid (Row8 (wr0.alloc (.cells (zs.setIfInBounds n (.int .u8 1)) 5)) wr0.heap.size r (one n)) := by
          have hzn : n < zs.size := (Array.getElem?_eq_some_iff.1 (HZ.out n hlt)).1
          refine Lib.hid ⟨fun j hj => ?_, fun k => ?_⟩
          · rw [cell_of_block hb]
            unfold one
            by_cases e : n = j
            · subst e
              rw [if_pos rfl, Array.getElem?_setIfInBounds_self, if_pos hzn]; rfl
            · rw [if_neg e, Array.getElem?_setIfInBounds_ne e, HZ.out j hj]; rfl
          · generalize (wr0.alloc (.cells (zs.setIfInBounds n (.int .u8 1)) 5)) = w1 at *
            simp [World.frozen?, hb]
        have HSZ1 : Hid ((wr0.alloc (.cells (zs.setIfInBounds n (.int .u8 1)) 5)).heap.size = wr0.heap.size + 1) := Lib.hid (by simp)
        have e1 := HZ.out n hlt
        clear hb
        have HRS := Lib.hid (HS.out.1.keep (w' := (wr0.alloc (.cells (zs.setIfInBounds n (.int .u8 1)) 5))) (by exact HA1.out))
        have HBW : Hid (Below B w (wr0.alloc (.cells (zs.setIfInBounds n (.int .u8 1)) 5))) := Lib.hid (HS.out.2.trans (HA1.out.mono HSB.out))
        have HGV : Hid (u3.ownBlock ≠ some wr0.heap.size ∧ ∀ i, i < n → G i ≠ wr0.heap.size) := Lib.hid ⟨fun e => by
          obtain ⟨xs, hx, _⟩ := HS.out.1.own
          have := (hx.lt wr0.heap.size e).2
          omega, fun i hi e => by
          have := (HS.out.1.base i hi).2
          omega⟩
        have HGL : Hid (wr0.heap.size < (wr0.alloc (.cells (zs.setIfInBounds n (.int .u8 1)) 5)).heap.size) := Lib.hid (by have := HSZ1.out; omega)
        clear HS HA1
        have HB2 : Hid (Below (wr0.alloc (.cells (zs.setIfInBounds n (.int .u8 1)) 5)).heap.size (wr0.alloc (.cells (zs.setIfInBounds n (.int .u8 1)) 5)) ((wr0.alloc (.cells (zs.setIfInBounds n (.int .u8 1)) 5)).alloc (.cells #[.slice (some ⟨wr0.heap.size, 0, none⟩) r r] 27))) := Lib.hid ((Below.refl _ _).alloc (Nat.le_refl _) _)
        have HRS2 := Lib.hid (HRS.out.keep HB2.out)
        obtain ⟨xs, hx, hxs⟩ := HRS2.out.own
        have HX := Lib.hid hx
        have HXS := Lib.hid hxs
        have hB2 : B ≤ (wr0.alloc (.cells (zs.setIfInBounds n (.int .u8 1)) 5)).heap.size := by rw [← HBB.out]; exact HBW.out.size
        clear hx hxs
        have hB3 : B ≤ wr0.heap.size := HSB.out
        go_wp2_with (at_builtin; refine append_mine _ rfl _ _ 24 rfl B 27 i0 (.slice none 0 0) 1 24 Try.underlying24 hi0 hz0 hz1 hz2 rfl (by decide) _ n xs rfl HX.out ⟨_, 0, none⟩ 1 1 [.slice (some ⟨wr0.heap.size, 0, none⟩) r r] rfl rfl (by first | exact cell_one_new _ _ _ | (intro j u hj; match j, hj with | 0, hj => (simp at hj; subst hj; simp [Addr.add, go_sem]) | j + 1, hj => simp at hj)) (by intro u hu; simp at hu; subst hu; rfl) (by unfold maxLen; omega) (by omega) (by first | omega | (simp; omega)) (by decide) ?_; intro v' w' own gr hv)
        have HN := Lib.hid (HRS2.out.add HX.out HXS.out (g := wr0.heap.size) (HRW.out.keep (HB2.out.block wr0.heap.size HGL.out)) HSB.out (Nat.lt_of_lt_of_le HGL.out HB2.out.size) HGV.out.1 HGV.out.2 own gr hv)
        have HBN : Hid (Below B w w') := Lib.hid (Below.grown (HBW.out.trans (HB2.out.mono hB2)) gr (by first | omega | (simp; omega)) (fun k hk => (HX.out.lt k hk).1))
        clear own gr hv
        go_wp2_with fail
        go_roundg (r - (n + 1))
        case measure => omega
        case rel => exact ⟨n + 1, _, by go_num, by omega, rfl, Lib.hid ⟨HN.out, HBN.out⟩⟩
      · have hge : ¬ (n : Int) < (r : Int) := by omega
        have e : n = r := by omega
        subst e
        go_wp2_with fail
        go_ret
        exact ⟨_, rfl, n, ⟨G, HS.out.1⟩, HS.out.2, rfl, fun h => by omega⟩
  · have e0 : (if 1 ≤ n ∧ n ≤ 64 then n.toNat else 0) = 0 := if_neg hn
    rw [e0]
    have HE : Hid (∀ (B : Nat), Rows8 w B (.slice none 0 0) 0 0 (fun _ => 0) one ∧ Below w.heap.size w w) := Lib.hid (fun B => ⟨Rows8.start _ _ _ _ _, Below.refl _ _⟩)
    by_cases h1 : n < 1
    · clear hn e0
      go_enter Try.func19, Try.ntmps19
      go_wp2_with fail
      go_ret
      exact ⟨_, 0, _, rfl, (HE.out _).1, (HE.out 0).2, rfl, fun _ => rfl⟩
    · have h64 : (64 : Int) < n := by omega
      have h1' : 1 ≤ n := by omega
      clear hn e0
      go_enter Try.func19, Try.ntmps19
      go_wp2_with fail
      go_ret
      exact ⟨_, rfl, 0, ⟨_, (HE.out _).1⟩, (HE.out 0).2, rfl, fun _ => rfl⟩
end Go.Proofs.Ytmnfgbfajhinlaa
