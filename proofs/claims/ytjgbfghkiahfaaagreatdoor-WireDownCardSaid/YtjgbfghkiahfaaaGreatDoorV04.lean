import Derived.Test.YtjgbfghkiahfaaaGreatDoorV01
import Derived.Lib.AppendZeros
namespace Go.Proofs.YtjgbfghkiahfaaaGreatDoor
open Go.RowKit Go.Sort
set_option maxRecDepth 100000
set_option maxHeartbeats 1000000

/-- slices.Grow of nil. -/
theorem mgrow (n : Nat) (w : World) (h1 : 1 ≤ n) (h2 : n ≤ 1000000) :
    Calls Tryz.prog 67 #[.slice none 0 0, .int .i64 (n : Int)] w fun e w' => ∃ cap, e = .returned (.slice (some ⟨w.heap.size, 0, none⟩) 0 cap) ∧ n ≤ cap ∧
      w'.ownsRow w.heap.size 5 1 (.slice (some ⟨w.heap.size, 0, none⟩) 0 cap) 0 [] ∧ Below w.heap.size w w' := by
  obtain ⟨i0, hi0, hz0, hz1, hz2⟩ := info_parts infoByte
  obtain ⟨cap, hcap⟩ : ∃ cap, cap = grownCap w n 0 5 := ⟨_, rfl⟩
  have hr := fun ty => Lib.run_append_nil_zeros (P := Tryz.prog) w 36 3 ty 5 i0 (.int .u8 0) .i64 .i64 Tryz.underlying36 Tryz.underlying3 hi0 hz0 n (by omega) (by omega) (by omega) (by rw [hz2]; omega)
  have hge : n ≤ cap := by rw [hcap]; exact grownCap_ge _ _ _ _
  have hmx : cap ≤ maxLen := by rw [hcap]; exact grownCap_le_maxLen _ _ _ _ (by unfold maxLen; omega)
  rw [← hcap] at hr
  have hsz : (Builtin.zeroCells (Value.int .u8 0).cells n ++ Builtin.zeroCells (Value.int .u8 0).cells (cap - n)).size = cap * 1 := by
    simp [Builtin.zeroCells, Value.cells]; omega
  clear hcap
  generalize Builtin.zeroCells (Value.int .u8 0).cells n ++ Builtin.zeroCells (Value.int .u8 0).cells (cap - n) = cur at hr hsz
  have HO : Hid ((w.drew.alloc (.cells cur 5)).ownsRow w.heap.size 5 1 (.slice (some ⟨w.heap.size, 0, none⟩) 0 cap) 0 [] ∧ Below w.heap.size w (w.drew.alloc (.cells cur 5))) :=
    Lib.hid ⟨World.ownsRow_made w.drew cur cap (Nat.le_refl _) hmx hsz, (Below.refl _ _).drew.alloc (Nat.le_refl _) _⟩
  have HR : Hid (∀ ty, (Builtin.append_ #[36, 3] ty #[.slice none 0 0, .int .i64 (n : Int)]).run Tryz.prog w = .ok (.slice (some ⟨w.heap.size, 0, none⟩) n cap) (w.drew.alloc (.cells cur 5))) := Lib.hid hr
  clear hr hsz
  unfold maxLen at hmx
  have hn0 : ¬ (n : Int) < 0 := by omega
  have hn1 : (0 : Int) < (n : Int) := by omega
  go_enter Tryz.func67, Tryz.ntmps67
  go_wp2_with (at_builtin; refine Lib.wpList_append_run _ rfl _ _ _ _ rfl _ _ rfl rfl _ _ (HR.out _) ?_)
  go_ret
  exact ⟨cap, rfl, hge, HO.out.1, HO.out.2⟩

def tot (N : Nat → Nat) : Nat → Nat
  | 0 => 0
  | k + 1 => tot N k + N k
theorem tot_succ (N : Nat → Nat) (k : Nat) : tot N (k + 1) = tot N k + N k := rfl
theorem tot_mono (N : Nat → Nat) {k K : Nat} (h : k ≤ K) : tot N k ≤ tot N K := by
  induction h with
  | refl => exact Nat.le_refl _
  | step _ ih => exact Nat.le_trans ih (by rw [tot_succ]; omega)
/-- slices.Concat of rows. -/
theorem mconcatK (b K cs : Nat) (A : Nat → Option Addr) (N C : Nat → Nat) (X : Nat → Nat → Nat) (F : Nat → Nat) (w : World) (hb : b < w.heap.size)
    (hc : ∀ k, k < K → w.cell? ⟨b, k, none⟩ = some (.slice (A k) (N k) (C k))) (hr : ∀ k, k < K → Rd w (A k) (N k) (X k)) (hF : ∀ k j, k < K → j < N k → F (tot N k + j) = X k j)
    (hK : K ≤ 1000) (h1 : 1 ≤ tot N K) (h2 : tot N K ≤ 1000000) :
    Calls Tryz.prog 51 #[.slice (some ⟨b, 0, none⟩) K cs] w (FewRet (tot N K) F w) := by
  have HC := Lib.hid hc
  have HR := Lib.hid hr
  have HF := Lib.hid hF
  have HG := Lib.hid (mgrow (tot N K) w h1 h2)
  have HT : Hid (∀ k, k ≤ K → tot N k ≤ tot N K) := Lib.hid (fun k hk => tot_mono N hk)
  obtain ⟨H, hH⟩ : ∃ H, w.heap.size = H := ⟨_, rfl⟩
  have HH := Lib.hid hH
  rw [hH] at HG hb
  clear hH hc hr hF
  obtain ⟨T, hT⟩ : ∃ T, tot N K = T := ⟨_, rfl⟩
  have HTT := Lib.hid hT
  rw [hT] at HG h1 h2 HT ⊢
  clear hT
  go_enter Tryz.func51, Tryz.ntmps51
  go_wp2_with fail
  go_loopg [3, 11] K (fun q s3 s11 v => ∃ (k m : Nat), s3 = .int .i64 (m : Int) ∧ Hid (m = tot N k) ∧ s11 = .int .i64 (k : Int) ∧ k ≤ K ∧ m ≤ T ∧ q = K - k ∧ w = v)
  case atStart => exact ⟨0, 0, rfl, Lib.hid rfl, rfl, by omega, by omega, rfl, rfl⟩
  case round =>
    obtain ⟨k, m, rfl, hm, rfl, hk, hmT, rfl, rfl⟩ := hrel
    by_cases hlt : k < K
    · have hk' : (k : Int) < (K : Int) := by omega
      have c1 := HC.out k hlt
      have hsum : m + N k ≤ T := by rw [hm.out, ← tot_succ]; exact HT.out (k + 1) hlt
      obtain ⟨n, hn⟩ : ∃ n, N k = n := ⟨_, rfl⟩
      have HN := Lib.hid hn
      rw [hn] at c1 hsum
      clear hn
      have n1 : ¬ (m : Int) + (n : Int) < 0 := by omega
      go_wp2_with fail
      go_roundg (K - (k + 1))
      case measure => omega
      case rel => exact ⟨k + 1, m + n, by rw [Int.natCast_add], Lib.hid (by rw [tot_succ, hm.out, HN.out]), by go_num, by omega, hsum, rfl, rfl⟩
    · obtain rfl : k = K := by omega
      obtain rfl : m = T := by rw [hm.out, ← HTT.out]
      go_wp2_with fail
      refine HG.out.mono ?_
      rintro e w2 ⟨cap, rfl, hcap, ho2, hb2⟩
      have HB := Lib.hid hb2
      have HHS : Hid (H ≤ w2.heap.size) := Lib.hid (by rw [← HH.out]; have := hb2.size; omega)
      have H0 : Hid (w2.ownsRow H 5 1 (.slice (some ⟨H, 0, none⟩) 0 cap) 0 (rowL 0 F) ∧ Below H w w2 ∧ H ≤ w2.heap.size) := Lib.hid ⟨ho2, hb2, HHS.out⟩
      clear ho2 hb2 HG
      go_wp2_with fail
      go_loopg [6, 27] k (fun q s6 s27 v => ∃ (i m g c : Nat), s6 = .slice (some ⟨g, 0, none⟩) m c ∧ Hid (m = tot N i) ∧ s27 = .int .i64 (i : Int) ∧ i ≤ k ∧ q = k - i ∧ Hid (v.ownsRow H 5 1 (.slice (some ⟨g, 0, none⟩) m c) m (rowL m F) ∧ Below H w v ∧ H ≤ v.heap.size))
      case atStart => exact ⟨0, 0, H, cap, rfl, Lib.hid rfl, rfl, by omega, rfl, H0⟩
      case round =>
        obtain ⟨i, m', g, c, rfl, hm', rfl, hi, rfl, HV⟩ := hrel
        clear H0
        by_cases hlt : i < k
        · have hk' : (i : Int) < (k : Int) := by omega
          have c1 := (HV.out.2.1.cell (p := ⟨b, i, none⟩) hb).trans (HC.out i hlt)
          have hsum : m' + N i ≤ m := by rw [hm'.out, ← tot_succ]; exact HT.out (i + 1) hlt
          obtain ⟨n, hn⟩ : ∃ n, N i = n := ⟨_, rfl⟩
          have HN := Lib.hid hn
          have HX : Hid (Rd wr (A i) n (X i)) := Lib.hid (by rw [← hn]; exact (HR.out i hlt).keep (by rw [HH.out]; exact HV.out.2.1))
          rw [hn] at c1 hsum
          clear hn
          go_wp2_with (at_builtin; refine append_rd _ rfl _ _ 36 rfl Tryz.underlying36 H (.slice (some ⟨g, 0, none⟩) m' c) m' F rfl HV.out.1 (A i) n _ (X i) rfl HX.out (by omega) HV.out.2.2 ?_; intro v' w' own gr _ hne; have HO := Lib.hid own; have HGr := Lib.hid gr; have HNe := Lib.hid hne; clear own gr hne)
          obtain ⟨g2, c2, hv2, hg2, hgl2, hcp2⟩ := own_some HO.out (HNe.out (by simp))
          obtain rfl := hv2
          have HO2 : Hid (w'.ownsRow H 5 1 (.slice (some ⟨g2, 0, none⟩) (m' + n) c2) (m' + n) (rowL (m' + n) F)) := Lib.hid (own_congr HO.out (fun j hj => by
            by_cases e : j < m'
            · rw [if_pos e]
            · rw [if_neg e, ← HF.out i (j - m') hlt (by rw [HN.out]; omega), ← hm'.out, show m' + (j - m') = j by omega]))
          have HB2 : Hid (Below H w w') := Lib.hid (Below.grown HV.out.2.1 HGr.out HV.out.2.2 (fun k hk => by cases hk; exact (HV.out.1.lt _ rfl).1))
          have HS2 : Hid (H ≤ w'.heap.size) := Lib.hid (Nat.le_trans HV.out.2.2 HGr.out.size)
          clear HO HGr HNe HV hcp2
          go_wp2_with fail
          go_roundg (k - (i + 1))
          case measure => omega
          case rel => exact ⟨i + 1, m' + n, g2, c2, rfl, Lib.hid (by rw [tot_succ, hm'.out, HN.out]), by go_num, by omega, rfl, Lib.hid ⟨HO2.out, HB2.out, HS2.out⟩⟩
        · obtain rfl : i = k := by omega
          obtain rfl : m' = m := by rw [hm'.out, HTT.out]
          go_wp2_with fail
          go_ret
          exact ⟨g, c, rfl, by rw [HH.out]; exact HV.out.1, by rw [HH.out]; exact HV.out.2.1, by rw [HH.out]; exact (HV.out.1.lt _ rfl).1, (HV.out.1.lt _ rfl).2, own_cap HV.out.1⟩
/-- slices.Concat of four rows. -/
theorem mconcat4 (b : Nat) (A0 A1 A2 A3 : Option Addr) (n0 n1 n2 n3 c0 c1 c2 c3 T : Nat) (X0 X1 X2 X3 F : Nat → Nat) (w : World)
    (h0 : w.cell? ⟨b, 0, none⟩ = some (.slice A0 n0 c0)) (h1 : w.cell? ⟨b, 1, none⟩ = some (.slice A1 n1 c1)) (h2 : w.cell? ⟨b, 2, none⟩ = some (.slice A2 n2 c2)) (h3 : w.cell? ⟨b, 3, none⟩ = some (.slice A3 n3 c3))
    (r0 : Rd w A0 n0 X0) (r1 : Rd w A1 n1 X1) (r2 : Rd w A2 n2 X2) (r3 : Rd w A3 n3 X3) (hT : T = n0 + n1 + n2 + n3) (t1 : 1 ≤ T) (t2 : T ≤ 1000000)
    (hF : ∀ j, j < T → F j = if j < n0 then X0 j else if j < n0 + n1 then X1 (j - n0) else if j < n0 + n1 + n2 then X2 (j - (n0 + n1)) else X3 (j - (n0 + n1 + n2))) :
    Calls Tryz.prog 51 #[.slice (some ⟨b, 0, none⟩) 4 4] w (FewRet T F w) := by
  have e : ∀ N : Nat → Nat, tot N 4 = N 0 + N 1 + N 2 + N 3 := fun N => by show 0 + N 0 + N 1 + N 2 + N 3 = _; omega
  have h := mconcatK b 4 4 (fun k => if k = 0 then A0 else if k = 1 then A1 else if k = 2 then A2 else A3) (fun k => if k = 0 then n0 else if k = 1 then n1 else if k = 2 then n2 else n3) (fun k => if k = 0 then c0 else if k = 1 then c1 else if k = 2 then c2 else c3)
    (fun k => if k = 0 then X0 else if k = 1 then X1 else if k = 2 then X2 else X3) F w (cell?_lt h0)
    (fun k hk => by
      have : k = 0 ∨ k = 1 ∨ k = 2 ∨ k = 3 := by omega
      rcases this with rfl | rfl | rfl | rfl
      · exact h0
      · exact h1
      · exact h2
      · exact h3)
    (fun k hk => by
      have : k = 0 ∨ k = 1 ∨ k = 2 ∨ k = 3 := by omega
      rcases this with rfl | rfl | rfl | rfl
      · exact r0
      · exact r1
      · exact r2
      · exact r3)
    (fun k j hk hj => by
      have : k = 0 ∨ k = 1 ∨ k = 2 ∨ k = 3 := by omega
      rcases this with rfl | rfl | rfl | rfl
      · have hj' : j < n0 := hj
        show F (0 + j) = X0 j
        rw [hF _ (by omega), if_pos (by omega), Nat.zero_add]
      · have hj' : j < n1 := hj
        show F (0 + n0 + j) = X1 j
        rw [hF _ (by omega), if_neg (by omega), if_pos (by omega), show 0 + n0 + j - n0 = j by omega]
      · have hj' : j < n2 := hj
        show F (0 + n0 + n1 + j) = X2 j
        rw [hF _ (by omega), if_neg (by omega), if_neg (by omega), if_pos (by omega), show 0 + n0 + n1 + j - (n0 + n1) = j by omega]
      · have hj' : j < n3 := hj
        show F (0 + n0 + n1 + n2 + j) = X3 j
        rw [hF _ (by omega), if_neg (by omega), if_neg (by omega), if_neg (by omega), show 0 + n0 + n1 + n2 + j - (n0 + n1 + n2) = j by omega])
    (by omega) (by rw [e]; show 1 ≤ n0 + n1 + n2 + n3; omega) (by rw [e]; show n0 + n1 + n2 + n3 ≤ 1000000; omega)
  rw [show tot (fun k => if k = 0 then n0 else if k = 1 then n1 else if k = 2 then n2 else n3) 4 = T by rw [e]; exact hT.symm] at h
  exact h
/-- slices.Concat of a literal of four rows. -/
theorem mconcat4L (w : World) (A0 A1 A2 A3 : Option Addr) (n0 n1 n2 n3 c0 c1 c2 c3 T : Nat) (X0 X1 X2 X3 F : Nat → Nat) 
    (r0 : Rd w A0 n0 X0) (r1 : Rd w A1 n1 X1) (r2 : Rd w A2 n2 X2) (r3 : Rd w A3 n3 X3) (hT : T = n0 + n1 + n2 + n3) (t1 : 1 ≤ T) (t2 : T ≤ 1000000)
    (hF : ∀ j, j < T → F j = if j < n0 then X0 j else if j < n0 + n1 then X1 (j - n0) else if j < n0 + n1 + n2 then X2 (j - (n0 + n1)) else X3 (j - (n0 + n1 + n2))) :
    Calls Tryz.prog 51 #[.slice (some ⟨w.heap.size, 0, none⟩) 4 4] (w.alloc (.cells #[.slice A0 n0 c0, .slice A1 n1 c1, .slice A2 n2 c2, .slice A3 n3 c3] 36)) fun e w' => ∃ g cap, e = .returned (.slice (some ⟨g, 0, none⟩) T cap) ∧ Rd w' (some ⟨g, 0, none⟩) T F ∧ Below w.heap.size w w' ∧ T ≤ cap ∧ w.heap.size ≤ g := by
  have hk := alloc_block w (.cells #[.slice A0 n0 c0, .slice A1 n1 c1, .slice A2 n2 c2, .slice A3 n3 c3] 36)
  have hb : Below w.heap.size w (w.alloc (.cells #[.slice A0 n0 c0, .slice A1 n1 c1, .slice A2 n2 c2, .slice A3 n3 c3] 36)) := (Below.refl _ _).alloc (Nat.le_refl _) _
  refine (mconcat4 w.heap.size A0 A1 A2 A3 n0 n1 n2 n3 c0 c1 c2 c3 T X0 X1 X2 X3 F _ (cell_of_block hk) (cell_of_block hk) (cell_of_block hk) (cell_of_block hk) (r0.keep hb) (r1.keep hb) (r2.keep hb) (r3.keep hb) hT t1 t2 hF).mono ?_
  rintro e w' ⟨g, cap, rfl, ho, hb2, hg, _, hc⟩
  exact ⟨g, cap, rfl, own_rd ho, hb.trans (hb2.mono hb.size), hc, Nat.le_trans hb.size hg⟩
end Go.Proofs.YtjgbfghkiahfaaaGreatDoor
