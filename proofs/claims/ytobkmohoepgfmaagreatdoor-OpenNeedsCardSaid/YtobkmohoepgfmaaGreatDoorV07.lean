import Derived.Test.YtobkmohoepgfmaaGreatDoorV05
import Derived.Lib.AppendZeros
import Derived.Test.YtobkmohoepgfmaaGreatDoorV06
import Derived.Deep.RegionHeld
namespace Go.Proofs.YtobkmohoepgfmaaGreatDoor
open Go.RowKit Go.Sort
set_option maxRecDepth 100000
set_option maxHeartbeats 1000000

theorem mgrow (n : Nat) (w : World) (h1 : 1 ≤ n) (h2 : n ≤ 1000000) :
  Calls Tryz.prog 119 #[.slice none 0 0, .int .i64 (n : Int)] w fun e w' => ∃ cap, e = .returned (.slice (some ⟨w.heap.size, 0, none⟩) 0 cap) ∧ n ≤ cap ∧
   w'.ownsRow w.heap.size 5 1 (.slice (some ⟨w.heap.size, 0, none⟩) 0 cap) 0 [] ∧ Below w.heap.size w w' := by
 obtain ⟨i0, hi0, hz0, hz1, hz2⟩ := info_parts infoByte
 obtain ⟨cap, hcap⟩ : ∃ cap, cap = grownCap w n 0 5 := ⟨_, rfl⟩
 have hr := fun ty => Lib.run_append_nil_zeros (P := Tryz.prog) w 36 3 ty 5 i0 (.int .u8 0) .i64 .i64 Tryz.underlying36 Tryz.underlying3 hi0 hz0 n (by omega) (by omega) (by omega) (by rw [hz2]; omega)
 have hge : n ≤ cap := by rw [hcap]; exact grownCap_ge _ _ _ _
 have hmx : cap ≤ maxLen := by rw [hcap]; exact grownCap_le_maxLen _ _ _ _ (by unfold maxLen; omega)
 rw [← hcap] at hr
 have hsz : (Builtin.zeroCells (Value.int .u8 0).cells n ++ Builtin.zeroCells (Value.int .u8 0).cells (cap - n)).size = cap * 1 := by
  simp [Builtin.zeroCells, Value.cells]; omega
 clear hcap
 generalize Builtin.zeroCells (Value.int .u8 0).cells n ++ Builtin.zeroCells (Value.int .u8 0).cells (cap - n) = cur at hr hsz
 have HO : Hid ((w.drew.alloc (.cells cur 5)).ownsRow w.heap.size 5 1 (.slice (some ⟨w.heap.size, 0, none⟩) 0 cap) 0 [] ∧ Below w.heap.size w (w.drew.alloc (.cells cur 5))) :=
  Lib.hid ⟨World.ownsRow_made w.drew cur cap (Nat.le_refl _) hmx hsz, (Below.refl _ _).drew.alloc (Nat.le_refl _) _⟩
 have HR : Hid (∀ ty, (Builtin.append_ #[36, 3] ty #[.slice none 0 0, .int .i64 (n : Int)]).run Tryz.prog w = .ok (.slice (some ⟨w.heap.size, 0, none⟩) n cap) (w.drew.alloc (.cells cur 5))) := Lib.hid hr
 clear hr hsz
 unfold maxLen at hmx
 have hn0 : ¬ (n : Int) < 0 := by omega
 have hn1 : (0 : Int) < (n : Int) := by omega
 go_enter Tryz.func119, Tryz.ntmps119
 go_wp2_with (at_builtin; refine Lib.wpList_append_run _ rfl _ _ _ _ rfl _ _ rfl rfl _ _ (HR.out _) ?_)
 go_ret
 exact ⟨cap, rfl, hge, HO.out.1, HO.out.2⟩

def tot (N : Nat → Nat) : Nat → Nat
 | 0 => 0
 | k + 1 => tot N k + N k
theorem tot_succ (N : Nat → Nat) (k : Nat) : tot N (k + 1) = tot N k + N k := rfl
theorem tot_mono (N : Nat → Nat) {k K : Nat} (h : k ≤ K) : tot N k ≤ tot N K := by
 induction h with
 | refl => exact Nat.le_refl _
 | step _ ih => exact Nat.le_trans ih (by rw [tot_succ]; omega)
theorem mconcatK (b K cs : Nat) (A : Nat → Option Addr) (N C : Nat → Nat) (X : Nat → Nat → Nat) (F : Nat → Nat) (w : World) (hb : b < w.heap.size)
  (hc : ∀ k, k < K → w.cell? ⟨b, k, none⟩ = some (.slice (A k) (N k) (C k))) (hr : ∀ k, k < K → Rd w (A k) (N k) (X k)) (hF : ∀ k j, k < K → j < N k → F (tot N k + j) = X k j)
  (hK : K ≤ 1000) (h1 : 1 ≤ tot N K) (h2 : tot N K ≤ 1000000) :
  Calls Tryz.prog 85 #[.slice (some ⟨b, 0, none⟩) K cs] w (FewRet (tot N K) F w) := by
 have HC := Lib.hid hc
 have HR := Lib.hid hr
 have HF := Lib.hid hF
 have HG := Lib.hid (mgrow (tot N K) w h1 h2)
 have HT : Hid (∀ k, k ≤ K → tot N k ≤ tot N K) := Lib.hid (fun k hk => tot_mono N hk)
 obtain ⟨H, hH⟩ : ∃ H, w.heap.size = H := ⟨_, rfl⟩
 have HH := Lib.hid hH
 rw [hH] at HG hb
 clear hH hc hr hF
 obtain ⟨T, hT⟩ : ∃ T, tot N K = T := ⟨_, rfl⟩
 have HTT := Lib.hid hT
 rw [hT] at HG h1 h2 HT ⊢
 clear hT
 go_enter Tryz.func85, Tryz.ntmps85
 go_wp2_with fail
 go_loopg [3, 11] K (fun q s3 s11 v => ∃ (k m : Nat), s3 = .int .i64 (m : Int) ∧ Hid (m = tot N k) ∧ s11 = .int .i64 (k : Int) ∧ k ≤ K ∧ m ≤ T ∧ q = K - k ∧ w = v)
 case atStart => exact ⟨0, 0, rfl, Lib.hid rfl, rfl, by omega, by omega, rfl, rfl⟩
 case round =>
  obtain ⟨k, m, rfl, hm, rfl, hk, hmT, rfl, rfl⟩ := hrel
  by_cases hlt : k < K
  ·have hk' : (k : Int) < (K : Int) := by omega
   have c1 := HC.out k hlt
   have hsum : m + N k ≤ T := by rw [hm.out, ← tot_succ]; exact HT.out (k + 1) hlt
   obtain ⟨n, hn⟩ : ∃ n, N k = n := ⟨_, rfl⟩
   have HN := Lib.hid hn
   rw [hn] at c1 hsum
   clear hn
   have n1 : ¬ (m : Int) + (n : Int) < 0 := by omega
   go_wp2_with fail
   go_roundg (K - (k + 1))
   case measure => omega
   case rel => exact ⟨k + 1, m + n, by rw [Int.natCast_add], Lib.hid (by rw [tot_succ, hm.out, HN.out]), by go_num, by omega, hsum, rfl, rfl⟩
  ·obtain rfl : k = K := by omega
   obtain rfl : m = T := by rw [hm.out, ← HTT.out]
   go_wp2_with fail
   refine HG.out.mono ?_
   rintro e w2 ⟨cap, rfl, hcap, ho2, hb2⟩
   have HB := Lib.hid hb2
   have HHS : Hid (H ≤ w2.heap.size) := Lib.hid (by rw [← HH.out]; have := hb2.size; omega)
   have H0 : Hid (w2.ownsRow H 5 1 (.slice (some ⟨H, 0, none⟩) 0 cap) 0 (rowL 0 F) ∧ Below H w w2 ∧ H ≤ w2.heap.size) := Lib.hid ⟨ho2, hb2, HHS.out⟩
   clear ho2 hb2 HG
   go_wp2_with fail
   go_loopg [6, 27] k (fun q s6 s27 v => ∃ (i m g c : Nat), s6 = .slice (some ⟨g, 0, none⟩) m c ∧ Hid (m = tot N i) ∧ s27 = .int .i64 (i : Int) ∧ i ≤ k ∧ q = k - i ∧ Hid (v.ownsRow H 5 1 (.slice (some ⟨g, 0, none⟩) m c) m (rowL m F) ∧ Below H w v ∧ H ≤ v.heap.size))
   case atStart => exact ⟨0, 0, H, cap, rfl, Lib.hid rfl, rfl, by omega, rfl, H0⟩
   case round =>
    obtain ⟨i, m', g, c, rfl, hm', rfl, hi, rfl, HV⟩ := hrel
    clear H0
    by_cases hlt : i < k
    ·have hk' : (i : Int) < (k : Int) := by omega
     have c1 := (HV.out.2.1.cell (p := ⟨b, i, none⟩) hb).trans (HC.out i hlt)
     have hsum : m' + N i ≤ m := by rw [hm'.out, ← tot_succ]; exact HT.out (i + 1) hlt
     obtain ⟨n, hn⟩ : ∃ n, N i = n := ⟨_, rfl⟩
     have HN := Lib.hid hn
     have HX : Hid (Rd wr (A i) n (X i)) := Lib.hid (by rw [← hn]; exact (HR.out i hlt).keep (by rw [HH.out]; exact HV.out.2.1))
     rw [hn] at c1 hsum
     clear hn
     go_wp2_with (at_builtin; refine append_rd _ rfl _ _ 36 rfl Tryz.underlying36 H (.slice (some ⟨g, 0, none⟩) m' c) m' F rfl HV.out.1 (A i) n _ (X i) rfl HX.out (by omega) HV.out.2.2 ?_; intro v' w' own gr _ hne; have HO := Lib.hid own; have HGr := Lib.hid gr; have HNe := Lib.hid hne; clear own gr hne)
     obtain ⟨g2, c2, hv2, hg2, hgl2, hcp2⟩ := own_some HO.out (HNe.out (by simp))
     obtain rfl := hv2
     have HO2 : Hid (w'.ownsRow H 5 1 (.slice (some ⟨g2, 0, none⟩) (m' + n) c2) (m' + n) (rowL (m' + n) F)) := Lib.hid (own_congr HO.out (fun j hj => by
      by_cases e : j < m'
      ·rw [if_pos e]
      ·rw [if_neg e, ← HF.out i (j - m') hlt (by rw [HN.out]; omega), ← hm'.out, show m' + (j - m') = j by omega]))
     have HB2 : Hid (Below H w w') := Lib.hid (Below.grown HV.out.2.1 HGr.out HV.out.2.2 (fun k hk => by cases hk; exact (HV.out.1.lt _ rfl).1))
     have HS2 : Hid (H ≤ w'.heap.size) := Lib.hid (Nat.le_trans HV.out.2.2 HGr.out.size)
     clear HO HGr HNe HV hcp2
     go_wp2_with fail
     go_roundg (k - (i + 1))
     case measure => omega
     case rel => exact ⟨i + 1, m' + n, g2, c2, rfl, Lib.hid (by rw [tot_succ, hm'.out, HN.out]), by go_num, by omega, rfl, Lib.hid ⟨HO2.out, HB2.out, HS2.out⟩⟩
    ·obtain rfl : i = k := by omega
     obtain rfl : m' = m := by rw [hm'.out, HTT.out]
     go_wp2_with fail
     go_ret
     exact ⟨g, c, rfl, by rw [HH.out]; exact HV.out.1, by rw [HH.out]; exact HV.out.2.1, by rw [HH.out]; exact (HV.out.1.lt _ rfl).1, (HV.out.1.lt _ rfl).2, own_cap HV.out.1⟩
theorem mconcat4 (b : Nat) (A0 A1 A2 A3 : Option Addr) (n0 n1 n2 n3 c0 c1 c2 c3 T : Nat) (X0 X1 X2 X3 F : Nat → Nat) (w : World)
  (h0 : w.cell? ⟨b, 0, none⟩ = some (.slice A0 n0 c0)) (h1 : w.cell? ⟨b, 1, none⟩ = some (.slice A1 n1 c1)) (h2 : w.cell? ⟨b, 2, none⟩ = some (.slice A2 n2 c2)) (h3 : w.cell? ⟨b, 3, none⟩ = some (.slice A3 n3 c3))
  (r0 : Rd w A0 n0 X0) (r1 : Rd w A1 n1 X1) (r2 : Rd w A2 n2 X2) (r3 : Rd w A3 n3 X3) (hT : T = n0 + n1 + n2 + n3) (t1 : 1 ≤ T) (t2 : T ≤ 1000000)
  (hF : ∀ j, j < T → F j = if j < n0 then X0 j else if j < n0 + n1 then X1 (j - n0) else if j < n0 + n1 + n2 then X2 (j - (n0 + n1)) else X3 (j - (n0 + n1 + n2))) :
  Calls Tryz.prog 85 #[.slice (some ⟨b, 0, none⟩) 4 4] w (FewRet T F w) := by
 have e : ∀ N : Nat → Nat, tot N 4 = N 0 + N 1 + N 2 + N 3 := fun N => by show 0 + N 0 + N 1 + N 2 + N 3 = _; omega
 have h := mconcatK b 4 4 (fun k => if k = 0 then A0 else if k = 1 then A1 else if k = 2 then A2 else A3) (fun k => if k = 0 then n0 else if k = 1 then n1 else if k = 2 then n2 else n3) (fun k => if k = 0 then c0 else if k = 1 then c1 else if k = 2 then c2 else c3)
  (fun k => if k = 0 then X0 else if k = 1 then X1 else if k = 2 then X2 else X3) F w (cell?_lt h0)
  (fun k hk => by
   have : k = 0 ∨ k = 1 ∨ k = 2 ∨ k = 3 := by omega
   rcases this with rfl | rfl | rfl | rfl
   ·exact h0
   ·exact h1
   ·exact h2
   ·exact h3)
  (fun k hk => by
   have : k = 0 ∨ k = 1 ∨ k = 2 ∨ k = 3 := by omega
   rcases this with rfl | rfl | rfl | rfl
   ·exact r0
   ·exact r1
   ·exact r2
   ·exact r3)
  (fun k j hk hj => by
   have : k = 0 ∨ k = 1 ∨ k = 2 ∨ k = 3 := by omega
   rcases this with rfl | rfl | rfl | rfl
   ·have hj' : j < n0 := hj
    show F (0 + j) = X0 j
    rw [hF _ (by omega), if_pos (by omega), Nat.zero_add]
   ·have hj' : j < n1 := hj
    show F (0 + n0 + j) = X1 j
    rw [hF _ (by omega), if_neg (by omega), if_pos (by omega), show 0 + n0 + j - n0 = j by omega]
   ·have hj' : j < n2 := hj
    show F (0 + n0 + n1 + j) = X2 j
    rw [hF _ (by omega), if_neg (by omega), if_neg (by omega), if_pos (by omega), show 0 + n0 + n1 + j - (n0 + n1) = j by omega]
   ·have hj' : j < n3 := hj
    show F (0 + n0 + n1 + n2 + j) = X3 j
    rw [hF _ (by omega), if_neg (by omega), if_neg (by omega), if_neg (by omega), show 0 + n0 + n1 + n2 + j - (n0 + n1 + n2) = j by omega])
  (by omega) (by rw [e]; show 1 ≤ n0 + n1 + n2 + n3; omega) (by rw [e]; show n0 + n1 + n2 + n3 ≤ 1000000; omega)
 rw [show tot (fun k => if k = 0 then n0 else if k = 1 then n1 else if k = 2 then n2 else n3) 4 = T by rw [e]; exact hT.symm] at h
 exact h
theorem mconcat4L (w : World) (A0 A1 A2 A3 : Option Addr) (n0 n1 n2 n3 c0 c1 c2 c3 T : Nat) (X0 X1 X2 X3 F : Nat → Nat) 
  (r0 : Rd w A0 n0 X0) (r1 : Rd w A1 n1 X1) (r2 : Rd w A2 n2 X2) (r3 : Rd w A3 n3 X3) (hT : T = n0 + n1 + n2 + n3) (t1 : 1 ≤ T) (t2 : T ≤ 1000000)
  (hF : ∀ j, j < T → F j = if j < n0 then X0 j else if j < n0 + n1 then X1 (j - n0) else if j < n0 + n1 + n2 then X2 (j - (n0 + n1)) else X3 (j - (n0 + n1 + n2))) :
  Calls Tryz.prog 85 #[.slice (some ⟨w.heap.size, 0, none⟩) 4 4] (w.alloc (.cells #[.slice A0 n0 c0, .slice A1 n1 c1, .slice A2 n2 c2, .slice A3 n3 c3] 36)) fun e w' => ∃ g cap, e = .returned (.slice (some ⟨g, 0, none⟩) T cap) ∧ Rd w' (some ⟨g, 0, none⟩) T F ∧ Below w.heap.size w w' ∧ T ≤ cap ∧ w.heap.size ≤ g := by
 have hk := alloc_block w (.cells #[.slice A0 n0 c0, .slice A1 n1 c1, .slice A2 n2 c2, .slice A3 n3 c3] 36)
 have hb : Below w.heap.size w (w.alloc (.cells #[.slice A0 n0 c0, .slice A1 n1 c1, .slice A2 n2 c2, .slice A3 n3 c3] 36)) := (Below.refl _ _).alloc (Nat.le_refl _) _
 refine (mconcat4 w.heap.size A0 A1 A2 A3 n0 n1 n2 n3 c0 c1 c2 c3 T X0 X1 X2 X3 F _ (cell_of_block hk) (cell_of_block hk) (cell_of_block hk) (cell_of_block hk) (r0.keep hb) (r1.keep hb) (r2.keep hb) (r3.keep hb) hT t1 t2 hF).mono ?_
 rintro e w' ⟨g, cap, rfl, ho, hb2, hg, _, hc⟩
 exact ⟨g, cap, rfl, own_rd ho, hb.trans (hb2.mono hb.size), hc, Nat.le_trans hb.size hg⟩
end Go.Proofs.YtobkmohoepgfmaaGreatDoor
namespace Go.Proofs.YtobkmohoepgfmaaGreatDoor
open Go.RowKit Go.Sort
set_option maxRecDepth 100000
set_option maxHeartbeats 1000000

theorem seal_steps (kind n : Nat) (B : Nat → Nat) (hk : kind < 256) (hn : n ≤ 153) : ∀ j, j < 156 →
  (fun j => if 3 ≤ j ∧ j < 3 + n then B (j - 3) else putF (putF (fun _ => 0) 0 1 kind) 1 2 n j) j = headF kind n B j := by
 intro j hj
 unfold headF putF
 dsimp only
 by_cases h0 : j = 0
 ·subst h0; rw [if_neg (by omega), if_neg (by omega), if_pos (by omega), if_pos rfl]; exact byte1 kind hk
 ·rw [if_neg h0]
  by_cases h1 : j = 1
  ·subst h1; rw [if_neg (by omega), if_pos (by omega), if_pos rfl]
  ·rw [if_neg h1]
   by_cases h2 : j = 2
   ·subst h2; rw [if_neg (by omega), if_pos (by omega), if_pos rfl]
   ·rw [if_neg h2]
    by_cases h3 : j < 3 + n
    ·rw [if_pos (by omega), if_pos h3]
    ·rw [if_neg (by omega), if_neg (by omega), if_neg (by omega), if_neg h3]
theorem seal_end (kind n : Nat) (B F : Nat → Nat) (hF : ∀ j, j < 156 → F j = headF kind n B j) : ∀ j, j < 160 → putF F 156 4 (sumF F 156) j = sealF kind n B j := by
 intro j hj
 unfold putF sealF
 by_cases h : j < 156
 ·rw [if_neg (by omega), if_pos h, hF j h]
 ·rw [if_pos (by omega), if_neg h, sumF_congr hF]

def SealRet (kind n : Nat) (B : Nat → Nat) (w : World) (e : Ending) (w' : World) : Prop :=
 ∃ g, e = .returned (.tuple #[.slice (some ⟨g, 0, none⟩) 160 160, .int .i64 0]) ∧ Blk8 w' g 160 (sealF kind n B) ∧ Below w.heap.size w w' ∧ w.heap.size ≤ g
theorem mseal (kind n cap : Nat) (A : Option Addr) (B : Nat → Nat) (w : World) (hk1 : 1 ≤ kind) (hk2 : kind < 256) (hn : n ≤ 153) (h : Rd w A n B) (hB : ∀ j, j < n → B j < 256) :
  Calls Tryz.prog 168 #[.int .i64 (kind : Int), .slice A n cap] w (SealRet kind n B w) := by
 obtain ⟨zs, z0, z1, z2⟩ := make8s 160 (by omega)
 have z3 : ∀ W : World, Sem.run Tryz.prog (Instr.makeSlice 36 (.int .i64 160) (.int .i64 160)) W = .ok (.slice (some ⟨W.heap.size, 0, none⟩) 160 160) (W.alloc (.cells zs 5)) := z2
 have HK := Lib.hid (Blk8.new (w := w) (F := fun _ => 0) z0 z1)
 have HB0 : Hid (Below w.heap.size w (w.alloc (.cells zs 5))) := Lib.hid ((Below.refl _ _).alloc (Nat.le_refl _) _)
 have HR := Lib.hid h
 have HB := Lib.hid hB
 have t1 : ¬ (kind : Int) < 1 := by omega
 have t2 : ¬ (255 : Int) < (kind : Int) := by omega
 have t3 : ¬ (153 : Int) < (n : Int) := by omega
 clear z0 z1 z2 h hB
 go_enter Tryz.func168, Tryz.ntmps168
 go_wp2_with fail
 generalize w.alloc (.cells zs 5) = w1 at *
 obtain ⟨H, hH⟩ : ∃ H, w.heap.size = H := ⟨_, rfl⟩
 rw [hH] at HK HB0 ⊢
 have HH := Lib.hid hH
 clear hH z3
 obtain ⟨G1, hG1⟩ : ∃ G1, G1 = putF (fun _ => 0) 0 1 kind := ⟨_, rfl⟩
 obtain ⟨G2, hG2⟩ : ∃ G2, G2 = putF G1 1 2 n := ⟨_, rfl⟩
 have HG3 : Hid (∀ j, j < 156 → (if 3 ≤ j ∧ j < 3 + n then B (j - 3) else G2 j) = headF kind n B j) := Lib.hid (by rw [hG2, hG1]; exact seal_steps kind n B hk2 hn)
 obtain ⟨G3, hG3⟩ : ∃ G3 : Nat → Nat, G3 = fun j => if 3 ≤ j ∧ j < 3 + n then B (j - 3) else G2 j := ⟨_, rfl⟩
 have HG1 := Lib.hid hG1
 have HG2 := Lib.hid hG2
 have HG3a := Lib.hid hG3
 clear hG1 hG2 hG3
 have HKD := HK.out.drew
 have HKd := Lib.hid HKD
 have HBd := Lib.hid HB0.out.drew
 have HNd := Lib.hid (nbytes kind 1 1 rfl w1.drew (by omega))
 clear HK HB0 HKD
 go_region_law (first | (refine step_copy_blk rfl (.tmp 20) (.tmp 22) rfl H 0 160 160 g2 1 1 rfl rfl 160 (fun _ => 0) (byteAt kind 1) G1 HK2.out HN2.out (by omega) (by omega) (by rw [HG1.out]; exact fun j _ => by unfold putF; rfl) ?_; intro w3 k3 g3 _; have HK3 := Lib.hid k3; have HB3 := Lib.hid (Below.of_only HB2.out g3 (Nat.le_refl _) (by have := HK2.out.lt; omega)); clear k3 g3) | (go_simp; go_at_call 107; refine HNd.out.mono ?_; rintro e w2 ⟨g2, rfl, n2, b2, l2⟩; (try dsimp only); have HN2 := Lib.hid n2; have HK2 := Lib.hid (HKd.out.below b2); have HB2 := Lib.hid (HBd.out.trans (b2.mono (by rw [← HH.out]; exact HBd.out.size))); clear n2 b2 HKd HBd HNd))
 clear HN2 HK2 HB2 l2
 go_wp2_with fail
 have HKd := Lib.hid HK3.out.drew
 have HBd := Lib.hid HB3.out.drew
 have HNd := Lib.hid (nbytes n 2 2 rfl w3.drew (by omega))
 clear HK3 HB3
 go_region_law (first | (refine step_copy_blk rfl (.tmp 25) (.tmp 28) rfl H 1 159 159 g4 2 2 rfl rfl 160 G1 (byteAt n 2) G2 HK4.out HN4.out (by omega) (by omega) (by rw [HG2.out]; exact fun j _ => by unfold putF; rfl) ?_; intro w5 k5 g5 _; have HK5 := Lib.hid k5; have HB5 := Lib.hid (Below.of_only HB4.out g5 (Nat.le_refl _) (by have := HK4.out.lt; omega)); clear k5 g5) | (go_simp; go_at_call 107; refine HNd.out.mono ?_; rintro e w4 ⟨g4, rfl, n4, b4, l4⟩; (try dsimp only); have HN4 := Lib.hid n4; have HK4 := Lib.hid (HKd.out.below b4); have HB4 := Lib.hid (HBd.out.trans (b4.mono (by rw [← HH.out]; exact HBd.out.size))); clear n4 b4 HKd HBd HNd))
 clear HN4 HK4 HB4 l4
 have HR5 : Hid (Rd w5 A n B) := Lib.hid (HR.out.keep (by rw [HH.out]; exact HB5.out))
 clear HR
 have hmin : n = Nat.min n 157 := (Nat.min_eq_left (by omega)).symm
 have HM := Lib.hid hmin
 clear hmin
 go_wp2_with ((with_reducible refine copy_blk w5 rfl (.tmp 31) (.tmp 32) rfl (some ⟨H, 3, none⟩) A 157 157 n cap rfl rfl H 3 160 n G2 B G3 HK5.out HM.out (fun _ => rfl) HR5.out (by omega) (fun j _ => by rw [HG3a.out]) ?_); intro w6 k6 g6 _; have HK6 := Lib.hid k6; have HB6 := Lib.hid (Below.of_only HB5.out g6 (Nat.le_refl _) (by have := HK5.out.lt; omega)); clear k6 g6)
 have HG4 : Hid (∀ j, j < 156 → G3 j = headF kind n B j) := Lib.hid (by rw [HG3a.out]; exact HG3.out)
 have HRD : Hid (Rd w6.drew (some ⟨H, 0, none⟩) 156 (headF kind n B)) := Lib.hid ((HK6.out.drew.rd.less (show 156 ≤ 160 by omega)).congr HG4.out)
 have HSM := Lib.hid (msum (some ⟨H, 0, none⟩) 156 160 (headF kind n B) w6.drew HRD.out (fun j _ => headF_lt hk2 HB.out j) (by omega))
 have HKd := Lib.hid HK6.out.drew
 have HBd := Lib.hid HB6.out.drew
 have HNd := Lib.hid (nbytes (sumF (headF kind n B) 156) 4 4 rfl w6.drew (by omega))
 have HGS : Hid (∀ j, j < 160 → putF G3 156 4 (sumF (headF kind n B) 156) j = sealF kind n B j) := Lib.hid (by rw [← sumF_congr HG4.out]; exact seal_end kind n B G3 HG4.out)
 clear HK6 HB6 HRD HR5 HK5 HB5
 generalize sumF (headF kind n B) 156 = sm at *
 go_region_law (first | (refine step_copy_blk rfl (.tmp 35) (.tmp 39) rfl H 156 4 4 g8 4 4 rfl rfl 160 G3 (byteAt sm 4) (sealF kind n B) HK8.out HN8.out (by omega) (by omega) (by intro j hj; rw [← HGS.out j hj]; unfold putF; rfl) ?_; intro w9 k9 g9 _; have HK9 := Lib.hid k9; have HB9 := Lib.hid (Below.of_only HB8.out g9 (Nat.le_refl _) (by have := HK8.out.lt; omega)); clear k9 g9) | (go_simp; go_at_call 167; refine HSM.out.mono ?_; rintro e w7 ⟨rfl, hw⟩; obtain rfl := hw.symm) | (go_simp; go_at_call 107; refine HNd.out.mono ?_; rintro e w8 ⟨g8, rfl, n8, b8, l8⟩; (try dsimp only); have HN8 := Lib.hid n8; have HK8 := Lib.hid (HKd.out.below b8); have HB8 := Lib.hid (HBd.out.trans (b8.mono (by rw [← HH.out]; exact HBd.out.size))); clear n8 b8 HKd HBd HNd))
 go_wp2_with fail
 go_ret2
 exact ⟨H, rfl, HK9.out, by rw [HH.out]; exact HB9.out, Nat.le_of_eq HH.out⟩
theorem mseal_no (kind : Int) (n cap : Nat) (A : Option Addr) (w : World) (hn : n ≤ 9223372036854775807) (h : ¬ (1 ≤ kind ∧ kind < 256 ∧ n ≤ 153)) :
  Calls Tryz.prog 168 #[.int .i64 kind, .slice A n cap] w fun e w' => e = .returned (.tuple #[.slice none 0 0, .int .i64 1]) ∧ w' = w := by
 by_cases h1 : kind < 1
 ·clear h
  go_enter Tryz.func168, Tryz.ntmps168
  go_wp2_with fail
  go_ret2
  exact ⟨rfl, rfl⟩
 ·by_cases h2 : 255 < kind
  ·clear h
   go_enter Tryz.func168, Tryz.ntmps168
   go_wp2_with fail
   go_ret2
   exact ⟨rfl, rfl⟩
  ·have h3 : (153 : Int) < (n : Int) := by omega
   clear h
   go_enter Tryz.func168, Tryz.ntmps168
   go_wp2_with fail
   go_ret2
   exact ⟨rfl, rfl⟩

theorem bequal (A1 A2 : Option Addr) (n m c1 c2 : Nat) (F G : Nat → Nat) (w : World) (h1 : Rd w A1 n F) (h2 : Rd w A2 m G) (b1 : ∀ j, j < n → F j < 256) (b2 : ∀ j, j < m → G j < 256) (t : Bool) (ht : t = true ↔ n = m ∧ ∀ j, j < n → F j = G j) :
  Calls Tryz.prog 169 #[.slice A1 n c1, .slice A2 m c2] w fun e w' => e = .returned (.bool t) ∧ w' = w := by
 have e1 := conv_rd (cap := c1) h1
 have e2 := conv_rd (cap := c2) h2
 have e3 : ((strOf ((List.range n).map F)).toList == (strOf ((List.range m).map G)).toList) = t := by
  cases t with
  | true => exact beq_iff_eq.2 ((str_eq b1 b2).2 (ht.1 rfl))
  | false => exact beq_eq_false_iff_ne.2 (fun e => by have := ht.2 ((str_eq b1 b2).1 e); cases this)
 clear h1 h2 b1 b2 ht
 generalize strOf ((List.range n).map F) = s1 at *
 generalize strOf ((List.range m).map G) = s2 at *
 go_enter Tryz.func169, Tryz.ntmps169
 go_wp2_with fail
 go_ret
 exact ⟨rfl, rfl⟩
end Go.Proofs.YtobkmohoepgfmaaGreatDoor
namespace Go.Proofs.YtobkmohoepgfmaaGreatDoor
open Go.RowKit Go.Sort
set_option maxRecDepth 100000
set_option maxHeartbeats 1000000

theorem nbytesB {B : Nat} {w0 : World} (x m : Nat) (s : Int) (hs : s = (m : Int)) (w : World) (hm : m ≤ 7) (hB : Below B w0 w) (hl : B ≤ w.heap.size) :
  Calls Tryz.prog 107 #[.int .i64 (x : Int), .int .i64 s] w fun e w' => ∃ g, e = .returned (.slice (some ⟨g, 0, none⟩) m m) ∧ Blk8 w' g m (byteAt x m) ∧ Below B w0 w' ∧ Below w.heap.size w w' ∧ B ≤ g ∧ B ≤ w'.heap.size :=
 (nbytes x m s hs w hm).mono (by
  rintro e w' ⟨g, rfl, k, b, l⟩
  exact ⟨g, rfl, k, hB.trans (b.mono hl), b, Nat.le_trans hl l, Nat.le_trans hl b.size⟩)
theorem mseal1 (n cap : Nat) (A : Option Addr) (B : Nat → Nat) (w : World) (hn : n ≤ 153) (h : Rd w A n B) (hB : ∀ j, j < n → B j < 256) :
  Calls Tryz.prog 168 #[.int .i64 1, .slice A n cap] w (SealRet 1 n B w) := mseal 1 n cap A B w (by decide) (by decide) hn h hB
def CLayRet (p : Pc) (w : World) (e : Ending) (w' : World) : Prop :=
 ∃ g, e = .returned (.tuple #[.slice (some ⟨g, 0, none⟩) 160 160, .int .i64 0]) ∧ Blk8 w' g 160 (pcS p) ∧ Below w.heap.size w w' ∧ w.heap.size ≤ g
theorem clay (p : Pc) (A : Option Addr) (cap : Nat) (w : World) (hp : p.Ok) (h : Rd w A 32 p.D) :
  Calls Tryz.prog 171 #[pv (p.s : Int) (p.g : Int) (p.i : Int) A 32 cap] w (CLayRet p w) := by
 obtain ⟨w1, hw1⟩ : ∃ w1, w.alloc (.cells #[.int .i64 (p.s : Int), .int .i64 (p.g : Int), .int .i64 (p.i : Int), .slice A 32 cap] 162) = w1 := ⟨_, rfl⟩
 have hk : w1.heap[w.heap.size]? = some (.cells #[.int .i64 (p.s : Int), .int .i64 (p.g : Int), .int .i64 (p.i : Int), .slice A 32 cap] 162) := by rw [← hw1]; exact alloc_block w _
 have hb1 : Below w.heap.size w w1 := by rw [← hw1]; exact (Below.refl _ _).alloc (Nat.le_refl _) _
 have hs1 : w.heap.size < w1.heap.size := heap_lt hk
 have HLT := Lib.hid (pcF_lt hp)
 obtain ⟨o1, o2, o3, o4, o5⟩ := hp
 have HR := Lib.hid (cright (p.s : Int) (p.g : Int) (p.i : Int) A 32 cap w1 true ⟨fun _ => ⟨by omega, by omega, by omega, by omega, by omega, by omega, rfl⟩, fun _ => rfl⟩)
 have HRD := Lib.hid h
 have HW := Lib.hid hw1
 have HB1 := Lib.hid hb1
 have HF : Hid (∀ j, j < 40 → pcF p j = if j < 1 then byteAt p.s 1 j else if j < 1 + 6 then byteAt p.g 6 (j - 1) else if j < 1 + 6 + 1 then byteAt p.i 1 (j - (1 + 6)) else p.D (j - (1 + 6 + 1))) := Lib.hid (by
  intro j hj
  unfold pcF
  by_cases e0 : j = 0
  ·subst e0; rw [if_pos rfl, if_pos (by omega)]; exact (byte1 p.s (by omega)).symm
  ·rw [if_neg e0, if_neg (by omega : ¬ j < 1)]
   by_cases e1 : j < 7
   ·rw [if_pos e1, if_pos (by omega)]
   ·rw [if_neg e1, if_neg (by omega : ¬ j < 1 + 6)]
    by_cases e2 : j = 7
    ·subst e2; rw [if_pos rfl, if_pos (by omega)]; exact (byte1 p.i (by omega)).symm
    ·rw [if_neg e2, if_neg (by omega)])
 obtain ⟨H, hH⟩ : ∃ H, w.heap.size = H := ⟨_, rfl⟩
 have HH := Lib.hid hH
 rw [hH] at hk hs1
 have HK := Lib.hid hk
 have HS1 := Lib.hid hs1
 clear hw1 hb1 h hk hs1 o5
 unfold pv
 go_enter Tryz.func171, Tryz.ntmps171
 go_wp2_with fail
 rw [HW.out]
 refine HR.out.mono ?_
 rintro e w2 ⟨rfl, hb2⟩
 try dsimp only
 have hb2H : Below H w w2 := by rw [← HH.out]; exact HB1.out.trans (hb2.mono (by rw [HH.out]; exact Nat.le_of_lt HS1.out))
 have hk2 : w2.heap[H]? = some (.cells #[.int .i64 (p.s : Int), .int .i64 (p.g : Int), .int .i64 (p.i : Int), .slice A 32 cap] 162) := (hb2.block H (by have := HS1.out; omega)).trans HK.out
 have hs2 : H < w2.heap.size := heap_lt hk2
 have HB2 : Hid (Below H w w2.drew) := Lib.hid hb2H.drew
 have HS : Hid (∀ W, Below w2.heap.size w2 W → W.cell? ⟨H, 0, none⟩ = some (.int .i64 (p.s : Int)) ∧ W.cell? ⟨H, 1, none⟩ = some (.int .i64 (p.g : Int)) ∧ W.cell? ⟨H, 2, none⟩ = some (.int .i64 (p.i : Int)) ∧ W.cell? ⟨H, 3, none⟩ = some (.slice A 32 cap)) := Lib.hid (fun W hW => by
  have hk3 := (hW.block H hs2).trans hk2
  exact ⟨cell_of_block hk3, cell_of_block hk3, cell_of_block hk3, cell_of_block hk3⟩)
 have HRW : Hid (Rd w2.drew A 32 p.D) := Lib.hid (HRD.out.keep (by rw [HH.out]; exact HB2.out))
 have hb0 := below_drewN 1 w2
 have hS0 := HS.out _ hb0
 have HS2 := Lib.hid hs2
 have HBL := Lib.hid hb2H
 clear hb2 hk2 hb2H HK HB1 HR hS0
 go_wp2_with fail
 have hsz : Hid (H ≤ w2.drew.heap.size) := Lib.hid (Nat.le_of_lt HS2.out)
 go_region_held (fun W => W.cell? ⟨H, 0, none⟩ = some (.int .i64 (p.s : Int)) ∧ W.cell? ⟨H, 1, none⟩ = some (.int .i64 (p.g : Int)) ∧ W.cell? ⟨H, 2, none⟩ = some (.int .i64 (p.i : Int)) ∧ W.cell? ⟨H, 3, none⟩ = some (.slice A 32 cap))
  (first | assumption | exact HS.out _ hb0 | exact HS.out _ hbW | exact HS.out _ (hbW.alloc (by have := hbW.size; omega) _))
  (first
   | (go_at_call 107; (with_reducible refine (nbytesB p.s 1 1 rfl _ (by omega) HB2.out hsz.out).mono ?_); rintro e w3 ⟨g3, rfl, k3, B3, b3, l3, z3⟩; (try dsimp only); have K3 := Lib.hid k3; have HB3 := Lib.hid B3; have hbW := hb0.trans (b3.mono hb0.size); have Hz := Lib.hid z3; have HR3 := Lib.hid (HRW.out.keep b3); clear k3 B3 b3 l3 z3)
   | (go_at_call 107; (with_reducible refine (nbytesB p.g 6 6 rfl _ (by omega) HB3.out Hz.out).mono ?_); rintro e w4 ⟨g4, rfl, k4, B4, b4, l4, z4⟩; (try dsimp only); have K4 := Lib.hid k4; have HB4 := Lib.hid B4; have hbW4 := hbW.trans (b4.mono hbW.size); have K34 := Lib.hid (K3.out.below b4); have Hz4 := Lib.hid z4; have HR4 := Lib.hid (HR3.out.keep b4); clear k4 B4 b4 l4 z4 hbW; have hbW := hbW4)
   | (go_at_call 107; (with_reducible refine (nbytesB p.i 1 1 rfl _ (by omega) HB4.out Hz4.out).mono ?_); rintro e w5 ⟨g5, rfl, k5, B5, b5, l5, z5⟩; (try dsimp only); have K5 := Lib.hid k5; have HB5 := Lib.hid B5; have hbW5 := hbW.trans (b5.mono hbW.size); have K35 := Lib.hid (K34.out.below b5); have K45 := Lib.hid (K4.out.below b5); have Hz5 := Lib.hid z5; have HR5 := Lib.hid (HR4.out.keep b5); clear k5 B5 b5 l5 z5 hbW; have hbW := hbW5)
   | (go_at_call 85; (with_reducible refine (mconcat4L w5 _ _ _ A 1 6 1 32 1 6 1 cap 40 _ _ _ p.D (pcF p) K35.out.rd K45.out.rd K5.out.rd HR5.out rfl (by omega) (by omega) HF.out).mono ?_); rintro e w6 ⟨g6, c6, rfl, r6, b6, _, _⟩; (try dsimp only); have HR6 := Lib.hid r6; have HB6 : Hid (Below H w w6) := Lib.hid (HB5.out.trans (b6.mono Hz5.out)); have hbW6 := hbW.trans (b6.mono hbW.size); clear r6 b6 hbW; have hbW := hbW6)
   | (go_at_call 168; (with_reducible refine (mseal1 40 c6 (some ⟨g6, 0, none⟩) (pcF p) w6 (by omega) HR6.out HLT.out).mono ?_); rintro e w7 ⟨g7, rfl, k7, b7, l7⟩; (try dsimp only); have K7 := Lib.hid k7; have Hz6 : Hid (H ≤ w6.heap.size) := Lib.hid (Nat.le_trans (Nat.le_of_lt HS2.out) hbW.size); have HB7 : Hid (Below H w w7) := Lib.hid (HB6.out.trans (b7.mono Hz6.out)); have HL7 : Hid (H ≤ g7) := Lib.hid (Nat.le_trans Hz6.out l7); have hbW7 := hbW.trans (b7.mono hbW.size); clear k7 b7 l7 hbW; have hbW := hbW7)
   | fail)
 go_wp2_with fail
 go_ret2
 exact ⟨g7, rfl, by unfold pcS; exact K7.out, by rw [HH.out]; exact HB7.out, by rw [HH.out]; exact HL7.out⟩
theorem clay_no (s g i : Int) (A : Option Addr) (n cap : Nat) (w : World) (h : ¬ OkI s g i n) :
  Calls Tryz.prog 171 #[pv s g i A n cap] w fun e w' => e = .returned (.tuple #[.slice none 0 0, .int .i64 1]) ∧ Below w.heap.size w w' := by
 obtain ⟨w1, hw1⟩ : ∃ w1, w.alloc (.cells #[.int .i64 s, .int .i64 g, .int .i64 i, .slice A n cap] 162) = w1 := ⟨_, rfl⟩
 have hb1 : Below w.heap.size w w1 := by rw [← hw1]; exact (Below.refl _ _).alloc (Nat.le_refl _) _
 have HR := Lib.hid (cright s g i A n cap w1 false ⟨fun e => (by cases e), fun e => absurd e h⟩)
 have HW := Lib.hid hw1
 have HB1 := Lib.hid hb1
 clear hw1 hb1 h
 unfold pv
 go_enter Tryz.func171, Tryz.ntmps171
 go_wp2_with fail
 rw [HW.out]
 refine HR.out.mono ?_
 rintro e w2 ⟨rfl, hb2⟩
 try dsimp only
 go_wp2_with fail
 go_ret2
 exact ⟨rfl, HB1.out.trans (hb2.mono HB1.out.size)⟩
end Go.Proofs.YtobkmohoepgfmaaGreatDoor
