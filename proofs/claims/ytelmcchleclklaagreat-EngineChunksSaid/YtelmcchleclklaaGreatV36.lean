import Derived.Test.YtelmcchleclklaaGreatV34
import Derived.Lib.AppendZeros
import Derived.Deep.CutBlock
namespace Go.Proofs.YtelmcchleclklaaGreat.Kc
open Go.RowKit Go.Sort
set_option maxRecDepth 100000
set_option maxHeartbeats 1000000

theorem mgrow (n : Nat) (w : World) (h1 : 1 ≤ n) (h2 : n ≤ 128) :
  Calls Tryz.prog 154 #[.slice none 0 0, .int .i64 (n : Int)] w fun e w' => ∃ cap, e = .returned (.slice (some ⟨w.heap.size, 0, none⟩) 0 cap) ∧ n ≤ cap ∧
   w'.ownsRow w.heap.size 5 1 (.slice (some ⟨w.heap.size, 0, none⟩) 0 cap) 0 [] ∧ Below w.heap.size w w' := by
 obtain ⟨i0, hi0, hz0, hz1, hz2⟩ := info_parts infoByte
 obtain ⟨cap, hcap⟩ : ∃ cap, cap = grownCap w n 0 5 := ⟨_, rfl⟩
 have hr := fun ty => Lib.run_append_nil_zeros (P := Tryz.prog) w 33 3 ty 5 i0 (.int .u8 0) .i64 .i64 Tryz.underlying33 Tryz.underlying3 hi0 hz0 n (by omega) (by omega) (by omega) (by rw [hz2]; omega)
 have hge : n ≤ cap := by rw [hcap]; exact grownCap_ge _ _ _ _
 have hmx : cap ≤ maxLen := by rw [hcap]; exact grownCap_le_maxLen _ _ _ _ (by unfold maxLen; omega)
 rw [← hcap] at hr
 have hsz : (Builtin.zeroCells (Value.int .u8 0).cells n ++ Builtin.zeroCells (Value.int .u8 0).cells (cap - n)).size = cap * 1 := by
  simp [Builtin.zeroCells, Value.cells]; omega
 clear hcap
 generalize Builtin.zeroCells (Value.int .u8 0).cells n ++ Builtin.zeroCells (Value.int .u8 0).cells (cap - n) = cur at hr hsz
 have HO : Hid ((w.drew.alloc (.cells cur 5)).ownsRow w.heap.size 5 1 (.slice (some ⟨w.heap.size, 0, none⟩) 0 cap) 0 [] ∧ Below w.heap.size w (w.drew.alloc (.cells cur 5))) :=
  Lib.hid ⟨World.ownsRow_made w.drew cur cap (Nat.le_refl _) hmx hsz, (Below.refl _ _).drew.alloc (Nat.le_refl _) _⟩
 have HR : Hid (∀ ty, (Builtin.append_ #[33, 3] ty #[.slice none 0 0, .int .i64 (n : Int)]).run Tryz.prog w = .ok (.slice (some ⟨w.heap.size, 0, none⟩) n cap) (w.drew.alloc (.cells cur 5))) := Lib.hid hr
 clear hr hsz
 unfold maxLen at hmx
 have hn0 : ¬ (n : Int) < 0 := by omega
 have hn1 : (0 : Int) < (n : Int) := by omega
 go_enter Tryz.func154, Tryz.ntmps154
 go_wp2_with (at_builtin; refine Lib.wpList_append_run _ rfl _ _ _ _ rfl _ _ rfl rfl _ _ (HR.out _) ?_)
 go_ret
 exact ⟨cap, rfl, hge, HO.out.1, HO.out.2⟩

theorem mconcat (sb h1 q1 c1 h2 q2 c2 n m : Nat) (X Y : Nat → Nat) (w : World) (n1 : 1 ≤ n) (n2 : n ≤ 64) (m1 : 1 ≤ m) (m2 : m ≤ 64)
  (s0 : w.cell? ⟨sb, 0, none⟩ = some (.slice (some ⟨h1, q1, none⟩) n c1)) (s1 : w.cell? ⟨sb, 1, none⟩ = some (.slice (some ⟨h2, q2, none⟩) m c2))
  (hx : ∀ j, j < n → w.cell? ⟨h1, q1 + j, none⟩ = some (.int .u8 (X j : Nat))) (hy : ∀ j, j < m → w.cell? ⟨h2, q2 + j, none⟩ = some (.int .u8 (Y j : Nat))) :
  Calls Tryz.prog 118 #[.slice (some ⟨sb, 0, none⟩) 2 2] w fun e w' => ∃ cap, e = .returned (.slice (some ⟨w.heap.size, 0, none⟩) (n + m) cap) ∧ n + m ≤ cap ∧
   Row8 w' w.heap.size (n + m) (fun j => if j < n then X j else Y (j - n)) ∧ Below w.heap.size w w' := by
 obtain ⟨i0, hi0, hz0, hz1, hz2⟩ := info_parts infoByte
 have l1 := cell?_lt (hx 0 (by omega))
 have l2 := cell?_lt (hy 0 (by omega))
 have ls := cell?_lt s0
 have HX := Lib.hid hx
 have HY := Lib.hid hy
 clear hx hy
 have en : ¬ (n : Int) < 0 := by omega
 have enm : ¬ (n : Int) + (m : Int) < 0 := by omega
 have HG := Lib.hid (mgrow (n + m) w (by omega) (by omega))
 obtain ⟨H, hH⟩ : ∃ H, w.heap.size = H := ⟨_, rfl⟩
 rw [hH] at HG l1 l2 ls ⊢
 have HH := Lib.hid hH
 clear hH
 go_enter Tryz.func118, Tryz.ntmps118
 go_wp2_with fail
 refine wp_loop_rounds 3 ?_
 rw [rounds_succ]
 go_wp2_with fail
 rw [rounds_succ]
 go_wp2_with fail
 rw [rounds_succ]
 go_wp2_with fail
 have e2 : (n : Int) + (m : Int) = ((n + m : Nat) : Int) := by omega
 have HG2 := HG.out
 rw [← e2] at HG2
 refine HG2.mono ?_
 clear HG2 e2
 rintro e w2 ⟨cap, rfl, hcap, ho, hb⟩
 have HO := Lib.hid ho
 have HB := Lib.hid hb
 have s0' := (hb.cell (p := ⟨sb, 0, none⟩) ls).trans s0
 have s1' := (hb.cell (p := ⟨sb, 1, none⟩) ls).trans s1
 have HX2 : Hid (∀ j, j < n → w2.cell? ⟨h1, q1 + j, none⟩ = some (.int .u8 (X j : Nat))) := Lib.hid (fun j hj => (hb.cell (p := ⟨h1, q1 + j, none⟩) l1).trans (HX.out j hj))
 clear s0 s1 ho hb HG
 go_wp2_with fail
 refine wp_loop_rounds 3 ?_
 rw [rounds_succ]
 go_wp2_with (at_builtin; refine wpList_append_fits _ rfl _ _ 33 rfl H 5 i0 1 Tryz.underlying33 hi0 hz1 H 0 cap [] rfl HO.out ⟨h1, q1, none⟩ n c1 (rowL n X) rfl (by rw [rowL_len]; omega) (rowL_cells HX2.out) rowL_one (by omega) ?_; intro w3 ho3 hg3)
 rw [Nat.zero_add, List.nil_append] at ho3
 have HO3 := Lib.hid ho3
 have HG3 := Lib.hid hg3
 have s1'' := (World.cell?_of_block (hg3.block sb (Nat.lt_of_lt_of_le ls (by have := HB.out.size; have := HH.out; omega)) (fun e => by injection e; omega))).trans s1'
 have HY3 : Hid (∀ j, j < m → w3.cell? ⟨h2, q2 + j, none⟩ = some (.int .u8 (Y j : Nat))) := Lib.hid (fun j hj => (World.cell?_of_block (hg3.block h2 (Nat.lt_of_lt_of_le l2 (by have := HB.out.size; have := HH.out; omega)) (fun e => by injection e; omega))).trans ((HB.out.cell (p := ⟨h2, q2 + j, none⟩) l2).trans (HY.out j hj)))
 clear ho3 hg3 s1'
 go_wp2_with fail
 rw [rounds_succ]
 go_wp2_with (at_builtin; refine wpList_append_fits _ rfl _ _ 33 rfl H 5 i0 1 Tryz.underlying33 hi0 hz1 H n cap (rowL n X) rfl HO3.out ⟨h2, q2, none⟩ m c2 (rowL m Y) rfl (by rw [rowL_len]; omega) (rowL_cells HY3.out) rowL_one (by omega) ?_; intro w4 ho4 hg4)
 have HO4 := Lib.hid ho4
 have HB4 : Hid (Below H w w4) := Lib.hid (Below.of_only (Below.of_only HB.out HG3.out (Nat.le_refl _) (by rw [← HH.out]; exact HB.out.size)) hg4 (Nat.le_refl _) (by have := HB.out.size; have := HG3.out.size; have := HH.out; omega))
 clear ho4 hg4
 go_wp2_with fail
 rw [rounds_succ]
 go_wp2_with fail
 go_ret
 have ho := HO4.out
 refine ⟨cap, ?_, by omega, own_row8 ho (fun j hj => ?_), HB4.out⟩
 ·rfl
 ·by_cases h : j < n
  ·rw [List.getElem?_append_left (by rw [rowL_len]; exact h), rowL_get h, if_pos h]
  ·rw [List.getElem?_append_right (by rw [rowL_len]; omega), rowL_len, rowL_get (by omega), if_neg h]
end Go.Proofs.YtelmcchleclklaaGreat.Kc
namespace Go.Proofs.YtelmcchleclklaaGreat.Kc
open Go.RowKit Go.Sort
set_option maxRecDepth 100000
set_option maxHeartbeats 1000000

theorem mtest (g p kb c cap x : Nat) (w : World) (hp : p < c) (k0 : w.cell? ⟨kb, 0, none⟩ = some (.int .i64 (p : Int))) (h : w.cell? ⟨g, p, none⟩ = some (.int .u8 (x : Int))) (t : Bool) (ht : t = decide (x ≠ 0)) :
  Calls Tryz.prog 201 #[.slice (some ⟨g, 0, none⟩) c cap, .pointer (some ⟨kb, 0, none⟩)] w fun e w' => e = .returned (.bool t) ∧ w' = w := by
 have hp' : (p : Int) < (c : Int) := by omega
 have e1 : ((x : Int) != 0) = t := by
  rw [ht]
  by_cases h : x = 0
  ·subst h; rfl
  ·rw [decide_eq_true h, bne_iff_ne]; omega
 clear ht
 go_enter Tryz.func201, Tryz.ntmps201
 go_wp2_with fail
 go_ret
 exact ⟨rfl, rfl⟩

def FoundAt (n p : Nat) (A : Mx) (fd : Int) : Prop := (fd = -1 ∧ ∀ i, p ≤ i → i < n → A i p = 0) ∨ (∃ d : Nat, fd = (d : Int) ∧ p + d < n ∧ A (p + d) p ≠ 0)
def FoundRet (n p : Nat) (A : Mx) (w : World) (e : Ending) (w' : World) : Prop := ∃ fd : Int, e = .returned (.int .i64 fd) ∧ FoundAt n p A fd ∧ w' = w

theorem mindex (b n c p kb : Nat) (G K : Nat → Nat) (A : Mx) (w : World) (ho : Own w b n c G K A) (hp : p < n) (hpc : p < c) (hn : n ≤ 1000000) (k0 : w.cell? ⟨kb, 0, none⟩ = some (.int .i64 (p : Int))) (cap : Nat) :
  Calls Tryz.prog 200 #[.slice (some ⟨b, p, none⟩) (n - p : Nat) cap, .func (.func 201) #[] #[.pointer (some ⟨kb, 0, none⟩)]] w (FoundRet n p A w) := by
 have HO := Lib.hid ho
 have HK := Lib.hid k0
 clear ho k0
 obtain ⟨m, hm⟩ : ∃ m, n - p = m := ⟨_, rfl⟩
 have HM := Lib.hid hm
 rw [hm]
 have hm2 : m ≤ 1000000 := by omega
 clear hm
 go_enter Tryz.func200, Tryz.ntmps200
 go_wp2_with fail
 go_loop [5, 8] (fun _ s => ∃ k : Nat, s = .int .i64 (k : Int) ∧ k ≤ m ∧ Hid (∀ i, p ≤ i → i < p + k → A i p = 0)) (fun _ s => m - (intOf s).toNat)
 case atStart => exact ⟨0, rfl, Nat.zero_le _, Lib.hid (fun i h1 h2 => by omega)⟩
 case round =>
  obtain ⟨k, rfl, hk, HZ⟩ := hrel
  by_cases hlt : k < m
  ·have hk' : (k : Int) < (m : Int) := by omega
   have hpk : p + k < n := by have := HM.out; omega
   have c1 := HO.out.outer (p + k) hpk
   have HT := Lib.hid (fun t ht => mtest (G (p + k)) p kb c (K (p + k)) (A (p + k) p) w hpc HK.out (HO.out.cell (p + k) hpk p hpc) t ht)
   by_cases h0 : A (p + k) p = 0
   ·have HT2 := Lib.hid (HT.out false (by rw [h0]; rfl))
    have H0 := Lib.hid h0
    clear h0 HT
    go_wp2_with fail
    refine HT2.out.mono ?_
    rintro e w' ⟨rfl, hw⟩
    obtain rfl := hw.symm
    go_wp2_with fail
    go_round
    case measure => simp [intOf]; omega
    case rel => exact ⟨k + 1, by go_num, by omega, Lib.hid (fun i h1 h2 => by
     by_cases e : i = p + k
     ·rw [e]; exact H0.out
     ·exact HZ.out i h1 (by omega))⟩
   ·have HT2 := Lib.hid (HT.out true (decide_eq_true h0).symm)
    have H0 := Lib.hid h0
    clear h0 HT
    go_wp2_with fail
    refine HT2.out.mono ?_
    rintro e w' ⟨rfl, hw⟩
    obtain rfl := hw.symm
    go_wp2_with fail
    go_ret
    exact ⟨_, rfl, Or.inr ⟨k, rfl, hpk, H0.out⟩, rfl⟩
  ·have hge : ¬ (k : Int) < (m : Int) := by omega
   have HE : Hid (∀ i, p ≤ i → i < n → A i p = 0) := Lib.hid (fun i h1 h2 => HZ.out i h1 (by have := HM.out; omega))
   go_wp2_with fail
   go_ret
   exact ⟨_, rfl, Or.inl ⟨rfl, HE.out⟩, rfl⟩

def swapM (p q : Nat) (A : Mx) : Mx := fun i j => A (sw p q i) j
def scaleM (p s : Nat) (A : Mx) : Mx := fun i j => if i = p then mul s (A i j) else A i j
def clearM (p : Nat) (A : Mx) : Mx := fun i j => if i = p then A i j else A i j ^^^ mul (A i p) (A p j)
def stepM (p q : Nat) (A : Mx) : Mx := clearM p (scaleM p (inv (A q p)) (swapM p q A))

def Settled (B b n c p : Nat) (G K : Nat → Nat) (A : Mx) (w : World) (e : Ending) (w' : World) : Prop :=
 (e = .returned (.bool false) ∧ (∀ i, p ≤ i → i < n → A i p = 0) ∧ Below B w w') ∨
 (e = .returned (.bool true) ∧ ∃ q, p ≤ q ∧ q < n ∧ A q p ≠ 0 ∧ Own w' b n c (fun i => G (sw p q i)) (fun i => K (sw p q i)) (stepM p q A) ∧ Below B w w')

theorem swapM_bd {n c p q : Nat} {A : Mx} (h : Bd n c A) (hp : p < n) (hq : q < n) : Bd n c (swapM p q A) := fun _ hi j hj => h _ (sw_lt hp hq hi) j hj
theorem scaleM_bd {n c p s : Nat} {A : Mx} (h : Bd n c A) : Bd n c (scaleM p s A) := fun i hi j hj => by
 unfold scaleM
 split
 ·exact mul_lt _ _
 ·exact h i hi j hj
theorem finv1 (f a : Nat) (w : World) (h : Fld w f) (ha : a < 256) (h0 : a ≠ 0) : Calls Tryz.prog 202 #[.pointer (some ⟨f, 0, none⟩), .int .u8 (a : Int)] w
  fun e w' => e = .returned (.tuple #[.int .u8 (inv a : Nat), .bool true]) ∧ w' = w := by
 have := finv f a w h ha
 rw [if_neg h0, decide_eq_true h0] at this
 exact this
theorem sw_left (p q : Nat) : sw p q p = q := by unfold sw; rw [if_pos rfl]
theorem Fld.of_heap {w w' : World} {f : Nat} (h : Fld w f) (e : w'.heap[f]? = w.heap[f]?) : Fld w' f :=
 ⟨fun k hk => (World.cell?_of_block e).trans (h.exp k hk), fun k hk => (World.cell?_of_block e).trans (h.log k hk)⟩

theorem msettle (B f b n c p : Nat) (G K : Nat → Nat) (A : Mx) (w : World) (hf : Fld w f) (ho : Own w b n c G K A) (ha : Bd n c A) (hp : p < n) (hpc : p < c) (hc : c ≤ 1000000) (hn : n ≤ 1000000)
  (hfB : f < B) (hbB : B ≤ b) (hGB : ∀ i, i < n → B ≤ G i) (hBs : B ≤ w.heap.size) :
  Calls Tryz.prog 178 #[.pointer (some ⟨f, 0, none⟩), .slice (some ⟨b, 0, none⟩) n n, .int .i64 (p : Int)] w (Settled B b n c p G K A w) := by
 have HF := Lib.hid hf
 have HO := Lib.hid ho
 have HA := Lib.hid ha
 have HG := Lib.hid hGB
 clear hf ho ha hGB
 have HW : Hid (Own (w.alloc (.cells #[.int .i64 (p : Int)] 3)) b n c G K A ∧ Below B w (w.alloc (.cells #[.int .i64 (p : Int)] 3)) ∧ (w.alloc (.cells #[.int .i64 (p : Int)] 3)).cell? ⟨w.heap.size, 0, none⟩ = some (.int .i64 (p : Int)) ∧ (w.alloc (.cells #[.int .i64 (p : Int)] 3)).heap.size = w.heap.size + 1) := by
  refine Lib.hid ⟨HO.out.keep (fun k hk => alloc_old w _ ?_), (Below.refl _ _).alloc hBs _, (cell_of_block (alloc_block w _)).trans rfl, alloc_size _ _⟩
  rcases hk with rfl | ⟨i, hi, rfl⟩
  ·exact HO.out.lt (by omega)
  ·exact HO.out.ltG hi (by omega)
 have HKB : Hid (b < w.heap.size ∧ ∀ i, i < n → G i < w.heap.size) := Lib.hid ⟨HO.out.lt (by omega), fun i hi => HO.out.ltG hi (by omega)⟩
 have HFW : Hid (∀ v : World, Below B w v → Fld v f) := Lib.hid (fun v hv => HF.out.of_heap (hv.block f hfB))
 have kc := HW.out.2.2.1
 have HM0 : Hid (∀ W, W.cell? ⟨w.heap.size, 0, none⟩ = some (.int .i64 (p : Int)) → Own W b n c G K A → Calls Tryz.prog 200 #[.slice (some ⟨b, p, none⟩) (n - p : Nat) (n - p : Nat), .func (.func 201) #[] #[.pointer (some ⟨w.heap.size, 0, none⟩)]] W (FoundRet n p A W)) :=
  Lib.hid (fun W h1 h2 => mindex b n c p w.heap.size G K A W h2 hp hpc hn h1 _)
 clear HF HO
 go_enter Tryz.func178, Tryz.ntmps178
 go_wp2_with fail
 generalize w.alloc (.cells #[.int .i64 (p : Int)] 3) = w1 at *
 generalize hkb : w.heap.size = kb at *
 have HKE := Lib.hid hkb
 clear hkb
 refine (HM0.out _ kc HW.out.1).mono ?_
 rintro e w' ⟨fd, rfl, hfd, hw⟩
 obtain rfl := hw.symm
 clear HM0
 rcases hfd with ⟨rfl, h0⟩ | ⟨d, rfl, hq, h0⟩
 ·have H0 := Lib.hid h0
  clear h0
  go_wp2_with fail
  go_ret
  exact Or.inl ⟨rfl, H0.out, HW.out.2.1⟩
 ·obtain ⟨q, hqd⟩ : ∃ q, p + d = q := ⟨_, rfl⟩
  rw [hqd] at hq h0
  have HQ := Lib.hid hqd
  have H0 := Lib.hid h0
  clear h0
  have cp := HW.out.1.outer p hp
  have cq := HW.out.1.outer (p + d) (by omega)
  have f1 := HW.out.1.free p
  have f2 := HW.out.1.free (p + d)
  have i1 : (p : Int) < (n : Int) := by omega
  have i2 : (p : Int) + (d : Int) < (n : Int) := by omega
  have i3 : p + d < n := by omega
  obtain ⟨u1, k1⟩ := cell?_setCell_some (w := w1) (p := ⟨b, p, none⟩) (x := .slice (some ⟨G (p + d), 0, none⟩) c (K (p + d))) (q := ⟨b, p + d, none⟩) (v := .slice (some ⟨G (p + d), 0, none⟩) c (K (p + d))) cq
  have k2 : (w1.setCell ⟨b, p, none⟩ (.slice (some ⟨G (p + d), 0, none⟩) c (K (p + d)))).cell? ⟨kb, 0, none⟩ = some (.int .i64 (p : Int)) := by
   have := HKB.out.1
   rw [cell_far (Or.inl (by omega))]
   exact kc
  clear hqd
  go_wp2_with fail
  go_region
  clear k1 k2 f1 f2 cp cq
  have hsq : p ≤ q ∧ q < n := ⟨by have := HQ.out; omega, hq⟩
  have HO2 := HW.out.1.swap (p := p) (q := p + d) hp i3
  have HB2 : Below B w ((w1.setCell ⟨b, p, none⟩ (.slice (some ⟨G (p + d), 0, none⟩) c (K (p + d)))).setCell ⟨b, p + d, none⟩ (.slice (some ⟨G p, 0, none⟩) c (K p))).drew := ((HW.out.2.1.setCell hbB _).setCell hbB _).drew
  have HK2 : ((w1.setCell ⟨b, p, none⟩ (.slice (some ⟨G (p + d), 0, none⟩) c (K (p + d)))).setCell ⟨b, p + d, none⟩ (.slice (some ⟨G p, 0, none⟩) c (K p))).drew.cell? ⟨kb, 0, none⟩ = some (.int .i64 (p : Int)) := by
   show ((w1.setCell ⟨b, p, none⟩ (.slice (some ⟨G (p + d), 0, none⟩) c (K (p + d)))).setCell ⟨b, p + d, none⟩ (.slice (some ⟨G p, 0, none⟩) c (K p))).cell? ⟨kb, 0, none⟩ = _
   have := HKB.out.1
   rw [cell_far (Or.inl (by omega)), cell_far (Or.inl (by omega))]
   exact kc
  have HO3 : Own ((w1.setCell ⟨b, p, none⟩ (.slice (some ⟨G (p + d), 0, none⟩) c (K (p + d)))).setCell ⟨b, p + d, none⟩ (.slice (some ⟨G p, 0, none⟩) c (K p))).drew b n c (fun i => G (sw p (p + d) i)) (fun i => K (sw p (p + d) i)) (swapM p (p + d) A) := HO2.drew
  clear HO2 kc HW
  revert HB2 HK2 HO3
  generalize ((w1.setCell ⟨b, p, none⟩ (.slice (some ⟨G (p + d), 0, none⟩) c (K (p + d)))).setCell ⟨b, p + d, none⟩ (.slice (some ⟨G p, 0, none⟩) c (K p))).drew = w2
  intro HB2 HK2 HO3
  obtain ⟨G2, hG2⟩ : ∃ G2 : Nat → Nat, G2 = (fun i => G (sw p (p + d) i)) := ⟨_, rfl⟩
  obtain ⟨K2, hK2⟩ : ∃ K2 : Nat → Nat, K2 = (fun i => K (sw p (p + d) i)) := ⟨_, rfl⟩
  obtain ⟨A2, hA2⟩ : ∃ A2 : Mx, A2 = swapM p (p + d) A := ⟨_, rfl⟩
  have HA2 : Hid (Bd n c A2 ∧ A2 p p ≠ 0 ∧ A2 p p = A q p) := by
   have e : A2 p p = A q p := by rw [hA2, ← HQ.out]; unfold swapM; rw [sw_left]
   exact Lib.hid ⟨by rw [hA2]; exact swapM_bd HA.out hp i3, by rw [e]; exact H0.out, e⟩
  have HG2 : Hid (∀ i, i < n → B ≤ G2 i ∧ G2 i < kb) := Lib.hid (fun i hi => by rw [hG2]; exact ⟨HG.out _ (sw_lt hp i3 hi), HKB.out.2 _ (sw_lt hp i3 hi)⟩)
  rw [← hG2, ← hK2, ← hA2] at HO3
  have HE2 : Hid (G2 = (fun i => G (sw p q i)) ∧ K2 = (fun i => K (sw p q i)) ∧ A2 = swapM p q A) := Lib.hid ⟨by rw [hG2, HQ.out], by rw [hK2, HQ.out], by rw [hA2, HQ.out]⟩
  have HW2 := Lib.hid (And.intro HO3 HB2)
  have rp := HO3.outer p hp
  have xpp := HO3.cell p hp p hpc
  have F5 := Lib.hid (finv1 f (A2 p p) w2.drew ((HFW.out w2 HB2).of_heap rfl) (HA2.out.1 p hp p hpc) HA2.out.2.1)
  clear HO3 HB2 hG2 hK2 hA2 HG
  have i4 : (p : Int) < (c : Int) := by omega
  generalize hx : A2 p p = x at xpp F5
  have HXV := Lib.hid hx
  clear hx
  go_wp2_with fail
  refine wp_region_still_lit (by kernel_rfl) (by kernel_rfl) ?_
  repeat still_step
  still_call F5.out
  repeat still_step
  refine wpStill_nil ?_
  change Exit.then _ _ _ _ w2.drew
  have rp' : w2.drew.cell? ⟨b, p, none⟩ = some (.slice (some ⟨G2 p, 0, none⟩) c (K2 p)) := rp
  have HK3 : w2.drew.cell? ⟨kb, 0, none⟩ = some (.int .i64 (p : Int)) := HK2
  have HW3 : Hid (Own w2.drew b n c G2 K2 A2 ∧ Below B w w2.drew ∧ w2.drew.cell? ⟨kb, 0, none⟩ = some (.int .i64 (p : Int))) := Lib.hid ⟨HW2.out.1.drew, HW2.out.2.drew, HK3⟩
  clear rp xpp HK2 HW2 F5
  revert rp' HK3 HW3
  generalize w2.drew = w3
  intro rp' HK3 HW3
  go_wp2_with fail
  clear rp' HK3
  have H0' : Hid (Own w3 b n c G2 K2 (fun i j => if i = p ∧ j < 0 then mul (inv x) (A2 i j) else A2 i j) ∧ Below B w w3 ∧ w3.cell? ⟨kb, 0, none⟩ = some (.int .i64 (p : Int))) :=
   Lib.hid ⟨HW3.out.1.congr (fun i _ j _ => by rw [if_neg (by omega)]), HW3.out.2⟩
  clear HW3
  go_loopg [10, 11, 58] c (fun q' s10 s11 s58 v => ∃ j : Nat, s58 = .int .i64 (j : Int) ∧ j ≤ c ∧ q' = c - j ∧ Hid (Own v b n c G2 K2 (fun i j' => if i = p ∧ j' < j then mul (inv x) (A2 i j') else A2 i j') ∧ Below B w v ∧ v.cell? ⟨kb, 0, none⟩ = some (.int .i64 (p : Int))))
  case atStart => exact ⟨0, rfl, by omega, rfl, H0'⟩
  case round =>
   obtain ⟨j, rfl, hj, rfl, HJ⟩ := hrel
   clear H0'
   by_cases hlj : j < c
   ·have hlj' : (j : Int) < (c : Int) := by omega
    have c1 := HJ.out.1.cell p hp j hlj
    rw [if_neg (by omega)] at c1
    have c2 := HJ.out.1.outer p hp
    have c3 := HJ.out.2.2
    have f1 := HJ.out.1.freeG p hp j
    have hv : A2 p j < 256 := HA2.out.1 p hp j hlj
    have F6 := Lib.hid (fmul f (inv x) (A2 p j) wr.drew ((HFW.out wr HJ.out.2.1).of_heap rfl) (inv_lt x) hv)
    generalize hy : A2 p j = y at c1 F6 hv
    have HY := Lib.hid hy
    clear hy
    go_wp2_with fail
    refine wp_region_still_tail 10 (by kernel_rfl) (by kernel_rfl) ?_
    simp only [List.take_succ_cons, List.take_zero, List.drop_succ_cons, List.drop_zero]
    repeat still_step
    still_call F6.out
    repeat still_step
    refine wpStill_nil ?_
    change wpList _ _ _ _ _ wr.drew
    have e1d : wr.drew.cell? ⟨G2 p, j, none⟩ = some (.int .u8 (y : Int)) := c1
    have f1d : wr.drew.frozen? ⟨G2 p, j, none⟩ = false := f1
    go_wp2_with fail
    go_roundg (c - (j + 1))
    case measure => omega
    case rel => exact ⟨j + 1, by go_num, by omega, rfl, Lib.hid ⟨(Own.put (x := mul (inv x) y) HJ.out.1.drew hp hlj).congr (fun i _ j' _ => by
     try dsimp only
     by_cases e : i = p ∧ j' = j
     ·rw [if_pos e, if_pos ⟨e.1, by omega⟩, e.1, e.2, HY.out]
     ·rw [if_neg e]
      by_cases h : i = p ∧ j' < j
      ·rw [if_pos h, if_pos ⟨h.1, by omega⟩]
      ·rw [if_neg h, if_neg (by omega)]), (HJ.out.2.1.drew).setCell (HG2.out p hp).1 _, by
       have := (HG2.out p hp).2
       show (wr.setCell ⟨G2 p, j, none⟩ (.int .u8 (mul (inv x) y : Nat))).cell? ⟨kb, 0, none⟩ = _
       rw [cell_far (Or.inl (by omega))]
       exact HJ.out.2.2⟩⟩
   ·have hge : ¬ (j : Int) < (c : Int) := by omega
    have HU : Hid (Own wr b n c G2 K2 (scaleM p (inv x) A2) ∧ Below B w wr ∧ wr.cell? ⟨kb, 0, none⟩ = some (.int .i64 (p : Int))) := Lib.hid ⟨HJ.out.1.congr (fun i _ j' hj' => by
     unfold scaleM
     try dsimp only
     by_cases h : i = p
     ·rw [if_pos ⟨h, by omega⟩, if_pos h]
     ·rw [if_neg (fun e => h e.1), if_neg h]), HJ.out.2⟩
    clear HJ
    obtain ⟨U, hU⟩ : ∃ U : Mx, U = scaleM p (inv x) A2 := ⟨_, rfl⟩
    rw [← hU] at HU
    have HUB : Hid (Bd n c U) := Lib.hid (by rw [hU]; exact scaleM_bd HA2.out.1)
    have HUE := Lib.hid hU
    clear hU
    obtain ⟨wu, rfl⟩ : ∃ wu : World, wu = wr := ⟨wr, rfl⟩
    go_wp2_with fail
    go_loopg [12, 13, 76] n (fun q' s12 s13 s76 v => ∃ i : Nat, s76 = .int .i64 (i : Int) ∧ i ≤ n ∧ q' = n - i ∧ Hid (Own v b n c G2 K2 (fun i' j' => if i' < i then clearM p U i' j' else U i' j') ∧ Below B w v ∧ v.cell? ⟨kb, 0, none⟩ = some (.int .i64 (p : Int))))
    case atStart => exact ⟨0, rfl, by omega, rfl, Lib.hid ⟨HU.out.1.congr (fun i _ j _ => by rw [if_neg (by omega)]), HU.out.2⟩⟩
    case round =>
     obtain ⟨i, rfl, hi, rfl, HI⟩ := hrel
     by_cases hli : i < n
     ·have hli' : (i : Int) < (n : Int) := by omega
      have c0 := HI.out.1.outer i hli
      have c3 := HI.out.2.2
      by_cases hip : i = p
      ·have t1 : ((i : Int) != (p : Int)) = false := by rw [bne_eq_false_iff_eq]; omega
       have HN : Hid (Own wr b n c G2 K2 (fun i' j' => if i' < i + 1 then clearM p U i' j' else U i' j') ∧ Below B w wr ∧ wr.cell? ⟨kb, 0, none⟩ = some (.int .i64 (p : Int))) := Lib.hid ⟨HI.out.1.congr (fun i' _ j _ => by
        try dsimp only
        by_cases h : i' < i
        ·rw [if_pos h, if_pos (by omega)]
        ·rw [if_neg h]
         by_cases e : i' = i
         ·rw [if_pos (by omega)]; unfold clearM; rw [if_pos (by omega)]
         ·rw [if_neg (by omega)]), HI.out.2⟩
       clear HI hip
       go_wp2_with fail
       go_roundg (n - (i + 1))
       case measure => omega
       case rel => exact ⟨i + 1, by go_num, by omega, rfl, HN⟩
      ·have t1 : ((i : Int) != (p : Int)) = true := by rw [bne_iff_ne]; omega
       have c1 := HI.out.1.cell i hli p hpc
       rw [if_neg (Nat.lt_irrefl i)] at c1
       have c2 := HI.out.1.outer p hp
       have HP1 : Hid (∀ j, (if p < i then clearM p U p j else U p j) = U p j) := Lib.hid (fun j => by
        split
        ·unfold clearM; rw [if_pos rfl]
        ·rfl)
       have HAT := Lib.hid (maddTimes f (G2 i) c (U i p) (K2 i) (K2 p) (G2 p) 0 (U i) (U p) wr.drew ((HFW.out wr HI.out.2.1).of_heap rfl) (by have := (HG2.out i hli).1; omega) (HUB.out i hli p hpc) (fun j hj => HUB.out i hli j hj) (fun j hj => HUB.out p hp j hj)
        (((HI.out.1.row8 hli).congr (fun j _ => by rw [if_neg (Nat.lt_irrefl i)])).keep rfl) (fun j hj => by rw [Nat.zero_add]; exact (HI.out.1.cell p hp j hj).trans (by rw [HP1.out])) (fun e => hip (HI.out.1.inj i hli p hp e.symm)) hc (by omega))
       have HIP := Lib.hid hip
       clear hip
       generalize hz : U i p = z at HAT c1
       have HZ := Lib.hid hz
       clear hz
       go_wp2_with fail
       go_still_tail 10, (by kernel_rfl)
       change wpList _ _ _ _ _ wr.drew
       go_wp2_with fail
       refine HAT.out.mono ?_
       rintro e w5 ⟨rfl, r5, g5⟩
       have HN : Hid (Own w5 b n c G2 K2 (fun i' j' => if i' < i + 1 then clearM p U i' j' else U i' j')) := Lib.hid ((HI.out.1.drew.row_put hli (by omega) r5 g5).congr (fun i' _ j _ => by
        try dsimp only
        by_cases e : i' = i
        ·rw [if_pos e, if_pos (by omega)]
         unfold clearM
         rw [if_neg (by rw [e]; exact HIP.out), e, HZ.out]
        ·rw [if_neg e]
         by_cases h : i' < i
         ·rw [if_pos h, if_pos (by omega)]
         ·rw [if_neg h, if_neg (by omega)]))
       have HB5 : Hid (Below B w w5 ∧ w5.cell? ⟨kb, 0, none⟩ = some (.int .i64 (p : Int))) := Lib.hid ⟨Below.of_only HI.out.2.1.drew g5 (HG2.out i hli).1 (by have := HI.out.2.1.drew.size; have := HKE.out; omega),
        (World.cell?_of_block (w := wr.drew) (g5.block kb (World.block_lt_of_cell? wr ⟨kb, 0, none⟩ HI.out.2.2) (fun e => by injection e with e; have := (HG2.out i hli).2; omega))).trans HI.out.2.2⟩
       clear r5 g5
       go_wp2_with fail
       go_roundg (n - (i + 1))
       case measure => omega
       case rel => exact ⟨i + 1, by go_num, by omega, rfl, Lib.hid ⟨HN.out, HB5.out⟩⟩
     ·have hge : ¬ (i : Int) < (n : Int) := by omega
      go_wp2_with fail
      go_ret
      refine Or.inr ⟨rfl, q, hsq.1, hsq.2, H0.out, ?_, HI.out.2.1⟩
      have h1 := HI.out.1.congr (B := stepM p q A) (fun i' hi' j _ => by
       try dsimp only
       rw [if_pos (by omega)]
       unfold stepM
       rw [HUE.out, ← HXV.out, HA2.out.2.2, HE2.out.2.2])
      rw [HE2.out.1, HE2.out.2.1] at h1
      exact h1
end Go.Proofs.YtelmcchleclklaaGreat.Kc
