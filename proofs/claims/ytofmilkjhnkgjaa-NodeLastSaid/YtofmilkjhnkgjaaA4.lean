import Derived.Test.YtofmilkjhnkgjaaA3
namespace Go.Proofs.Ytofmilkjhnkgjaa
open Go.RowKit Go.Sort
set_option maxRecDepth 100000
set_option maxHeartbeats 1000000

/-- What Seal lays, step by step, is the block. -/
theorem seal_steps (kind n : Nat) (B : Nat → Nat) (hk : kind < 256) (hn : n ≤ 153) : ∀ j, j < 156 →
    (fun j => if 3 ≤ j ∧ j < 3 + n then B (j - 3) else putF (putF (fun _ => 0) 0 1 kind) 1 2 n j) j = headF kind n B j := by
  intro j hj
  unfold headF putF
  dsimp only
  by_cases h0 : j = 0
  · subst h0; rw [if_neg (by omega), if_neg (by omega), if_pos (by omega), if_pos rfl]; exact byte1 kind hk
  · rw [if_neg h0]
    by_cases h1 : j = 1
    · subst h1; rw [if_neg (by omega), if_pos (by omega), if_pos rfl]
    · rw [if_neg h1]
      by_cases h2 : j = 2
      · subst h2; rw [if_neg (by omega), if_pos (by omega), if_pos rfl]
      · rw [if_neg h2]
        by_cases h3 : j < 3 + n
        · rw [if_pos (by omega), if_pos h3]
        · rw [if_neg (by omega), if_neg (by omega), if_neg (by omega), if_neg h3]
theorem seal_end (kind n : Nat) (B F : Nat → Nat) (hF : ∀ j, j < 156 → F j = headF kind n B j) : ∀ j, j < 160 → putF F 156 4 (sumF F 156) j = sealF kind n B j := by
  intro j hj
  unfold putF sealF
  by_cases h : j < 156
  · rw [if_neg (by omega), if_pos h, hF j h]
  · rw [if_pos (by omega), if_neg h, sumF_congr hF]

/-- mark.Seal of what may be. -/
def SealRet (kind n : Nat) (B : Nat → Nat) (w : World) (e : Ending) (w' : World) : Prop :=
  ∃ g, e = .returned (.tuple #[.slice (some ⟨g, 0, none⟩) 160 160, .int .i64 0]) ∧ Blk8 w' g 160 (sealF kind n B) ∧ Below w.heap.size w w' ∧ w.heap.size ≤ g
theorem mseal (kind n cap : Nat) (A : Option Addr) (B : Nat → Nat) (w : World) (hk1 : 1 ≤ kind) (hk2 : kind < 256) (hn : n ≤ 153) (h : Rd w A n B) (hB : ∀ j, j < n → B j < 256) :
    Calls Try.prog 57 #[.int .i64 (kind : Int), .slice A n cap] w (SealRet kind n B w) := by
  obtain ⟨zs, z0, z1, z2⟩ := make8s 160 (by omega)
  have z3 : ∀ W : World, Sem.run Try.prog (Instr.makeSlice 35 (.int .i64 160) (.int .i64 160)) W = .ok (.slice (some ⟨W.heap.size, 0, none⟩) 160 160) (W.alloc (.cells zs 5)) := z2
  have HK := Lib.hid (Blk8.new (w := w) (F := fun _ => 0) z0 z1)
  have HB0 : Hid (Below w.heap.size w (w.alloc (.cells zs 5))) := Lib.hid ((Below.refl _ _).alloc (Nat.le_refl _) _)
  have HR := Lib.hid h
  have HB := Lib.hid hB
  have t1 : ¬ (kind : Int) < 1 := by omega
  have t2 : ¬ (255 : Int) < (kind : Int) := by omega
  have t3 : ¬ (153 : Int) < (n : Int) := by omega
  clear z0 z1 z2 h hB
  go_enter Try.func57, Try.ntmps57
  go_wp2_with fail
  generalize w.alloc (.cells zs 5) = w1 at *
  obtain ⟨H, hH⟩ : ∃ H, w.heap.size = H := ⟨_, rfl⟩
  rw [hH] at HK HB0 ⊢
  have HH := Lib.hid hH
  clear hH z3
  obtain ⟨G1, hG1⟩ : ∃ G1, G1 = putF (fun _ => 0) 0 1 kind := ⟨_, rfl⟩
  obtain ⟨G2, hG2⟩ : ∃ G2, G2 = putF G1 1 2 n := ⟨_, rfl⟩
  have HG3 : Hid (∀ j, j < 156 → (if 3 ≤ j ∧ j < 3 + n then B (j - 3) else G2 j) = headF kind n B j) := Lib.hid (by rw [hG2, hG1]; exact seal_steps kind n B hk2 hn)
  obtain ⟨G3, hG3⟩ : ∃ G3 : Nat → Nat, G3 = fun j => if 3 ≤ j ∧ j < 3 + n then B (j - 3) else G2 j := ⟨_, rfl⟩
  have HG1 := Lib.hid hG1
  have HG2 := Lib.hid hG2
  have HG3a := Lib.hid hG3
  clear hG1 hG2 hG3
  have HKD := HK.out.drew
  have HKd := Lib.hid HKD
  have HBd := Lib.hid HB0.out.drew
  have HNd := Lib.hid (nbytes kind 1 1 rfl w1.drew (by omega))
  clear HK HB0 HKD
  go_region_law (first | (refine step_copy_blk rfl (.tmp 20) (.tmp 22) rfl H 0 160 160 g2 1 1 rfl rfl 160 (fun _ => 0) (byteAt kind 1) G1 HK2.out HN2.out (by omega) (by omega) (by rw [HG1.out]; exact fun j _ => by unfold putF; rfl) ?_; intro w3 k3 g3 _; have HK3 := Lib.hid k3; have HB3 := Lib.hid (Below.of_only HB2.out g3 (Nat.le_refl _) (by have := HK2.out.lt; omega)); clear k3 g3) | (go_simp; go_at_call 59; refine HNd.out.mono ?_; rintro e w2 ⟨g2, rfl, n2, b2, l2⟩; (try dsimp only); have HN2 := Lib.hid n2; have HK2 := Lib.hid (HKd.out.below b2); have HB2 := Lib.hid (HBd.out.trans (b2.mono (by rw [← HH.out]; exact HBd.out.size))); clear n2 b2 HKd HBd HNd))
  clear HN2 HK2 HB2 l2
  go_wp2_with fail
  have HKd := Lib.hid HK3.out.drew
  have HBd := Lib.hid HB3.out.drew
  have HNd := Lib.hid (nbytes n 2 2 rfl w3.drew (by omega))
  clear HK3 HB3
  go_region_law (first | (refine step_copy_blk rfl (.tmp 25) (.tmp 28) rfl H 1 159 159 g4 2 2 rfl rfl 160 G1 (byteAt n 2) G2 HK4.out HN4.out (by omega) (by omega) (by rw [HG2.out]; exact fun j _ => by unfold putF; rfl) ?_; intro w5 k5 g5 _; have HK5 := Lib.hid k5; have HB5 := Lib.hid (Below.of_only HB4.out g5 (Nat.le_refl _) (by have := HK4.out.lt; omega)); clear k5 g5) | (go_simp; go_at_call 59; refine HNd.out.mono ?_; rintro e w4 ⟨g4, rfl, n4, b4, l4⟩; (try dsimp only); have HN4 := Lib.hid n4; have HK4 := Lib.hid (HKd.out.below b4); have HB4 := Lib.hid (HBd.out.trans (b4.mono (by rw [← HH.out]; exact HBd.out.size))); clear n4 b4 HKd HBd HNd))
  clear HN4 HK4 HB4 l4
  have HR5 : Hid (Rd w5 A n B) := Lib.hid (HR.out.keep (by rw [HH.out]; exact HB5.out))
  clear HR
  have hmin : n = Nat.min n 157 := (Nat.min_eq_left (by omega)).symm
  have HM := Lib.hid hmin
  clear hmin
  go_wp2_with ((with_reducible refine copy_blk w5 rfl (.tmp 31) (.tmp 32) rfl (some ⟨H, 3, none⟩) A 157 157 n cap rfl rfl H 3 160 n G2 B G3 HK5.out HM.out (fun _ => rfl) HR5.out (by omega) (fun j _ => by rw [HG3a.out]) ?_); intro w6 k6 g6 _; have HK6 := Lib.hid k6; have HB6 := Lib.hid (Below.of_only HB5.out g6 (Nat.le_refl _) (by have := HK5.out.lt; omega)); clear k6 g6)
  have HG4 : Hid (∀ j, j < 156 → G3 j = headF kind n B j) := Lib.hid (by rw [HG3a.out]; exact HG3.out)
  have HRD : Hid (Rd w6.drew (some ⟨H, 0, none⟩) 156 (headF kind n B)) := Lib.hid ((HK6.out.drew.rd.less (show 156 ≤ 160 by omega)).congr HG4.out)
  have HSM := Lib.hid (msum (some ⟨H, 0, none⟩) 156 160 (headF kind n B) w6.drew HRD.out (fun j _ => headF_lt hk2 HB.out j) (by omega))
  have HKd := Lib.hid HK6.out.drew
  have HBd := Lib.hid HB6.out.drew
  have HNd := Lib.hid (nbytes (sumF (headF kind n B) 156) 4 4 rfl w6.drew (by omega))
  have HGS : Hid (∀ j, j < 160 → putF G3 156 4 (sumF (headF kind n B) 156) j = sealF kind n B j) := Lib.hid (by rw [← sumF_congr HG4.out]; exact seal_end kind n B G3 HG4.out)
  clear HK6 HB6 HRD HR5 HK5 HB5
  generalize sumF (headF kind n B) 156 = sm at *
  go_region_law (first | (refine step_copy_blk rfl (.tmp 35) (.tmp 39) rfl H 156 4 4 g8 4 4 rfl rfl 160 G3 (byteAt sm 4) (sealF kind n B) HK8.out HN8.out (by omega) (by omega) (by intro j hj; rw [← HGS.out j hj]; unfold putF; rfl) ?_; intro w9 k9 g9 _; have HK9 := Lib.hid k9; have HB9 := Lib.hid (Below.of_only HB8.out g9 (Nat.le_refl _) (by have := HK8.out.lt; omega)); clear k9 g9) | (go_simp; go_at_call 71; refine HSM.out.mono ?_; rintro e w7 ⟨rfl, hw⟩; obtain rfl := hw.symm) | (go_simp; go_at_call 59; refine HNd.out.mono ?_; rintro e w8 ⟨g8, rfl, n8, b8, l8⟩; (try dsimp only); have HN8 := Lib.hid n8; have HK8 := Lib.hid (HKd.out.below b8); have HB8 := Lib.hid (HBd.out.trans (b8.mono (by rw [← HH.out]; exact HBd.out.size))); clear n8 b8 HKd HBd HNd))
  go_wp2_with fail
  go_ret2
  exact ⟨H, rfl, HK9.out, by rw [HH.out]; exact HB9.out, Nat.le_of_eq HH.out⟩
theorem mseal_no (kind : Int) (n cap : Nat) (A : Option Addr) (w : World) (hn : n ≤ 9223372036854775807) (h : ¬ (1 ≤ kind ∧ kind < 256 ∧ n ≤ 153)) :
    Calls Try.prog 57 #[.int .i64 kind, .slice A n cap] w fun e w' => e = .returned (.tuple #[.slice none 0 0, .int .i64 1]) ∧ w' = w := by
  by_cases h1 : kind < 1
  · clear h
    go_enter Try.func57, Try.ntmps57
    go_wp2_with fail
    go_ret2
    exact ⟨rfl, rfl⟩
  · by_cases h2 : 255 < kind
    · clear h
      go_enter Try.func57, Try.ntmps57
      go_wp2_with fail
      go_ret2
      exact ⟨rfl, rfl⟩
    · have h3 : (153 : Int) < (n : Int) := by omega
      clear h
      go_enter Try.func57, Try.ntmps57
      go_wp2_with fail
      go_ret2
      exact ⟨rfl, rfl⟩

/-- bytes.Equal. -/
theorem bequal (A1 A2 : Option Addr) (n m c1 c2 : Nat) (F G : Nat → Nat) (w : World) (h1 : Rd w A1 n F) (h2 : Rd w A2 m G) (b1 : ∀ j, j < n → F j < 256) (b2 : ∀ j, j < m → G j < 256) (t : Bool) (ht : t = true ↔ n = m ∧ ∀ j, j < n → F j = G j) :
    Calls Try.prog 73 #[.slice A1 n c1, .slice A2 m c2] w fun e w' => e = .returned (.bool t) ∧ w' = w := by
  have e1 := conv_rd (cap := c1) h1
  have e2 := conv_rd (cap := c2) h2
  have e3 : ((strOf ((List.range n).map F)).toList == (strOf ((List.range m).map G)).toList) = t := by
    cases t with
    | true => exact beq_iff_eq.2 ((str_eq b1 b2).2 (ht.1 rfl))
    | false => exact beq_eq_false_iff_ne.2 (fun e => by have := ht.2 ((str_eq b1 b2).1 e); cases this)
  clear h1 h2 b1 b2 ht
  generalize strOf ((List.range n).map F) = s1 at *
  generalize strOf ((List.range m).map G) = s2 at *
  go_enter Try.func73, Try.ntmps73
  go_wp2_with fail
  go_ret
  exact ⟨rfl, rfl⟩
end Go.Proofs.Ytofmilkjhnkgjaa
