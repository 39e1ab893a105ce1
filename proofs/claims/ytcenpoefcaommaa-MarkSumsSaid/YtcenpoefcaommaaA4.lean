import Derived.Test.YtcenpoefcaommaaA3
namespace Go.Proofs.Ytcenpoefcaommaa
open Go.RowKit Go.Sort
set_option maxRecDepth 100000
set_option maxHeartbeats 1000000

/-- What Seal lays, step by step, is the block. -/
theorem seal_steps (kind n : Nat) (B : Nat → Nat) (hk : kind < 256) (hn : n ≤ 153) : ∀ j, j < 156 →
    (fun j => if 3 ≤ j ∧ j < 3 + n then B (j - 3) else putF (putF (fun _ => 0) 0 1 kind) 1 2 n j) j = headF kind n B j := by
  intro j hj
  unfold headF putF
  dsimp only
  by_cases h0 : j = 0
  · subst h0; rw [if_neg (by omega), if_neg (by omega), if_pos (by omega), if_pos rfl]; exact byte1 kind hk
  · rw [if_neg h0]
    by_cases h1 : j = 1
    · subst h1; rw [if_neg (by omega), if_pos (by omega), if_pos rfl]
    · rw [if_neg h1]
      by_cases h2 : j = 2
      · subst h2; rw [if_neg (by omega), if_pos (by omega), if_pos rfl]
      · rw [if_neg h2]
        by_cases h3 : j < 3 + n
        · rw [if_pos (by omega), if_pos h3]
        · rw [if_neg (by omega), if_neg (by omega), if_neg (by omega), if_neg h3]
theorem seal_end (kind n : Nat) (B F : Nat → Nat) (hF : ∀ j, j < 156 → F j = headF kind n B j) : ∀ j, j < 160 → putF F 156 4 (sumF F 156) j = sealF kind n B j := by
  intro j hj
  unfold putF sealF
  by_cases h : j < 156
  · rw [if_neg (by omega), if_pos h, hF j h]
  · rw [if_pos (by omega), if_neg h, sumF_congr hF]

/-- mark.Seal of what may be. -/
def SealRet (kind n : Nat) (B : Nat → Nat) (w : World) (e : Ending) (w' : World) : Prop :=
  ∃ g, e = .returned (.tuple #[.slice (some ⟨g, 0, none⟩) 160 160, .int .i64 0]) ∧ Blk8 w' g 160 (sealF kind n B) ∧ Below w.heap.size w w' ∧ w.heap.size ≤ g
theorem mseal (kind n cap : Nat) (A : Option Addr) (B : Nat → Nat) (w : World) (hk1 : 1 ≤ kind) (hk2 : kind < 256) (hn : n ≤ 153) (h : Rd w A n B) (hB : ∀ j, j < n → B j < 256) :
    Calls Try.prog 8 #[.int .i64 (kind : Int), .slice A n cap] w (SealRet kind n B w) := by
  obtain ⟨zs, z0, z1, z2⟩ := make8s 160 (by omega)
  have z3 : ∀ W : World, Sem.run Try.prog (Instr.makeSlice 22 (.int .i64 160) (.int .i64 160)) W = .ok (.slice (some ⟨W.heap.size, 0, none⟩) 160 160) (W.alloc (.cells zs 5)) := z2
  have HK := Lib.hid (Blk8.new (w := w) (F := fun _ => 0) z0 z1)
  have HB0 : Hid (Below w.heap.size w (w.alloc (.cells zs 5))) := Lib.hid ((Below.refl _ _).alloc (Nat.le_refl _) _)
  have HR := Lib.hid h
  have HB := Lib.hid hB
  have t1 : ¬ (kind : Int) < 1 := by omega
  have t2 : ¬ (255 : Int) < (kind : Int) := by omega
  have t3 : ¬ (153 : Int) < (n : Int) := by omega
  clear z0 z1 z2 h hB
  go_enter Try.func8, Try.ntmps8
  go_wp2_with fail
  generalize w.alloc (.cells zs 5) = w1 at *
  obtain ⟨H, hH⟩ : ∃ H, w.heap.size = H := ⟨_, rfl⟩
  rw [hH] at HK HB0 ⊢
  have HH := Lib.hid hH
  clear hH z3
  obtain ⟨G1, hG1⟩ : ∃ G1, G1 = putF (fun _ => 0) 0 1 kind := ⟨_, rfl⟩
  obtain ⟨G2, hG2⟩ : ∃ G2, G2 = putF G1 1 2 n := ⟨_, rfl⟩
  have HG3 : Hid (∀ j, j < 156 → (if 3 ≤ j ∧ j < 3 + n then B (j - 3) else G2 j) = headF kind n B j) := Lib.hid (by rw [hG2, hG1]; exact seal_steps kind n B hk2 hn)
  obtain ⟨G3, hG3⟩ : ∃ G3 : Nat → Nat, G3 = fun j => if 3 ≤ j ∧ j < 3 + n then B (j - 3) else G2 j := ⟨_, rfl⟩
  have HG1 := Lib.hid hG1
  have HG2 := Lib.hid hG2
  have HG3a := Lib.hid hG3
  clear hG1 hG2 hG3
  refine (mput H 0 1 160 160 kind (fun _ => 0) G1 w1 HK.out (by omega) (by omega) (fun j _ => by rw [HG1.out])).mono ?_
  rintro e w2 ⟨rfl, k2, g2⟩
  have HK2 := Lib.hid k2
  have HB2 := Lib.hid (Below.of_only HB0.out g2 (Nat.le_refl _) (Nat.le_of_lt HK.out.lt))
  clear k2 g2 HK HB0
  go_wp2_with fail
  refine (mput H 1 2 159 160 n G1 G2 w2 HK2.out (by omega) (by omega) (fun j _ => by rw [HG2.out])).mono ?_
  rintro e w3 ⟨rfl, k3, g3⟩
  have HK3 := Lib.hid k3
  have HB3 := Lib.hid (Below.of_only HB2.out g3 (Nat.le_refl _) (Nat.le_of_lt HK2.out.lt))
  have HR3 : Hid (Rd w3 A n B) := Lib.hid (HR.out.keep (by rw [HH.out]; exact HB3.out))
  clear k3 g3 HK2 HB2 HR
  have hmin : n = Nat.min n 153 := (Nat.min_eq_left hn).symm
  have HM := Lib.hid hmin
  clear hmin
  go_wp2_with ((with_reducible refine copy_blk w3 rfl (.tmp 29) (.tmp 30) rfl (some ⟨H, 3, none⟩) A 153 157 n cap rfl rfl H 3 160 n G2 B G3 HK3.out HM.out (fun _ => rfl) HR3.out (by omega) (fun j _ => by rw [HG3a.out]) ?_); intro w4 k4 g4 _; have HK4 := Lib.hid k4; have HB4 := Lib.hid (Below.of_only HB3.out g4 (Nat.le_refl _) (Nat.le_of_lt HK3.out.lt)); clear k4 g4)
  have HG4 : Hid (∀ j, j < 156 → G3 j = headF kind n B j) := Lib.hid (by rw [HG3a.out]; exact HG3.out)
  have HRD : Hid (Rd w4.drew (some ⟨H, 0, none⟩) 156 (headF kind n B)) := Lib.hid ((HK4.out.drew.rd.less (show 156 ≤ 160 by omega)).congr HG4.out)
  have HSM := Lib.hid (msum (some ⟨H, 0, none⟩) 156 160 (headF kind n B) w4.drew HRD.out (fun j _ => headF_lt hk2 HB.out j) (by omega))
  refine wp_region_still_tail 5 (by kernel_rfl) (by kernel_rfl) ?_
  simp only [List.take_succ_cons, List.take_zero, List.drop_succ_cons, List.drop_zero]
  repeat still_step
  still_call HSM.out
  repeat still_step
  refine wpStill_nil ?_
  change wpList _ _ _ _ _ w4.drew
  go_wp2_with fail
  have HP := mput H 156 4 4 160 (sumF (headF kind n B) 156) G3 (sealF kind n B) w4.drew HK4.out.drew (by omega) (by omega) (by rw [← sumF_congr HG4.out]; exact seal_end kind n B G3 HG4.out)
  refine HP.mono ?_
  rintro e w5 ⟨rfl, k5, g5⟩
  have HK5 := Lib.hid k5
  have HB5 := Lib.hid (Below.of_only HB4.out.drew g5 (Nat.le_refl _) (Nat.le_of_lt HK4.out.lt))
  clear k5 g5
  go_wp2_with fail
  go_ret2
  exact ⟨H, rfl, HK5.out, by rw [HH.out]; exact HB5.out, Nat.le_of_eq HH.out⟩
theorem mseal_no (kind : Int) (n cap : Nat) (A : Option Addr) (w : World) (hn : n ≤ 9223372036854775807) (h : ¬ (1 ≤ kind ∧ kind < 256 ∧ n ≤ 153)) :
    Calls Try.prog 8 #[.int .i64 kind, .slice A n cap] w fun e w' => e = .returned (.tuple #[.slice none 0 0, .int .i64 1]) ∧ w' = w := by
  by_cases h1 : kind < 1
  · clear h
    go_enter Try.func8, Try.ntmps8
    go_wp2_with fail
    go_ret2
    exact ⟨rfl, rfl⟩
  · by_cases h2 : 255 < kind
    · clear h
      go_enter Try.func8, Try.ntmps8
      go_wp2_with fail
      go_ret2
      exact ⟨rfl, rfl⟩
    · have h3 : (153 : Int) < (n : Int) := by omega
      clear h
      go_enter Try.func8, Try.ntmps8
      go_wp2_with fail
      go_ret2
      exact ⟨rfl, rfl⟩

/-- bytes.Equal. -/
theorem bequal (A1 A2 : Option Addr) (n m c1 c2 : Nat) (F G : Nat → Nat) (w : World) (h1 : Rd w A1 n F) (h2 : Rd w A2 m G) (b1 : ∀ j, j < n → F j < 256) (b2 : ∀ j, j < m → G j < 256) (t : Bool) (ht : t = true ↔ n = m ∧ ∀ j, j < n → F j = G j) :
    Calls Try.prog 21 #[.slice A1 n c1, .slice A2 m c2] w fun e w' => e = .returned (.bool t) ∧ w' = w := by
  have e1 := conv_rd (cap := c1) h1
  have e2 := conv_rd (cap := c2) h2
  have e3 : ((strOf ((List.range n).map F)).toList == (strOf ((List.range m).map G)).toList) = t := by
    cases t with
    | true => exact beq_iff_eq.2 ((str_eq b1 b2).2 (ht.1 rfl))
    | false => exact beq_eq_false_iff_ne.2 (fun e => by have := ht.2 ((str_eq b1 b2).1 e); cases this)
  clear h1 h2 b1 b2 ht
  generalize strOf ((List.range n).map F) = s1 at *
  generalize strOf ((List.range m).map G) = s2 at *
  go_enter Try.func21, Try.ntmps21
  go_wp2_with fail
  go_ret
  exact ⟨rfl, rfl⟩

/-- bytes.Clone of a slice that is not nil. -/
theorem bclone (a : Addr) (n cap : Nat) (F : Nat → Nat) (w : World) (h : Rd w (some a) n F) (hn : n ≤ 140737488355328) :
    Calls Try.prog 20 #[.slice (some a) n cap] w (FewRet n F w) := by
  have HE := Lib.hid (own_empty (t := 5) (base := w.heap.size) (alloc_block w (.cells #[] 5)) (Nat.le_refl _))
  have HB : Hid (Below w.heap.size w (w.alloc (.cells #[] 5))) := Lib.hid ((Below.refl _ _).alloc (Nat.le_refl _) _)
  have HR := Lib.hid h
  have heq : Sem.run Try.prog (binOp .eql 22 (.slice (some a) n cap) (.slice none 0 0)) w = .ok (.bool false) w := Lib.run_eql_slice_nil w 22 5 (some a) n cap 0 0 Try.underlying22
  clear h
  go_enter Try.func20, Try.ntmps20
  go_wp2_with (at_builtin; refine append_rd _ rfl _ _ 22 rfl Try.underlying22 w.heap.size (.slice (some ⟨w.heap.size, 0, none⟩) 0 0) 0 (fun _ => 0) rfl HE.out (some a) n cap F rfl (HR.out.keep HB.out) (by omega) HB.out.size ?_; intro v' w' own gr _ hne; have HO := Lib.hid own; have HG := Lib.hid gr; have HN := Lib.hid hne; clear own gr hne)
  go_ret
  obtain ⟨g, cp, rfl, hg, hgl, hcp⟩ := own_some HO.out (HN.out (by simp))
  have ho := HO.out
  rw [Nat.zero_add] at ho hcp ⊢
  exact ⟨g, cp, rfl, by simpa using ho, Below.grown HB.out HG.out HB.out.size (fun k hk => by cases hk; exact Nat.le_refl _), hg, hgl, hcp⟩
end Go.Proofs.Ytcenpoefcaommaa
