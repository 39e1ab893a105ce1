import Derived.Test.YtjgbfghkiahfaaaGreatDoorV03
import Derived.Test.YtjgbfghkiahfaaaGreatDoorV04
import Derived.Deep.RegionHeld
namespace Go.Proofs.YtjgbfghkiahfaaaGreatDoor
open Go.RowKit Go.Sort
set_option maxRecDepth 100000
set_option maxHeartbeats 1000000

/-- What Seal lays, step by step, is the block. -/
theorem seal_steps (kind n : Nat) (B : Nat → Nat) (hk : kind < 256) (hn : n ≤ 153) : ∀ j, j < 156 →
    (fun j => if 3 ≤ j ∧ j < 3 + n then B (j - 3) else putF (putF (fun _ => 0) 0 1 kind) 1 2 n j) j = headF kind n B j := by
  intro j hj
  unfold headF putF
  dsimp only
  by_cases h0 : j = 0
  · subst h0; rw [if_neg (by omega), if_neg (by omega), if_pos (by omega), if_pos rfl]; exact byte1 kind hk
  · rw [if_neg h0]
    by_cases h1 : j = 1
    · subst h1; rw [if_neg (by omega), if_pos (by omega), if_pos rfl]
    · rw [if_neg h1]
      by_cases h2 : j = 2
      · subst h2; rw [if_neg (by omega), if_pos (by omega), if_pos rfl]
      · rw [if_neg h2]
        by_cases h3 : j < 3 + n
        · rw [if_pos (by omega), if_pos h3]
        · rw [if_neg (by omega), if_neg (by omega), if_neg (by omega), if_neg h3]
theorem seal_end (kind n : Nat) (B F : Nat → Nat) (hF : ∀ j, j < 156 → F j = headF kind n B j) : ∀ j, j < 160 → putF F 156 4 (sumF F 156) j = sealF kind n B j := by
  intro j hj
  unfold putF sealF
  by_cases h : j < 156
  · rw [if_neg (by omega), if_pos h, hF j h]
  · rw [if_pos (by omega), if_neg h, sumF_congr hF]

/-- mark.Seal of what may be. -/
def SealRet (kind n : Nat) (B : Nat → Nat) (w : World) (e : Ending) (w' : World) : Prop :=
  ∃ g, e = .returned (.tuple #[.slice (some ⟨g, 0, none⟩) 160 160, .int .i64 0]) ∧ Blk8 w' g 160 (sealF kind n B) ∧ Below w.heap.size w w' ∧ w.heap.size ≤ g
theorem mseal (kind n cap : Nat) (A : Option Addr) (B : Nat → Nat) (w : World) (hk1 : 1 ≤ kind) (hk2 : kind < 256) (hn : n ≤ 153) (h : Rd w A n B) (hB : ∀ j, j < n → B j < 256) :
    Calls Tryz.prog 105 #[.int .i64 (kind : Int), .slice A n cap] w (SealRet kind n B w) := by
  obtain ⟨zs, z0, z1, z2⟩ := make8s 160 (by omega)
  have z3 : ∀ W : World, Sem.run Tryz.prog (Instr.makeSlice 36 (.int .i64 160) (.int .i64 160)) W = .ok (.slice (some ⟨W.heap.size, 0, none⟩) 160 160) (W.alloc (.cells zs 5)) := z2
  have HK := Lib.hid (Blk8.new (w := w) (F := fun _ => 0) z0 z1)
  have HB0 : Hid (Below w.heap.size w (w.alloc (.cells zs 5))) := Lib.hid ((Below.refl _ _).alloc (Nat.le_refl _) _)
  have HR := Lib.hid h
  have HB := Lib.hid hB
  have t1 : ¬ (kind : Int) < 1 := by omega
  have t2 : ¬ (255 : Int) < (kind : Int) := by omega
  have t3 : ¬ (153 : Int) < (n : Int) := by omega
  clear z0 z1 z2 h hB
  go_enter Tryz.func105, Tryz.ntmps105
  go_wp2_with fail
  generalize w.alloc (.cells zs 5) = w1 at *
  obtain ⟨H, hH⟩ : ∃ H, w.heap.size = H := ⟨_, rfl⟩
  rw [hH] at HK HB0 ⊢
  have HH := Lib.hid hH
  clear hH z3
  obtain ⟨G1, hG1⟩ : ∃ G1, G1 = putF (fun _ => 0) 0 1 kind := ⟨_, rfl⟩
  obtain ⟨G2, hG2⟩ : ∃ G2, G2 = putF G1 1 2 n := ⟨_, rfl⟩
  have HG3 : Hid (∀ j, j < 156 → (if 3 ≤ j ∧ j < 3 + n then B (j - 3) else G2 j) = headF kind n B j) := Lib.hid (by rw [hG2, hG1]; exact seal_steps kind n B hk2 hn)
  obtain ⟨G3, hG3⟩ : ∃ G3 : Nat → Nat, G3 = fun j => if 3 ≤ j ∧ j < 3 + n then B (j - 3) else G2 j := ⟨_, rfl⟩
  have HG1 := Lib.hid hG1
  have HG2 := Lib.hid hG2
  have HG3a := Lib.hid hG3
  clear hG1 hG2 hG3
  have HKD := HK.out.drew
  have HKd := Lib.hid HKD
  have HBd := Lib.hid HB0.out.drew
  have HNd := Lib.hid (nbytes kind 1 1 rfl w1.drew (by omega))
  clear HK HB0 HKD
  go_region_law (first | (refine step_copy_blk rfl (.tmp 20) (.tmp 22) rfl H 0 160 160 g2 1 1 rfl rfl 160 (fun _ => 0) (byteAt kind 1) G1 HK2.out HN2.out (by omega) (by omega) (by rw [HG1.out]; exact fun j _ => by unfold putF; rfl) ?_; intro w3 k3 g3 _; have HK3 := Lib.hid k3; have HB3 := Lib.hid (Below.of_only HB2.out g3 (Nat.le_refl _) (by have := HK2.out.lt; omega)); clear k3 g3) | (go_simp; go_at_call 52; refine HNd.out.mono ?_; rintro e w2 ⟨g2, rfl, n2, b2, l2⟩; (try dsimp only); have HN2 := Lib.hid n2; have HK2 := Lib.hid (HKd.out.below b2); have HB2 := Lib.hid (HBd.out.trans (b2.mono (by rw [← HH.out]; exact HBd.out.size))); clear n2 b2 HKd HBd HNd))
  clear HN2 HK2 HB2 l2
  go_wp2_with fail
  have HKd := Lib.hid HK3.out.drew
  have HBd := Lib.hid HB3.out.drew
  have HNd := Lib.hid (nbytes n 2 2 rfl w3.drew (by omega))
  clear HK3 HB3
  go_region_law (first | (refine step_copy_blk rfl (.tmp 25) (.tmp 28) rfl H 1 159 159 g4 2 2 rfl rfl 160 G1 (byteAt n 2) G2 HK4.out HN4.out (by omega) (by omega) (by rw [HG2.out]; exact fun j _ => by unfold putF; rfl) ?_; intro w5 k5 g5 _; have HK5 := Lib.hid k5; have HB5 := Lib.hid (Below.of_only HB4.out g5 (Nat.le_refl _) (by have := HK4.out.lt; omega)); clear k5 g5) | (go_simp; go_at_call 52; refine HNd.out.mono ?_; rintro e w4 ⟨g4, rfl, n4, b4, l4⟩; (try dsimp only); have HN4 := Lib.hid n4; have HK4 := Lib.hid (HKd.out.below b4); have HB4 := Lib.hid (HBd.out.trans (b4.mono (by rw [← HH.out]; exact HBd.out.size))); clear n4 b4 HKd HBd HNd))
  clear HN4 HK4 HB4 l4
  have HR5 : Hid (Rd w5 A n B) := Lib.hid (HR.out.keep (by rw [HH.out]; exact HB5.out))
  clear HR
  have hmin : n = Nat.min n 157 := (Nat.min_eq_left (by omega)).symm
  have HM := Lib.hid hmin
  clear hmin
  go_wp2_with ((with_reducible refine copy_blk w5 rfl (.tmp 31) (.tmp 32) rfl (some ⟨H, 3, none⟩) A 157 157 n cap rfl rfl H 3 160 n G2 B G3 HK5.out HM.out (fun _ => rfl) HR5.out (by omega) (fun j _ => by rw [HG3a.out]) ?_); intro w6 k6 g6 _; have HK6 := Lib.hid k6; have HB6 := Lib.hid (Below.of_only HB5.out g6 (Nat.le_refl _) (by have := HK5.out.lt; omega)); clear k6 g6)
  have HG4 : Hid (∀ j, j < 156 → G3 j = headF kind n B j) := Lib.hid (by rw [HG3a.out]; exact HG3.out)
  have HRD : Hid (Rd w6.drew (some ⟨H, 0, none⟩) 156 (headF kind n B)) := Lib.hid ((HK6.out.drew.rd.less (show 156 ≤ 160 by omega)).congr HG4.out)
  have HSM := Lib.hid (msum (some ⟨H, 0, none⟩) 156 160 (headF kind n B) w6.drew HRD.out (fun j _ => headF_lt hk2 HB.out j) (by omega))
  have HKd := Lib.hid HK6.out.drew
  have HBd := Lib.hid HB6.out.drew
  have HNd := Lib.hid (nbytes (sumF (headF kind n B) 156) 4 4 rfl w6.drew (by omega))
  have HGS : Hid (∀ j, j < 160 → putF G3 156 4 (sumF (headF kind n B) 156) j = sealF kind n B j) := Lib.hid (by rw [← sumF_congr HG4.out]; exact seal_end kind n B G3 HG4.out)
  clear HK6 HB6 HRD HR5 HK5 HB5
  generalize sumF (headF kind n B) 156 = sm at *
  go_region_law (first | (refine step_copy_blk rfl (.tmp 35) (.tmp 39) rfl H 156 4 4 g8 4 4 rfl rfl 160 G3 (byteAt sm 4) (sealF kind n B) HK8.out HN8.out (by omega) (by omega) (by intro j hj; rw [← HGS.out j hj]; unfold putF; rfl) ?_; intro w9 k9 g9 _; have HK9 := Lib.hid k9; have HB9 := Lib.hid (Below.of_only HB8.out g9 (Nat.le_refl _) (by have := HK8.out.lt; omega)); clear k9 g9) | (go_simp; go_at_call 110; refine HSM.out.mono ?_; rintro e w7 ⟨rfl, hw⟩; obtain rfl := hw.symm) | (go_simp; go_at_call 52; refine HNd.out.mono ?_; rintro e w8 ⟨g8, rfl, n8, b8, l8⟩; (try dsimp only); have HN8 := Lib.hid n8; have HK8 := Lib.hid (HKd.out.below b8); have HB8 := Lib.hid (HBd.out.trans (b8.mono (by rw [← HH.out]; exact HBd.out.size))); clear n8 b8 HKd HBd HNd))
  go_wp2_with fail
  go_ret2
  exact ⟨H, rfl, HK9.out, by rw [HH.out]; exact HB9.out, Nat.le_of_eq HH.out⟩
theorem mseal_no (kind : Int) (n cap : Nat) (A : Option Addr) (w : World) (hn : n ≤ 9223372036854775807) (h : ¬ (1 ≤ kind ∧ kind < 256 ∧ n ≤ 153)) :
    Calls Tryz.prog 105 #[.int .i64 kind, .slice A n cap] w fun e w' => e = .returned (.tuple #[.slice none 0 0, .int .i64 1]) ∧ w' = w := by
  by_cases h1 : kind < 1
  · clear h
    go_enter Tryz.func105, Tryz.ntmps105
    go_wp2_with fail
    go_ret2
    exact ⟨rfl, rfl⟩
  · by_cases h2 : 255 < kind
    · clear h
      go_enter Tryz.func105, Tryz.ntmps105
      go_wp2_with fail
      go_ret2
      exact ⟨rfl, rfl⟩
    · have h3 : (153 : Int) < (n : Int) := by omega
      clear h
      go_enter Tryz.func105, Tryz.ntmps105
      go_wp2_with fail
      go_ret2
      exact ⟨rfl, rfl⟩

/-- bytes.Equal. -/
theorem bequal (A1 A2 : Option Addr) (n m c1 c2 : Nat) (F G : Nat → Nat) (w : World) (h1 : Rd w A1 n F) (h2 : Rd w A2 m G) (b1 : ∀ j, j < n → F j < 256) (b2 : ∀ j, j < m → G j < 256) (t : Bool) (ht : t = true ↔ n = m ∧ ∀ j, j < n → F j = G j) :
    Calls Tryz.prog 111 #[.slice A1 n c1, .slice A2 m c2] w fun e w' => e = .returned (.bool t) ∧ w' = w := by
  have e1 := conv_rd (cap := c1) h1
  have e2 := conv_rd (cap := c2) h2
  have e3 : ((strOf ((List.range n).map F)).toList == (strOf ((List.range m).map G)).toList) = t := by
    cases t with
    | true => exact beq_iff_eq.2 ((str_eq b1 b2).2 (ht.1 rfl))
    | false => exact beq_eq_false_iff_ne.2 (fun e => by have := ht.2 ((str_eq b1 b2).1 e); cases this)
  clear h1 h2 b1 b2 ht
  generalize strOf ((List.range n).map F) = s1 at *
  generalize strOf ((List.range m).map G) = s2 at *
  go_enter Tryz.func111, Tryz.ntmps111
  go_wp2_with fail
  go_ret
  exact ⟨rfl, rfl⟩
end Go.Proofs.YtjgbfghkiahfaaaGreatDoor
namespace Go.Proofs.YtjgbfghkiahfaaaGreatDoor
open Go.RowKit Go.Sort
set_option maxRecDepth 100000
set_option maxHeartbeats 1000000

theorem nbytesB {B : Nat} {w0 : World} (x m : Nat) (s : Int) (hs : s = (m : Int)) (w : World) (hm : m ≤ 7) (hB : Below B w0 w) (hl : B ≤ w.heap.size) :
    Calls Tryz.prog 52 #[.int .i64 (x : Int), .int .i64 s] w fun e w' => ∃ g, e = .returned (.slice (some ⟨g, 0, none⟩) m m) ∧ Blk8 w' g m (byteAt x m) ∧ Below B w0 w' ∧ Below w.heap.size w w' ∧ B ≤ g ∧ B ≤ w'.heap.size :=
  (nbytes x m s hs w hm).mono (by
    rintro e w' ⟨g, rfl, k, b, l⟩
    exact ⟨g, rfl, k, hB.trans (b.mono hl), b, Nat.le_trans hl l, Nat.le_trans hl b.size⟩)
theorem Below.bytes {w w' : World} {A : Option Addr} {n : Nat} {F : Nat → Nat} (b : Below w.heap.size w w') (h : Rd w A n F) : Rd w' A n F := h.keep b
theorem mseal1 (n cap : Nat) (A : Option Addr) (B : Nat → Nat) (w : World) (hn : n ≤ 153) (h : Rd w A n B) (hB : ∀ j, j < n → B j < 256) :
    Calls Tryz.prog 105 #[.int .i64 1, .slice A n cap] w (SealRet 1 n B w) := mseal 1 n cap A B w (by decide) (by decide) hn h hB
/-- chunk.Lay of a piece that may be. -/
def CLayRet (p : Pc) (w : World) (e : Ending) (w' : World) : Prop :=
  ∃ g, e = .returned (.tuple #[.slice (some ⟨g, 0, none⟩) 160 160, .int .i64 0]) ∧ Blk8 w' g 160 (pcS p) ∧ Below w.heap.size w w' ∧ w.heap.size ≤ g
theorem clay (p : Pc) (A : Option Addr) (cap : Nat) (w : World) (hp : p.Ok) (h : Rd w A 32 p.D) :
    Calls Tryz.prog 87 #[pv (p.s : Int) (p.g : Int) (p.i : Int) A 32 cap] w (CLayRet p w) := by
  obtain ⟨w1, hw1⟩ : ∃ w1, w.alloc (.cells #[.int .i64 (p.s : Int), .int .i64 (p.g : Int), .int .i64 (p.i : Int), .slice A 32 cap] 117) = w1 := ⟨_, rfl⟩
  have hk : w1.heap[w.heap.size]? = some (.cells #[.int .i64 (p.s : Int), .int .i64 (p.g : Int), .int .i64 (p.i : Int), .slice A 32 cap] 117) := by rw [← hw1]; exact alloc_block w _
  have hb1 : Below w.heap.size w w1 := by rw [← hw1]; exact (Below.refl _ _).alloc (Nat.le_refl _) _
  have hs1 : w.heap.size < w1.heap.size := heap_lt hk
  have HLT := Lib.hid (pcF_lt hp)
  obtain ⟨o1, o2, o3, o4, o5⟩ := hp
  have HR := Lib.hid (cright (p.s : Int) (p.g : Int) (p.i : Int) A 32 cap w1 true ⟨fun _ => ⟨by omega, by omega, by omega, by omega, by omega, by omega, rfl⟩, fun _ => rfl⟩)
  have HRD := Lib.hid h
  have HW := Lib.hid hw1
  have HB1 := Lib.hid hb1
  have HF : Hid (∀ j, j < 40 → pcF p j = if j < 1 then byteAt p.s 1 j else if j < 1 + 6 then byteAt p.g 6 (j - 1) else if j < 1 + 6 + 1 then byteAt p.i 1 (j - (1 + 6)) else p.D (j - (1 + 6 + 1))) := Lib.hid (by
    intro j hj
    unfold pcF
    by_cases e0 : j = 0
    · subst e0; rw [if_pos rfl, if_pos (by omega)]; exact (byte1 p.s (by omega)).symm
    · rw [if_neg e0, if_neg (by omega : ¬ j < 1)]
      by_cases e1 : j < 7
      · rw [if_pos e1, if_pos (by omega)]
      · rw [if_neg e1, if_neg (by omega : ¬ j < 1 + 6)]
        by_cases e2 : j = 7
        · subst e2; rw [if_pos rfl, if_pos (by omega)]; exact (byte1 p.i (by omega)).symm
        · rw [if_neg e2, if_neg (by omega)])
  obtain ⟨H, hH⟩ : ∃ H, w.heap.size = H := ⟨_, rfl⟩
  have HH := Lib.hid hH
  rw [hH] at hk hs1
  have HK := Lib.hid hk
  have HS1 := Lib.hid hs1
  clear hw1 hb1 h hk hs1 o5
  unfold pv
  go_enter Tryz.func87, Tryz.ntmps87
  go_wp2_with fail
  rw [HW.out]
  refine HR.out.mono ?_
  rintro e w2 ⟨rfl, hb2⟩
  try dsimp only
  have hb2H : Below H w w2 := by rw [← HH.out]; exact HB1.out.trans (hb2.mono (by rw [HH.out]; exact Nat.le_of_lt HS1.out))
  have hk2 : w2.heap[H]? = some (.cells #[.int .i64 (p.s : Int), .int .i64 (p.g : Int), .int .i64 (p.i : Int), .slice A 32 cap] 117) := (hb2.block H (by have := HS1.out; omega)).trans HK.out
  have hs2 : H < w2.heap.size := heap_lt hk2
  have HB2 : Hid (Below H w w2.drew) := Lib.hid hb2H.drew
  have HS : Hid (∀ W, Below w2.heap.size w2 W → W.cell? ⟨H, 0, none⟩ = some (.int .i64 (p.s : Int)) ∧ W.cell? ⟨H, 1, none⟩ = some (.int .i64 (p.g : Int)) ∧ W.cell? ⟨H, 2, none⟩ = some (.int .i64 (p.i : Int)) ∧ W.cell? ⟨H, 3, none⟩ = some (.slice A 32 cap)) := Lib.hid (fun W hW => by
    have hk3 := (hW.block H hs2).trans hk2
    exact ⟨cell_of_block hk3, cell_of_block hk3, cell_of_block hk3, cell_of_block hk3⟩)
  have HRW : Hid (Rd w2.drew A 32 p.D) := Lib.hid (HRD.out.keep (by rw [HH.out]; exact HB2.out))
  have hb0 := below_drewN 1 w2
  have hS0 := HS.out _ hb0
  have HS2 := Lib.hid hs2
  have HBL := Lib.hid hb2H
  clear hb2 hk2 hb2H HK HB1 HR hS0
  go_wp2_with fail
  have hsz : Hid (H ≤ w2.drew.heap.size) := Lib.hid (Nat.le_of_lt HS2.out)
  go_region_held (fun W => W.cell? ⟨H, 0, none⟩ = some (.int .i64 (p.s : Int)) ∧ W.cell? ⟨H, 1, none⟩ = some (.int .i64 (p.g : Int)) ∧ W.cell? ⟨H, 2, none⟩ = some (.int .i64 (p.i : Int)) ∧ W.cell? ⟨H, 3, none⟩ = some (.slice A 32 cap))
    (first | assumption | exact HS.out _ hb0 | exact HS.out _ hbW | exact HS.out _ (hbW.alloc (by have := hbW.size; omega) _))
    (first
      | (go_at_call 52; (with_reducible refine (nbytesB p.s 1 1 rfl _ (by omega) HB2.out hsz.out).mono ?_); rintro e w3 ⟨g3, rfl, k3, B3, b3, l3, z3⟩; (try dsimp only); have K3 := Lib.hid k3; have HB3 := Lib.hid B3; have hbW := hb0.trans (b3.mono hb0.size); have Hz := Lib.hid z3; have HR3 := Lib.hid (HRW.out.keep b3); clear k3 B3 b3 l3 z3)
      | (go_at_call 52; (with_reducible refine (nbytesB p.g 6 6 rfl _ (by omega) HB3.out Hz.out).mono ?_); rintro e w4 ⟨g4, rfl, k4, B4, b4, l4, z4⟩; (try dsimp only); have K4 := Lib.hid k4; have HB4 := Lib.hid B4; have hbW4 := hbW.trans (b4.mono hbW.size); have K34 := Lib.hid (K3.out.below b4); have Hz4 := Lib.hid z4; have HR4 := Lib.hid (HR3.out.keep b4); clear k4 B4 b4 l4 z4 hbW; have hbW := hbW4)
      | (go_at_call 52; (with_reducible refine (nbytesB p.i 1 1 rfl _ (by omega) HB4.out Hz4.out).mono ?_); rintro e w5 ⟨g5, rfl, k5, B5, b5, l5, z5⟩; (try dsimp only); have K5 := Lib.hid k5; have HB5 := Lib.hid B5; have hbW5 := hbW.trans (b5.mono hbW.size); have K35 := Lib.hid (K34.out.below b5); have K45 := Lib.hid (K4.out.below b5); have Hz5 := Lib.hid z5; have HR5 := Lib.hid (HR4.out.keep b5); clear k5 B5 b5 l5 z5 hbW; have hbW := hbW5)
      | (go_at_call 51; (with_reducible refine (mconcat4L w5 _ _ _ A 1 6 1 32 1 6 1 cap 40 _ _ _ p.D (pcF p) K35.out.rd K45.out.rd K5.out.rd HR5.out rfl (by omega) (by omega) HF.out).mono ?_); rintro e w6 ⟨g6, c6, rfl, r6, b6, _, _⟩; (try dsimp only); have HR6 := Lib.hid r6; have HB6 : Hid (Below H w w6) := Lib.hid (HB5.out.trans (b6.mono Hz5.out)); have hbW6 := hbW.trans (b6.mono hbW.size); clear r6 b6 hbW; have hbW := hbW6)
      | (go_at_call 105; (with_reducible refine (mseal1 40 c6 (some ⟨g6, 0, none⟩) (pcF p) w6 (by omega) HR6.out HLT.out).mono ?_); rintro e w7 ⟨g7, rfl, k7, b7, l7⟩; (try dsimp only); have K7 := Lib.hid k7; have Hz6 : Hid (H ≤ w6.heap.size) := Lib.hid (Nat.le_trans (Nat.le_of_lt HS2.out) hbW.size); have HB7 : Hid (Below H w w7) := Lib.hid (HB6.out.trans (b7.mono Hz6.out)); have HL7 : Hid (H ≤ g7) := Lib.hid (Nat.le_trans Hz6.out l7); have hbW7 := hbW.trans (b7.mono hbW.size); clear k7 b7 l7 hbW; have hbW := hbW7)
      | fail)
  go_wp2_with fail
  go_ret2
  exact ⟨g7, rfl, by unfold pcS; exact K7.out, by rw [HH.out]; exact HB7.out, by rw [HH.out]; exact HL7.out⟩
theorem clay_no (s g i : Int) (A : Option Addr) (n cap : Nat) (w : World) (h : ¬ OkI s g i n) :
    Calls Tryz.prog 87 #[pv s g i A n cap] w fun e w' => e = .returned (.tuple #[.slice none 0 0, .int .i64 1]) ∧ Below w.heap.size w w' := by
  obtain ⟨w1, hw1⟩ : ∃ w1, w.alloc (.cells #[.int .i64 s, .int .i64 g, .int .i64 i, .slice A n cap] 117) = w1 := ⟨_, rfl⟩
  have hb1 : Below w.heap.size w w1 := by rw [← hw1]; exact (Below.refl _ _).alloc (Nat.le_refl _) _
  have HR := Lib.hid (cright s g i A n cap w1 false ⟨fun e => (by cases e), fun e => absurd e h⟩)
  have HW := Lib.hid hw1
  have HB1 := Lib.hid hb1
  clear hw1 hb1 h
  unfold pv
  go_enter Tryz.func87, Tryz.ntmps87
  go_wp2_with fail
  rw [HW.out]
  refine HR.out.mono ?_
  rintro e w2 ⟨rfl, hb2⟩
  try dsimp only
  go_wp2_with fail
  go_ret2
  exact ⟨rfl, HB1.out.trans (hb2.mono HB1.out.size)⟩
end Go.Proofs.YtjgbfghkiahfaaaGreatDoor
namespace Go.Proofs.YtjgbfghkiahfaaaGreatDoor
open Go.RowKit Go.Sort
set_option maxRecDepth 100000
set_option maxHeartbeats 1000000

theorem num4_eq (F : Nat → Nat) : num4 F 156 = numF (fun j => F (156 + j)) 4 := by rw [numF_4]; unfold num4; rfl
/-- mark.Open of other than 160 bytes. -/
theorem mopen_len (A : Option Addr) (n cap : Nat) (w : World) (hn : n ≠ 160) :
    Calls Tryz.prog 99 #[.slice A n cap] w fun e w' => e = .returned (.tuple #[.int .i64 0, .slice none 0 0, .int .i64 2]) ∧ w' = w := by
  have e1 : ((n : Int) != 160) = true := by rw [bne_iff_ne]; omega
  clear hn
  go_enter Tryz.func99, Tryz.ntmps99
  go_wp2_with fail
  go_ret3
  exact ⟨rfl, rfl⟩
theorem mopen_mark (g q cap : Nat) (F : Nat → Nat) (w : World) (h : Rd w (some ⟨g, q, none⟩) 160 F) (hc : 160 ≤ cap) (hF : ∀ j, j < 160 → F j < 256) (hne : num4 F 156 ≠ sumF F 156) :
    Calls Tryz.prog 99 #[.slice (some ⟨g, q, none⟩) 160 cap] w fun e w' => e = .returned (.tuple #[.int .i64 0, .slice none 0 0, .int .i64 3]) ∧ Below w.heap.size w w' := by
  have HN := Lib.hid (nof (some ⟨g, q + 156, none⟩) 4 (cap - 156) (fun j => F (156 + j)) w.drew (h.cut (k := 156) (by omega)).drew (fun j hj => hF _ (by omega)) (by omega))
  have HS := Lib.hid (msum (some ⟨g, q, none⟩) 156 cap F w.drew (h.less (by omega)).drew (fun j hj => hF _ (by omega)) (by omega))
  rw [← num4_eq] at HN
  have e1 : (((num4 F 156 : Nat) : Int) != ((sumF F 156 : Nat) : Int)) = true := by rw [bne_iff_ne]; omega
  have c1 : (156 : Int) ≤ (cap : Int) := by omega
  have c2 : ¬ cap = 156 := by omega
  clear hne hF h
  generalize num4 F 156 = x at *
  generalize sumF F 156 = y at *
  go_enter Tryz.func99, Tryz.ntmps99
  go_wp2_with fail
  refine wp_region_still_tail 6 (by kernel_rfl) (by kernel_rfl) ?_
  simp only [List.take_succ_cons, List.take_zero, List.drop_succ_cons, List.drop_zero]
  repeat still_step
  still_call HN.out
  repeat still_step
  still_call HS.out
  repeat still_step
  refine wpStill_nil ?_
  change wpList _ _ _ _ _ w.drew
  go_wp2_with fail
  go_ret3
  exact ⟨rfl, below_drewN 1 w⟩

def OpenRet (F : Nat → Nat) (w : World) (e : Ending) (w' : World) : Prop := ∃ g cap, e = .returned (.tuple #[.int .i64 (F 0 : Nat), .slice (some ⟨g, 0, none⟩) (F 1 * 256 + F 2) cap, .int .i64 0]) ∧ Blk8 w' g (F 1 * 256 + F 2) (fun k => F (3 + k)) ∧ Below w.heap.size w w' ∧ F 1 * 256 + F 2 ≤ cap
theorem mopen_rest (g q cap : Nat) (F : Nat → Nat) (w : World) (Q : Ending → World → Prop) (h : Rd w (some ⟨g, q, none⟩) 160 F) (hc : 160 ≤ cap) (hF : ∀ j, j < 160 → F j < 256) (heq : num4 F 156 = sumF F 156)
    (hbad : ¬ OpenOk F → ∀ w', Below w.heap.size w w' → Q (.returned (.tuple #[.int .i64 0, .slice none 0 0, .int .i64 2])) w') (hgood : OpenOk F → ∀ e w', OpenRet F w e w' → Q e w') :
    Calls Tryz.prog 99 #[.slice (some ⟨g, q, none⟩) 160 cap] w Q := by
  have HN := Lib.hid (nof (some ⟨g, q + 156, none⟩) 4 (cap - 156) (fun j => F (156 + j)) w.drew (h.cut (k := 156) (by omega)).drew (fun j hj => hF _ (by omega)) (by omega))
  have HS := Lib.hid (msum (some ⟨g, q, none⟩) 156 cap F w.drew (h.less (by omega)).drew (fun j hj => hF _ (by omega)) (by omega))
  have HL := Lib.hid (nof (some ⟨g, q + 1, none⟩) 2 (cap - 1) (fun j => F (1 + j)) w.drew (h.cut (k := 1) (by omega)).drew (fun j hj => hF _ (by omega)) (by omega))
  rw [← num4_eq, heq] at HN
  rw [numF_2] at HL
  have c1 : (156 : Int) ≤ (cap : Int) := by omega
  have c2 : ¬ cap = 156 := by omega
  have c3 : ¬ cap = 1 := by omega
  have HH := Lib.hid h
  have HF := Lib.hid hF
  have HB := Lib.hid hbad
  have HG := Lib.hid hgood
  have hls := sumF_lt F 156
  have l1 := hF 1 (by omega)
  have l2 := hF 2 (by omega)
  have l0 := hF 0 (by omega)
  obtain ⟨L, hL⟩ : ∃ L, F 1 * 256 + F 2 = L := ⟨_, rfl⟩
  have HLL := Lib.hid hL
  have hLb : L ≤ 65535 := by omega
  simp only [show (1 + 0 : Nat) = 1 from rfl, show (1 + 1 : Nat) = 2 from rfl, hL] at HL
  generalize sumF F 156 = y at *
  clear hL h hF heq hbad hgood l1 l2
  by_cases hbig : 153 < L
  · have hbi : (153 : Int) < (L : Int) := by omega
    have HNO : Hid (¬ OpenOk F) := Lib.hid (fun h => by have := h.2.1; rw [HLL.out] at this; omega)
    go_enter Tryz.func99, Tryz.ntmps99
    go_wp2_with fail
    refine wp_region_still_tail 6 (by kernel_rfl) (by kernel_rfl) ?_
    simp only [List.take_succ_cons, List.take_zero, List.drop_succ_cons, List.drop_zero]
    repeat still_step
    still_call HN.out
    repeat still_step
    still_call HS.out
    repeat still_step
    refine wpStill_nil ?_
    change wpList _ _ _ _ _ w.drew
    go_wp2_with fail
    refine HL.out.mono ?_
    rintro e w' ⟨rfl, hw⟩
    obtain rfl := hw.symm
    go_wp2_with fail
    go_ret3
    exact HB.out HNO.out _ (below_drewN 1 w)
  · have hbi : (L : Int) ≤ 153 := by omega
    have hL0 : (0 : Int) ≤ (L : Int) := by omega
    have HK := Lib.hid (nof (some ⟨g, q, none⟩) 1 cap F w.drew.drew (HH.out.less (by omega)).drew.drew (fun j hj => HF.out _ (by omega)) (by omega))
    rw [numF_1] at HK
    have HC := Lib.hid (bclone ⟨g, q + 3, none⟩ L (cap - 3) (fun j => F (3 + j)) w.drew.drew ((HH.out.cut (k := 3) (m := L) (by omega)).drew.drew) (by omega))
    obtain ⟨kd, hkd⟩ : ∃ kd, F 0 = kd := ⟨_, rfl⟩
    have HKD := Lib.hid hkd
    have c4 : ¬ cap = 3 := by omega
    have c5 : (1 : Int) ≤ (cap : Int) := by omega
    have c6 : (3 : Int) ≤ (cap : Int) := by omega
    have m1 : IntKind.i64.wrap (3 + (L : Int)) = 3 + (L : Int) := IntWalk.i64_in _ (by omega)
    have m2 : (3 + (L : Int)).toNat = 3 + L := by omega
    have m3 : (0 : Int) ≤ 3 + (L : Int) := by omega
    have m4 : (3 : Int) ≤ 3 + (L : Int) := by omega
    have m5 : 3 + (L : Int) ≤ (cap : Int) := by omega
    rw [hkd] at l0 HK
    clear hkd
    go_enter Tryz.func99, Tryz.ntmps99
    go_wp2_with fail
    refine wp_region_still_tail 6 (by kernel_rfl) (by kernel_rfl) ?_
    simp only [List.take_succ_cons, List.take_zero, List.drop_succ_cons, List.drop_zero]
    repeat still_step
    still_call HN.out
    repeat still_step
    still_call HS.out
    repeat still_step
    refine wpStill_nil ?_
    change wpList _ _ _ _ _ w.drew
    go_wp2_with fail
    refine HL.out.mono ?_
    rintro e w' ⟨rfl, hw⟩
    obtain rfl := hw.symm
    go_wp2_with fail
    refine wp_region_still_tail 7 (by kernel_rfl) (by kernel_rfl) ?_
    simp only [List.take_succ_cons, List.take_zero, List.drop_succ_cons, List.drop_zero]
    repeat still_step
    still_call HK.out
    repeat still_step
    refine wpStill_nil ?_
    change wpList _ _ _ _ _ w.drew.drew
    clear m1 m2 m3 m4 m5
    go_wp2_with fail
    refine HC.out.mono ?_
    rintro e w2 ⟨b, cb, rfl, ho, hb, hbg, hbl, hcb⟩
    try dsimp only
    have HO := Lib.hid (own_rd ho)
    have HOB := Lib.hid (own_blk ho)
    have HB2 : Hid (Below w.heap.size w w2) := Lib.hid ((below_drewN 2 w).trans hb)
    have HR2 : Hid (Rd w2 (some ⟨g, q, none⟩) 160 F) := Lib.hid (HH.out.keep HB2.out)
    clear ho hb
    by_cases hk0 : kd = 0
    · have HNO : Hid (¬ OpenOk F) := Lib.hid (fun h => by have := h.1; rw [HKD.out] at this; omega)
      have HSE := Lib.hid (mseal_no (kd : Int) L cb (some ⟨b, 0, none⟩) w2 (by omega) (by omega))
      have HEQ := Lib.hid (bequal none (some ⟨g, q, none⟩) 0 160 0 cap (fun _ => 0) F w2 Rd.none_ HR2.out (fun j hj => absurd hj (by omega)) HF.out false ⟨fun h => (by cases h), fun h => by omega⟩)
      clear hk0
      go_wp2_with fail
      refine HSE.out.mono ?_
      rintro e w3 ⟨rfl, hw⟩
      obtain rfl := hw.symm
      go_wp2_with fail
      refine HEQ.out.mono ?_
      rintro e w3 ⟨rfl, hw⟩
      obtain rfl := hw.symm
      go_wp2_with fail
      go_ret3
      exact HB.out HNO.out _ HB2.out
    · have HSE := Lib.hid (mseal kd L cb (some ⟨b, 0, none⟩) (fun k => F (3 + k)) w2 (by omega) l0 (by omega) HO.out (fun j hj => HF.out _ (by omega)))
      have hS := sealF_lt (kind := kd) (n := L) (B := fun k => F (3 + k)) l0 (fun j hj => HF.out _ (by omega))
      go_wp2_with fail
      refine HSE.out.mono ?_
      rintro e w3 ⟨gs, rfl, k3, hb3, _⟩
      try dsimp only
      have HK3 := Lib.hid k3.rd
      have HS3 := Lib.hid hS
      have HB3 : Hid (Below w.heap.size w w3) := Lib.hid (HB2.out.trans (hb3.mono HB2.out.size))
      have HO3 := Lib.hid (HOB.out.below hb3)
      have HR3 := Lib.hid (HR2.out.keep hb3)
      clear k3 hb3 hS HB2 HR2 HO
      by_cases hall : ∀ j, j < 160 → sealF kd L (fun k => F (3 + k)) j = F j
      · have HOK : Hid (OpenOk F) := Lib.hid ⟨by rw [HKD.out]; omega, by rw [HLL.out]; omega, by rw [HKD.out, HLL.out]; exact hall⟩
        have HEQ := Lib.hid (bequal (some ⟨gs, 0, none⟩) (some ⟨g, q, none⟩) 160 160 160 cap _ F w3 HK3.out HR3.out (fun j hj => HS3.out j) HF.out true ⟨fun _ => ⟨rfl, hall⟩, fun _ => rfl⟩)
        clear hall
        go_wp2_with fail
        refine HEQ.out.mono ?_
        rintro e w4 ⟨rfl, hw⟩
        obtain rfl := hw.symm
        go_wp2_with fail
        go_ret3
        exact HG.out HOK.out _ _ ⟨b, cb, by rw [HKD.out, HLL.out]; rfl, by rw [HLL.out]; exact HO3.out, HB3.out, by rw [HLL.out]; exact hcb⟩
      · have HNO : Hid (¬ OpenOk F) := Lib.hid (fun h => hall (by have := h.2.2; rwa [HKD.out, HLL.out] at this))
        have HEQ := Lib.hid (bequal (some ⟨gs, 0, none⟩) (some ⟨g, q, none⟩) 160 160 160 cap _ F w3 HK3.out HR3.out (fun j hj => HS3.out j) HF.out false ⟨fun h => (by cases h), fun h => absurd h.2 hall⟩)
        clear hall
        go_wp2_with fail
        refine HEQ.out.mono ?_
        rintro e w4 ⟨rfl, hw⟩
        obtain rfl := hw.symm
        go_wp2_with fail
        go_ret3
        exact HB.out HNO.out _ HB3.out
end Go.Proofs.YtjgbfghkiahfaaaGreatDoor
