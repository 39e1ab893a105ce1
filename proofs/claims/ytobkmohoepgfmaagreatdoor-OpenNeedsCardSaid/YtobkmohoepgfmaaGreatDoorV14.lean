import Derived.Test.YtobkmohoepgfmaaGreatDoorV13
import Derived.Deep.RegionHeld
namespace Go.Proofs.YtobkmohoepgfmaaGreatDoor
open Go.RowKit Go.Sort
set_option maxRecDepth 100000
set_option maxHeartbeats 2000000

structure Rg (w : World) (r p sb last : Nat) (S : List Nat) (d : Disk) (wr : Nat) (X : Nat → Sx) : Prop where
 rb : RB w r p sb last
 sr : SR w sb 16 X
 ok : ∀ k, k < 16 → SxOk w (X k)
 plt : Plt w p S 96 d wr
section
variable {w w' : World} {r p sb last : Nat} {S : List Nat} {d : Disk} {wr : Nat} {X : Nat → Sx}
theorem Rg.below (h : Rg w r p sb last S d wr X) (b : Below w.heap.size w w') : Rg w' r p sb last S d wr X := ⟨h.rb.below b, h.sr.below b, fun k hk => (h.ok k hk).below b, h.plt.below b⟩
theorem Rg.ne (h : Rg w r p sb last S d wr X) : ¬ r = sb := by
 rintro rfl
 obtain ⟨cs, hc⟩ := h.sr.type
 have h1 := h.rb
 unfold RB at h1
 rw [hc] at h1
 cases h1
theorem Rg.rS (h : Rg w r p sb last S d wr X) : r ∉ S := h.plt.notMem h.rb (by decide) (by decide) (by decide)
theorem Rg.sS (h : Rg w r p sb last S d wr X) : sb ∉ S := by
 obtain ⟨cs, hc⟩ := h.sr.type
 exact h.plt.notMem hc (by decide) (by decide) (by decide)
theorem Rg.far (h : Rg w r p sb last S d wr X) {k : Nat} {cs : Array Value} {t : TypeId} {fr : Nat × Nat} (hk : w.heap[k]? = some (.cells cs t fr)) (h1 : t ≠ 146) (h2 : t ≠ 36) (h3 : t ≠ 188) (h4 : t ≠ 191) (h5 : t ≠ 194) : k ∉ r :: sb :: S := by
 intro hm
 rw [List.mem_cons, List.mem_cons] at hm
 rcases hm with rfl | rfl | hm
 ·have := h.rb
  unfold RB at this
  rw [hk] at this
  cases this
  exact h4 rfl
 ·obtain ⟨cs', hc⟩ := h.sr.type
  rw [hk] at hc
  cases hc
  exact h5 rfl
 ·exact h.plt.notMem hk h1 h2 h3 hm
end
theorem ilog_arg {w : World} {r p sb last : Nat} (s g : Int) (A : Option Addr) (n c : Nat) (h : RB w r p sb last) (hno : ¬ OkJ s g n) :
  Calls Tryz.prog 148 #[.pointer (some ⟨r, 0, none⟩), iv s g A n c] w fun e w' => e = .returned (.int .i64 1) ∧ Below w.heap.size w w' := by
 obtain ⟨w1, hw1⟩ : ∃ w1, w.alloc (.cells #[.int .i64 s, .int .i64 g, .slice A n c] 109) = w1 := ⟨_, rfl⟩
 obtain ⟨H, hH⟩ : ∃ H, w.heap.size = H := ⟨_, rfl⟩
 have HHE := Lib.hid hH
 have HW1 := Lib.hid hw1
 have hb1 : Below w.heap.size w w1 := by rw [← hw1]; exact (Below.refl _ _).alloc (Nat.le_refl _) _
 have HB1 : Hid (Below H w w1) := Lib.hid (by rw [← hH]; exact hb1)
 have HI1 : Hid (IV w1 H s g A n c) := Lib.hid (by rw [← hw1]; exact IV.of_new hH)
 have HZ1 : Hid (H ≤ w1.heap.size) := Lib.hid (Nat.le_of_lt HI1.out.lt)
 have HA := Lib.hid (iall (h.below hb1))
 have HR := Lib.hid (iright s g A n c w1 false ⟨fun e => (by cases e), fun e => absurd e hno⟩)
 have i0 := HI1.out.c0
 have i1 := HI1.out.c1
 have i2 := HI1.out.c2
 clear hw1 hH hb1 h hno
 unfold iv at HR ⊢
 go_enter Tryz.func148, Tryz.ntmps148
 go_wp2_with fail
 rw [HW1.out, HHE.out]
 refine HA.out.mono ?_
 rintro e w' ⟨rfl, hw⟩
 obtain rfl := hw.symm
 go_wp2_with fail
 refine HR.out.mono ?_
 rintro e w2 ⟨rfl, hb2⟩
 try dsimp only
 have HB2 : Hid (Below H w w2) := Lib.hid (HB1.out.trans (hb2.mono HZ1.out))
 clear hb2
 go_wp2_with fail
 go_ret
 exact ⟨rfl, by rw [HHE.out]; exact HB2.out⟩
theorem ilog_same {w : World} {r p sb last : Nat} {S : List Nat} {d : Disk} {wr : Nat} {X : Nat → Sx} (y : It) (A : Option Addr) (c : Nat) (h : Rg w r p sb last S d wr X) (hy : y.Ok) (hd : DatI w A y.D) (hh : ∃ k, k < 16 ∧ (X k).no ≠ 0 ∧ (X k).it.Alike y) :
  Calls Tryz.prog 148 #[.pointer (some ⟨r, 0, none⟩), iv (y.s : Int) (y.g : Int) A 128 c] w fun e w' => e = .returned (.int .i64 0) ∧ Below w.heap.size w w' := by
 obtain ⟨w1, hw1⟩ : ∃ w1, w.alloc (.cells #[.int .i64 (y.s : Int), .int .i64 (y.g : Int), .slice A 128 c] 109) = w1 := ⟨_, rfl⟩
 obtain ⟨H, hH⟩ : ∃ H, w.heap.size = H := ⟨_, rfl⟩
 have HHE := Lib.hid hH
 have HW1 := Lib.hid hw1
 have hb1 : Below w.heap.size w w1 := by rw [← hw1]; exact (Below.refl _ _).alloc (Nat.le_refl _) _
 have HB1 : Hid (Below H w w1) := Lib.hid (by rw [← hH]; exact hb1)
 have HI1 : Hid (IV w1 H (y.s : Int) (y.g : Int) A 128 c) := Lib.hid (by rw [← hw1]; exact IV.of_new hH)
 have HZ1 : Hid (H ≤ w1.heap.size) := Lib.hid (Nat.le_of_lt HI1.out.lt)
 have HA := Lib.hid (iall (h.rb.below hb1))
 have HR := Lib.hid (iright (y.s : Int) (y.g : Int) A 128 c w1 true ⟨fun _ => ⟨by omega, by have := hy.1; omega, by have := hy.2.1; omega, by have := hy.2.2.1; omega, rfl⟩, fun _ => rfl⟩)
 have HG1 := Lib.hid (h.below hb1)
 have HD1 := Lib.hid (hd.below hb1)
 have HY := Lib.hid hy
 have i0 := HI1.out.c0
 have i1 := HI1.out.c1
 have i2 := HI1.out.c2
 have HH := Lib.hid hh
 clear hw1 hH hb1 h hy hd hh
 unfold iv at HR ⊢
 go_enter Tryz.func148, Tryz.ntmps148
 go_wp2_with fail
 rw [HW1.out, HHE.out]
 refine HA.out.mono ?_
 rintro e w' ⟨rfl, hw⟩
 obtain rfl := hw.symm
 go_wp2_with fail
 refine HR.out.mono ?_
 rintro e w2 ⟨rfl, hb2⟩
 try dsimp only
 have HB2 : Hid (Below H w w2) := Lib.hid (HB1.out.trans (hb2.mono HZ1.out))
 have HZ2 : Hid (H ≤ w2.heap.size) := Lib.hid (Nat.le_trans HZ1.out hb2.size)
 have HG2 := Lib.hid (HG1.out.below hb2)
 have HI2 := Lib.hid (HI1.out.below hb2)
 have HD2 := Lib.hid (HD1.out.below hb2)
 clear hb2 i0 i1 i2 HA HR HG1 HI1 HD1 HB1 HZ1
 have i0 := HI2.out.c0
 have i1 := HI2.out.c1
 have i2 := HI2.out.c2
 have HHS := Lib.hid (ihas y A c HG2.out.rb HG2.out.sr HG2.out.ok HD2.out HY.out.2.2.2 true ⟨fun _ => HH.out, fun _ => rfl⟩)
 unfold iv at HHS
 go_wp2_with fail
 refine HHS.out.mono ?_
 rintro e w3 ⟨rfl, hb3⟩
 try dsimp only
 have HB3 : Hid (Below H w w3) := Lib.hid (HB2.out.trans (hb3.mono HZ2.out))
 have HZ3 : Hid (H ≤ w3.heap.size) := Lib.hid (Nat.le_trans HZ2.out hb3.size)
 clear hb3
 go_wp2_with fail
 go_ret
 exact ⟨rfl, by rw [HHE.out]; exact HB3.out⟩
theorem ilog_full {w : World} {r p sb last : Nat} {S : List Nat} {d : Disk} {wr : Nat} {X : Nat → Sx} (y : It) (A : Option Addr) (c : Nat) (h : Rg w r p sb last S d wr X) (hy : y.Ok) (hd : DatI w A y.D) (hn : ∀ k, k < 16 → ¬ ((X k).no ≠ 0 ∧ (X k).it.Alike y)) (hf : ∀ k, k < 16 → (X k).no ≠ 0) :
  Calls Tryz.prog 148 #[.pointer (some ⟨r, 0, none⟩), iv (y.s : Int) (y.g : Int) A 128 c] w fun e w' => e = .returned (.int .i64 6) ∧ Below w.heap.size w w' := by
 obtain ⟨w1, hw1⟩ : ∃ w1, w.alloc (.cells #[.int .i64 (y.s : Int), .int .i64 (y.g : Int), .slice A 128 c] 109) = w1 := ⟨_, rfl⟩
 obtain ⟨H, hH⟩ : ∃ H, w.heap.size = H := ⟨_, rfl⟩
 have HHE := Lib.hid hH
 have HW1 := Lib.hid hw1
 have hb1 : Below w.heap.size w w1 := by rw [← hw1]; exact (Below.refl _ _).alloc (Nat.le_refl _) _
 have HB1 : Hid (Below H w w1) := Lib.hid (by rw [← hH]; exact hb1)
 have HI1 : Hid (IV w1 H (y.s : Int) (y.g : Int) A 128 c) := Lib.hid (by rw [← hw1]; exact IV.of_new hH)
 have HZ1 : Hid (H ≤ w1.heap.size) := Lib.hid (Nat.le_of_lt HI1.out.lt)
 have HA := Lib.hid (iall (h.rb.below hb1))
 have HR := Lib.hid (iright (y.s : Int) (y.g : Int) A 128 c w1 true ⟨fun _ => ⟨by omega, by have := hy.1; omega, by have := hy.2.1; omega, by have := hy.2.2.1; omega, rfl⟩, fun _ => rfl⟩)
 have HG1 := Lib.hid (h.below hb1)
 have HD1 := Lib.hid (hd.below hb1)
 have HY := Lib.hid hy
 have i0 := HI1.out.c0
 have i1 := HI1.out.c1
 have i2 := HI1.out.c2
 have HH := Lib.hid hn
 have HF := Lib.hid hf
 clear hw1 hH hb1 h hy hd hn hf
 unfold iv at HR ⊢
 go_enter Tryz.func148, Tryz.ntmps148
 go_wp2_with fail
 rw [HW1.out, HHE.out]
 refine HA.out.mono ?_
 rintro e w' ⟨rfl, hw⟩
 obtain rfl := hw.symm
 go_wp2_with fail
 refine HR.out.mono ?_
 rintro e w2 ⟨rfl, hb2⟩
 try dsimp only
 have HB2 : Hid (Below H w w2) := Lib.hid (HB1.out.trans (hb2.mono HZ1.out))
 have HZ2 : Hid (H ≤ w2.heap.size) := Lib.hid (Nat.le_trans HZ1.out hb2.size)
 have HG2 := Lib.hid (HG1.out.below hb2)
 have HI2 := Lib.hid (HI1.out.below hb2)
 have HD2 := Lib.hid (HD1.out.below hb2)
 clear hb2 i0 i1 i2 HA HR HG1 HI1 HD1 HB1 HZ1
 have i0 := HI2.out.c0
 have i1 := HI2.out.c1
 have i2 := HI2.out.c2
 have HHS := Lib.hid (ihas y A c HG2.out.rb HG2.out.sr HG2.out.ok HD2.out HY.out.2.2.2 false ⟨fun e => (by cases e), fun ⟨k, h1, h2⟩ => absurd h2 (HH.out k h1)⟩)
 unfold iv at HHS
 go_wp2_with fail
 refine HHS.out.mono ?_
 rintro e w3 ⟨rfl, hb3⟩
 try dsimp only
 have HB3 : Hid (Below H w w3) := Lib.hid (HB2.out.trans (hb3.mono HZ2.out))
 have HZ3 : Hid (H ≤ w3.heap.size) := Lib.hid (Nat.le_trans HZ2.out hb3.size)
 have HG3 := Lib.hid (HG2.out.below hb3)
 have HI3 := Lib.hid (HI2.out.below hb3)
 have HD3 := Lib.hid (HD2.out.below hb3)
 have r1 := HG3.out.rb.c1
 clear hb3 i0 i1 i2 HHS HG2 HI2 HD2 HB2 HZ2
 have HIX := Lib.hid (iindexL sb 16 16 X (fun k => decide ((X k).no = 0)) w3 HG3.out.sr (by omega) (fun i hi W hW => by
  unfold Sx.v
  exact idead (X i).no ((X i).s : Int) ((X i).g : Int) (X i).A (X i).n (X i).c W (decide ((X i).no = 0)) (by simp)))
 go_wp2_with fail
 refine HIX.out.mono ?_
 rintro e w4 ⟨k', rfl, hk', hb4⟩
 try dsimp only
 obtain rfl : k' = -1 := by
  rcases hk' with ⟨h, _⟩ | ⟨i, _, hi, h, _⟩
  ·exact h
  ·exact absurd (of_decide_eq_true h) (HF.out i hi)
 have HB4 : Hid (Below H w w4) := Lib.hid (HB3.out.trans (hb4.mono HZ3.out))
 clear hb4 hk' r1
 go_wp2_with fail
 go_ret
 exact ⟨rfl, by rw [HHE.out]; exact HB4.out⟩
def LogRet (r p sb last : Nat) (S : List Nat) (d : Disk) (wr : Nat) (X : Nat → Sx) (k : Nat) (y : It) (w : World) (e : Ending) (w' : World) : Prop :=
 ∃ S' A c, e = .returned (.int .i64 0) ∧ Rg w' r p sb (last + 1) S' (d.write (80 + k) (itS (last + 1) y)) (wr + 1) (updS X k ⟨last + 1, y.s, y.g, A, 128, c, y.D⟩) ∧ Turn (r :: sb :: S) w w' ∧ ∀ j ∈ S', j ∈ S ∨ w.heap.size ≤ j
theorem ilog_put {w : World} {r p sb last : Nat} {S : List Nat} {d : Disk} {wr : Nat} {X : Nat → Sx} (y : It) (A : Option Addr) (c : Nat) (h : Rg w r p sb last S d wr X) (hy : y.Ok) (hd : DatI w A y.D) (hn : ∀ k, k < 16 → ¬ ((X k).no ≠ 0 ∧ (X k).it.Alike y)) (k : Nat) (hk : k < 16) (hk0 : (X k).no = 0) (hkf : ∀ j, j < k → (X j).no ≠ 0) (hl : last < 281474976710655) (hwr : wr ≤ 1000000000) :
  Calls Tryz.prog 148 #[.pointer (some ⟨r, 0, none⟩), iv (y.s : Int) (y.g : Int) A 128 c] w (LogRet r p sb last S d wr X k y w) := by
 obtain ⟨w1, hw1⟩ : ∃ w1, w.alloc (.cells #[.int .i64 (y.s : Int), .int .i64 (y.g : Int), .slice A 128 c] 109) = w1 := ⟨_, rfl⟩
 obtain ⟨H, hH⟩ : ∃ H, w.heap.size = H := ⟨_, rfl⟩
 have HHE := Lib.hid hH
 have HW1 := Lib.hid hw1
 have hb1 : Below w.heap.size w w1 := by rw [← hw1]; exact (Below.refl _ _).alloc (Nat.le_refl _) _
 have HB1 : Hid (Below H w w1) := Lib.hid (by rw [← hH]; exact hb1)
 have HI1 : Hid (IV w1 H (y.s : Int) (y.g : Int) A 128 c) := Lib.hid (by rw [← hw1]; exact IV.of_new hH)
 have HZ1 : Hid (H ≤ w1.heap.size) := Lib.hid (Nat.le_of_lt HI1.out.lt)
 have HA := Lib.hid (iall (h.rb.below hb1))
 have HR := Lib.hid (iright (y.s : Int) (y.g : Int) A 128 c w1 true ⟨fun _ => ⟨by omega, by have := hy.1; omega, by have := hy.2.1; omega, by have := hy.2.2.1; omega, rfl⟩, fun _ => rfl⟩)
 have HG1 := Lib.hid (h.below hb1)
 have HD1 := Lib.hid (hd.below hb1)
 have HY := Lib.hid hy
 have i0 := HI1.out.c0
 have i1 := HI1.out.c1
 have i2 := HI1.out.c2
 have HH := Lib.hid hn
 have HF := Lib.hid hkf
 have HK0 := Lib.hid hk0
 clear hw1 hH hb1 h hy hd hn hkf hk0
 unfold iv at HR ⊢
 go_enter Tryz.func148, Tryz.ntmps148
 go_wp2_with fail
 rw [HW1.out, HHE.out]
 refine HA.out.mono ?_
 rintro e w' ⟨rfl, hw⟩
 obtain rfl := hw.symm
 go_wp2_with fail
 refine HR.out.mono ?_
 rintro e w2 ⟨rfl, hb2⟩
 try dsimp only
 have HB2 : Hid (Below H w w2) := Lib.hid (HB1.out.trans (hb2.mono HZ1.out))
 have HZ2 : Hid (H ≤ w2.heap.size) := Lib.hid (Nat.le_trans HZ1.out hb2.size)
 have HG2 := Lib.hid (HG1.out.below hb2)
 have HI2 := Lib.hid (HI1.out.below hb2)
 have HD2 := Lib.hid (HD1.out.below hb2)
 clear hb2 i0 i1 i2 HA HR HG1 HI1 HD1 HB1 HZ1
 have i0 := HI2.out.c0
 have i1 := HI2.out.c1
 have i2 := HI2.out.c2
 have HHS := Lib.hid (ihas y A c HG2.out.rb HG2.out.sr HG2.out.ok HD2.out HY.out.2.2.2 false ⟨fun e => (by cases e), fun ⟨k, h1, h2⟩ => absurd h2 (HH.out k h1)⟩)
 unfold iv at HHS
 go_wp2_with fail
 refine HHS.out.mono ?_
 rintro e w3 ⟨rfl, hb3⟩
 try dsimp only
 have HB3 : Hid (Below H w w3) := Lib.hid (HB2.out.trans (hb3.mono HZ2.out))
 have HZ3 : Hid (H ≤ w3.heap.size) := Lib.hid (Nat.le_trans HZ2.out hb3.size)
 have HG3 := Lib.hid (HG2.out.below hb3)
 have HI3 := Lib.hid (HI2.out.below hb3)
 have HD3 := Lib.hid (HD2.out.below hb3)
 have r1 := HG3.out.rb.c1
 clear hb3 i0 i1 i2 HHS HG2 HI2 HD2 HB2 HZ2
 have HIX := Lib.hid (iindexL sb 16 16 X (fun k => decide ((X k).no = 0)) w3 HG3.out.sr (by omega) (fun i hi W hW => by
  unfold Sx.v
  exact idead (X i).no ((X i).s : Int) ((X i).g : Int) (X i).A (X i).n (X i).c W (decide ((X i).no = 0)) (by simp)))
 go_wp2_with fail
 refine HIX.out.mono ?_
 rintro e w4 ⟨k', rfl, hk', hb4⟩
 try dsimp only
 obtain rfl : k' = (k : Int) := by
  rcases hk' with ⟨_, h⟩ | ⟨i, hi, hi16, h, hf⟩
  ·exact absurd (decide_eq_true HK0.out) (h k hk)
  ·rw [hi]
   rcases Nat.lt_trichotomy i k with h1 | h1 | h1
   ·exact absurd (of_decide_eq_true h) (HF.out i h1)
   ·rw [h1]
   ·exact absurd (decide_eq_true HK0.out) (hf k h1)
 have HB4 : Hid (Below H w w4) := Lib.hid (HB3.out.trans (hb4.mono HZ3.out))
 have HZ4 : Hid (H ≤ w4.heap.size) := Lib.hid (Nat.le_trans HZ3.out hb4.size)
 have HG4 := Lib.hid (HG3.out.below hb4)
 have HI4 := Lib.hid (HI3.out.below hb4)
 have HD4 := Lib.hid (HD3.out.below hb4)
 clear hb4 hk' r1 HIX HG3 HI3 HD3 HB3 HZ3 HF HH HK0
 obtain ⟨l1, hl1⟩ : ∃ l1, last + 1 = l1 := ⟨_, rfl⟩
 have HL1 := Lib.hid hl1
 have e1 : (last : Int) + 1 = (l1 : Int) := by omega
 have hwp : IntKind.i64.wrap ((last : Int) + 1) = (l1 : Int) := by rw [IntWalk.i64_in _ (by omega)]; exact e1
 have hwl : IntKind.i64.wrap (l1 : Int) = (l1 : Int) := IntWalk.i64_in _ (by omega)
 have hlm : ((last : Int) == 281474976710655) = false := beq_eq_false_iff_ne.2 (by omega)
 have hk16 : (k : Int) < 16 := by omega
 have hk00 : (0 : Int) ≤ (k : Int) := by omega
 have r2 := HG4.out.rb.c2
 have BD : Hid (Below w4.heap.size w4 w4.drew) := Lib.hid (below_drewN 1 w4)
 have BA : Hid (∀ o, Below w4.heap.size w4 (w4.drew.alloc o)) := Lib.hid (fun o => BD.out.alloc (Nat.le_refl _) o)
 have BAD : Hid (∀ o, Below w4.heap.size w4 (w4.alloc o).drew) := Lib.hid (fun o => ((Below.refl _ _).alloc (Nat.le_refl _) o).drew)
 have HV0 : Hid (SV (w4.alloc (.cells #[.int .i64 0, .int .i64 0, .int .i64 0, .slice none 0 0] 194)).drew w4.heap.size 0 0 0 none 0 0) := Lib.hid (SV.new w4 0 0 0 none 0 0)
 have HS : Hid (∀ W, Below w4.heap.size w4 W → W.cell? ⟨r, 2, none⟩ = some (.int .i64 (last : Int)) ∧ W.cell? ⟨H, 0, none⟩ = some (.int .i64 (y.s : Int)) ∧ W.cell? ⟨H, 1, none⟩ = some (.int .i64 (y.g : Int)) ∧ W.cell? ⟨H, 2, none⟩ = some (.slice A 128 c)) := Lib.hid (fun W hW => ⟨(HG4.out.rb.below hW).c2, (HI4.out.below hW).c0, (HI4.out.below hW).c1, (HI4.out.below hW).c2⟩)
 clear hl1
 go_upto_region 8 with fail
 go_cut [6] from 35 to 42 (fun s6 wx => ∃ ls b c', s6 = .pointer (some ⟨ls, 0, none⟩) ∧ 128 ≤ c' ∧ Hid (SV wx ls (l1 : Int) (y.s : Int) (y.g : Int) (some ⟨b, 0, none⟩) 128 c' ∧ DatI wx (some ⟨b, 0, none⟩) y.D ∧ Below w4.heap.size w4 wx ∧ w4.heap.size ≤ ls))
 case first =>
  have HCL := Lib.hid (fun W (hW : Below w4.heap.size w4 W) => iclone (y.s : Int) (y.g : Int) A c y.D W (HD4.out.below hW).rd)
  unfold iv at HCL
  go_wp2_with fail
  go_region_held (fun W => W.cell? ⟨r, 2, none⟩ = some (.int .i64 (last : Int)) ∧ W.cell? ⟨H, 0, none⟩ = some (.int .i64 (y.s : Int)) ∧ W.cell? ⟨H, 1, none⟩ = some (.int .i64 (y.g : Int)) ∧ W.cell? ⟨H, 2, none⟩ = some (.slice A 128 c))
   (first | (with_reducible assumption) | (with_reducible exact HS.out _ BD.out) | (with_reducible exact HS.out _ (BAD.out _)) | (with_reducible exact HS.out _ (BA.out _)) | (with_reducible exact HS.out _ hbW) | (with_reducible exact HS.out _ (hbW.alloc hbW.size _)) | (with_reducible exact HS.out _ (below_putS hbW (Nat.le_refl _) _ _ _ _)))
   (first
    | (go_at_call 179; (with_reducible refine (HCL.out _ BD.out).mono ?_); rintro e w5 ⟨b5, c5, rfl, k5, b5', l5, z5⟩; (try dsimp only); have hbW := BD.out.trans (b5'.mono BD.out.size); have K5 := Lib.hid k5; have Z5 := Lib.hid z5; clear k5 b5' l5 z5)
    | (go_at_call 179; (with_reducible refine (HCL.out _ (BAD.out _)).mono ?_); rintro e w5 ⟨b5, c5, rfl, k5, b5', l5, z5⟩; (try dsimp only); have hbW := (BAD.out _).trans (b5'.mono (BAD.out _).size); have HV5 := Lib.hid (HV0.out.below b5'); have vf := HV5.out.f; have v0 := HV5.out.c0; have v1 := HV5.out.c1; have v2 := HV5.out.c2; have v3 := HV5.out.c3; have K5 := Lib.hid k5; have Z5 := Lib.hid z5; clear k5 b5' l5 z5)
    | fail)
  all_goals
   go_wp2_with fail
   go_meet
   first
    | exact ⟨_, b5, c5, rfl, Z5.out, Lib.hid ⟨HV5.out.put, (DatI.blk K5.out).far4 HV5.out, below_putS hbW (Nat.le_refl _) _ _ _ _, Nat.le_refl _⟩⟩
    | exact ⟨_, b5, c5, rfl, Z5.out, Lib.hid ⟨SV.new _ _ _ _ _ _ _, DatI.blk (K5.out.below ((Below.refl _ _).alloc (Nat.le_refl _) _)), hbW.alloc hbW.size _, hbW.size⟩⟩
 case rest =>
  obtain ⟨ls, b, c', rfl, hc', HC⟩ := hcut
  have HSV := Lib.hid HC.out.1
  have HDB := Lib.hid HC.out.2.1
  have HB5 : Hid (Below H w wc) := Lib.hid (HB4.out.trans (HC.out.2.2.1.mono HZ4.out))
  have HG5 := Lib.hid (HG4.out.below HC.out.2.2.1)
  have HZ5 : Hid (H ≤ wc.heap.size) := Lib.hid (Nat.le_trans HZ4.out HC.out.2.2.1.size)
  have HLS : Hid (sb < ls) := Lib.hid (Nat.lt_of_lt_of_le HG4.out.sr.lt HC.out.2.2.2)
  clear HC HI4 HD4 HG4 HB4 HZ4 HS r2 BD BA BAD HV0
  have s0 := HSV.out.c0
  have s1 := HSV.out.c1
  have s2 := HSV.out.c2
  have s3 := HSV.out.c3
  have HLY := Lib.hid (ilay l1 y (some ⟨b, 0, none⟩) c' wc HY.out HDB.out.rd)
  unfold sv at HLY
  go_wp2_with fail
  refine HLY.out.mono ?_
  rintro e w6 ⟨gb, rfl, kb, hb6, _⟩
  try dsimp only
  have HB6 : Hid (Below H w w6) := Lib.hid (HB5.out.trans (hb6.mono HZ5.out))
  have HZ6 : Hid (H ≤ w6.heap.size) := Lib.hid (Nat.le_trans HZ5.out hb6.size)
  have HG6 := Lib.hid (HG5.out.below hb6)
  have HSV6 := Lib.hid (HSV.out.below hb6)
  have HDB6 := Lib.hid (HDB.out.below hb6)
  have HKB := Lib.hid kb
  obtain ⟨K80, hK80⟩ : ∃ K80, 80 + k = K80 := ⟨_, rfl⟩
  have HK80 := Lib.hid hK80
  have e80 : (80 : Int) + (k : Int) = (K80 : Int) := by omega
  have HDW := Lib.hid (dwrite K80 (some ⟨gb, 0, none⟩) 160 (itS l1 y) HG6.out.plt (by omega) HKB.out.rd (by omega))
  clear s0 s1 s2 s3 HLY kb hb6 HSV HDB HG5 HB5 HZ5 hK80
  have r0 := HG6.out.rb.c0
  go_wp2_with fail
  refine HDW.out.mono ?_
  rintro e w7 ⟨S7, rfl, p7, t7⟩
  try dsimp only
  have HP7 := Lib.hid p7
  have HT7 := Lib.hid t7
  have HRB7 := Lib.hid (HG6.out.rb.keep (t7.turn.block r HG6.out.rb.lt HG6.out.rS))
  have HSR7 := Lib.hid (HG6.out.sr.keep (t7.turn.block sb HG6.out.sr.lt HG6.out.sS))
  have HSV7 := Lib.hid (HSV6.out.keep (t7.turn.block ls HSV6.out.lt (HG6.out.plt.notMem HSV6.out (by decide) (by decide) (by decide))))
  have HKEEP : Hid (∀ (g : Nat) (cs : Array Value), w6.heap[g]? = some (Obj.cells cs 5 (0, 0)) → w7.heap[g]? = w6.heap[g]?) := Lib.hid (fun g cs hg => t7.turn.block g (heap_lt hg) (HG6.out.plt.notMem hg (by decide) (by decide) (by decide)))
  have HDB7 := Lib.hid (HDB6.out.keep HKEEP.out)
  have HOK7 : Hid (∀ k, k < 16 → SxOk w7 (X k)) := Lib.hid (fun k hk => (HG6.out.ok k hk).keep HKEEP.out)
  have n1 : ¬ r = sb := HG6.out.ne
  have n2 : ¬ ls = sb := by have h2 := HLS.out; omega
  have n3 : ¬ ls = r := by
   rintro rfl
   have h1 := HSV7.out
   have h2 := HRB7.out
   unfold SV at h1
   unfold RB at h2
   rw [h1] at h2
   cases h2
  clear p7 t7 r0 HDW
  have r1 := HRB7.out.c1
  have r2 := HRB7.out.c2
  have rf := HRB7.out.f
  have s0 := HSV7.out.c0
  have s1 := HSV7.out.c1
  have s2 := HSV7.out.c2
  have s3 := HSV7.out.c3
  obtain ⟨x0, x1, x2, x3⟩ := HSR7.out.cell hk
  have xf := HSR7.out.f
  obtain ⟨w8, hw8⟩ : ∃ w8, ((((w7.setCell ⟨sb, k * 4, none⟩ (.int .i64 (l1 : Int))).setCell ⟨sb, k * 4 + 1, none⟩ (.int .i64 (y.s : Int))).setCell ⟨sb, k * 4 + 2, none⟩ (.int .i64 (y.g : Int))).setCell ⟨sb, k * 4 + 3, none⟩ (.slice (some ⟨b, 0, none⟩) 128 c')).setCell ⟨r, 2, none⟩ (.int .i64 (l1 : Int)) = w8 := ⟨_, rfl⟩
  have HW8 := Lib.hid hw8
  clear hw8
  go_upto_region 13 with fail
  go_wp2_with fail
  go_region
  all_goals
   rw [HW8.out]
   have HSR8 : Hid (SR w8 sb 16 (updS X k ⟨l1, y.s, y.g, some ⟨b, 0, none⟩, 128, c', y.D⟩)) := Lib.hid (by
    rw [← HW8.out]
    exact (HSR7.out.put hk ⟨l1, y.s, y.g, some ⟨b, 0, none⟩, 128, c', y.D⟩).keep (set_other (fun e => n1 e.symm) 2 _))
   have HRB8 : Hid (RB w8 r p sb l1) := Lib.hid (by
    rw [← HW8.out]
    exact (HRB7.out.keep ((set_other n1 _ _).trans ((set_other n1 _ _).trans ((set_other n1 _ _).trans (set_other n1 _ _))))).put l1)
   have HT8 : Hid (Turn [sb, r] w7 w8) := Lib.hid (by
    rw [← HW8.out]
    exact ((Turn.refl _ _).put4 (by simp) _ _ _ _ _ _ _ _).trans (Turn.set _ _ _ _ (by simp)))
   have HU8 : Hid (∀ (g : Nat) (cs : Array Value), w7.heap[g]? = some (Obj.cells cs 5 (0, 0)) → w8.heap[g]? = w7.heap[g]?) := Lib.hid (fun g cs hg => HT8.out.block g (heap_lt hg) (by
    intro hm
    rw [List.mem_cons, List.mem_singleton] at hm
    rcases hm with rfl | rfl
    ·obtain ⟨cs', hc'⟩ := HSR7.out.type
     rw [hg] at hc'
     cases hc'
    ·have := HRB7.out
     unfold RB at this
     rw [hg] at this
     cases this))
   have HP8 : Hid (Plt w8 p S7 96 (d.write K80 (itS l1 y)) (wr + 1)) := Lib.hid (HP7.out.same ⟨fun g cs hg => HU8.out g cs hg, fun j hj => HT8.out.block j (HP7.out.lt j hj) (by
    intro hm
    rw [List.mem_cons, List.mem_singleton] at hm
    rcases hm with rfl | rfl
    ·obtain ⟨cs', hc'⟩ := HSR7.out.type
     exact HP7.out.notMem hc' (by decide) (by decide) (by decide) hj
    ·exact HP7.out.notMem HRB7.out (by decide) (by decide) (by decide) hj)⟩)
   have HO8 : Hid (∀ j, j < 16 → SxOk w8 (updS X k ⟨l1, y.s, y.g, some ⟨b, 0, none⟩, 128, c', y.D⟩ j)) := Lib.hid (fun j hj => by
    unfold updS
    split
    ·exact fun _ => ⟨rfl, HDB7.out.keep HU8.out, HY.out⟩
    ·exact (HOK7.out j hj).keep HU8.out)
   clear x0 x1 x2 x3 xf r1 r2 rf s0 s1 s2 s3
   go_wp2_with fail
   go_ret
   refine ⟨S7, some ⟨b, 0, none⟩, c', rfl, ?_, ?_, fun j hj => ?_⟩
   ·rw [HL1.out, HK80.out]
    exact (⟨HRB8.out, HSR8.out, HO8.out, HP8.out⟩ : Rg w8 r p sb l1 S7 (d.write K80 (itS l1 y)) (wr + 1) _).below (below_drewN 1 w8)
   ·refine Turn.trans ((Turn.of (by rw [HHE.out]; exact HB6.out)).trans ((HT7.out.turn.mono ?_).trans (HT8.out.mono ?_))) (Turn.of (below_drewN 1 w8))
    ·exact fun j hj => by simp [hj]
    ·exact fun j hj => by
      rw [List.mem_cons, List.mem_singleton] at hj
      rcases hj with rfl | rfl <;> simp
   ·rcases HT7.out.blocks j hj with h | h
    ·exact Or.inl h
    ·exact Or.inr (by rw [HHE.out]; exact Nat.le_trans HZ6.out h)
end Go.Proofs.YtobkmohoepgfmaaGreatDoor
