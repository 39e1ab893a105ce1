import Derived.Test.YtofmilkjhnkgjaaCh7
import Derived.Test.YtofmilkjhnkgjaaD4
namespace Go.Proofs.Ytofmilkjhnkgjaa
open Go.RowKit Go.Sort
set_option maxRecDepth 100000
set_option maxHeartbeats 1000000

/-- The block of a piece. -/
def atP (p : Pc) : Nat := 2 * p.s + p.g % 2
/-- chunk.Put. -/
def CPutRet (p : Nat) (S : List Nat) (N : Nat) (d : Disk) (x : Pc) (wr : Nat) (w : World) (e : Ending) (w' : World) : Prop :=
  ∃ S', e = .returned (.int .i64 0) ∧ Plt w' p S' N (d.write (atP x) (pcS x)) (wr + 1) ∧ Step S S' w w'
theorem cput {w : World} {p : Nat} {S : List Nat} {N : Nat} {d : Disk} {wr : Nat} (h : Plt w p S N d wr) (hN : 80 ≤ N) (x : Pc) (hx : x.Ok) (A : Option Addr) (c : Nat) (hA : Rd w A 32 x.D) (hwr : wr ≤ 1000000000) :
    Calls Try.prog 23 #[.pointer (some ⟨p, 0, none⟩), pv (x.s : Int) (x.g : Int) (x.i : Int) A 32 c] w (CPutRet p S N d x wr w) := by
  obtain ⟨w1, hw1⟩ : ∃ w1, w.alloc (.cells #[.int .i64 (x.s : Int), .int .i64 (x.g : Int), .int .i64 (x.i : Int), .slice A 32 c] 44) = w1 := ⟨_, rfl⟩
  have HW1 := Lib.hid hw1
  obtain ⟨H, hH⟩ : ∃ H, w.heap.size = H := ⟨_, rfl⟩
  have HH := Lib.hid hH
  have HK1 : Hid (PV w1 H (x.s : Int) (x.g : Int) (x.i : Int) A 32 c) := Lib.hid (by rw [← hw1, ← hH]; exact PV.new w _ _ _ _ _ _)
  have HB1 : Hid (Below w.heap.size w w1) := Lib.hid (by rw [← hw1]; exact (Below.refl _ _).alloc (Nat.le_refl _) _)
  have HP1 := Lib.hid (h.below HB1.out)
  have HBL := Lib.hid (dblocks HP1.out)
  have HL := Lib.hid (clay x A c w1 hx (hA.keep HB1.out))
  have HX := Lib.hid hx
  have hn1 : ¬ (N : Int) < 80 := by omega
  have c0 := HK1.out.c0
  have c1 := HK1.out.c1
  have c2 := HK1.out.c2
  have c3 := HK1.out.c3
  clear h hA hw1 hH hx
  unfold pv at HL ⊢
  go_enter Try.func23, Try.ntmps23
  go_wp2_with fail
  rw [HW1.out, HH.out]
  refine HBL.out.mono ?_
  rintro e w' ⟨rfl, hw⟩
  obtain rfl := hw.symm
  go_wp2_with fail
  refine HL.out.mono ?_
  rintro e w2 ⟨b, rfl, hk2, hb2, hl2⟩
  try dsimp only
  have HP2 := Lib.hid (HP1.out.below hb2)
  have HK2 := Lib.hid (HK1.out.below hb2)
  have HR2 := Lib.hid hk2.rd
  have HB2 : Hid (Below w.heap.size w w2) := Lib.hid (HB1.out.trans (hb2.mono HB1.out.size))
  have HPL := Lib.hid (cplace (x.s : Int) (x.g : Int) w2 (by have := HX.out.2.1; omega) (by have := HX.out.2.2.1; omega) (by omega) (by have := HX.out.1; omega))
  have e1 : (2 * (x.s : Int) + (x.g : Int) % 2) = ((atP x : Nat) : Int) := by unfold atP; omega
  have HAT : Hid (atP x < N) := Lib.hid (by have := HX.out.1; unfold atP; omega)
  rw [e1] at HPL
  have HDW := Lib.hid (dwrite (atP x) (some ⟨b, 0, none⟩) 160 (pcS x) HP2.out HAT.out HR2.out hwr)
  clear c0 c1 c2 c3 hk2 hb2 hl2 e1
  have c0 := HK2.out.c0
  have c1 := HK2.out.c1
  obtain ⟨k, hk⟩ : ∃ k, atP x = k := ⟨_, rfl⟩
  have HKK := Lib.hid hk
  rw [hk] at HPL HDW
  clear hk
  go_wp2_with fail
  refine HPL.out.mono ?_
  rintro e w' ⟨rfl, hw⟩
  obtain rfl := hw.symm
  go_wp2_with fail
  refine HDW.out.mono ?_
  rintro e w3 ⟨S', rfl, hp3, hs3⟩
  try dsimp only
  have HP3 := Lib.hid hp3
  have HS3 := Lib.hid hs3
  clear hp3 hs3
  go_wp2_with fail
  go_ret
  refine ⟨S', rfl, by rw [HKK.out]; exact HP3.out, ⟨(Turn.of HB2.out).trans HS3.out.turn, fun k hk => ?_⟩⟩
  rcases HS3.out.blocks k hk with h1 | h1
  · exact Or.inl h1
  · exact Or.inr (Nat.le_trans HB2.out.size h1)
theorem cput_nil (s g i : Int) (A : Option Addr) (n c : Nat) (w : World) :
    Calls Try.prog 23 #[.pointer none, pv s g i A n c] w fun e w' => e = .returned (.int .i64 1) ∧ Below w.heap.size w w' := by
  have HB1 : Hid (Below w.heap.size w (w.alloc (.cells #[.int .i64 s, .int .i64 g, .int .i64 i, .slice A n c] 44))) := Lib.hid ((Below.refl _ _).alloc (Nat.le_refl _) _)
  unfold pv
  go_enter Try.func23, Try.ntmps23
  go_wp2_with fail
  go_ret
  exact ⟨rfl, HB1.out⟩
theorem cput_small {w : World} {p : Nat} {S : List Nat} {N : Nat} {d : Disk} {wr : Nat} (h : Plt w p S N d wr) (hN : N < 80) (s g i : Int) (A : Option Addr) (n c : Nat) :
    Calls Try.prog 23 #[.pointer (some ⟨p, 0, none⟩), pv s g i A n c] w fun e w' => e = .returned (.int .i64 1) ∧ Below w.heap.size w w' := by
  have HB1 : Hid (Below w.heap.size w (w.alloc (.cells #[.int .i64 s, .int .i64 g, .int .i64 i, .slice A n c] 44))) := Lib.hid ((Below.refl _ _).alloc (Nat.le_refl _) _)
  have HBL := Lib.hid (dblocks (h.below HB1.out))
  have hn1 : (N : Int) < 80 := by omega
  clear h
  unfold pv
  go_enter Try.func23, Try.ntmps23
  go_wp2_with fail
  refine HBL.out.mono ?_
  rintro e w' ⟨rfl, hw⟩
  obtain rfl := hw.symm
  go_wp2_with fail
  go_ret
  exact ⟨rfl, HB1.out⟩
theorem cput_no {w : World} {p : Nat} {S : List Nat} {N : Nat} {d : Disk} {wr : Nat} (h : Plt w p S N d wr) (hN : 80 ≤ N) (s g i : Int) (A : Option Addr) (n c : Nat) (hx : ¬ OkI s g i n) :
    Calls Try.prog 23 #[.pointer (some ⟨p, 0, none⟩), pv s g i A n c] w fun e w' => e = .returned (.int .i64 1) ∧ Below w.heap.size w w' := by
  obtain ⟨w1, hw1⟩ : ∃ w1, w.alloc (.cells #[.int .i64 s, .int .i64 g, .int .i64 i, .slice A n c] 44) = w1 := ⟨_, rfl⟩
  have HW1 := Lib.hid hw1
  have HK1 : Hid (PV w1 w.heap.size s g i A n c) := Lib.hid (by rw [← hw1]; exact PV.new w _ _ _ _ _ _)
  have HB1 : Hid (Below w.heap.size w w1) := Lib.hid (by rw [← hw1]; exact (Below.refl _ _).alloc (Nat.le_refl _) _)
  have HBL := Lib.hid (dblocks (h.below HB1.out))
  have HL := Lib.hid (clay_no s g i A n c w1 hx)
  have hn1 : ¬ (N : Int) < 80 := by omega
  have c0 := HK1.out.c0
  have c1 := HK1.out.c1
  have c2 := HK1.out.c2
  have c3 := HK1.out.c3
  clear h hw1 hx
  unfold pv at HL ⊢
  go_enter Try.func23, Try.ntmps23
  go_wp2_with fail
  rw [HW1.out]
  refine HBL.out.mono ?_
  rintro e w' ⟨rfl, hw⟩
  obtain rfl := hw.symm
  go_wp2_with fail
  refine HL.out.mono ?_
  rintro e w2 ⟨rfl, hb2⟩
  try dsimp only
  have HB2 : Hid (Below w.heap.size w w2) := Lib.hid (HB1.out.trans (hb2.mono HB1.out.size))
  clear c0 c1 c2 c3 hb2
  go_wp2_with fail
  go_ret
  exact ⟨rfl, HB2.out⟩
end Go.Proofs.Ytofmilkjhnkgjaa
