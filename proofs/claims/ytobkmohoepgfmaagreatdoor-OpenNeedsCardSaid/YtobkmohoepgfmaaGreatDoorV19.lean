import Derived.Test.YtobkmohoepgfmaaGreatDoorV18
import Derived.Deep.RegionHeld
namespace Go.Proofs.YtobkmohoepgfmaaGreatDoor
open Go.RowKit Go.Sort
set_option maxRecDepth 100000
set_option maxHeartbeats 2000000

def DoRet (n r p sb : Nat) (S : List Nat) (x : Ns × Rp) (w : World) (e : Ending) (w' : World) : Prop :=
 ∃ S' B c B' c', e = .returned (rpv (x.2.code : Int) (x.1.boot : Int) (.slice B x.2.ps.length c) (.slice B' x.2.its.length c')) ∧ PL w' w.heap.size (.slice B x.2.ps.length c) x.2.ps ∧ LI w' w.heap.size (.slice B' x.2.its.length c') x.2.its ∧ NdM w' n r p sb S' x.1 ∧ Turn (r :: sb :: S) w w' ∧ ∀ j ∈ S', j ∈ S ∨ w.heap.size ≤ j
theorem turn_new {S : List Nat} {w w' : World} {b k : Nat} {v : Value} (t : Turn S w w') (hb : w.heap.size ≤ b) : Turn S w (w'.setCell ⟨b, k, none⟩ v) :=
 ⟨t.os, t.tape, t.output, by simpa using t.size, fun j hj hn => (set_other (by omega) _ _).trans (t.block j hj hn)⟩
theorem do_end {w w3 : World} {H n r p sb code boot : Nat} {S S' : List Nat} {x : Ns × Rp} {B B' : Option Addr} {c c' : Nat} (hH : w.heap.size = H) (hR : RV w3 (H + 1) 0 0 (.slice none 0 0) (.slice none 0 0)) (hN : NdM w3 n r p sb S' x.1) (hT : Turn (r :: sb :: S) w w3) (hS : ∀ j ∈ S', j ∈ S ∨ w.heap.size ≤ j)
  (hp : PL w3 H (.slice B x.2.ps.length c) x.2.ps) (hl : LI w3 H (.slice B' x.2.its.length c') x.2.its) (hc : x.2.code = code) (hb : x.1.boot = boot) :
  DoRet n r p sb S x w (.returned (rpv (code : Int) (boot : Int) (.slice B x.2.ps.length c) (.slice B' x.2.its.length c'))) ((((w3.setCell ⟨H + 1, 0, none⟩ (.int .i64 (code : Int))).setCell ⟨H + 1, 1, none⟩ (.int .i64 (boot : Int))).setCell ⟨H + 1, 2, none⟩ (.slice B x.2.ps.length c)).setCell ⟨H + 1, 3, none⟩ (.slice B' x.2.its.length c')) := by
 subst hH hc hb
 have h0 := hR.put0 (code' := (x.2.code : Int))
 have h1 : RV ((w3.setCell ⟨w.heap.size + 1, 0, none⟩ (.int .i64 (x.2.code : Int))).setCell ⟨w.heap.size + 1, 1, none⟩ (.int .i64 (x.1.boot : Int))) (w.heap.size + 1) x.2.code x.1.boot (.slice none 0 0) (.slice none 0 0) := set_block h0 1 _
 have h2 := h1.put2 (u' := .slice B x.2.ps.length c)
 have k0 := KeepB.set (k := 0) (v := .int .i64 (x.2.code : Int)) hR (by decide) (by decide) (by decide)
 have k1 := KeepB.set (k := 1) (v := .int .i64 (x.1.boot : Int)) h0 (by decide) (by decide) (by decide)
 have k2 := KeepB.set (k := 2) (v := .slice B x.2.ps.length c) h1 (by decide) (by decide) (by decide)
 have k3 := KeepB.set (k := 3) (v := .slice B' x.2.its.length c') h2 (by decide) (by decide) (by decide)
 have kk := ((k0.trans k1).trans k2).trans k3
 have n0 := hN.set (k := 0) (v := .int .i64 (x.2.code : Int)) hR (by decide) (by decide) (by decide) (by decide) (by decide) (by decide) (by decide)
 have n1 := n0.set (k := 1) (v := .int .i64 (x.1.boot : Int)) h0 (by decide) (by decide) (by decide) (by decide) (by decide) (by decide) (by decide)
 have n2 := n1.set (k := 2) (v := .slice B x.2.ps.length c) h1 (by decide) (by decide) (by decide) (by decide) (by decide) (by decide) (by decide)
 have n3 := n2.set (k := 3) (v := .slice B' x.2.its.length c') h2 (by decide) (by decide) (by decide) (by decide) (by decide) (by decide) (by decide)
 exact ⟨S', B, c, B', c', rfl, kk.pl hp, kk.li hl, n3, turn_new (turn_new (turn_new (turn_new hT (Nat.le_succ _)) (Nat.le_succ _)) (Nat.le_succ _)) (Nat.le_succ _), hS⟩
theorem QV.cells {w : World} {b m c : Nat} {k s g i : Int} {A : Option Addr} (h : QV w b k s g i A m c) : w.cell? ⟨b, 0, none⟩ = some (.int .i64 k) ∧ w.cell? ⟨b, 1, none⟩ = some (.int .i64 s) ∧ w.cell? ⟨b, 2, none⟩ = some (.int .i64 g) ∧ w.cell? ⟨b, 3, none⟩ = some (.int .i64 i) ∧ w.cell? ⟨b, 4, none⟩ = some (.slice A m c) := ⟨h.c0, h.c1, h.c2, h.c3, h.c4⟩
theorem PL.none_ {w : World} {B : Nat} : PL w B (.slice none 0 0) [] := Or.inl ⟨rfl, none, 0, rfl⟩
theorem ndo_flush {w : World} {n r p sb : Nat} {S : List Nat} {a : Ns} (h : NdM w n r p sb S a) (ho : a.Ok) (s g i : Int) (A : Option Addr) (m c : Nat) :
  Calls Tryz.prog 109 #[.pointer (some ⟨n, 0, none⟩), rqv 4 s g i A m c] w (DoRet n r p sb S (⟨a.t.flush, a.R, a.last, a.boot, a.nw⟩, ⟨0, [], []⟩) w) := by
 obtain ⟨H, hH⟩ : ∃ H, w.heap.size = H := ⟨_, rfl⟩
 have HH := Lib.hid hH
 obtain ⟨w1, hw1⟩ : ∃ w1, (w.alloc (.cells #[.int .i64 4, .int .i64 s, .int .i64 g, .int .i64 i, .slice A m c] 107)).alloc (.cells #[.int .i64 0, .int .i64 0, .slice none 0 0, .slice none 0 0] 103) = w1 := ⟨_, rfl⟩
 have HW1 := Lib.hid hw1
 have HB1 : Hid (Below H w w1) := Lib.hid (by rw [← hw1, ← hH]; exact ((Below.refl _ _).alloc (Nat.le_refl _) _).alloc (by simp) _)
 have HQ1 : Hid (QV w1 H 4 s g i A m c) := Lib.hid (by rw [← hw1]; exact (QV.of_new hH).below ((Below.refl _ _).alloc (Nat.le_refl _) _))
 have HR1 : Hid (RV w1 (H + 1) 0 0 (.slice none 0 0) (.slice none 0 0)) := Lib.hid (by rw [← hw1]; exact RV.of_new (by simp [hH]))
 have HS1 : Hid (w1.heap.size = H + 2) := Lib.hid (by rw [← hw1]; simp [hH])
 have HN1 := Lib.hid (h.below (by rw [hH]; exact HB1.out))
 have HM := Lib.hid (nmade HN1.out.nb)
 have HO := Lib.hid ho
 have n2 := HN1.out.nb.c2
 clear hw1 hH h ho
 obtain ⟨w2, hw2⟩ : ∃ w2, w1.alloc (.cells #[.int .i64 0, .int .i64 (a.boot : Int), .slice none 0 0, .slice none 0 0] 103) = w2 := ⟨_, rfl⟩
 have HW2 := Lib.hid hw2
 have hb2 : Below w1.heap.size w1 w2 := by rw [← hw2]; exact (Below.refl _ _).alloc (Nat.le_refl _) _
 have HB2 : Hid (Below H w w2) := Lib.hid (HB1.out.trans (hb2.mono (by have := HS1.out; omega)))
 have HQ2 := Lib.hid (HQ1.out.below hb2)
 have HR2 := Lib.hid (HR1.out.below hb2)
 have HN2 := Lib.hid (HN1.out.below hb2)
 have HP2 : Hid (RV w2 (H + 2) 0 (a.boot : Int) (.slice none 0 0) (.slice none 0 0)) := Lib.hid (by rw [← hw2]; exact RV.of_new HS1.out)
 have HS2 : Hid (H ≤ w2.heap.size) := Lib.hid (by have := hb2.size; have := HS1.out; omega)
 clear hw2 hb2
 unfold rqv
 go_enter Tryz.func109, Tryz.ntmps109
 go_wp2_with fail
 rw [HW1.out, HH.out]
 refine HM.out.mono ?_
 rintro e w' ⟨rfl, hw⟩
 obtain rfl := hw.symm
 go_upto_region 4 with fail
 rw [HW2.out, HS1.out]
 clear n2 HM HQ1 HR1 HN1 HB1
 have n0 := HN2.out.nb.c0
 have n1 := HN2.out.nb.c1
 have q0 := HQ2.out.c0
 have HF := Lib.hid (nflush HN2.out)
 go_wp2_with fail
 refine HF.out.mono ?_
 rintro e w3 ⟨S', rfl, hn3, ht3, hs3⟩
 try dsimp only
 have HN3 := Lib.hid hn3
 have HT : Hid (Turn (r :: sb :: S) w w3) := Lib.hid ((Turn.of (by rw [HH.out]; exact HB2.out)).trans ht3)
 have HRF : Hid (RV w3 (H + 2) 0 (a.boot : Int) (.slice none 0 0) (.slice none 0 0)) := Lib.hid (HP2.out.keep (ht3.block _ HP2.out.lt (HN2.out.far HP2.out (by decide) (by decide) (by decide) (by decide) (by decide))))
 have HZF : Hid (RV w3 (H + 1) 0 0 (.slice none 0 0) (.slice none 0 0)) := Lib.hid (HR2.out.keep (ht3.block _ HR2.out.lt (HN2.out.far HR2.out (by decide) (by decide) (by decide) (by decide) (by decide))))
 have HSS : Hid (∀ j ∈ S', j ∈ S ∨ w.heap.size ≤ j) := Lib.hid (fun j hj => (hs3 j hj).imp (fun h => h) (fun h => by rw [HH.out]; exact Nat.le_trans HS2.out h))
 clear hn3 ht3 hs3 HF HP2 HR2 HQ2 HN2 HB2
 clear n0 n1 q0
 have r0 := HRF.out.c0
 have r1 := HRF.out.c1
 have r2 := HRF.out.c2
 have r3 := HRF.out.c3
 have z0 := HZF.out.c0
 have z1 := HZF.out.c1
 have z2 := HZF.out.c2
 have z3 := HZF.out.c3
 have zf := HZF.out.f
 have zne : ¬ H + 1 = H + 2 := by omega
 go_wp2_with fail
 refine bodyPost_ret (v := rpv 0 (a.boot : Int) (.slice none 0 0) (.slice none 0 0)) ?_ rfl ?_
 ·rw [results_cell1 rfl]
  simp [(HZF.out.put4 (code' := 0) (boot' := (a.boot : Int)) (u' := .slice none 0 0) (v' := .slice none 0 0)).load, Result.andThen, asAddr]
 exact do_end (x := (⟨a.t.flush, a.R, a.last, a.boot, a.nw⟩, ⟨0, [], []⟩)) HH.out HZF.out HN3.out HT.out HSS.out PL.none_ LI.nil rfl rfl
theorem ndo_intents {w : World} {n r p sb : Nat} {S : List Nat} {a : Ns} (h : NdM w n r p sb S a) (ho : a.Ok) (s g i : Int) (A : Option Addr) (m c : Nat) :
  Calls Tryz.prog 109 #[.pointer (some ⟨n, 0, none⟩), rqv 5 s g i A m c] w (DoRet n r p sb S (a, ⟨0, [], (liveT a.R).map (·.2)⟩) w) := by
 obtain ⟨l, hl⟩ : ∃ l, (liveT a.R).map (·.2) = l := ⟨_, rfl⟩
 rw [hl]
 have HL := Lib.hid hl
 clear hl
 obtain ⟨H, hH⟩ : ∃ H, w.heap.size = H := ⟨_, rfl⟩
 have HH := Lib.hid hH
 obtain ⟨w1, hw1⟩ : ∃ w1, (w.alloc (.cells #[.int .i64 5, .int .i64 s, .int .i64 g, .int .i64 i, .slice A m c] 107)).alloc (.cells #[.int .i64 0, .int .i64 0, .slice none 0 0, .slice none 0 0] 103) = w1 := ⟨_, rfl⟩
 have HW1 := Lib.hid hw1
 have HB1 : Hid (Below H w w1) := Lib.hid (by rw [← hw1, ← hH]; exact ((Below.refl _ _).alloc (Nat.le_refl _) _).alloc (by simp) _)
 have HQ1 : Hid (QV w1 H 5 s g i A m c) := Lib.hid (by rw [← hw1]; exact (QV.of_new hH).below ((Below.refl _ _).alloc (Nat.le_refl _) _))
 have HR1 : Hid (RV w1 (H + 1) 0 0 (.slice none 0 0) (.slice none 0 0)) := Lib.hid (by rw [← hw1]; exact RV.of_new (by simp [hH]))
 have HS1 : Hid (w1.heap.size = H + 2) := Lib.hid (by rw [← hw1]; simp [hH])
 have HN1 := Lib.hid (h.below (by rw [hH]; exact HB1.out))
 have HM := Lib.hid (nmade HN1.out.nb)
 have HO := Lib.hid ho
 have n2 := HN1.out.nb.c2
 clear hw1 hH h ho
 obtain ⟨w2, hw2⟩ : ∃ w2, w1.alloc (.cells #[.int .i64 0, .int .i64 (a.boot : Int), .slice none 0 0, .slice none 0 0] 103) = w2 := ⟨_, rfl⟩
 have HW2 := Lib.hid hw2
 have hb2 : Below w1.heap.size w1 w2 := by rw [← hw2]; exact (Below.refl _ _).alloc (Nat.le_refl _) _
 have HB2 : Hid (Below H w w2) := Lib.hid (HB1.out.trans (hb2.mono (by have := HS1.out; omega)))
 have HQ2 := Lib.hid (HQ1.out.below hb2)
 have HR2 := Lib.hid (HR1.out.below hb2)
 have HN2 := Lib.hid (HN1.out.below hb2)
 have HP2 : Hid (RV w2 (H + 2) 0 (a.boot : Int) (.slice none 0 0) (.slice none 0 0)) := Lib.hid (by rw [← hw2]; exact RV.of_new HS1.out)
 have HS2 : Hid (H ≤ w2.heap.size) := Lib.hid (by have := hb2.size; have := HS1.out; omega)
 clear hw2 hb2
 unfold rqv
 go_enter Tryz.func109, Tryz.ntmps109
 go_wp2_with fail
 rw [HW1.out, HH.out]
 refine HM.out.mono ?_
 rintro e w' ⟨rfl, hw⟩
 obtain rfl := hw.symm
 go_upto_region 4 with fail
 rw [HW2.out, HS1.out]
 clear n2 HM HQ1 HR1 HN1 HB1
 have n0 := HN2.out.nb.c0
 have n1 := HN2.out.nb.c1
 have q0 := HQ2.out.c0
 have HF := Lib.hid (nlive HN2.out HO.out)
 rw [HL.out] at HF
 go_wp2_with fail
 refine HF.out.mono ?_
 rintro e w3 ⟨B3, c3, rfl, hl3, hb3⟩
 try dsimp only
 have HN3 := Lib.hid (HN2.out.below hb3)
 have HR3 := Lib.hid (HP2.out.below hb3)
 have HZ3 := Lib.hid (HR2.out.below hb3)
 have HT3 : Hid (Turn (r :: sb :: S) w w3) := Lib.hid (Turn.of (by rw [HH.out]; exact HB2.out.trans (hb3.mono HS2.out)))
 have HL3 := Lib.hid (hl3.mono HS2.out)
 clear hl3 hb3 HF HP2 HR2 HQ2 HN2 HB2
 have y3 := HR3.out.c3
 have yf := HR3.out.f
 obtain ⟨w4, hw4⟩ : ∃ w4, w3.setCell ⟨H + 2, 3, none⟩ (.slice B3 l.length c3) = w4 := ⟨_, rfl⟩
 have HW4 := Lib.hid hw4
 have HN4 : Hid (NdM w4 n r p sb S a) := Lib.hid (by rw [← hw4]; exact HN3.out.set HR3.out (by decide) (by decide) (by decide) (by decide) (by decide) (by decide) (by decide))
 have HZF : Hid (RV w4 (H + 1) 0 0 (.slice none 0 0) (.slice none 0 0)) := Lib.hid (by rw [← hw4]; exact HZ3.out.keep (set_other (by omega) _ _))
 have HRF : Hid (RV w4 (H + 2) 0 (a.boot : Int) (.slice none 0 0) (.slice B3 l.length c3)) := Lib.hid (by rw [← hw4]; exact HR3.out.put3)
 have HT : Hid (Turn (r :: sb :: S) w w4) := Lib.hid (by rw [← hw4]; exact turn_new HT3.out (by rw [HH.out]; omega))
 have HLF : Hid (LI w4 H (.slice B3 l.length c3) l) := Lib.hid (by rw [← hw4]; exact (KeepB.set HR3.out (by decide) (by decide) (by decide)).li HL3.out)
 clear hw4
 go_upto_region 18 with fail
 rw [HW4.out]
 clear y3 yf HN3 HR3 HZ3 HT3 HL3
 clear n0 n1 q0
 have r0 := HRF.out.c0
 have r1 := HRF.out.c1
 have r2 := HRF.out.c2
 have r3 := HRF.out.c3
 have z0 := HZF.out.c0
 have z1 := HZF.out.c1
 have z2 := HZF.out.c2
 have z3 := HZF.out.c3
 have zf := HZF.out.f
 have zne : ¬ H + 1 = H + 2 := by omega
 go_wp2_with fail
 refine bodyPost_ret (v := rpv 0 (a.boot : Int) (.slice none 0 0) (.slice B3 l.length c3)) ?_ rfl ?_
 ·rw [results_cell1 rfl]
  simp [(HZF.out.put4 (code' := 0) (boot' := (a.boot : Int)) (u' := .slice none 0 0) (v' := .slice B3 l.length c3)).load, Result.andThen, asAddr]
 exact do_end (x := (a, ⟨0, [], l⟩)) HH.out HZF.out HN4.out HT.out (fun j hj => Or.inl hj) PL.none_ HLF.out rfl rfl
theorem ndo_get {w : World} {n r p sb : Nat} {S : List Nat} {a : Ns} (h : NdM w n r p sb S a) (ho : a.Ok) (s : Nat) (hs : s < 40) (g i : Int) (A : Option Addr) (m c : Nat) :
  Calls Tryz.prog 109 #[.pointer (some ⟨n, 0, none⟩), rqv 1 (s : Int) g i A m c] w (DoRet n r p sb S (a, ⟨0, a.pcs s, []⟩) w) := by
 obtain ⟨l, hl⟩ : ∃ l, a.pcs s = l := ⟨_, rfl⟩
 rw [hl]
 have HL := Lib.hid hl
 clear hl
 obtain ⟨H, hH⟩ : ∃ H, w.heap.size = H := ⟨_, rfl⟩
 have HH := Lib.hid hH
 obtain ⟨w1, hw1⟩ : ∃ w1, (w.alloc (.cells #[.int .i64 1, .int .i64 (s : Int), .int .i64 g, .int .i64 i, .slice A m c] 107)).alloc (.cells #[.int .i64 0, .int .i64 0, .slice none 0 0, .slice none 0 0] 103) = w1 := ⟨_, rfl⟩
 have HW1 := Lib.hid hw1
 have HB1 : Hid (Below H w w1) := Lib.hid (by rw [← hw1, ← hH]; exact ((Below.refl _ _).alloc (Nat.le_refl _) _).alloc (by simp) _)
 have HQ1 : Hid (QV w1 H 1 (s : Int) g i A m c) := Lib.hid (by rw [← hw1]; exact (QV.of_new hH).below ((Below.refl _ _).alloc (Nat.le_refl _) _))
 have HR1 : Hid (RV w1 (H + 1) 0 0 (.slice none 0 0) (.slice none 0 0)) := Lib.hid (by rw [← hw1]; exact RV.of_new (by simp [hH]))
 have HS1 : Hid (w1.heap.size = H + 2) := Lib.hid (by rw [← hw1]; simp [hH])
 have HN1 := Lib.hid (h.below (by rw [hH]; exact HB1.out))
 have HM := Lib.hid (nmade HN1.out.nb)
 have HO := Lib.hid ho
 have n2 := HN1.out.nb.c2
 clear hw1 hH h ho
 obtain ⟨w2, hw2⟩ : ∃ w2, w1.alloc (.cells #[.int .i64 0, .int .i64 (a.boot : Int), .slice none 0 0, .slice none 0 0] 103) = w2 := ⟨_, rfl⟩
 have HW2 := Lib.hid hw2
 have hb2 : Below w1.heap.size w1 w2 := by rw [← hw2]; exact (Below.refl _ _).alloc (Nat.le_refl _) _
 have HB2 : Hid (Below H w w2) := Lib.hid (HB1.out.trans (hb2.mono (by have := HS1.out; omega)))
 have HQ2 := Lib.hid (HQ1.out.below hb2)
 have HR2 := Lib.hid (HR1.out.below hb2)
 have HN2 := Lib.hid (HN1.out.below hb2)
 have HP2 : Hid (RV w2 (H + 2) 0 (a.boot : Int) (.slice none 0 0) (.slice none 0 0)) := Lib.hid (by rw [← hw2]; exact RV.of_new HS1.out)
 have HS2 : Hid (H ≤ w2.heap.size) := Lib.hid (by have := hb2.size; have := HS1.out; omega)
 clear hw2 hb2
 unfold rqv
 go_enter Tryz.func109, Tryz.ntmps109
 go_wp2_with fail
 rw [HW1.out, HH.out]
 refine HM.out.mono ?_
 rintro e w' ⟨rfl, hw⟩
 obtain rfl := hw.symm
 go_upto_region 4 with fail
 rw [HW2.out, HS1.out]
 clear n2 HM HQ1 HR1 HN1 HB1
 have n0 := HN2.out.nb.c0
 have n1 := HN2.out.nb.c1
 have q0 := HQ2.out.c0
 have HF := Lib.hid (npieces HN2.out HO.out.td s hs)
 rw [HL.out] at HF
 have q1 := HQ2.out.c1
 go_wp2_with fail
 refine HF.out.mono ?_
 rintro e w3 ⟨B3, c3, rfl, hl3, hb3⟩
 try dsimp only
 have HN3 := Lib.hid (HN2.out.below hb3)
 have HR3 := Lib.hid (HP2.out.below hb3)
 have HZ3 := Lib.hid (HR2.out.below hb3)
 have HT3 : Hid (Turn (r :: sb :: S) w w3) := Lib.hid (Turn.of (by rw [HH.out]; exact HB2.out.trans (hb3.mono HS2.out)))
 have HL3 := Lib.hid (hl3.mono HS2.out)
 clear hl3 hb3 HF HP2 HR2 HQ2 HN2 HB2 q1
 have y0 := HR3.out.c0
 have y2 := HR3.out.c2
 have yf := HR3.out.f
 have HR4 := Lib.hid (HR3.out.put2 (u' := .slice B3 l.length c3))
 obtain ⟨w4, hw4⟩ : ∃ w4, (w3.setCell ⟨H + 2, 2, none⟩ (.slice B3 l.length c3)).setCell ⟨H + 2, 0, none⟩ (.int .i64 0) = w4 := ⟨_, rfl⟩
 have HW4 := Lib.hid hw4
 have HN4 : Hid (NdM w4 n r p sb S a) := Lib.hid (by rw [← hw4]; exact (HN3.out.set HR3.out (by decide) (by decide) (by decide) (by decide) (by decide) (by decide) (by decide)).set HR4.out (by decide) (by decide) (by decide) (by decide) (by decide) (by decide) (by decide))
 have HZF : Hid (RV w4 (H + 1) 0 0 (.slice none 0 0) (.slice none 0 0)) := Lib.hid (by rw [← hw4]; exact (HZ3.out.keep (set_other (by omega) _ _)).keep (set_other (by omega) _ _))
 have HRF : Hid (RV w4 (H + 2) 0 (a.boot : Int) (.slice B3 l.length c3) (.slice none 0 0)) := Lib.hid (by rw [← hw4]; exact HR4.out.put0)
 have HT : Hid (Turn (r :: sb :: S) w w4) := Lib.hid (by rw [← hw4]; exact turn_new (turn_new HT3.out (by rw [HH.out]; omega)) (by rw [HH.out]; omega))
 have HLF : Hid (PL w4 H (.slice B3 l.length c3) l) := Lib.hid (by rw [← hw4]; exact ((KeepB.set HR3.out (by decide) (by decide) (by decide)).trans (KeepB.set HR4.out (by decide) (by decide) (by decide))).pl HL3.out)
 clear hw4
 go_upto_region 18 with fail
 rw [HW4.out]
 clear y0 y2 yf HN3 HR3 HZ3 HT3 HL3 HR4
 clear n0 n1 q0
 have r0 := HRF.out.c0
 have r1 := HRF.out.c1
 have r2 := HRF.out.c2
 have r3 := HRF.out.c3
 have z0 := HZF.out.c0
 have z1 := HZF.out.c1
 have z2 := HZF.out.c2
 have z3 := HZF.out.c3
 have zf := HZF.out.f
 have zne : ¬ H + 1 = H + 2 := by omega
 go_wp2_with fail
 refine bodyPost_ret (v := rpv 0 (a.boot : Int) (.slice B3 l.length c3) (.slice none 0 0)) ?_ rfl ?_
 ·rw [results_cell1 rfl]
  simp [(HZF.out.put4 (code' := 0) (boot' := (a.boot : Int)) (u' := .slice B3 l.length c3) (v' := .slice none 0 0)).load, Result.andThen, asAddr]
 exact do_end (x := (a, ⟨0, l, []⟩)) HH.out HZF.out HN4.out HT.out (fun j hj => Or.inl hj) HLF.out LI.nil rfl rfl
theorem ndo_get_no {w : World} {n r p sb : Nat} {S : List Nat} {a : Ns} (h : NdM w n r p sb S a) (ho : a.Ok) (s g i : Int) (hs : ¬ (0 ≤ s ∧ s < 40)) (A : Option Addr) (m c : Nat) :
  Calls Tryz.prog 109 #[.pointer (some ⟨n, 0, none⟩), rqv 1 s g i A m c] w (DoRet n r p sb S (a, ⟨1, [], []⟩) w) := by
 obtain ⟨H, hH⟩ : ∃ H, w.heap.size = H := ⟨_, rfl⟩
 have HH := Lib.hid hH
 obtain ⟨w1, hw1⟩ : ∃ w1, (w.alloc (.cells #[.int .i64 1, .int .i64 s, .int .i64 g, .int .i64 i, .slice A m c] 107)).alloc (.cells #[.int .i64 0, .int .i64 0, .slice none 0 0, .slice none 0 0] 103) = w1 := ⟨_, rfl⟩
 have HW1 := Lib.hid hw1
 have HB1 : Hid (Below H w w1) := Lib.hid (by rw [← hw1, ← hH]; exact ((Below.refl _ _).alloc (Nat.le_refl _) _).alloc (by simp) _)
 have HQ1 : Hid (QV w1 H 1 s g i A m c) := Lib.hid (by rw [← hw1]; exact (QV.of_new hH).below ((Below.refl _ _).alloc (Nat.le_refl _) _))
 have HR1 : Hid (RV w1 (H + 1) 0 0 (.slice none 0 0) (.slice none 0 0)) := Lib.hid (by rw [← hw1]; exact RV.of_new (by simp [hH]))
 have HS1 : Hid (w1.heap.size = H + 2) := Lib.hid (by rw [← hw1]; simp [hH])
 have HN1 := Lib.hid (h.below (by rw [hH]; exact HB1.out))
 have HM := Lib.hid (nmade HN1.out.nb)
 have HO := Lib.hid ho
 have n2 := HN1.out.nb.c2
 clear hw1 hH h ho
 obtain ⟨w2, hw2⟩ : ∃ w2, w1.alloc (.cells #[.int .i64 0, .int .i64 (a.boot : Int), .slice none 0 0, .slice none 0 0] 103) = w2 := ⟨_, rfl⟩
 have HW2 := Lib.hid hw2
 have hb2 : Below w1.heap.size w1 w2 := by rw [← hw2]; exact (Below.refl _ _).alloc (Nat.le_refl _) _
 have HB2 : Hid (Below H w w2) := Lib.hid (HB1.out.trans (hb2.mono (by have := HS1.out; omega)))
 have HQ2 := Lib.hid (HQ1.out.below hb2)
 have HR2 := Lib.hid (HR1.out.below hb2)
 have HN2 := Lib.hid (HN1.out.below hb2)
 have HP2 : Hid (RV w2 (H + 2) 0 (a.boot : Int) (.slice none 0 0) (.slice none 0 0)) := Lib.hid (by rw [← hw2]; exact RV.of_new HS1.out)
 have HS2 : Hid (H ≤ w2.heap.size) := Lib.hid (by have := hb2.size; have := HS1.out; omega)
 clear hw2 hb2
 unfold rqv
 go_enter Tryz.func109, Tryz.ntmps109
 go_wp2_with fail
 rw [HW1.out, HH.out]
 refine HM.out.mono ?_
 rintro e w' ⟨rfl, hw⟩
 obtain rfl := hw.symm
 go_upto_region 4 with fail
 rw [HW2.out, HS1.out]
 clear n2 HM HQ1 HR1 HN1 HB1
 have n0 := HN2.out.nb.c0
 have n1 := HN2.out.nb.c1
 have q0 := HQ2.out.c0
 have HF := Lib.hid (npieces_no n s w2 hs)
 have q1 := HQ2.out.c1
 have HT3 : Hid (Turn (r :: sb :: S) w w2) := Lib.hid (Turn.of (by rw [HH.out]; exact HB2.out))
 have y0 := HP2.out.c0
 have y2 := HP2.out.c2
 have yf := HP2.out.f
 have HR4 := Lib.hid (HP2.out.put2 (u' := .slice none 0 0))
 obtain ⟨w4, hw4⟩ : ∃ w4, (w2.setCell ⟨H + 2, 2, none⟩ (.slice none 0 0)).setCell ⟨H + 2, 0, none⟩ (.int .i64 1) = w4 := ⟨_, rfl⟩
 have HW4 := Lib.hid hw4
 have HN4 : Hid (NdM w4 n r p sb S a) := Lib.hid (by rw [← hw4]; exact (HN2.out.set HP2.out (by decide) (by decide) (by decide) (by decide) (by decide) (by decide) (by decide)).set HR4.out (by decide) (by decide) (by decide) (by decide) (by decide) (by decide) (by decide))
 have HZF : Hid (RV w4 (H + 1) 0 0 (.slice none 0 0) (.slice none 0 0)) := Lib.hid (by rw [← hw4]; exact (HR2.out.keep (set_other (by omega) _ _)).keep (set_other (by omega) _ _))
 have HRF : Hid (RV w4 (H + 2) 1 (a.boot : Int) (.slice none 0 0) (.slice none 0 0)) := Lib.hid (by rw [← hw4]; exact HR4.out.put0)
 have HT : Hid (Turn (r :: sb :: S) w w4) := Lib.hid (by rw [← hw4]; exact turn_new (turn_new HT3.out (by rw [HH.out]; omega)) (by rw [HH.out]; omega))
 clear hw4 hs
 go_wp2_with fail
 refine HF.out.mono ?_
 rintro e w' ⟨rfl, hw⟩
 obtain rfl := hw.symm
 try dsimp only
 go_upto_region 18 with fail
 rw [HW4.out]
 clear y0 y2 yf q1 HF HP2 HR2 HQ2 HN2 HB2 HR4 HT3
 clear n0 n1 q0
 have r0 := HRF.out.c0
 have r1 := HRF.out.c1
 have r2 := HRF.out.c2
 have r3 := HRF.out.c3
 have z0 := HZF.out.c0
 have z1 := HZF.out.c1
 have z2 := HZF.out.c2
 have z3 := HZF.out.c3
 have zf := HZF.out.f
 have zne : ¬ H + 1 = H + 2 := by omega
 go_wp2_with fail
 refine bodyPost_ret (v := rpv 1 (a.boot : Int) (.slice none 0 0) (.slice none 0 0)) ?_ rfl ?_
 ·rw [results_cell1 rfl]
  simp [(HZF.out.put4 (code' := 1) (boot' := (a.boot : Int)) (u' := .slice none 0 0) (v' := .slice none 0 0)).load, Result.andThen, asAddr]
 exact do_end (x := (a, ⟨1, [], []⟩)) HH.out HZF.out HN4.out HT.out (fun j hj => Or.inl hj) PL.none_ LI.nil rfl rfl
theorem ndo_no {w : World} {n r p sb : Nat} {S : List Nat} {a : Ns} (h : NdM w n r p sb S a) (ho : a.Ok) (k s g i : Int) (hk : k < 1 ∨ 6 < k) (A : Option Addr) (m c : Nat) :
  Calls Tryz.prog 109 #[.pointer (some ⟨n, 0, none⟩), rqv k s g i A m c] w (DoRet n r p sb S (a, ⟨1, [], []⟩) w) := by
 obtain ⟨H, hH⟩ : ∃ H, w.heap.size = H := ⟨_, rfl⟩
 have HH := Lib.hid hH
 obtain ⟨w1, hw1⟩ : ∃ w1, (w.alloc (.cells #[.int .i64 k, .int .i64 s, .int .i64 g, .int .i64 i, .slice A m c] 107)).alloc (.cells #[.int .i64 0, .int .i64 0, .slice none 0 0, .slice none 0 0] 103) = w1 := ⟨_, rfl⟩
 have HW1 := Lib.hid hw1
 have HB1 : Hid (Below H w w1) := Lib.hid (by rw [← hw1, ← hH]; exact ((Below.refl _ _).alloc (Nat.le_refl _) _).alloc (by simp) _)
 have HQ1 : Hid (QV w1 H k s g i A m c) := Lib.hid (by rw [← hw1]; exact (QV.of_new hH).below ((Below.refl _ _).alloc (Nat.le_refl _) _))
 have HR1 : Hid (RV w1 (H + 1) 0 0 (.slice none 0 0) (.slice none 0 0)) := Lib.hid (by rw [← hw1]; exact RV.of_new (by simp [hH]))
 have HS1 : Hid (w1.heap.size = H + 2) := Lib.hid (by rw [← hw1]; simp [hH])
 have HN1 := Lib.hid (h.below (by rw [hH]; exact HB1.out))
 have HM := Lib.hid (nmade HN1.out.nb)
 have HO := Lib.hid ho
 have n2 := HN1.out.nb.c2
 clear hw1 hH h ho
 obtain ⟨w2, hw2⟩ : ∃ w2, w1.alloc (.cells #[.int .i64 0, .int .i64 (a.boot : Int), .slice none 0 0, .slice none 0 0] 103) = w2 := ⟨_, rfl⟩
 have HW2 := Lib.hid hw2
 have hb2 : Below w1.heap.size w1 w2 := by rw [← hw2]; exact (Below.refl _ _).alloc (Nat.le_refl _) _
 have HB2 : Hid (Below H w w2) := Lib.hid (HB1.out.trans (hb2.mono (by have := HS1.out; omega)))
 have HQ2 := Lib.hid (HQ1.out.below hb2)
 have HR2 := Lib.hid (HR1.out.below hb2)
 have HN2 := Lib.hid (HN1.out.below hb2)
 have HP2 : Hid (RV w2 (H + 2) 0 (a.boot : Int) (.slice none 0 0) (.slice none 0 0)) := Lib.hid (by rw [← hw2]; exact RV.of_new HS1.out)
 have HS2 : Hid (H ≤ w2.heap.size) := Lib.hid (by have := hb2.size; have := HS1.out; omega)
 clear hw2 hb2
 unfold rqv
 go_enter Tryz.func109, Tryz.ntmps109
 go_wp2_with fail
 rw [HW1.out, HH.out]
 refine HM.out.mono ?_
 rintro e w' ⟨rfl, hw⟩
 obtain rfl := hw.symm
 go_upto_region 4 with fail
 rw [HW2.out, HS1.out]
 clear n2 HM HQ1 HR1 HN1 HB1
 have n0 := HN2.out.nb.c0
 have n1 := HN2.out.nb.c1
 have q0 := HQ2.out.c0
 have HT3 : Hid (Turn (r :: sb :: S) w w2) := Lib.hid (Turn.of (by rw [HH.out]; exact HB2.out))
 have y0 := HP2.out.c0
 have yf := HP2.out.f
 obtain ⟨w4, hw4⟩ : ∃ w4, w2.setCell ⟨H + 2, 0, none⟩ (.int .i64 1) = w4 := ⟨_, rfl⟩
 have HW4 := Lib.hid hw4
 have HN4 : Hid (NdM w4 n r p sb S a) := Lib.hid (by rw [← hw4]; exact HN2.out.set HP2.out (by decide) (by decide) (by decide) (by decide) (by decide) (by decide) (by decide))
 have HZF : Hid (RV w4 (H + 1) 0 0 (.slice none 0 0) (.slice none 0 0)) := Lib.hid (by rw [← hw4]; exact HR2.out.keep (set_other (by omega) _ _))
 have HRF : Hid (RV w4 (H + 2) 1 (a.boot : Int) (.slice none 0 0) (.slice none 0 0)) := Lib.hid (by rw [← hw4]; exact HP2.out.put0)
 have HT : Hid (Turn (r :: sb :: S) w w4) := Lib.hid (by rw [← hw4]; exact turn_new HT3.out (by rw [HH.out]; omega))
 have k1 : (k == 1) = false := beq_eq_false_iff_ne.2 (by omega)
 have k2 : (k == 2) = false := beq_eq_false_iff_ne.2 (by omega)
 have k3 : (k == 3) = false := beq_eq_false_iff_ne.2 (by omega)
 have k4 : (k == 4) = false := beq_eq_false_iff_ne.2 (by omega)
 have k5 : (k == 5) = false := beq_eq_false_iff_ne.2 (by omega)
 have k6 : (k == 6) = false := beq_eq_false_iff_ne.2 (by omega)
 clear hw4 hk
 go_upto_region 18 with fail
 rw [HW4.out]
 clear y0 yf k1 k2 k3 k4 k5 k6 HP2 HR2 HQ2 HN2 HB2 HT3
 clear n0 n1 q0
 have r0 := HRF.out.c0
 have r1 := HRF.out.c1
 have r2 := HRF.out.c2
 have r3 := HRF.out.c3
 have z0 := HZF.out.c0
 have z1 := HZF.out.c1
 have z2 := HZF.out.c2
 have z3 := HZF.out.c3
 have zf := HZF.out.f
 have zne : ¬ H + 1 = H + 2 := by omega
 go_wp2_with fail
 refine bodyPost_ret (v := rpv 1 (a.boot : Int) (.slice none 0 0) (.slice none 0 0)) ?_ rfl ?_
 ·rw [results_cell1 rfl]
  simp [(HZF.out.put4 (code' := 1) (boot' := (a.boot : Int)) (u' := .slice none 0 0) (v' := .slice none 0 0)).load, Result.andThen, asAddr]
 exact do_end (x := (a, ⟨1, [], []⟩)) HH.out HZF.out HN4.out HT.out (fun j hj => Or.inl hj) PL.none_ LI.nil rfl rfl
theorem do_end0 {w w3 : World} {H n r p sb code boot : Nat} {S S' : List Nat} {x : Ns × Rp} (hH : w.heap.size = H) (hR : RV w3 (H + 1) 0 0 (.slice none 0 0) (.slice none 0 0)) (hN : NdM w3 n r p sb S' x.1) (hT : Turn (r :: sb :: S) w w3) (hS : ∀ j ∈ S', j ∈ S ∨ w.heap.size ≤ j)
  (hp : x.2.ps = []) (hl : x.2.its = []) (hc : x.2.code = code) (hb : x.1.boot = boot) :
  DoRet n r p sb S x w (.returned (rpv (code : Int) (boot : Int) (.slice none 0 0) (.slice none 0 0))) ((((w3.setCell ⟨H + 1, 0, none⟩ (.int .i64 (code : Int))).setCell ⟨H + 1, 1, none⟩ (.int .i64 (boot : Int))).setCell ⟨H + 1, 2, none⟩ (.slice none 0 0)).setCell ⟨H + 1, 3, none⟩ (.slice none 0 0)) := by
 have hp0 : PL w3 H (.slice none x.2.ps.length 0) x.2.ps := by rw [hp]; exact PL.none_
 have hl0 : LI w3 H (.slice none x.2.its.length 0) x.2.its := by rw [hl]; exact LI.nil
 have h := do_end hH hR hN hT hS hp0 hl0 hc hb
 rw [hp, hl] at h
 exact h
theorem ndo_put {w : World} {n r p sb : Nat} {S : List Nat} {a : Ns} (h : NdM w n r p sb S a) (ho : a.Ok) (q : Rq) (A : Option Addr) (c : Nat) (hd : DatN w A q.n q.D) (hD : ∀ j, j < q.n → q.D j < 256) (hw : a.nw ≤ 1000000000) (hl : a.last ≤ 1000000000) :
  Calls Tryz.prog 109 #[.pointer (some ⟨n, 0, none⟩), rqv 2 q.s q.g q.i A q.n c] w (DoRet n r p sb S ((if q.okP then (⟨a.t.write (atP q.pc) (.pc q.pc), a.R, a.last, a.boot, a.nw + 1⟩, ⟨0, [], []⟩) else (a, ⟨1, [], []⟩) : Ns × Rp)) w) := by
 obtain ⟨x, hx⟩ : ∃ x, (if q.okP then (⟨a.t.write (atP q.pc) (.pc q.pc), a.R, a.last, a.boot, a.nw + 1⟩, ⟨0, [], []⟩) else (a, ⟨1, [], []⟩) : Ns × Rp) = x := ⟨_, rfl⟩
 rw [hx]
 have HX := Lib.hid hx
 obtain ⟨hx3, hx4, hx5⟩ : x.2.ps = [] ∧ x.2.its = [] ∧ x.1.boot = a.boot := by
  rw [← hx]
  split <;> exact ⟨rfl, rfl, rfl⟩
 have HX3 := Lib.hid hx3
 have HX4 := Lib.hid hx4
 have HX5 := Lib.hid hx5
 obtain ⟨cd, hcd⟩ : ∃ cd, x.2.code = cd := ⟨_, rfl⟩
 have HCD := Lib.hid hcd
 have HD0 := Lib.hid hd
 have HDD := Lib.hid hD
 have HN0 := Lib.hid h.nb.lt
 have HW0 := Lib.hid hw
 have HL0 := Lib.hid hl
 clear hw hl
 clear hx hcd hd hD hx3 hx4 hx5
 obtain ⟨H, hH⟩ : ∃ H, w.heap.size = H := ⟨_, rfl⟩
 have HH := Lib.hid hH
 have HD2 : Hid (∀ W, Below H w W → DatN W A q.n q.D) := Lib.hid (fun W hW => HD0.out.below (by rw [hH]; exact hW))
 rw [hH] at HN0
 obtain ⟨w1, hw1⟩ : ∃ w1, (w.alloc (.cells #[.int .i64 2, .int .i64 q.s, .int .i64 q.g, .int .i64 q.i, .slice A q.n c] 107)).alloc (.cells #[.int .i64 0, .int .i64 0, .slice none 0 0, .slice none 0 0] 103) = w1 := ⟨_, rfl⟩
 have HW1 := Lib.hid hw1
 have HB1 : Hid (Below H w w1) := Lib.hid (by rw [← hw1, ← hH]; exact ((Below.refl _ _).alloc (Nat.le_refl _) _).alloc (by simp) _)
 have HQ1 : Hid (QV w1 H 2 q.s q.g q.i A q.n c) := Lib.hid (by rw [← hw1]; exact (QV.of_new hH).below ((Below.refl _ _).alloc (Nat.le_refl _) _))
 have HR1 : Hid (RV w1 (H + 1) 0 0 (.slice none 0 0) (.slice none 0 0)) := Lib.hid (by rw [← hw1]; exact RV.of_new (by simp [hH]))
 have HS1 : Hid (w1.heap.size = H + 2) := Lib.hid (by rw [← hw1]; simp [hH])
 have HN1 := Lib.hid (h.below (by rw [hH]; exact HB1.out))
 have HM := Lib.hid (nmade HN1.out.nb)
 have HO := Lib.hid ho
 have n2 := HN1.out.nb.c2
 clear hw1 hH h ho
 obtain ⟨w2, hw2⟩ : ∃ w2, w1.alloc (.cells #[.int .i64 0, .int .i64 (a.boot : Int), .slice none 0 0, .slice none 0 0] 103) = w2 := ⟨_, rfl⟩
 have HW2 := Lib.hid hw2
 have hb2 : Below w1.heap.size w1 w2 := by rw [← hw2]; exact (Below.refl _ _).alloc (Nat.le_refl _) _
 have HB2 : Hid (Below H w w2) := Lib.hid (HB1.out.trans (hb2.mono (by have := HS1.out; omega)))
 have HQ2 := Lib.hid (HQ1.out.below hb2)
 have HR2 := Lib.hid (HR1.out.below hb2)
 have HN2 := Lib.hid (HN1.out.below hb2)
 have HP2 : Hid (RV w2 (H + 2) 0 (a.boot : Int) (.slice none 0 0) (.slice none 0 0)) := Lib.hid (by rw [← hw2]; exact RV.of_new HS1.out)
 have HS2 : Hid (H ≤ w2.heap.size) := Lib.hid (by have := hb2.size; have := HS1.out; omega)
 clear hw2 hb2
 unfold rqv
 go_enter Tryz.func109, Tryz.ntmps109
 go_wp2_with fail
 rw [HW1.out, HH.out]
 refine HM.out.mono ?_
 rintro e w' ⟨rfl, hw⟩
 obtain rfl := hw.symm
 go_upto_region 4 with fail
 rw [HW2.out, HS1.out]
 clear n2 HM HQ1 HR1 HN1 HB1
 have n0 := HN2.out.nb.c0
 have n1 := HN2.out.nb.c1
 have q0 := HQ2.out.c0
 have HKS : Hid (∀ W, Below w2.heap.size w2 W → W.cell? ⟨n, 0, none⟩ = some (.pointer (some ⟨p, 0, none⟩)) ∧ W.cell? ⟨H, 0, none⟩ = some (.int .i64 2) ∧ W.cell? ⟨H, 1, none⟩ = some (.int .i64 q.s) ∧ W.cell? ⟨H, 2, none⟩ = some (.int .i64 q.g) ∧ W.cell? ⟨H, 3, none⟩ = some (.int .i64 q.i) ∧ W.cell? ⟨H, 4, none⟩ = some (.slice A q.n c)) := Lib.hid (fun W hW => ⟨(HN2.out.nb.below hW).c0, (HQ2.out.below hW).cells⟩)
 have HCON := Lib.hid (fun W (hW : Below w2.heap.size w2 W) => nput (HN2.out.below hW) q A c (HD2.out W (HB2.out.trans (hW.mono HS2.out))) HDD.out HW0.out)
 rw [HX.out] at HCON
 have hb0 : Below w2.heap.size w2 w2.drew := below_drewN 1 w2
 have hnH : ¬ n = H + 2 := by have := HN0.out; omega
 go_wp2_with fail
 go_region_held (fun W => W.cell? ⟨n, 0, none⟩ = some (.pointer (some ⟨p, 0, none⟩)) ∧ W.cell? ⟨H, 0, none⟩ = some (.int .i64 2) ∧ W.cell? ⟨H, 1, none⟩ = some (.int .i64 q.s) ∧ W.cell? ⟨H, 2, none⟩ = some (.int .i64 q.g) ∧ W.cell? ⟨H, 3, none⟩ = some (.int .i64 q.i) ∧ W.cell? ⟨H, 4, none⟩ = some (.slice A q.n c))
  (first | (with_reducible assumption) | (with_reducible exact HKS.out _ hb0) | (with_reducible exact HKS.out _ hbW) | (with_reducible exact ⟨NB5.out.c0, QV5.out.cells⟩) | (with_reducible exact ⟨NB6.out.c0, QV6.out.cells⟩))
  (first
   | (go_at_call 147; (with_reducible refine (npiece 2 q.s q.g q.i A q.n c _).mono ?_); rintro e w3 ⟨rfl, hb3⟩; (try dsimp only); have hbW := hb0.trans (hb3.mono hb0.size); clear hb3)
   | (go_at_call 146; (with_reducible refine (HCON.out _ hbW).mono ?_); rintro e w5 ⟨S', rfl, hn5, ht5, hs5⟩; (try dsimp only); rw [HCD.out]; have HB5 := Lib.hid hbW; have HN5 := Lib.hid hn5; have HT5 := Lib.hid ht5; have HS5 := Lib.hid hs5; have P5 := Lib.hid ((HP2.out.below hbW).keep (ht5.block _ (HP2.out.below hbW).lt ((HN2.out.below hbW).far (HP2.out.below hbW) (by decide) (by decide) (by decide) (by decide) (by decide)))); have Z5 := Lib.hid ((HR2.out.below hbW).keep (ht5.block _ (HR2.out.below hbW).lt ((HN2.out.below hbW).far (HR2.out.below hbW) (by decide) (by decide) (by decide) (by decide) (by decide)))); have QV5 := Lib.hid ((HQ2.out.below hbW).keep (ht5.block _ (HQ2.out.below hbW).lt ((HN2.out.below hbW).far (HQ2.out.below hbW) (by decide) (by decide) (by decide) (by decide) (by decide)))); have NB5 := Lib.hid ((HN2.out.nb.below hbW).keep (ht5.block _ (HN2.out.nb.below hbW).lt (HN2.out.below hbW).nS)); have QV6 : Hid (QV (w5.setCell ⟨H + 2, 0, none⟩ (.int .i64 (cd : Int))) H 2 q.s q.g q.i A q.n c) := Lib.hid (QV5.out.keep (set_other (by omega) _ _)); have NB6 : Hid (NdB (w5.setCell ⟨H + 2, 0, none⟩ (.int .i64 (cd : Int))) n p r a.boot) := Lib.hid (NB5.out.keep (set_other hnH _ _)); have y0 := P5.out.c0; have yf := P5.out.f; clear hn5 ht5 hs5 hbW)
   | fail)
 clear HKS HCON HQ2 QV5 NB5 QV6 NB6 hnH
 have HT3 : Hid (Turn (r :: sb :: S) w w5) := Lib.hid ((Turn.of (by rw [HH.out]; exact HB2.out.trans (HB5.out.mono HS2.out))).trans HT5.out)
 have HSS : Hid (∀ j ∈ S', j ∈ S ∨ w.heap.size ≤ j) := Lib.hid (fun j hj => (HS5.out j hj).imp (fun h => h) (fun h => by rw [HH.out]; exact Nat.le_trans (Nat.le_trans HS2.out HB5.out.size) h))
 obtain ⟨w4, hw4⟩ : ∃ w4, w5.setCell ⟨H + 2, 0, none⟩ (.int .i64 (cd : Int)) = w4 := ⟨_, rfl⟩
 have HW4 := Lib.hid hw4
 have HN4 : Hid (NdM w4 n r p sb S' x.1) := Lib.hid (by rw [← hw4]; exact HN5.out.set P5.out (by decide) (by decide) (by decide) (by decide) (by decide) (by decide) (by decide))
 have HZF : Hid (RV w4 (H + 1) 0 0 (.slice none 0 0) (.slice none 0 0)) := Lib.hid (by rw [← hw4]; exact Z5.out.keep (set_other (by omega) _ _))
 have HRF : Hid (RV w4 (H + 2) cd (a.boot : Int) (.slice none 0 0) (.slice none 0 0)) := Lib.hid (by rw [← hw4]; exact P5.out.put0)
 have HT : Hid (Turn (r :: sb :: S) w w4) := Lib.hid (by rw [← hw4]; exact turn_new HT3.out (by rw [HH.out]; omega))
 rw [hw4]
 clear hw4 y0 yf P5 Z5 HN5 HT5 HS5 HB5 HT3 HP2 HR2 HN2 HB2
 clear n0 n1 q0
 have r0 := HRF.out.c0
 have r1 := HRF.out.c1
 have r2 := HRF.out.c2
 have r3 := HRF.out.c3
 have z0 := HZF.out.c0
 have z1 := HZF.out.c1
 have z2 := HZF.out.c2
 have z3 := HZF.out.c3
 have zf := HZF.out.f
 have zne : ¬ H + 1 = H + 2 := by omega
 go_wp2_with fail
 refine bodyPost_ret (v := rpv (cd : Int) (a.boot : Int) (.slice none 0 0) (.slice none 0 0)) ?_ rfl ?_
 ·rw [results_cell1 rfl]
  simp [(HZF.out.put4 (code' := (cd : Int)) (boot' := (a.boot : Int)) (u' := .slice none 0 0) (v' := .slice none 0 0)).load, Result.andThen, asAddr]
 exact do_end0 HH.out HZF.out HN4.out HT.out HSS.out HX3.out HX4.out HCD.out HX5.out
theorem ndo_log {w : World} {n r p sb : Nat} {S : List Nat} {a : Ns} (h : NdM w n r p sb S a) (ho : a.Ok) (q : Rq) (A : Option Addr) (c : Nat) (hd : DatN w A q.n q.D) (hD : ∀ j, j < q.n → q.D j < 256) (hw : a.nw ≤ 1000000000) (hl : a.last ≤ 1000000000) :
  Calls Tryz.prog 109 #[.pointer (some ⟨n, 0, none⟩), rqv 3 q.s q.g q.i A q.n c] w (DoRet n r p sb S ((if q.okI then a.log q.it else (a, ⟨1, [], []⟩) : Ns × Rp)) w) := by
 obtain ⟨x, hx⟩ : ∃ x, (if q.okI then a.log q.it else (a, ⟨1, [], []⟩) : Ns × Rp) = x := ⟨_, rfl⟩
 rw [hx]
 have HX := Lib.hid hx
 obtain ⟨hx3, hx4, hx5⟩ : x.2.ps = [] ∧ x.2.its = [] ∧ x.1.boot = a.boot := by
  rw [← hx]
  unfold Ns.log
  split <;> (try split) <;> (try split) <;> exact ⟨rfl, rfl, rfl⟩
 have HX3 := Lib.hid hx3
 have HX4 := Lib.hid hx4
 have HX5 := Lib.hid hx5
 obtain ⟨cd, hcd⟩ : ∃ cd, x.2.code = cd := ⟨_, rfl⟩
 have HCD := Lib.hid hcd
 have HD0 := Lib.hid hd
 have HDD := Lib.hid hD
 have HN0 := Lib.hid h.nb.lt
 have HW0 := Lib.hid hw
 have HL0 := Lib.hid hl
 clear hw hl
 clear hx hcd hd hD hx3 hx4 hx5
 obtain ⟨H, hH⟩ : ∃ H, w.heap.size = H := ⟨_, rfl⟩
 have HH := Lib.hid hH
 have HD2 : Hid (∀ W, Below H w W → DatN W A q.n q.D) := Lib.hid (fun W hW => HD0.out.below (by rw [hH]; exact hW))
 rw [hH] at HN0
 obtain ⟨w1, hw1⟩ : ∃ w1, (w.alloc (.cells #[.int .i64 3, .int .i64 q.s, .int .i64 q.g, .int .i64 q.i, .slice A q.n c] 107)).alloc (.cells #[.int .i64 0, .int .i64 0, .slice none 0 0, .slice none 0 0] 103) = w1 := ⟨_, rfl⟩
 have HW1 := Lib.hid hw1
 have HB1 : Hid (Below H w w1) := Lib.hid (by rw [← hw1, ← hH]; exact ((Below.refl _ _).alloc (Nat.le_refl _) _).alloc (by simp) _)
 have HQ1 : Hid (QV w1 H 3 q.s q.g q.i A q.n c) := Lib.hid (by rw [← hw1]; exact (QV.of_new hH).below ((Below.refl _ _).alloc (Nat.le_refl _) _))
 have HR1 : Hid (RV w1 (H + 1) 0 0 (.slice none 0 0) (.slice none 0 0)) := Lib.hid (by rw [← hw1]; exact RV.of_new (by simp [hH]))
 have HS1 : Hid (w1.heap.size = H + 2) := Lib.hid (by rw [← hw1]; simp [hH])
 have HN1 := Lib.hid (h.below (by rw [hH]; exact HB1.out))
 have HM := Lib.hid (nmade HN1.out.nb)
 have HO := Lib.hid ho
 have n2 := HN1.out.nb.c2
 clear hw1 hH h ho
 obtain ⟨w2, hw2⟩ : ∃ w2, w1.alloc (.cells #[.int .i64 0, .int .i64 (a.boot : Int), .slice none 0 0, .slice none 0 0] 103) = w2 := ⟨_, rfl⟩
 have HW2 := Lib.hid hw2
 have hb2 : Below w1.heap.size w1 w2 := by rw [← hw2]; exact (Below.refl _ _).alloc (Nat.le_refl _) _
 have HB2 : Hid (Below H w w2) := Lib.hid (HB1.out.trans (hb2.mono (by have := HS1.out; omega)))
 have HQ2 := Lib.hid (HQ1.out.below hb2)
 have HR2 := Lib.hid (HR1.out.below hb2)
 have HN2 := Lib.hid (HN1.out.below hb2)
 have HP2 : Hid (RV w2 (H + 2) 0 (a.boot : Int) (.slice none 0 0) (.slice none 0 0)) := Lib.hid (by rw [← hw2]; exact RV.of_new HS1.out)
 have HS2 : Hid (H ≤ w2.heap.size) := Lib.hid (by have := hb2.size; have := HS1.out; omega)
 clear hw2 hb2
 unfold rqv
 go_enter Tryz.func109, Tryz.ntmps109
 go_wp2_with fail
 rw [HW1.out, HH.out]
 refine HM.out.mono ?_
 rintro e w' ⟨rfl, hw⟩
 obtain rfl := hw.symm
 go_upto_region 4 with fail
 rw [HW2.out, HS1.out]
 clear n2 HM HQ1 HR1 HN1 HB1
 have n0 := HN2.out.nb.c0
 have n1 := HN2.out.nb.c1
 have q0 := HQ2.out.c0
 have HKS : Hid (∀ W, Below w2.heap.size w2 W → W.cell? ⟨n, 1, none⟩ = some (.pointer (some ⟨r, 0, none⟩)) ∧ W.cell? ⟨H, 0, none⟩ = some (.int .i64 3) ∧ W.cell? ⟨H, 1, none⟩ = some (.int .i64 q.s) ∧ W.cell? ⟨H, 2, none⟩ = some (.int .i64 q.g) ∧ W.cell? ⟨H, 3, none⟩ = some (.int .i64 q.i) ∧ W.cell? ⟨H, 4, none⟩ = some (.slice A q.n c)) := Lib.hid (fun W hW => ⟨(HN2.out.nb.below hW).c1, (HQ2.out.below hW).cells⟩)
 have HCON := Lib.hid (fun W (hW : Below w2.heap.size w2 W) => nlog (HN2.out.below hW) HO.out q A c (HD2.out W (HB2.out.trans (hW.mono HS2.out))) HDD.out HW0.out HL0.out)
 rw [HX.out] at HCON
 have hb0 : Below w2.heap.size w2 w2.drew := below_drewN 1 w2
 have hnH : ¬ n = H + 2 := by have := HN0.out; omega
 go_wp2_with fail
 go_region_held (fun W => W.cell? ⟨n, 1, none⟩ = some (.pointer (some ⟨r, 0, none⟩)) ∧ W.cell? ⟨H, 0, none⟩ = some (.int .i64 3) ∧ W.cell? ⟨H, 1, none⟩ = some (.int .i64 q.s) ∧ W.cell? ⟨H, 2, none⟩ = some (.int .i64 q.g) ∧ W.cell? ⟨H, 3, none⟩ = some (.int .i64 q.i) ∧ W.cell? ⟨H, 4, none⟩ = some (.slice A q.n c))
  (first | (with_reducible assumption) | (with_reducible exact HKS.out _ hb0) | (with_reducible exact HKS.out _ hbW) | (with_reducible exact ⟨NB5.out.c1, QV5.out.cells⟩) | (with_reducible exact ⟨NB6.out.c1, QV6.out.cells⟩))
  (first
   | (go_at_call 149; (with_reducible refine (nintent 3 q.s q.g q.i A q.n c _).mono ?_); rintro e w3 ⟨rfl, hb3⟩; (try dsimp only); have hbW := hb0.trans (hb3.mono hb0.size); clear hb3)
   | (go_at_call 148; (with_reducible refine (HCON.out _ hbW).mono ?_); rintro e w5 ⟨S', rfl, hn5, ht5, hs5⟩; (try dsimp only); rw [HCD.out]; have HB5 := Lib.hid hbW; have HN5 := Lib.hid hn5; have HT5 := Lib.hid ht5; have HS5 := Lib.hid hs5; have P5 := Lib.hid ((HP2.out.below hbW).keep (ht5.block _ (HP2.out.below hbW).lt ((HN2.out.below hbW).far (HP2.out.below hbW) (by decide) (by decide) (by decide) (by decide) (by decide)))); have Z5 := Lib.hid ((HR2.out.below hbW).keep (ht5.block _ (HR2.out.below hbW).lt ((HN2.out.below hbW).far (HR2.out.below hbW) (by decide) (by decide) (by decide) (by decide) (by decide)))); have QV5 := Lib.hid ((HQ2.out.below hbW).keep (ht5.block _ (HQ2.out.below hbW).lt ((HN2.out.below hbW).far (HQ2.out.below hbW) (by decide) (by decide) (by decide) (by decide) (by decide)))); have NB5 := Lib.hid ((HN2.out.nb.below hbW).keep (ht5.block _ (HN2.out.nb.below hbW).lt (HN2.out.below hbW).nS)); have QV6 : Hid (QV (w5.setCell ⟨H + 2, 0, none⟩ (.int .i64 (cd : Int))) H 3 q.s q.g q.i A q.n c) := Lib.hid (QV5.out.keep (set_other (by omega) _ _)); have NB6 : Hid (NdB (w5.setCell ⟨H + 2, 0, none⟩ (.int .i64 (cd : Int))) n p r a.boot) := Lib.hid (NB5.out.keep (set_other hnH _ _)); have y0 := P5.out.c0; have yf := P5.out.f; clear hn5 ht5 hs5 hbW)
   | fail)
 clear HKS HCON HQ2 QV5 NB5 QV6 NB6 hnH
 have HT3 : Hid (Turn (r :: sb :: S) w w5) := Lib.hid ((Turn.of (by rw [HH.out]; exact HB2.out.trans (HB5.out.mono HS2.out))).trans HT5.out)
 have HSS : Hid (∀ j ∈ S', j ∈ S ∨ w.heap.size ≤ j) := Lib.hid (fun j hj => (HS5.out j hj).imp (fun h => h) (fun h => by rw [HH.out]; exact Nat.le_trans (Nat.le_trans HS2.out HB5.out.size) h))
 obtain ⟨w4, hw4⟩ : ∃ w4, w5.setCell ⟨H + 2, 0, none⟩ (.int .i64 (cd : Int)) = w4 := ⟨_, rfl⟩
 have HW4 := Lib.hid hw4
 have HN4 : Hid (NdM w4 n r p sb S' x.1) := Lib.hid (by rw [← hw4]; exact HN5.out.set P5.out (by decide) (by decide) (by decide) (by decide) (by decide) (by decide) (by decide))
 have HZF : Hid (RV w4 (H + 1) 0 0 (.slice none 0 0) (.slice none 0 0)) := Lib.hid (by rw [← hw4]; exact Z5.out.keep (set_other (by omega) _ _))
 have HRF : Hid (RV w4 (H + 2) cd (a.boot : Int) (.slice none 0 0) (.slice none 0 0)) := Lib.hid (by rw [← hw4]; exact P5.out.put0)
 have HT : Hid (Turn (r :: sb :: S) w w4) := Lib.hid (by rw [← hw4]; exact turn_new HT3.out (by rw [HH.out]; omega))
 rw [hw4]
 clear hw4 y0 yf P5 Z5 HN5 HT5 HS5 HB5 HT3 HP2 HR2 HN2 HB2
 clear n0 n1 q0
 have r0 := HRF.out.c0
 have r1 := HRF.out.c1
 have r2 := HRF.out.c2
 have r3 := HRF.out.c3
 have z0 := HZF.out.c0
 have z1 := HZF.out.c1
 have z2 := HZF.out.c2
 have z3 := HZF.out.c3
 have zf := HZF.out.f
 have zne : ¬ H + 1 = H + 2 := by omega
 go_wp2_with fail
 refine bodyPost_ret (v := rpv (cd : Int) (a.boot : Int) (.slice none 0 0) (.slice none 0 0)) ?_ rfl ?_
 ·rw [results_cell1 rfl]
  simp [(HZF.out.put4 (code' := (cd : Int)) (boot' := (a.boot : Int)) (u' := .slice none 0 0) (v' := .slice none 0 0)).load, Result.andThen, asAddr]
 exact do_end0 HH.out HZF.out HN4.out HT.out HSS.out HX3.out HX4.out HCD.out HX5.out
theorem ndo_release {w : World} {n r p sb : Nat} {S : List Nat} {a : Ns} (h : NdM w n r p sb S a) (ho : a.Ok) (s g i : Int) (A : Option Addr) (m c : Nat) :
  Calls Tryz.prog 109 #[.pointer (some ⟨n, 0, none⟩), rqv 6 s g i A m c] w (DoRet n r p sb S (⟨a.t, fun k => relO s g (a.R k), a.last, a.boot, a.nw⟩, ⟨0, [], []⟩) w) := by
 obtain ⟨X, hx⟩ : ∃ X : Ns, (⟨a.t, fun k => relO s g (a.R k), a.last, a.boot, a.nw⟩ : Ns) = X := ⟨_, rfl⟩
 rw [hx]
 have HX := Lib.hid hx
 have HXB : Hid (X.boot = a.boot) := Lib.hid (by rw [← hx])
 clear hx
 obtain ⟨H, hH⟩ : ∃ H, w.heap.size = H := ⟨_, rfl⟩
 have HH := Lib.hid hH
 obtain ⟨w1, hw1⟩ : ∃ w1, (w.alloc (.cells #[.int .i64 6, .int .i64 s, .int .i64 g, .int .i64 i, .slice A m c] 107)).alloc (.cells #[.int .i64 0, .int .i64 0, .slice none 0 0, .slice none 0 0] 103) = w1 := ⟨_, rfl⟩
 have HW1 := Lib.hid hw1
 have HB1 : Hid (Below H w w1) := Lib.hid (by rw [← hw1, ← hH]; exact ((Below.refl _ _).alloc (Nat.le_refl _) _).alloc (by simp) _)
 have HQ1 : Hid (QV w1 H 6 s g i A m c) := Lib.hid (by rw [← hw1]; exact (QV.of_new hH).below ((Below.refl _ _).alloc (Nat.le_refl _) _))
 have HR1 : Hid (RV w1 (H + 1) 0 0 (.slice none 0 0) (.slice none 0 0)) := Lib.hid (by rw [← hw1]; exact RV.of_new (by simp [hH]))
 have HS1 : Hid (w1.heap.size = H + 2) := Lib.hid (by rw [← hw1]; simp [hH])
 have HN1 := Lib.hid (h.below (by rw [hH]; exact HB1.out))
 have HM := Lib.hid (nmade HN1.out.nb)
 have HO := Lib.hid ho
 have n2 := HN1.out.nb.c2
 clear hw1 hH h ho
 obtain ⟨w2, hw2⟩ : ∃ w2, w1.alloc (.cells #[.int .i64 0, .int .i64 (a.boot : Int), .slice none 0 0, .slice none 0 0] 103) = w2 := ⟨_, rfl⟩
 have HW2 := Lib.hid hw2
 have hb2 : Below w1.heap.size w1 w2 := by rw [← hw2]; exact (Below.refl _ _).alloc (Nat.le_refl _) _
 have HB2 : Hid (Below H w w2) := Lib.hid (HB1.out.trans (hb2.mono (by have := HS1.out; omega)))
 have HQ2 := Lib.hid (HQ1.out.below hb2)
 have HR2 := Lib.hid (HR1.out.below hb2)
 have HN2 := Lib.hid (HN1.out.below hb2)
 have HP2 : Hid (RV w2 (H + 2) 0 (a.boot : Int) (.slice none 0 0) (.slice none 0 0)) := Lib.hid (by rw [← hw2]; exact RV.of_new HS1.out)
 have HS2 : Hid (H ≤ w2.heap.size) := Lib.hid (by have := hb2.size; have := HS1.out; omega)
 clear hw2 hb2
 unfold rqv
 go_enter Tryz.func109, Tryz.ntmps109
 go_wp2_with fail
 rw [HW1.out, HH.out]
 refine HM.out.mono ?_
 rintro e w' ⟨rfl, hw⟩
 obtain rfl := hw.symm
 go_upto_region 4 with fail
 rw [HW2.out, HS1.out]
 clear n2 HM HQ1 HR1 HN1 HB1
 have n0 := HN2.out.nb.c0
 have n1 := HN2.out.nb.c1
 have q0 := HQ2.out.c0
 have HKS : Hid (∀ W, Below w2.heap.size w2 W → W.cell? ⟨n, 1, none⟩ = some (.pointer (some ⟨r, 0, none⟩)) ∧ W.cell? ⟨H, 1, none⟩ = some (.int .i64 s) ∧ W.cell? ⟨H, 2, none⟩ = some (.int .i64 g)) := Lib.hid (fun W hW => ⟨(HN2.out.nb.below hW).c1, (HQ2.out.below hW).c1, (HQ2.out.below hW).c2⟩)
 have HCON := Lib.hid (fun W (hW : Below w2.heap.size w2 W) => nrel (HN2.out.below hW) HO.out s g)
 rw [HX.out] at HCON
 have hb0 : Below w2.heap.size w2 w2.drew := below_drewN 1 w2
 go_wp2_with fail
 go_region_held (fun W => W.cell? ⟨n, 1, none⟩ = some (.pointer (some ⟨r, 0, none⟩)) ∧ W.cell? ⟨H, 1, none⟩ = some (.int .i64 s) ∧ W.cell? ⟨H, 2, none⟩ = some (.int .i64 g))
  (first | (with_reducible assumption) | (with_reducible exact HKS.out _ hb0) | (with_reducible exact ⟨NB5.out.c1, QV5.out.c1, QV5.out.c2⟩))
  (first
   | (go_at_call 152; (with_reducible refine (HCON.out _ hb0).mono ?_); rintro e w5 ⟨kr, rfl, hn5, ht5⟩; (try dsimp only); have HB5 := Lib.hid hb0; have HN5 := Lib.hid hn5; have HT5 := Lib.hid ht5; have P5 := Lib.hid ((HP2.out.below hb0).keep (ht5.block _ (HP2.out.below hb0).lt ((HN2.out.below hb0).far (HP2.out.below hb0) (by decide) (by decide) (by decide) (by decide) (by decide)))); have Z5 := Lib.hid ((HR2.out.below hb0).keep (ht5.block _ (HR2.out.below hb0).lt ((HN2.out.below hb0).far (HR2.out.below hb0) (by decide) (by decide) (by decide) (by decide) (by decide)))); have QV5 := Lib.hid ((HQ2.out.below hb0).keep (ht5.block _ (HQ2.out.below hb0).lt ((HN2.out.below hb0).far (HQ2.out.below hb0) (by decide) (by decide) (by decide) (by decide) (by decide)))); have NB5 := Lib.hid ((HN2.out.nb.below hb0).keep (ht5.block _ (HN2.out.nb.below hb0).lt (HN2.out.below hb0).nS)); clear hn5 ht5 hb0)
   | fail)
 clear HKS HCON HQ2 QV5 NB5
 have HT : Hid (Turn (r :: sb :: S) w w5) := Lib.hid ((Turn.of (by rw [HH.out]; exact HB2.out.trans (HB5.out.mono HS2.out))).trans HT5.out)
 have HRF : Hid (RV w5 (H + 2) 0 (a.boot : Int) (.slice none 0 0) (.slice none 0 0)) := P5
 have HZF : Hid (RV w5 (H + 1) 0 0 (.slice none 0 0) (.slice none 0 0)) := Z5
 clear P5 Z5 HT5 HB5 HP2 HR2 HN2 HB2
 clear n0 n1 q0
 have r0 := HRF.out.c0
 have r1 := HRF.out.c1
 have r2 := HRF.out.c2
 have r3 := HRF.out.c3
 have z0 := HZF.out.c0
 have z1 := HZF.out.c1
 have z2 := HZF.out.c2
 have z3 := HZF.out.c3
 have zf := HZF.out.f
 have zne : ¬ H + 1 = H + 2 := by omega
 go_wp2_with fail
 refine bodyPost_ret (v := rpv 0 (a.boot : Int) (.slice none 0 0) (.slice none 0 0)) ?_ rfl ?_
 ·rw [results_cell1 rfl]
  simp [(HZF.out.put4 (code' := 0) (boot' := (a.boot : Int)) (u' := .slice none 0 0) (v' := .slice none 0 0)).load, Result.andThen, asAddr]
 exact do_end (x := (X, ⟨0, [], []⟩)) HH.out HZF.out HN5.out HT.out (fun j hj => Or.inl hj) PL.none_ LI.nil rfl HXB.out
theorem ndo {w : World} {n r p sb : Nat} {S : List Nat} {a : Ns} (h : NdM w n r p sb S a) (ho : a.Ok) (q : Rq) (A : Option Addr) (c : Nat) (hd : DatN w A q.n q.D) (hD : ∀ j, j < q.n → q.D j < 256) (hw : a.nw ≤ 1000000000) (hl : a.last ≤ 1000000000) :
  Calls Tryz.prog 109 #[.pointer (some ⟨n, 0, none⟩), rqv q.k q.s q.g q.i A q.n c] w (DoRet n r p sb S (a.act q) w) := by
 unfold Ns.act
 by_cases h1 : q.k = 1
 ·rw [if_pos h1, h1]
  by_cases hs : 0 ≤ q.s ∧ q.s < 40
  ·rw [if_pos hs]
   have := ndo_get h ho q.s.toNat (by omega) q.g q.i A q.n c
   rw [show ((q.s.toNat : Nat) : Int) = q.s by omega] at this
   exact this
  ·rw [if_neg hs]
   exact ndo_get_no h ho q.s q.g q.i hs A q.n c
 ·rw [if_neg h1]
  by_cases h2 : q.k = 2
  ·rw [if_pos h2, h2]
   exact ndo_put h ho q A c hd hD hw hl
  ·rw [if_neg h2]
   by_cases h3 : q.k = 3
   ·rw [if_pos h3, h3]
    exact ndo_log h ho q A c hd hD hw hl
   ·rw [if_neg h3]
    by_cases h4 : q.k = 4
    ·rw [if_pos h4, h4]
     exact ndo_flush h ho q.s q.g q.i A q.n c
    ·rw [if_neg h4]
     by_cases h5 : q.k = 5
     ·rw [if_pos h5, h5]
      exact ndo_intents h ho q.s q.g q.i A q.n c
     ·rw [if_neg h5]
      by_cases h6 : q.k = 6
      ·rw [if_pos h6, h6]
       exact ndo_release h ho q.s q.g q.i A q.n c
      ·rw [if_neg h6]
       exact ndo_no h ho q.k q.s q.g q.i (by omega) A q.n c
end Go.Proofs.YtobkmohoepgfmaaGreatDoor
