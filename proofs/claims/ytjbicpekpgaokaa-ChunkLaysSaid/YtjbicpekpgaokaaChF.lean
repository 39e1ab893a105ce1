import Derived.Test.YtjbicpekpgaokaaChE
import Derived.Test.YtjbicpekpgaokaaD8
import Derived.Deep.RegionHeld
namespace Go.Proofs.Ytjbicpekpgaokaa
open Go.RowKit Go.Sort
set_option maxRecDepth 100000
set_option maxHeartbeats 1000000

def knP (k : Nat) : Pc := oneP 5 k 2 (k : Int)
theorem knP_ok {k : Nat} (h1 : 1 ≤ k) (h2 : k < 100) : (knP k).Ok := oneP_ok (by omega) h1 (by omega) (by omega)
def knD : Nat → Disk
  | 0 => Disk.blank
  | k + 1 => (knD k).write (atP (knP (k + 1))) (pcS (knP (k + 1)))
def knM : Nat → Nat → Option Pc
  | 0 => fun _ => none
  | k + 1 => updM (knM k) (atP (knP (k + 1))) (some (knP (k + 1)))
theorem knC : ∀ k, k < 99 → CD (knD k) (knM k)
  | 0, _ => CD.blank
  | k + 1, h => (knC k (by omega)).put (knP_ok (by omega) (by omega))
theorem knM_two : two (knM 3 10) (knM 3 11) = [knP 3, knP 2] := rfl
attribute [irreducible] knD
theorem loneI (s g i x : Int) (s' g' i' : Nat) (h1 : s = (s' : Int)) (h2 : g = (g' : Int)) (h3 : i = (i' : Int)) (w : World) : Calls Try.prog 62 #[.int .i64 s, .int .i64 g, .int .i64 i, .int .i64 x] w (LOneRet (oneP s' g' i' x) w) := by
  subst h1 h2 h3
  exact lone s' g' i' x w
theorem CPutRet.put {w : World} {p : Nat} {S : List Nat} {N : Nat} {d : Disk} {wr : Nat} (h : Plt w p S N d wr) (hN : 80 ≤ N) (x : Pc) (hx : x.Ok) (v : Value) (hA : PcV w v x) (hwr : wr ≤ 1000000000) :
    Calls Try.prog 42 #[.pointer (some ⟨p, 0, none⟩), v] w (CPutRet p S N d x wr w) := by
  obtain ⟨A, c, rfl, hd⟩ := hA
  exact cput h hN x hx A c hd.rd hwr
/-- chapter 8's example. -/
theorem lknown8 (w : World) : Calls Try.prog 29 #[] w fun e w' => e = .returned (.bool true) ∧ Below w.heap.size w w' := by
  have HN := Lib.hid (dnew_of w 96 96 (by omega) rfl)
  obtain ⟨H, hH⟩ : ∃ H, w.heap.size = H := ⟨_, rfl⟩
  have HH := Lib.hid hH
  rw [hH]
  clear hH
  go_enter Try.func29, Try.ntmps29
  go_wp2_with fail
  refine HN.out.mono ?_
  rintro e w1 ⟨p, S, rfl, hp1, hb1, hS1⟩
  try dsimp only
  have HP1 := Lib.hid hp1
  have HB1 := Lib.hid hb1
  have HS1 := Lib.hid hS1
  clear hp1 hb1 hS1
  go_wp2_with fail
  go_loopg [2] 3 (fun q s2 v => ∃ k : Nat, s2 = .int .i64 ((k + 1 : Nat) : Int) ∧ k ≤ 3 ∧ q = 3 - k ∧ Hid (∃ S', Plt v p S' 96 (knD k) k ∧ Below H w v ∧ ∀ j ∈ S', H ≤ j))
  case atStart => exact ⟨0, rfl, by omega, rfl, Lib.hid ⟨S, by unfold knD; exact HP1.out, by rw [← HH.out]; exact HB1.out, by rw [← HH.out]; exact HS1.out⟩⟩
  case round =>
    obtain ⟨k, rfl, hk, rfl, HV⟩ := hrel
    obtain ⟨S', hp, hb, hS⟩ := HV.out
    have HP := Lib.hid hp
    have HB := Lib.hid hb
    have HS := Lib.hid hS
    have hHs : H ≤ wr.heap.size := by rw [← HH.out]; exact hb.size
    have HHS := Lib.hid hHs
    clear hp hb hS HV hHs
    by_cases hlt : k < 3
    · have hl : ((k + 1 : Nat) : Int) < 4 := by omega
      have HO := Lib.hid (loneI 5 ((k + 1 : Nat) : Int) 2 ((k + 1 : Nat) : Int) 5 (k + 1) 2 rfl rfl rfl wr)
      go_wp2_with fail
      refine HO.out.mono ?_
      rintro e w2 ⟨v, rfl, hv, hb2⟩
      try dsimp only
      have HV2 := Lib.hid hv
      have HB2 : Hid (Below H w w2) := Lib.hid (HB.out.trans (hb2.mono HHS.out))
      have HPU := Lib.hid (CPutRet.put (HP.out.below hb2) (by omega) (oneP 5 (k + 1) 2 ((k + 1 : Nat) : Int)) (knP_ok (by omega) (by omega)) v HV2.out (by omega))
      have HS2 : Hid (H ≤ w2.heap.size) := Lib.hid (Nat.le_trans HHS.out hb2.size)
      clear hv hb2
      go_wp2_with fail
      refine HPU.out.mono ?_
      rintro e w3 ⟨S3, rfl, hp3, hs3⟩
      try dsimp only
      have HP3 := Lib.hid hp3
      have HS3 := Lib.hid (Below.step HB2.out hs3 HS.out HS2.out)
      clear hp3 hs3
      go_wp2_with fail
      go_roundg (3 - (k + 1))
      case measure => omega
      case rel => exact ⟨k + 1, by go_num, by omega, rfl, Lib.hid ⟨S3, by unfold knD; exact HP3.out, HS3.out.1, HS3.out.2⟩⟩
    · obtain rfl : k = 3 := by omega
      have HG := Lib.hid (cgetD HP.out (knC 3 (by omega)) (by omega) 5 (by omega))
      have e5 : ((5 : Nat) : Int) = 5 := rfl
      rw [e5, show 2 * 5 = 10 from rfl, show 10 + 1 = 11 from rfl, knM_two] at HG
      clear e5
      go_wp2_with fail
      refine HG.out.mono ?_
      rintro e w2 ⟨v, rfl, hpl, hb2⟩
      try dsimp only
      obtain ⟨b, c, A0, c0, hv, hbb, hbl, a0, a1, a2, a3, d0⟩ := hpl.at (i := 0) (p := knP 3) rfl
      obtain ⟨b', c', A1, c1, hv', _, _, b0, b1, b2, b3, d1⟩ := hpl.at (i := 1) (p := knP 2) rfl
      subst hv
      injection hv' with e1 e2 e3
      injection e1 with e1
      injection e1 with e1
      subst e1
      have HB2 : Hid (Below H w w2) := Lib.hid (HB.out.trans (hb2.mono HHS.out))
      have HD0 := Lib.hid d0
      have HD1 := Lib.hid d1
      simp only [Nat.mul_zero, Nat.zero_add, Nat.mul_one, Nat.reduceAdd] at a0 a1 a2 a3 b0 b1 b2 b3
      have HS : Hid (∀ W, Below w2.heap.size w2 W → W.cell? ⟨b, 0, none⟩ = some (.int .i64 ((knP 3).s : Int)) ∧ W.cell? ⟨b, 1, none⟩ = some (.int .i64 ((knP 3).g : Int)) ∧ W.cell? ⟨b, 2, none⟩ = some (.int .i64 ((knP 3).i : Int)) ∧ W.cell? ⟨b, 3, none⟩ = some (.slice A0 32 c0) ∧ W.cell? ⟨b, 4, none⟩ = some (.int .i64 ((knP 2).s : Int)) ∧ W.cell? ⟨b, 5, none⟩ = some (.int .i64 ((knP 2).g : Int)) ∧ W.cell? ⟨b, 6, none⟩ = some (.int .i64 ((knP 2).i : Int)) ∧ W.cell? ⟨b, 7, none⟩ = some (.slice A1 32 c1)) := Lib.hid (fun W hW =>
        ⟨(hW.cell (p := ⟨b, 0, none⟩) hbl).trans a0, (hW.cell (p := ⟨b, 1, none⟩) hbl).trans a1, (hW.cell (p := ⟨b, 2, none⟩) hbl).trans a2, (hW.cell (p := ⟨b, 3, none⟩) hbl).trans a3, (hW.cell (p := ⟨b, 4, none⟩) hbl).trans b0, (hW.cell (p := ⟨b, 5, none⟩) hbl).trans b1, (hW.cell (p := ⟨b, 6, none⟩) hbl).trans b2, (hW.cell (p := ⟨b, 7, none⟩) hbl).trans b3⟩)
      have b0w := below_drewN 1 w2
      have HO3 := Lib.hid (fun W => loneI 5 3 2 3 5 3 2 rfl rfl rfl W)
      have HO2 := Lib.hid (fun W => loneI 5 2 2 2 5 2 2 rfl rfl rfl W)
      have HBL := Lib.hid hbl
      have HKB := Lib.hid (fun j _ => bytesF_lt 3 j : ∀ j, j < 32 → (knP 3).D j < 256)
      have HKC := Lib.hid (fun j _ => bytesF_lt 2 j : ∀ j, j < 32 → (knP 2).D j < 256)
      have HSZ : Hid (H ≤ w2.heap.size) := Lib.hid (by rw [← HH.out]; exact HB2.out.size)
      clear hpl hb2 e2 e3 d0 d1 a0 a1 a2 a3 b0 b1 b2 b3
      go_wp2_with fail
      go_region_held (fun W => W.cell? ⟨b, 0, none⟩ = some (.int .i64 ((knP 3).s : Int)) ∧ W.cell? ⟨b, 1, none⟩ = some (.int .i64 ((knP 3).g : Int)) ∧ W.cell? ⟨b, 2, none⟩ = some (.int .i64 ((knP 3).i : Int)) ∧ W.cell? ⟨b, 3, none⟩ = some (.slice A0 32 c0) ∧ W.cell? ⟨b, 4, none⟩ = some (.int .i64 ((knP 2).s : Int)) ∧ W.cell? ⟨b, 5, none⟩ = some (.int .i64 ((knP 2).g : Int)) ∧ W.cell? ⟨b, 6, none⟩ = some (.int .i64 ((knP 2).i : Int)) ∧ W.cell? ⟨b, 7, none⟩ = some (.slice A1 32 c1))
        (first | assumption | exact HS.out _ b0w | exact HS.out _ hbW)
        (first
          | (go_at_call 62; (with_reducible refine (HO3.out _).mono ?_); rintro e w3 ⟨v3, rfl, hv3, hb3⟩; (try dsimp only); have HV3 : Hid (PcV w3 v3 (knP 3)) := Lib.hid hv3; have hbW := b0w.trans (hb3.mono b0w.size); clear hv3 hb3)
          | (go_at_call 31; have hc := (csameV (v := pv ((knP 3).s : Int) ((knP 3).g : Int) ((knP 3).i : Int) A0 32 c0) (v' := v3) (p := knP 3) (q := knP 3) ⟨A0, c0, rfl, HD0.out.below hbW⟩ HV3.out HKB.out HKB.out true ⟨fun _ => Pc.Alike.refl _, fun _ => rfl⟩); (with_reducible refine hc.mono ?_); clear hc; rintro e w4 ⟨rfl, hb4⟩; (try dsimp only); have hbW4 := hbW.trans (hb4.mono hbW.size); clear hb4 hbW HV3; have hbW := hbW4)
          | (go_at_call 62; (with_reducible refine (HO2.out _).mono ?_); rintro e w5 ⟨v5, rfl, hv5, hb5⟩; (try dsimp only); have HV5 : Hid (PcV w5 v5 (knP 2)) := Lib.hid hv5; have hbW5 := hbW.trans (hb5.mono hbW.size); clear hv5 hb5 hbW; have hbW := hbW5)
          | (go_at_call 31; have hc := (csameV (v := pv ((knP 2).s : Int) ((knP 2).g : Int) ((knP 2).i : Int) A1 32 c1) (v' := v5) (p := knP 2) (q := knP 2) ⟨A1, c1, rfl, HD1.out.below hbW⟩ HV5.out HKC.out HKC.out true ⟨fun _ => Pc.Alike.refl _, fun _ => rfl⟩); (with_reducible refine hc.mono ?_); clear hc; rintro e w6 ⟨rfl, hb6⟩; (try dsimp only); have hbW6 := hbW.trans (hb6.mono hbW.size); clear hb6 hbW HV5; have hbW := hbW6)
          | fail)
      all_goals
        go_wp2_with fail
        go_ret
        exact ⟨rfl, HB2.out.trans (hbW.mono HSZ.out)⟩
end Go.Proofs.Ytjbicpekpgaokaa
