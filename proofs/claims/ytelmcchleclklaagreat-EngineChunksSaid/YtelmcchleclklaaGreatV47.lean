import Derived.Test.YtelmcchleclklaaGreatV40
import Derived.Test.YtelmcchleclklaaGreatV29
import Derived.Maps.OwnSet
import Derived.Maps.RangeWalk
import Derived.Test.YtelmcchleclklaaGreatV46
import Derived.Test.YtelmcchleclklaaGreatV05
import Derived.Test.YtelmcchleclklaaGreatV45
import Derived.Test.YtelmcchleclklaaGreatV27
namespace Go.Proofs.YtelmcchleclklaaGreat
open Go.RowKit Go.Sort
set_option maxRecDepth 100000
set_option maxHeartbeats 2000000

theorem lin (A : Option Addr) (xs : List Int) (c : Nat) (n : Int) (w : World) (h : Nums w A xs) (hl : xs.length ≤ 1000000000) (t : Bool) (ht : t = true ↔ n ∈ xs) :
  Calls Tryz.prog 18 #[.slice A xs.length c, .int .i64 n] w fun e w' => e = .returned (.bool t) ∧ Below w.heap.size w w' := by
 obtain ⟨m, hm⟩ : ∃ m, xs.length = m := ⟨_, rfl⟩
 have HN := Lib.hid h
 have HM := Lib.hid hm
 have HT := Lib.hid ht
 rw [hm] at hl ⊢
 clear h hm ht
 go_enter Tryz.func18, Tryz.ntmps18
 go_wp2_with fail
 go_loopg [9, 6] m (fun q s4 s6 v => ∃ i : Nat, s4 = .int .i64 (i : Int) ∧ i ≤ m ∧ q = m - i ∧ v = w ∧ Hid (n ∉ xs.take i))
 case atStart => exact ⟨0, rfl, by omega, rfl, rfl, Lib.hid (by simp)⟩
 case round =>
  obtain ⟨i, rfl, hi, rfl, hv, HS⟩ := hrel
  generalize wr = v at *
  obtain rfl := hv
  by_cases hlt : i < m
  ·have t1 : (i : Int) < (m : Int) := by omega
   obtain ⟨x, hx⟩ : ∃ x, xs[i]? = some x := ⟨_, List.getElem?_eq_getElem (by rw [HM.out]; exact hlt)⟩
   obtain ⟨g, o, rfl, hg, hc⟩ := HN.out i x hx
   by_cases e : x = n
   ·have t2 : (x == n) = true := beq_iff_eq.2 e
    have HF : Hid (t = true) := Lib.hid (HT.out.2 (by rw [← e]; exact List.mem_of_getElem? hx))
    clear e hx
    go_wp2_with fail
    go_ret
    exact ⟨congrArg (fun b => Ending.returned (Value.bool b)) HF.out.symm, Below.refl _ _⟩
   ·have t2 : (x == n) = false := beq_eq_false_iff_ne.2 e
    have HF : Hid (n ∉ xs.take (i + 1)) := Lib.hid (by
     rw [List.take_add_one, hx, List.mem_append]
     rintro (h | h)
     ·exact HS.out h
     ·simp at h; exact e h.symm)
    clear e hx
    go_wp2_with fail
    go_roundg (m - (i + 1))
    case measure => omega
    case rel => exact ⟨i + 1, by go_num, by omega, rfl, rfl, HF⟩
  ·obtain rfl : i = m := by omega
   have HF : Hid (t = false) := Lib.hid (by
    cases t with
    | false => rfl
    | true =>
     have h1 := HT.out.1 rfl
     have h2 := HS.out
     rw [List.take_of_length_le (by rw [HM.out]; exact Nat.le_refl _)] at h2
     exact absurd h1 h2)
   clear hlt
   go_wp2_with fail
   go_ret
   exact ⟨congrArg (fun b => Ending.returned (Value.bool b)) HF.out.symm, Below.refl _ _⟩
end Go.Proofs.YtelmcchleclklaaGreat
namespace Go.Proofs.YtelmcchleclklaaGreat
open Go.RowKit Go.Sort
set_option maxRecDepth 100000
set_option maxHeartbeats 1000000

theorem ron (s i : Int) (w : World) : Calls Tryz.prog 43 #[.int .i64 s, .int .i64 i] w fun e w' => e = .returned (.int .i64 (nodeF s i)) ∧ w' = w := by
 by_cases h0 : 0 ≤ s
 ·by_cases h1 : s < 40
  ·by_cases i0 : 0 ≤ i
   ·by_cases i1 : i < 6
    ·obtain ⟨y, hy⟩ : ∃ y, nodeF s i = y := ⟨_, rfl⟩
     have hy2 : (s + i) % 8 = y := by
      rw [← hy]
      unfold nodeF
      rw [if_pos ⟨h0, h1, i0, i1⟩]
     rw [hy]
     have HY := Lib.hid hy2
     clear hy hy2
     go_enter Tryz.func43, Tryz.ntmps43
     go_wp2_with fail
     go_ret
     exact ⟨congrArg (fun z => Ending.returned (Value.int .i64 z)) HY.out, rfl⟩
    ·rw [nodeF_no (by omega)]
     go_enter Tryz.func43, Tryz.ntmps43
     go_wp2_with fail
     go_ret
     exact ⟨rfl, rfl⟩
   ·rw [nodeF_no (by omega)]
    go_enter Tryz.func43, Tryz.ntmps43
    go_wp2_with fail
    go_ret
    exact ⟨rfl, rfl⟩
  ·rw [nodeF_no (by omega)]
   go_enter Tryz.func43, Tryz.ntmps43
   go_wp2_with fail
   go_ret
   exact ⟨rfl, rfl⟩
 ·rw [nodeF_no (by omega)]
  go_enter Tryz.func43, Tryz.ntmps43
  go_wp2_with fail
  go_ret
  exact ⟨rfl, rfl⟩

theorem rindex (s n : Int) (w : World) : Calls Tryz.prog 15 #[.int .i64 s, .int .i64 n] w fun e w' => e = .returned (.int .i64 (indexF s n)) ∧ w' = w := by
 obtain ⟨z, hz⟩ : ∃ z, indexF s n = z := ⟨_, rfl⟩
 have HZ := Lib.hid hz
 rw [hz]
 clear hz
 go_enter Tryz.func15, Tryz.ntmps15
 go_wp2_with fail
 go_loopg [5] 6 (fun q s5 v => ∃ i : Nat, s5 = .int .i64 (i : Int) ∧ i ≤ 6 ∧ q = 6 - i ∧ v = w ∧ Hid (∀ j : Nat, j < i → 0 ≤ s → s < 40 → nodeF s j ≠ n))
 case atStart => exact ⟨0, rfl, by omega, rfl, rfl, Lib.hid (fun j hj => by omega)⟩
 case round =>
  obtain ⟨i, rfl, hi, rfl, hv, HS⟩ := hrel
  generalize wr = v at *
  obtain rfl := hv
  by_cases hlt : i < 6
  ·have t1 : (i : Int) < 6 := by omega
   obtain ⟨y, hy⟩ : ∃ y, nodeF s i = y := ⟨_, rfl⟩
   have HN := Lib.hid (ron s i v)
   rw [hy] at HN
   have HY := Lib.hid hy
   clear hy
   by_cases hn : 0 ≤ n
   ·by_cases e : y = n
    ·have t2 : (y == n) = true := beq_iff_eq.2 e
     have HE : Hid (z = (i : Int)) := Lib.hid (by
      rw [← HZ.out]
      have hh : 0 ≤ s ∧ s < 40 := by
       by_cases hh : 0 ≤ s ∧ s < 40
       ·exact hh
       ·have h := HY.out
        rw [nodeF_no (by omega)] at h
        omega
      exact indexF_hit hh.1 hh.2 hlt (HY.out.trans e))
     clear e
     go_wp2_with fail
     refine HN.out.mono ?_
     rintro e w' ⟨rfl, hw⟩
     obtain rfl := hw.symm
     go_wp2_with fail
     go_ret
     exact ⟨congrArg (fun z => Ending.returned (Value.int .i64 z)) HE.out.symm, rfl⟩
    ·have t2 : (y == n) = false := beq_eq_false_iff_ne.2 e
     have HE := Lib.hid e
     clear e
     go_wp2_with fail
     refine HN.out.mono ?_
     rintro e w' ⟨rfl, hw⟩
     obtain rfl := hw.symm
     go_wp2_with fail
     go_roundg (6 - (i + 1))
     case measure => omega
     case rel => exact ⟨i + 1, by go_num, by omega, rfl, rfl, Lib.hid (fun j hj h0 h1 => by
      rcases Nat.lt_succ_iff_lt_or_eq.1 hj with h | rfl
      ·exact HS.out j h h0 h1
      ·rw [HY.out]; exact HE.out)⟩
   ·have HX := Lib.hid hn
    clear hn
    have t3 : ¬ 0 ≤ n := HX.out
    go_wp2_with fail
    go_roundg (6 - (i + 1))
    case measure => omega
    case rel => exact ⟨i + 1, by go_num, by omega, rfl, rfl, Lib.hid (fun j hj h0 h1 h => by
     rcases Nat.lt_succ_iff_lt_or_eq.1 hj with h2 | rfl
     ·exact HS.out j h2 h0 h1 h
     ·have h5 := HX.out
      unfold nodeF at h
      rw [if_pos (by omega)] at h
      omega)⟩
  ·obtain rfl : i = 6 := by omega
   have HE : Hid (z = -1) := Lib.hid (by rw [← HZ.out]; exact indexF_none HS.out)
   clear hlt
   go_wp2_with fail
   go_ret
   exact ⟨congrArg (fun z => Ending.returned (Value.int .i64 z)) HE.out.symm, rfl⟩

end Go.Proofs.YtelmcchleclklaaGreat
namespace Go.Proofs.YtelmcchleclklaaGreat
open Go.RowKit Go.Sort
set_option maxRecDepth 100000
set_option maxHeartbeats 2000000

theorem lbegin (w : World) : Calls Tryz.prog 5 #[] w fun e w' => ∃ g nd p, e = .returned (.tuple #[.pointer (some ⟨p, 0, none⟩), .pointer (some ⟨g, 0, none⟩)]) ∧ LE w w' g nd p w'.heap.size (Ep.new Wp.new) ∧ Below w.heap.size w w' := by
 have q4 := we_neqNilNil
 go_enter Tryz.func5, Tryz.ntmps5
 go_wp2_with fail
 refine (wl_new (w0 := w) w (Below.refl _ _)).mono ?_
 rintro e w1 ⟨g, nd, rfl, W1, b1⟩
 try dsimp only
 have HW := Lib.hid W1
 have HB := Lib.hid b1
 clear W1 b1
 go_wp2_with fail
 refine (le_blank HW.out).mono ?_
 rintro e w2 ⟨p, nd2, rfl, L2, b2, _⟩
 try dsimp only
 have HL := Lib.hid L2
 have HB2 : Hid (Below w.heap.size w w2) := Lib.hid (HB.out.trans (b2.mono HB.out.size))
 clear L2 b2 HB
 go_wp2_with fail
 go_ret2
 exact ⟨g, nd2, p, rfl, HL.out, HB2.out⟩
theorem Blk8.keepE {lim : Nat} {w w' : World} {g n : Nat} {F : Nat → Nat} (h : Blk8 w g n F) (k : KeepE lim w w') : Blk8 w' g n F := by
 obtain ⟨cs, hb, hc⟩ := h
 exact ⟨cs, (k.cells hb (notWi (by decide) (by decide) (by decide) (by decide) (by decide) (by decide) (by decide)) (by decide)).trans hb, hc⟩
def kn14 : Ep := { Ep.new Wp.new with w := ((Wp.new.setD 3 true).setD 5 true).setD 7 true }
theorem kn14_tl : kn14.Tl 0 1 := Ep.Tl.new.same rfl ⟨rfl, rfl, by show (-1 : Int) < 0; decide⟩
theorem kn14_fit : kn14.w.Fit 0 := Wp.Fit.new.congr rfl rfl rfl
theorem kn14_dn : ∀ n, n < 8 → kn14.w.dn n = true → n ∈ [3, 5, 7] := by decide
theorem kn14_write (D : Nat → Nat) : (kn14.write encK 3 D).2 = none ∧ (kn14.write encK 3 D).1.gen 3 = 1 ∧ (kn14.write encK 3 D).1.pend 3 = some D ∧ (kn14.write encK 3 D).1.doubt 3 = false ∧ ∀ i, i ≠ 3 → (kn14.write encK 3 D).1.pend i = none := by
 obtain ⟨w1, _, _, w4⟩ := kn14_tl.write (st := 3) (by omega) (by omega) encK D
 have hn : (kn14.write encK 3 D).2 = none := by
  cases hr : (kn14.write encK 3 D).2 with
  | none => rfl
  | some l =>
   exfalso
   obtain ⟨k, hk, h⟩ := w4 [3, 5, 7] kn14_dn (by rw [hr]; simp)
   have : [3, 5, 7].length = 3 := rfl
   omega
 obtain ⟨d1, d2⟩ := Ep.write_down (e := kn14) kn14_tl.calm (st := 3) (by omega) (by decide) (by decide) encK D (i := 0) (by omega) (by decide) hn
 exact ⟨hn, d2, d1, (w1.ok hn).2.1, fun i hi => w1.pnd i hi⟩
theorem lknown14 (w : World) : Calls Tryz.prog 6 #[] w fun e w' => e = .returned (.bool true) ∧ Below w.heap.size w w' := by
 have q1 := we_eqlNil
 have q2 := we_neqNil
 have q3 := we_eqlNilNil
 have q4 := we_neqNilNil
 go_enter Tryz.func6, Tryz.ntmps6
 go_wp2_with fail
 refine (lbegin w).mono ?_
 rintro e w1 ⟨g, nd, p, rfl, L1, b1⟩
 try dsimp only
 have HL1 := Lib.hid L1
 obtain ⟨lim, hlim⟩ : ∃ lim, w1.heap.size = lim := ⟨_, rfl⟩
 rw [hlim] at HL1
 clear L1 b1 hlim
 go_wp2_with fail
 refine (wl_down HL1.out.wl (n := 3) (by omega) true).mono ?_
 rintro e w2 ⟨rfl, W2, K2⟩
 try dsimp only
 have HL2 := Lib.hid (HL1.out.wire W2 (KeepF.of K2))
 clear W2 K2 HL1
 go_wp2_with fail
 refine (wl_down HL2.out.wl (n := 5) (by omega) true).mono ?_
 rintro e w3 ⟨rfl, W3, K3⟩
 try dsimp only
 have HL3 := Lib.hid (HL2.out.wire W3 (KeepF.of K3))
 clear W3 K3 HL2
 go_wp2_with fail
 refine (wl_down HL3.out.wl (n := 7) (by omega) true).mono ?_
 rintro e w4 ⟨rfl, W4, K4⟩
 try dsimp only
 have HL4 : Hid (LE w w4 g nd p lim kn14) := Lib.hid (HL3.out.wire W4 (KeepF.of K4))
 clear W4 K4 HL3
 go_wp2_with fail
 refine (cbytes 1 128 128 rfl w4 (by omega)).mono ?_
 rintro e w5 ⟨b, rfl, B5, b5, _⟩
 try dsimp only
 have HL5 := Lib.hid (HL4.out.below b5)
 have HS5 := Lib.hid B5
 clear B5 b5 HL4
 obtain ⟨k1, k2, k3, k4, k5⟩ := kn14_write (bytesF 1)
 have HW := Lib.hid (le_write HL5.out (m := 0) kn14_fit (by omega) (fun _ => by show (1 : Nat) ≤ _; omega) (st := 3) (by omega) (some ⟨b, 0, none⟩) 128 (bytesF 1) HS5.out.dat (fun j _ => bytesF_lt 1 j))
 obtain ⟨x, hx⟩ : ∃ x, kn14.write encK 3 (bytesF 1) = x := ⟨_, rfl⟩
 have HF6 : Hid (x.1.w.Fit 564) := Lib.hid (by rw [← hx]; exact (Ep.fit_write (m := 0) kn14_fit (fun j _ => bytesF_lt 1 j) (fun i j hj => encK_lt' _ i j)))
 have HN6 : Hid (∀ i, x.1.next i ≤ 1000000) := Lib.hid (fun i => by
  rw [← hx, Ep.write_next]
  show (if i = 3 then 1 + 1 else 1) ≤ 1000000
  split <;> omega)
 rw [hx] at HW k1 k2 k3 k4 k5
 have HP : Hid (listE (fun i => (x.1.pend i).isSome) = [3]) := Lib.hid (by
  rw [listE_congr (f' := fun i => decide (i = 3)) (fun i _ => by
   by_cases e : i = 3
   ·subst e; rw [k3]; rfl
   ·rw [k5 i e, decide_eq_false e]; rfl)]
  decide)
 have HR : Hid (x.1.read encK decK 3 = ({ x.1 with w := x.1.w }, .yes (bytesF 1))) := Lib.hid (by
  unfold Ep.read Ep.fetch
  rw [k3]
  dsimp only
  rw [k4, if_neg (by decide)])
 have HG := Lib.hid k2
 have HE := Lib.hid k1
 clear hx k1 k2 k3 k4 k5
 go_wp2_with fail
 refine HW.out.mono ?_
 rintro e w6 ⟨u, rfl, L6, K6, E6⟩
 try dsimp only
 rw [HE.out] at E6
 obtain rfl : u = .nilIface := E6
 have HL6 := Lib.hid L6
 have HS6 := Lib.hid (HS5.out.keepE K6)
 clear L6 K6 HW HL5 HS5
 have HPE := Lib.hid (le_pending HL6.out)
 rw [HP.out] at HPE
 go_wp2_with fail
 refine HPE.out.mono ?_
 rintro e w7 ⟨A, c, rfl, n7, b7⟩
 try dsimp only
 have HL7 := Lib.hid (HL6.out.below b7)
 have HS7 := Lib.hid (HS6.out.below b7)
 have HN7 := Lib.hid n7
 clear n7 b7 HL6 HS6 HPE
 have hb8 : Below w7.heap.size w7 (w7.alloc (.cells #[.int .i64 3] 3)) := (Below.refl _ _).alloc (Nat.le_refl _) _
 have HSA := Lib.hid (lsame A (some ⟨w7.heap.size, 0, none⟩) [3] [3] c 1 _ (HN7.out.keep hb8) (litNums rfl) (by simp) true ⟨fun _ => rfl, fun _ => rfl⟩)
 have HL8 := Lib.hid (HL7.out.below hb8)
 have HS8 := Lib.hid (HS7.out.below hb8)
 clear hb8 HL7 HS7 HN7
 go_wp2_with fail
 refine HSA.out.mono ?_
 rintro e w9 ⟨rfl, b9⟩
 try dsimp only
 have HL9 := Lib.hid (HL8.out.below b9)
 have HS9 := Lib.hid (HS8.out.below b9)
 clear b9 HL8 HS8 HSA
 have HGE := Lib.hid (le_gen HL9.out (st := 3) (by omega))
 rw [HG.out] at HGE
 go_wp2_with fail
 refine HGE.out.mono ?_
 rintro e wa ⟨rfl, hw⟩
 obtain rfl := hw.symm
 try dsimp only
 have HLa := HL9
 have HSa := HS9
 clear HL9 HS9 HGE
 have HRD := Lib.hid (le_read HLa.out HF6.out (by omega) HN6.out (st := 3) (by omega))
 rw [HR.out] at HRD
 go_wp2_with fail
 refine HRD.out.mono ?_
 rintro e wb ⟨r, u, rfl, Lb, Kb, ⟨l, hl, _⟩ | ⟨D, P2, c2, hD, rfl, rfl, Rb, _, _⟩⟩
 ·cases hl
 ·cases hD
  try dsimp only
  have v1 := conv_rd (cap := c2) Rb.rd
  have v2 := conv_rd (cap := 128) (HSa.out.keepE Kb).rd
  have HLb := Lib.hid Lb
  clear Lb Kb Rb HRD HSa HLa
  go_wp2_with fail
  go_ret
  exact ⟨by simp, HLb.out.wl.blw⟩
end Go.Proofs.YtelmcchleclklaaGreat
namespace Go.Proofs.YtelmcchleclklaaGreat
open Go.RowKit Go.Sort
set_option maxRecDepth 100000
set_option maxHeartbeats 20000000

structure A14 where
 what : Int
 stripe : Int
 seed : Int
 node : Int
 fa : Option Addr
 fs : List Int
 fc : Nat
 ka : Option Addr
 ks : List Int
 kc : Nat
def A14sIn (w : World) (a : Option Addr) (L : List A14) : Prop := ∀ (i : Nat) (x : A14), L[i]? = some x → ∃ g o, a = some ⟨g, o, none⟩ ∧ g < w.heap.size ∧ w.cell? ⟨g, o + i * 6, none⟩ = some (.int .i64 x.what) ∧ w.cell? ⟨g, o + i * 6 + 1, none⟩ = some (.int .i64 x.stripe) ∧ w.cell? ⟨g, o + i * 6 + 2, none⟩ = some (.int .i64 x.seed) ∧ w.cell? ⟨g, o + i * 6 + 3, none⟩ = some (.int .i64 x.node) ∧
 w.cell? ⟨g, o + i * 6 + 4, none⟩ = some (.slice x.fa x.fs.length x.fc) ∧ w.cell? ⟨g, o + i * 6 + 5, none⟩ = some (.slice x.ka x.ks.length x.kc) ∧ Nums w x.fa x.fs ∧ Nums w x.ka x.ks ∧ x.fs.length ≤ 9223372036854775807 ∧ x.ks.length ≤ 9223372036854775807
theorem bel_drew (w : World) : Below w.heap.size w w.drew := below_drewN 1 w
section
variable {w v v' : World} {g p lim i mb F Dn : Nat} {nd : ND} {e : Ep} {l : List Nat}
end
end Go.Proofs.YtelmcchleclklaaGreat
namespace Go.Proofs.YtelmcchleclklaaGreat
open Go.RowKit Go.Sort
set_option maxRecDepth 100000
set_option maxHeartbeats 8000000

section
variable {w0 v : World} {g p lim : Nat} {nd : ND} {e : Ep}
end
end Go.Proofs.YtelmcchleclklaaGreat
namespace Go.Proofs.YtelmcchleclklaaGreat
open Go.RowKit Go.Sort
set_option maxRecDepth 100000
set_option maxHeartbeats 8000000

theorem cells_keep {w w' : World} {mb : Nat} (hn : ∀ cs t fr, w.heap[mb]? ≠ some (.cells cs t fr)) (g : w.grownBy w' (some mb)) {k : Nat} {cs : Array Value} {t : TypeId} {fr : Nat × Nat} (hk : w.heap[k]? = some (.cells cs t fr)) : w'.heap[k]? = w.heap[k]? :=
 g.block k (heap_lt hk) (fun e => by
  injection e with e
  exact hn cs t fr (e ▸ hk))
theorem WL.other {w0 v v' : World} {g mb : Nat} {nd : ND} {s : Wp} (h : WL w0 v g nd s) (hn : ∀ cs t fr, v.heap[mb]? ≠ some (.cells cs t fr)) (hmb : w0.heap.size ≤ mb) (gr : v.grownBy v' (some mb)) (hz : ¬ nd.Z mb) : WL w0 v' g nd s := by
 obtain ⟨T, fv, h1, h2, h3, h4, h5, h6⟩ := h
 refine ⟨T, fv, h1.same (fun j hj => ?_) (fun i hi j hj => ?_) (fun j cs hj => cells_keep hn gr hj), h2.grown gr h2.size (fun k hk => by cases hk; exact hmb), h3, h4, h5, h6.keep gr.size (fun k hk => gr.block k (Nat.lt_of_lt_of_le (h6.2 k hk).1 h6.1) (fun e => by cases e; exact hz hk))⟩
 ·rw [List.mem_cons] at hj
  rcases hj with rfl | hj
  ·exact cells_keep hn gr h1.hd
  ·obtain ⟨row, hr⟩ := h1.fat.type j hj
   exact cells_keep hn gr hr
 ·obtain ⟨r, p, sb, S, q1, q2, q3⟩ := h1.node i hi
  have hj' : j ∈ nd i :: r :: sb :: S := by
   rw [q3] at hj
   simp only [List.mem_cons] at hj ⊢
   rcases hj with rfl | rfl | rfl | rfl | hj
   ·simp
   ·simp
   ·obtain ⟨db, nb, pv, _, _, hS⟩ := q1.plt
    rw [hS]
    simp
   ·simp
   ·simp [hj]
  obtain ⟨cs', t', hc, hT⟩ := q1.type j hj'
  exact cells_keep hn gr hc
section
variable {w0 v v' : World} {g p lim : Nat} {nd : ND} {e : Ep}
theorem LE.other (h : LE w0 v g nd p lim e) {mb : Nat} (hn : ∀ cs t fr, v.heap[mb]? ≠ some (.cells cs t fr)) (hl : lim ≤ mb) (gr : v.grownBy v' (some mb)) : LE w0 v' g nd p lim e := by
 obtain ⟨cb, A, C, cc, f, o, cap, B, h⟩ := h
 have hz : ¬ nd.Z mb := fun hz => by have := h.wl.zlt hz; have := h.bl; omega
 have hk : ∀ {k : Nat} {cs : Array Value} {t : TypeId} {fr : Nat × Nat}, v.heap[k]? = some (.cells cs t fr) → v'.heap[k]? = v.heap[k]? := fun hk => cells_keep hn gr hk
 refine ⟨cb, A, C, cc, f, o, cap, B, h.wl.other hn (Nat.le_trans h.w0l hl) gr hz, ?_, (hk h.ep).trans h.ep, h.pl, h.bl, Nat.le_trans h.lv gr.size, h.w0l⟩
 obtain ⟨q1, q2, q3, q4, qC, q5, q6, q7⟩ := h.cm
 obtain ⟨r1, r2⟩ := q3.keepA q4 gr.size (fun j h3 h4 => gr.block j (by omega) (fun e2 => by
  injection e2 with e2
  exact hz (e2 ▸ q5 j h3 h4)))
 obtain ⟨cs, hcs, hr⟩ := q1
 exact ⟨⟨cs, (hk hcs).trans hcs, hr⟩, q2.keep (fun b cs hb => hk hb), r1, r2, Nat.le_trans qC gr.size, q5, q6, q7⟩
end
section
variable {w v v' : World} {g p lim F K m : Nat} {nd : ND} {e : Ep} {ps : List Int}
end
end Go.Proofs.YtelmcchleclklaaGreat
namespace Go.Proofs.YtelmcchleclklaaGreat
open Go.RowKit Go.Sort
set_option maxRecDepth 100000
set_option maxHeartbeats 8000000

def RdSl (v : Value) : Option (DataW Unit × List MemPlace) := match v with
 | .slice (some ⟨b, 0, none⟩) 128 128 => some (.lit (.int .i64 (b : Int)), [])
 | _ => none
theorem RdSl_mk (b : Nat) : RdSl (.slice (some ⟨b, 0, none⟩) 128 128) = some (.lit (.int .i64 (b : Int)), []) := rfl
theorem RdSl_inv {v : Value} {y : DataW Unit × List MemPlace} (h : RdSl v = some y) : ∃ b : Nat, v = .slice (some ⟨b, 0, none⟩) 128 128 ∧ y = (.lit (.int .i64 (b : Int)), []) := by
 unfold RdSl at h
 split at h
 ·next b => exact ⟨b, rfl, (Option.some.inj h).symm⟩
 ·cases h
structure MapF (D : DataW Unit) (f : Nat → Option (Nat × Int)) : Prop where
 tidy : Maps.Tidy D
 has : ∀ x : Int, Maps.has D (.int .i64 x) = true → ∃ s b d, x = ((s : Nat) : Int) ∧ f s = some (b, d)
 val : ∀ s b d, f s = some (b, d) → ∀ z, D.atKey (ikB s) z = .lit (.int .i64 (b : Int))
theorem MapF.nil : MapF (.map []) (fun _ => none) := ⟨Maps.tidy_empty, (fun x h => by cases h), (fun s b d h => by cases h)⟩
theorem MapF.put {D : DataW Unit} {f : Nat → Option (Nat × Int)} (h : MapF D f) (s b : Nat) (d : Int) : MapF (D.put (ikB s) (.lit (.int .i64 (b : Int)))) (fun i => if i = s then some (b, d) else f i) := by
 have hI := h.tidy.isMap
 have hk : WideAt.IsKeyLit (ikB s) := trivial
 refine ⟨h.tidy.put hk _, fun x hx => ?_, fun s' b' d' hf z => ?_⟩
 ·by_cases e : x = (s : Int)
  ·exact ⟨s, b, d, e, if_pos rfl⟩
  ·rw [Maps.has_put_other (fun e2 => e (by injection e2))] at hx
   obtain ⟨s', b', d', e1, e2⟩ := h.has x hx
   exact ⟨s', b', d', e1, by rw [if_neg (by omega)]; exact e2⟩
 ·by_cases e : s' = s
  ·subst e
   try dsimp only at hf
   rw [if_pos rfl] at hf
   cases hf
   exact Maps.atKey_put_same hI hk _ _
  ·try dsimp only at hf
   rw [if_neg e] at hf
   rw [Maps.atKey_put_other (fun he => e (ikB_inj he))]
   exact h.val s' b' d' hf z
structure CS (w : World) (g : Nat) (nd : ND) (p lim i mb : Nat) (e : Ep) (f : Nat → Option (Nat × Int)) (v : World) : Prop where
 le : LE w v g nd p lim e
 inv : e.Inv
 fit : e.w.Fit (1000 * i)
 nx : ∀ st, e.next st ≤ 1 + i
 fl : e.w.F.length ≤ 1000
 mp : ∃ D n, v.ownsMap Tryz.prog 3 RdSl mb n D ∧ MapF D f ∧ n ≤ i
 lm : lim ≤ mb
 la : LaM e f
 f4 : ∀ s b d, f s = some (b, d) → s < 4 ∧ DatN v (some ⟨b, 0, none⟩) 128 (bytesF d)
theorem ownsS_keep {w w' : World} {mb n : Nat} {D : DataW Unit} (h : w.ownsMap Tryz.prog 3 RdSl mb n D) (e : w'.heap[mb]? = w.heap[mb]?) : w'.ownsMap Tryz.prog 3 RdSl mb n D := by
 obtain ⟨es, clock, hb, r⟩ := h
 exact ⟨es, clock, e.trans hb, r⟩
theorem ownsS_block {w : World} {mb n : Nat} {D : DataW Unit} (h : w.ownsMap Tryz.prog 3 RdSl mb n D) : ∃ es clock, w.heap[mb]? = some (.map es clock) := by
 obtain ⟨es, clock, hb, _⟩ := h
 exact ⟨es, clock, hb⟩
theorem rangesS_keep {w w' : World} {b r n cnt : Nat} {D : DataW Unit} {left : Lit → Bool} (h : w.ranges Tryz.prog 3 RdSl b r n D left cnt) (e1 : w'.heap[b]? = w.heap[b]?) (e2 : w'.heap[r]? = w.heap[r]?) : w'.ranges Tryz.prog 3 RdSl b r n D left cnt := by
 obtain ⟨es, clock, since, seen, c0, hb, F, hs, hD, hr, rest⟩ := h
 exact ⟨es, clock, since, seen, c0, e1.trans hb, F, hs, hD, e2.trans hr, rest⟩
theorem rangesS_iter {w : World} {b r n cnt : Nat} {D : DataW Unit} {left : Lit → Bool} (h : w.ranges Tryz.prog 3 RdSl b r n D left cnt) : ∃ s q c, w.heap[r]? = some (.mapIter (some b) s q c) := by
 obtain ⟨es, clock, since, seen, c0, hb, F, hs, hD, hr, rest⟩ := h
 exact ⟨_, _, _, hr⟩
theorem rangesS_map {w : World} {b r n cnt : Nat} {D : DataW Unit} {left : Lit → Bool} (h : w.ranges Tryz.prog 3 RdSl b r n D left cnt) : ∃ es c, w.heap[b]? = some (.map es c) := by
 obtain ⟨es, clock, since, seen, c0, hb, F, hs, hD, hr, rest⟩ := h
 exact ⟨_, _, hb⟩
theorem DatN.hold {w w' : World} {A : Option Addr} {n : Nat} {D : Nat → Nat} (h : DatN w A n D) (k : ∀ (g : Nat) (cs : Array Value), w.heap[g]? = some (.cells cs 5 (0, 0)) → w'.heap[g]? = w.heap[g]?) : DatN w' A n D := h.keep k
section
variable {w v v' : World} {g p lim i mb : Nat} {nd : ND} {e : Ep} {f : Nat → Option (Nat × Int)}
theorem CS.below (h : CS w g nd p lim i mb e f v) (b : Below v.heap.size v v') : CS w g nd p lim i mb e f v' :=
 ⟨h.le.below b, h.inv, h.fit, h.nx, h.fl, by
  obtain ⟨D, n, h1, h2, h3⟩ := h.mp
  obtain ⟨es, c, hb⟩ := ownsS_block h1
  exact ⟨D, n, ownsS_keep h1 (b.block mb (heap_lt hb)), h2, h3⟩, h.lm, h.la, fun s b' d hf => ⟨(h.f4 s b' d hf).1, (h.f4 s b' d hf).2.hold (fun g cs hg => b.block g (heap_lt hg))⟩⟩
theorem CS.fail (h : CS w g nd p lim i mb e f v) {st : Nat} (hst : st < 4) (d : Int) (hl : LE w v' g nd p lim (e.write encK st (bytesF d)).1) (k : KeepE lim v v') (hr : (e.write encK st (bytesF d)).2 ≠ none) : CS w g nd p lim (i + 1) mb (e.write encK st (bytesF d)).1 f v' := by
 obtain ⟨D, n, h1, h2, h3⟩ := h.mp
 obtain ⟨es, c, hb⟩ := ownsS_block h1
 refine ⟨hl, h.inv.write (by omega) _ _, (Ep.fit_write (m := 1000 * i) h.fit (fun j _ => bytesF_lt d j) (fun i j _ => encK_lt' _ i j)).mono (by omega), fun s => ?_, Nat.le_trans (Ep.write_F _ _ _ _) h.fl, ⟨D, n, ownsS_keep h1 (k.map hb h.lm), h2, by omega⟩, h.lm, h.la.fail _ _ _ hr, fun s b d hf => ⟨(h.f4 s b d hf).1, (h.f4 s b d hf).2.hold (fun g cs hg => k.cells hg u8_notW (by decide))⟩⟩
 rw [Ep.write_next]
 have := h.nx st
 have := h.nx s
 show (if s = st then e.next st + 1 else e.next s) ≤ _
 split <;> omega
structure CG (w : World) (g : Nat) (nd : ND) (p lim i mb : Nat) (e : Ep) (f : Nat → Option (Nat × Int)) (st b : Nat) (d : Int) (v : World) : Prop where
 le : LE w v g nd p lim e
 inv : e.Inv
 fit : e.w.Fit (1000 * (i + 1))
 nx : ∀ st, e.next st ≤ 2 + i
 fl : e.w.F.length ≤ 1000
 mp : ∃ D n, v.ownsMap Tryz.prog 3 RdSl mb n D ∧ MapF D f ∧ n ≤ i
 lm : lim ≤ mb
 la : LaM e (fun i => if i = st then some (b, d) else f i)
 f4 : ∀ s b d, f s = some (b, d) → s < 4 ∧ DatN v (some ⟨b, 0, none⟩) 128 (bytesF d)
 s4 : st < 4
 db : DatN v (some ⟨b, 0, none⟩) 128 (bytesF d)
theorem CS.good (h : CS w g nd p lim i mb e f v) {st : Nat} (hst : st < 4) (b : Nat) (d : Int) (hd : DatN v (some ⟨b, 0, none⟩) 128 (bytesF d)) (hl : LE w v' g nd p lim (e.write encK st (bytesF d)).1) (k : KeepE lim v v') (hr : (e.write encK st (bytesF d)).2 = none) : CG w g nd p lim i mb (e.write encK st (bytesF d)).1 f st b d v' := by
 obtain ⟨D, n, h1, h2, h3⟩ := h.mp
 obtain ⟨es, c, hb⟩ := ownsS_block h1
 refine ⟨hl, h.inv.write (by omega) _ _, (Ep.fit_write (m := 1000 * i) h.fit (fun j _ => bytesF_lt d j) (fun i j _ => encK_lt' _ i j)).mono (by omega), fun s => ?_, Nat.le_trans (Ep.write_F _ _ _ _) h.fl, ⟨D, n, ownsS_keep h1 (k.map hb h.lm), h2, by omega⟩, h.lm, h.la.good _ (h.inv.nx st (by omega)) b d hr, fun s b d hf => ⟨(h.f4 s b d hf).1, (h.f4 s b d hf).2.hold (fun g cs hg => k.cells hg u8_notW (by decide))⟩, hst, hd.hold (fun g cs hg => k.cells hg u8_notW (by decide))⟩
 rw [Ep.write_next]
 have := h.nx st
 have := h.nx s
 show (if s = st then e.next st + 1 else e.next s) ≤ _
 split <;> omega
theorem CG.store {st b : Nat} {d : Int} (h : CG w g nd p lim i mb e f st b d v) (hi : i ≤ 1000) :
  ∃ w', (Instr.mapUpdate 28 (.map (some mb)) (.int .i64 (st : Int)) (.slice (some ⟨b, 0, none⟩) 128 128)).run Tryz.prog v = .ok () w' ∧ CS w g nd p lim (i + 1) mb e (fun i => if i = st then some (b, d) else f i) w' := by
 obtain ⟨D, n, h1, h2, h3⟩ := h.mp
 obtain ⟨es, clock, hb⟩ := ownsS_block h1
 have s4 := h.s4
 obtain ⟨w', hrun, h4, h5⟩ := World.ownsMap.store h1 lawIntB Tryz.underlying28 (by unfold maxLen; omega) (Maps.keyOf_int_mk Tryz.underlying3 (ikB_wf (show st < 1000 by omega))) (RdSl_mk b)
 have hk : ∀ (g : Nat) (cs : Array Value), v.heap[g]? = some (.cells cs 5 (0, 0)) → w'.heap[g]? = v.heap[g]? := fun g cs hg => KeepW.map hb h5.grown hg
 refine ⟨w', hrun, h.le.map hb h.lm h5.grown, h.inv, h.fit, fun s => by have := h.nx s; omega, h.fl, ⟨_, _, h4, h2.put st b d, by omega⟩, h.lm, h.la, fun s b' d' hf => ?_⟩
 by_cases e2 : s = st
 ·try dsimp only at hf
  rw [if_pos e2] at hf
  cases hf
  exact ⟨e2 ▸ s4, h.db.hold hk⟩
 ·try dsimp only at hf
  rw [if_neg e2] at hf
  exact ⟨(h.f4 s b' d' hf).1, (h.f4 s b' d' hf).2.hold hk⟩
theorem CS.wire (h : CS w g nd p lim i mb e f v) {s : Wp} (hw : WL w v' g nd s) (k : KeepF v v') (hm : v'.heap[mb]? = v.heap[mb]?) (hi : ({ e with w := s } : Ep).Inv) (hf : s.Fit (1000 * (i + 1))) (hF : s.F.length ≤ 1000) : CS w g nd p lim (i + 1) mb { e with w := s } f v' := by
 refine ⟨h.le.wire hw k, hi, hf, fun st => by have := h.nx st; show e.next st ≤ _; omega, hF, ?_, h.lm, h.la.same rfl rfl, fun s b d hf => ⟨(h.f4 s b d hf).1, (h.f4 s b d hf).2.hold (fun g cs hg => k.cells hg u8_notW (by decide))⟩⟩
 obtain ⟨D, n, h1, h2, h3⟩ := h.mp
 exact ⟨D, n, ownsS_keep h1 hm, h2, by omega⟩
end
end Go.Proofs.YtelmcchleclklaaGreat
