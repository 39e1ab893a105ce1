import Derived.Test.YtelmcchleclklaaGreatDoorV41
import Derived.Test.YtelmcchleclklaaGreatDoorV30
import Derived.Maps.OwnSet
import Derived.Maps.RangeWalk
import Derived.Test.YtelmcchleclklaaGreatDoorV31
import Derived.Test.YtelmcchleclklaaGreatDoorV46
import Derived.Test.YtelmcchleclklaaGreatDoorV09
namespace Go.Proofs.YtelmcchleclklaaGreatDoor
open Go.RowKit Go.Sort
set_option maxRecDepth 100000
set_option maxHeartbeats 2000000

theorem hasCode_mem {m : Int} {cs : List Int} (h : m ∈ cs) : Tr.hasCode m cs = true := by
 unfold Tr.hasCode
 simp [h]
theorem lin (A : Option Addr) (xs : List Int) (c : Nat) (n : Int) (w : World) (h : Nums w A xs) (hl : xs.length ≤ 1000000000) (t : Bool) (ht : t = true ↔ n ∈ xs) :
  Calls Tryz.prog 30 #[.slice A xs.length c, .int .i64 n] w fun e w' => e = .returned (.bool t) ∧ Below w.heap.size w w' := by
 obtain ⟨m, hm⟩ : ∃ m, xs.length = m := ⟨_, rfl⟩
 have HN := Lib.hid h
 have HM := Lib.hid hm
 have HT := Lib.hid ht
 rw [hm] at hl ⊢
 clear h hm ht
 go_enter Tryz.func30, Tryz.ntmps30
 go_wp2_with fail
 go_loopg [9, 6] m (fun q s4 s6 v => ∃ i : Nat, s4 = .int .i64 (i : Int) ∧ i ≤ m ∧ q = m - i ∧ v = w ∧ Hid (n ∉ xs.take i))
 case atStart => exact ⟨0, rfl, by omega, rfl, rfl, Lib.hid (by simp)⟩
 case round =>
  obtain ⟨i, rfl, hi, rfl, hv, HS⟩ := hrel
  generalize wr = v at *
  obtain rfl := hv
  by_cases hlt : i < m
  ·have t1 : (i : Int) < (m : Int) := by omega
   obtain ⟨x, hx⟩ : ∃ x, xs[i]? = some x := ⟨_, List.getElem?_eq_getElem (by rw [HM.out]; exact hlt)⟩
   obtain ⟨g, o, rfl, hg, hc⟩ := HN.out i x hx
   by_cases e : x = n
   ·have t2 : (x == n) = true := beq_iff_eq.2 e
    have HF : Hid (t = true) := Lib.hid (HT.out.2 (by rw [← e]; exact List.mem_of_getElem? hx))
    clear e hx
    go_wp2_with fail
    go_ret
    exact ⟨congrArg (fun b => Ending.returned (Value.bool b)) HF.out.symm, Below.refl _ _⟩
   ·have t2 : (x == n) = false := beq_eq_false_iff_ne.2 e
    have HF : Hid (n ∉ xs.take (i + 1)) := Lib.hid (by
     rw [List.take_add_one, hx, List.mem_append]
     rintro (h | h)
     ·exact HS.out h
     ·simp at h; exact e h.symm)
    clear e hx
    go_wp2_with fail
    go_roundg (m - (i + 1))
    case measure => omega
    case rel => exact ⟨i + 1, by go_num, by omega, rfl, rfl, HF⟩
  ·obtain rfl : i = m := by omega
   have HF : Hid (t = false) := Lib.hid (by
    cases t with
    | false => rfl
    | true =>
     have h1 := HT.out.1 rfl
     have h2 := HS.out
     rw [List.take_of_length_le (by rw [HM.out]; exact Nat.le_refl _)] at h2
     exact absurd h1 h2)
   clear hlt
   go_wp2_with fail
   go_ret
   exact ⟨congrArg (fun b => Ending.returned (Value.bool b)) HF.out.symm, Below.refl _ _⟩
structure OffD (D : DataW Unit) (l : List Nat) : Prop where
 tidy : Maps.Tidy D
 size : Maps.size D = l.length
 nd : l.Nodup
 has : ∀ x : Int, Maps.has D (.int .i64 x) = true ↔ ∃ c ∈ l, x = (c : Int)
 val : ∀ c, c < 1000 → D.atKey (ikB c) (bvl false) = bvl (decide (c ∈ l))
theorem OffD.nil : OffD (.map []) [] := ⟨Maps.tidy_empty, rfl, List.nodup_nil, fun x => ⟨(fun h => by cases h), (fun ⟨c, hc, _⟩ => by cases hc)⟩, fun c _ => rfl⟩
theorem OffD.put {D : DataW Unit} {l : List Nat} (h : OffD D l) {c : Nat} (hc : c < 1000) : OffD (D.put (ikB c) (bvl true)) (if c ∈ l then l else c :: l) := by
 have hI := h.tidy.isMap
 have hk : WideAt.IsKeyLit (ikB c) := trivial
 have hh : Maps.has D (ikB c) = true ↔ c ∈ l := by
  rw [h.has]
  constructor
  ·rintro ⟨d, hd, e⟩
   have : c = d := by omega
   rw [this]; exact hd
  ·exact fun hd => ⟨c, hd, rfl⟩
 refine ⟨h.tidy.put hk _, ?_, ?_, fun x => ?_, fun d hd => ?_⟩
 ·rw [Maps.size_put h.tidy]
  by_cases hm : c ∈ l
  ·rw [if_pos hm, hh.2 hm, h.size]; rfl
  ·have : Maps.has D (ikB c) = false := by
    cases e : Maps.has D (ikB c) with
    | false => rfl
    | true => exact absurd (hh.1 e) hm
   rw [if_neg hm, this, h.size]; rfl
 ·split
  ·exact h.nd
  ·next hm => exact List.nodup_cons.2 ⟨hm, h.nd⟩
 ·by_cases e : x = (c : Int)
  ·subst e
   rw [show (Lit.int .i64 (c : Int)) = ikB c from rfl, Maps.has_put_same hI hk]
   refine ⟨fun _ => ⟨c, ?_, rfl⟩, fun _ => rfl⟩
   split
   ·assumption
   ·exact List.mem_cons_self ..
  ·rw [Maps.has_put_other (fun e2 => e (by injection e2)), h.has]
   constructor
   ·rintro ⟨d, hd, e2⟩
    refine ⟨d, ?_, e2⟩
    split
    ·exact hd
    ·exact List.mem_cons_of_mem _ hd
   ·rintro ⟨d, hd, e2⟩
    split at hd
    ·exact ⟨d, hd, e2⟩
    ·rcases List.mem_cons.1 hd with rfl | hd
     ·exact absurd e2 e
     ·exact ⟨d, hd, e2⟩
 ·by_cases e : d = c
  ·subst e
   rw [Maps.atKey_put_same hI hk]
   have : d ∈ (if d ∈ l then l else d :: l) := by
    split
    ·assumption
    ·exact List.mem_cons_self ..
   rw [decide_eq_true this]
  ·rw [Maps.atKey_put_other (fun e2 => e (ikB_inj e2)), h.val d hd]
   congr 1
   split
   ·rfl
   ·simp [e]
end Go.Proofs.YtelmcchleclklaaGreatDoor
namespace Go.Proofs.YtelmcchleclklaaGreatDoor
open Go.RowKit Go.Sort
set_option maxRecDepth 100000
set_option maxHeartbeats 1000000

end Go.Proofs.YtelmcchleclklaaGreatDoor
namespace Go.Proofs.YtelmcchleclklaaGreatDoor
open Go.RowKit Go.Sort
set_option maxRecDepth 100000
set_option maxHeartbeats 2000000

theorem lbegin (w : World) : Calls Tryz.prog 9 #[] w fun e w' => ∃ g nd p, e = .returned (.tuple #[.pointer (some ⟨p, 0, none⟩), .pointer (some ⟨g, 0, none⟩)]) ∧ LE w w' g nd p w'.heap.size (Ep.new Wp.new) ∧ Below w.heap.size w w' := by
 have q4 := we_neqNilNil
 go_enter Tryz.func9, Tryz.ntmps9
 go_wp2_with fail
 refine (wl_new (w0 := w) w (Below.refl _ _)).mono ?_
 rintro e w1 ⟨g, nd, rfl, W1, b1⟩
 try dsimp only
 have HW := Lib.hid W1
 have HB := Lib.hid b1
 clear W1 b1
 go_wp2_with fail
 refine (le_blank HW.out).mono ?_
 rintro e w2 ⟨p, nd2, rfl, L2, b2, _⟩
 try dsimp only
 have HL := Lib.hid L2
 have HB2 : Hid (Below w.heap.size w w2) := Lib.hid (HB.out.trans (b2.mono HB.out.size))
 clear L2 b2 HB
 go_wp2_with fail
 go_ret2
 exact ⟨g, nd2, p, rfl, HL.out, HB2.out⟩
theorem Blk8.keepE {lim : Nat} {w w' : World} {g n : Nat} {F : Nat → Nat} (h : Blk8 w g n F) (k : KeepE lim w w') : Blk8 w' g n F := by
 obtain ⟨cs, hb, hc⟩ := h
 exact ⟨cs, (k.cells hb (notWi (by decide) (by decide) (by decide) (by decide) (by decide) (by decide) (by decide)) (by decide)).trans hb, hc⟩
def kn14 : Ep := { Ep.new Wp.new with w := ((Wp.new.setD 3 true).setD 5 true).setD 7 true }
theorem kn14_tl : kn14.Tl 0 1 := Ep.Tl.new.same rfl ⟨rfl, rfl, by show (-1 : Int) < 0; decide⟩
theorem kn14_fit : kn14.w.Fit 0 := Wp.Fit.new.congr rfl rfl rfl
theorem kn14_dn : ∀ n, n < 8 → kn14.w.dn n = true → n ∈ [3, 5, 7] := by decide
theorem kn14_write (D : Nat → Nat) : (kn14.write encK 3 D).2 = none ∧ (kn14.write encK 3 D).1.gen 3 = 1 ∧ (kn14.write encK 3 D).1.pend 3 = some D ∧ (kn14.write encK 3 D).1.doubt 3 = false ∧ ∀ i, i ≠ 3 → (kn14.write encK 3 D).1.pend i = none := by
 obtain ⟨w1, _, _, w4⟩ := kn14_tl.write (st := 3) (by omega) (by omega) encK D
 have hn : (kn14.write encK 3 D).2 = none := by
  cases hr : (kn14.write encK 3 D).2 with
  | none => rfl
  | some l =>
   exfalso
   obtain ⟨k, hk, h⟩ := w4 [3, 5, 7] kn14_dn (by rw [hr]; simp)
   have : [3, 5, 7].length = 3 := rfl
   omega
 obtain ⟨d1, d2⟩ := Ep.write_down (e := kn14) kn14_tl.calm (st := 3) (by omega) (by decide) (by decide) encK D (i := 0) (by omega) (by decide) hn
 exact ⟨hn, d2, d1, (w1.ok hn).2.1, fun i hi => w1.pnd i hi⟩
theorem lknown14 (w : World) : Calls Tryz.prog 11 #[] w fun e w' => e = .returned (.bool true) ∧ Below w.heap.size w w' := by
 have q1 := we_eqlNil
 have q2 := we_neqNil
 have q3 := we_eqlNilNil
 have q4 := we_neqNilNil
 go_enter Tryz.func11, Tryz.ntmps11
 go_wp2_with fail
 refine (lbegin w).mono ?_
 rintro e w1 ⟨g, nd, p, rfl, L1, b1⟩
 try dsimp only
 have HL1 := Lib.hid L1
 obtain ⟨lim, hlim⟩ : ∃ lim, w1.heap.size = lim := ⟨_, rfl⟩
 rw [hlim] at HL1
 clear L1 b1 hlim
 go_wp2_with fail
 refine (wl_down HL1.out.wl (n := 3) (by omega) true).mono ?_
 rintro e w2 ⟨rfl, W2, K2⟩
 try dsimp only
 have HL2 := Lib.hid (HL1.out.wire W2 (KeepF.of K2))
 clear W2 K2 HL1
 go_wp2_with fail
 refine (wl_down HL2.out.wl (n := 5) (by omega) true).mono ?_
 rintro e w3 ⟨rfl, W3, K3⟩
 try dsimp only
 have HL3 := Lib.hid (HL2.out.wire W3 (KeepF.of K3))
 clear W3 K3 HL2
 go_wp2_with fail
 refine (wl_down HL3.out.wl (n := 7) (by omega) true).mono ?_
 rintro e w4 ⟨rfl, W4, K4⟩
 try dsimp only
 have HL4 : Hid (LE w w4 g nd p lim kn14) := Lib.hid (HL3.out.wire W4 (KeepF.of K4))
 clear W4 K4 HL3
 go_wp2_with fail
 refine (cbytes 1 128 128 rfl w4 (by omega)).mono ?_
 rintro e w5 ⟨b, rfl, B5, b5, _⟩
 try dsimp only
 have HL5 := Lib.hid (HL4.out.below b5)
 have HS5 := Lib.hid B5
 clear B5 b5 HL4
 obtain ⟨k1, k2, k3, k4, k5⟩ := kn14_write (bytesF 1)
 have HW := Lib.hid (le_write HL5.out (m := 0) kn14_fit (by omega) (fun _ => by show (1 : Nat) ≤ _; omega) (st := 3) (by omega) (some ⟨b, 0, none⟩) 128 (bytesF 1) HS5.out.dat (fun j _ => bytesF_lt 1 j))
 obtain ⟨x, hx⟩ : ∃ x, kn14.write encK 3 (bytesF 1) = x := ⟨_, rfl⟩
 have HF6 : Hid (x.1.w.Fit 564) := Lib.hid (by rw [← hx]; exact (Ep.fit_write (m := 0) kn14_fit (fun j _ => bytesF_lt 1 j) (fun i j hj => encK_lt' _ i j)))
 have HN6 : Hid (∀ i, x.1.next i ≤ 1000000) := Lib.hid (fun i => by
  rw [← hx, Ep.write_next]
  show (if i = 3 then 1 + 1 else 1) ≤ 1000000
  split <;> omega)
 rw [hx] at HW k1 k2 k3 k4 k5
 have HP : Hid (listE (fun i => (x.1.pend i).isSome) = [3]) := Lib.hid (by
  rw [listE_congr (f' := fun i => decide (i = 3)) (fun i _ => by
   by_cases e : i = 3
   ·subst e; rw [k3]; rfl
   ·rw [k5 i e, decide_eq_false e]; rfl)]
  decide)
 have HR : Hid (x.1.read encK decK 3 = ({ x.1 with w := x.1.w }, .yes (bytesF 1))) := Lib.hid (by
  unfold Ep.read Ep.fetch
  rw [k3]
  dsimp only
  rw [k4, if_neg (by decide)])
 have HG := Lib.hid k2
 have HE := Lib.hid k1
 clear hx k1 k2 k3 k4 k5
 go_wp2_with fail
 refine HW.out.mono ?_
 rintro e w6 ⟨u, rfl, L6, K6, E6⟩
 try dsimp only
 rw [HE.out] at E6
 obtain rfl : u = .nilIface := E6
 have HL6 := Lib.hid L6
 have HS6 := Lib.hid (HS5.out.keepE K6)
 clear L6 K6 HW HL5 HS5
 have HPE := Lib.hid (le_pending HL6.out)
 rw [HP.out] at HPE
 go_wp2_with fail
 refine HPE.out.mono ?_
 rintro e w7 ⟨A, c, rfl, n7, b7⟩
 try dsimp only
 have HL7 := Lib.hid (HL6.out.below b7)
 have HS7 := Lib.hid (HS6.out.below b7)
 have HN7 := Lib.hid n7
 clear n7 b7 HL6 HS6 HPE
 have hb8 : Below w7.heap.size w7 (w7.alloc (.cells #[.int .i64 3] 3)) := (Below.refl _ _).alloc (Nat.le_refl _) _
 have HSA := Lib.hid (lsame A (some ⟨w7.heap.size, 0, none⟩) [3] [3] c 1 _ (HN7.out.keep hb8) (litNums rfl) (by simp) true ⟨fun _ => rfl, fun _ => rfl⟩)
 have HL8 := Lib.hid (HL7.out.below hb8)
 have HS8 := Lib.hid (HS7.out.below hb8)
 clear hb8 HL7 HS7 HN7
 go_wp2_with fail
 refine HSA.out.mono ?_
 rintro e w9 ⟨rfl, b9⟩
 try dsimp only
 have HL9 := Lib.hid (HL8.out.below b9)
 have HS9 := Lib.hid (HS8.out.below b9)
 clear b9 HL8 HS8 HSA
 have HGE := Lib.hid (le_gen HL9.out (st := 3) (by omega))
 rw [HG.out] at HGE
 go_wp2_with fail
 refine HGE.out.mono ?_
 rintro e wa ⟨rfl, hw⟩
 obtain rfl := hw.symm
 try dsimp only
 have HLa := HL9
 have HSa := HS9
 clear HL9 HS9 HGE
 have HRD := Lib.hid (le_read HLa.out HF6.out (by omega) HN6.out (st := 3) (by omega))
 rw [HR.out] at HRD
 go_wp2_with fail
 refine HRD.out.mono ?_
 rintro e wb ⟨r, u, rfl, Lb, Kb, ⟨l, hl, _⟩ | ⟨D, P2, c2, hD, rfl, rfl, Rb, _, _⟩⟩
 ·cases hl
 ·cases hD
  try dsimp only
  have v1 := conv_rd (cap := c2) Rb.rd
  have v2 := conv_rd (cap := 128) (HSa.out.keepE Kb).rd
  have HLb := Lib.hid Lb
  clear Lb Kb Rb HRD HSa HLa
  go_wp2_with fail
  go_ret
  exact ⟨by simp, HLb.out.wl.blw⟩
end Go.Proofs.YtelmcchleclklaaGreatDoor
namespace Go.Proofs.YtelmcchleclklaaGreatDoor
open Go.RowKit Go.Sort
set_option maxRecDepth 100000
set_option maxHeartbeats 20000000

structure A14 where
 what : Int
 stripe : Int
 seed : Int
 node : Int
 fa : Option Addr
 fs : List Int
 fc : Nat
 ka : Option Addr
 ks : List Int
 kc : Nat
def A14sIn (w : World) (a : Option Addr) (L : List A14) : Prop := ∀ (i : Nat) (x : A14), L[i]? = some x → ∃ g o, a = some ⟨g, o, none⟩ ∧ g < w.heap.size ∧ w.cell? ⟨g, o + i * 6, none⟩ = some (.int .i64 x.what) ∧ w.cell? ⟨g, o + i * 6 + 1, none⟩ = some (.int .i64 x.stripe) ∧ w.cell? ⟨g, o + i * 6 + 2, none⟩ = some (.int .i64 x.seed) ∧ w.cell? ⟨g, o + i * 6 + 3, none⟩ = some (.int .i64 x.node) ∧
 w.cell? ⟨g, o + i * 6 + 4, none⟩ = some (.slice x.fa x.fs.length x.fc) ∧ w.cell? ⟨g, o + i * 6 + 5, none⟩ = some (.slice x.ka x.ks.length x.kc) ∧ Nums w x.fa x.fs ∧ Nums w x.ka x.ks ∧ x.fs.length ≤ 9223372036854775807 ∧ x.ks.length ≤ 9223372036854775807
structure TS (w : World) (g : Nat) (nd : ND) (p lim i mb : Nat) (e : Ep) (l : List Nat) (F Dn : Nat) (v : World) : Prop where
 le : LE w v g nd p lim e
 mp : ∃ D n, v.ownsMap Tryz.prog 3 (plainElem Tryz.prog 4) mb n D ∧ OffD D l ∧ n ≤ i
 lm : lim ≤ mb
 tl : e.Tl F (1 + 10 * i)
 fit : e.w.Fit (20000 * i)
 dn : ∀ c, c < 8 → (e.w.dn c = true ↔ c ∈ l)
 l8 : ∀ c ∈ l, c < 8
 cn : F + Dn ≤ i
 ll : l.length ≤ Dn
 f3 : F = 0 ∨ 3 ≤ Dn
def TSx (w : World) (g : Nat) (nd : ND) (p lim i : Nat) (s5 : Value) (v : World) : Prop := ∃ mb e l F Dn, s5 = .map (some mb) ∧ TS w g nd p lim i mb e l F Dn v
theorem bel_drew (w : World) : Below w.heap.size w w.drew := below_drewN 1 w
theorem ownsMap_keep {w w' : World} {mb n : Nat} {D : DataW Unit} (h : w.ownsMap Tryz.prog 3 (plainElem Tryz.prog 4) mb n D) (e : w'.heap[mb]? = w.heap[mb]?) : w'.ownsMap Tryz.prog 3 (plainElem Tryz.prog 4) mb n D := by
 obtain ⟨es, clock, hb, r⟩ := h
 exact ⟨es, clock, e.trans hb, r⟩
theorem ownsMap_block {w : World} {mb n : Nat} {D : DataW Unit} (h : w.ownsMap Tryz.prog 3 (plainElem Tryz.prog 4) mb n D) : ∃ es clock, w.heap[mb]? = some (.map es clock) := by
 obtain ⟨es, clock, hb, _⟩ := h
 exact ⟨es, clock, hb⟩
section
variable {w v v' : World} {g p lim i mb F Dn : Nat} {nd : ND} {e : Ep} {l : List Nat}
theorem TS.below (h : TS w g nd p lim i mb e l F Dn v) (b : Below v.heap.size v v') : TS w g nd p lim i mb e l F Dn v' :=
 ⟨h.le.below b, by
  obtain ⟨D, n, h1, h2, h3⟩ := h.mp
  obtain ⟨es, c, hb⟩ := ownsMap_block h1
  exact ⟨D, n, ownsMap_keep h1 (b.block mb (heap_lt hb)), h2, h3⟩, h.lm, h.tl, h.fit, h.dn, h.l8, h.cn, h.ll, h.f3⟩
theorem TS.next (h : TS w g nd p lim i mb e l F Dn v) : TS w g nd p lim (i + 1) mb e l F Dn v :=
 ⟨h.le, by
  obtain ⟨D, n, h1, h2, h3⟩ := h.mp
  exact ⟨D, n, h1, h2, by omega⟩, h.lm, ⟨h.tl.inv, h.tl.calm, h.tl.lo, h.tl.up, h.tl.at3, fun st => by have := h.tl.nk st; omega, h.tl.pl, h.tl.ps⟩, h.fit.mono (by omega), h.dn, h.l8, by have := h.cn; omega, h.ll, h.f3⟩
theorem TS.nx (h : TS w g nd p lim i mb e l F Dn v) (hi : i ≤ 25) : ∀ st, e.next st ≤ 1000000 := fun st => by have := h.tl.nk st; omega
theorem TS.store (h : TS w g nd p lim i mb e l F Dn v) (hi : i ≤ 24) {c : Nat} (hc : c < 8) :
  ∃ w', (Instr.mapUpdate 63 (.map (some mb)) (.int .i64 (c : Int)) (.bool true)).run Tryz.prog v = .ok () w' ∧ v.grownBy w' (some mb) ∧ LE w w' g nd p lim e ∧ ∃ D n, w'.ownsMap Tryz.prog 3 (plainElem Tryz.prog 4) mb n D ∧ OffD D (if c ∈ l then l else c :: l) ∧ n ≤ i + 1 := by
 obtain ⟨D, n, h1, h2, h3⟩ := h.mp
 obtain ⟨es, clock, hb⟩ := ownsMap_block h1
 obtain ⟨w', hrun, h4, h5⟩ := World.ownsMap.store h1 lawIntB Tryz.underlying63 (by unfold maxLen; omega) (Maps.keyOf_int_mk Tryz.underlying3 (ikB_wf (show c < 1000 by omega))) (plainElem_bool (H := Unit) Tryz.underlying4 true)
 exact ⟨w', hrun, h5.grown, h.le.map hb h.lm h5.grown, _, _, h4, h2.put (by omega), by omega⟩
end
end Go.Proofs.YtelmcchleclklaaGreatDoor
namespace Go.Proofs.YtelmcchleclklaaGreatDoor
open Go.RowKit Go.Sort
set_option maxRecDepth 100000
set_option maxHeartbeats 8000000

theorem Ep.getN_few (e : Ep) (st : Nat) : ∀ m, (e.getN st m).2.2.length ≤ m
 | 0 => by rw [Ep.getN_zero]; exact Nat.le_refl _
 | m + 1 => by
  have ih := Ep.getN_few e st m
  by_cases h : 4 ≤ (e.getN st m).2.1.length
  ·rw [Ep.getN_full h]; omega
  ·obtain ⟨s1, x, hc⟩ : ∃ s1 x, (e.getN st m).1.call (nodeN st m) (qGt st) = (s1, x) := ⟨_, _, rfl⟩
   cases x with
   | err c => rw [Ep.getN_err h hc]; dsimp only; rw [List.length_append, List.length_singleton]; omega
   | ok y =>
    cases hp : pieceOf y.2.ps (e.gen st) m with
    | some p => rw [Ep.getN_some h hc hp]; dsimp only; omega
    | none => rw [Ep.getN_none h hc hp]; dsimp only; rw [List.length_append, List.length_singleton]; omega
theorem Ep.askN_few (e : Ep) (q : Rq) (st : Nat) : ∀ m, (e.askN q st m).2.2.length ≤ m
 | 0 => by rw [Ep.askN_zero]; exact Nat.le_refl _
 | m + 1 => by
  have ih := Ep.askN_few e q st m
  rw [Ep.askN_succ]
  split
  ·omega
  ·split
   ·dsimp only; omega
   ·dsimp only; rw [List.length_append, List.length_singleton]; omega
theorem Ep.write_few (E : (Nat → Nat) → Nat → Nat → Nat) (e : Ep) (st : Nat) (D : Nat → Nat) {l : List (Nat × Nat)} (h : (e.write E st D).2 = some l) : l.length ≤ 8 := by
 unfold Ep.write Ep.carry at h
 dsimp only at h
 have k := Ep.askN_few (e.up st) (qLg st (e.next st) D) st 8
 by_cases h3 : ((e.up st).askN (qLg st (e.next st) D) st 8).2.1 < 3
 ·rw [if_pos h3] at h
  rw [if_pos (by rfl)] at h
  cases h
  exact k
 ·rw [if_neg h3] at h
  rw [if_neg (by simp)] at h
  cases h
theorem Ep.read_few (E : (Nat → Nat) → Nat → Nat → Nat) (dec : List (Nat × (Nat → Nat)) → Nat → Nat) (e : Ep) (st : Nat) {l : List (Nat × Nat)} (h : (e.read E dec st).2 = .no l) : l.length ≤ 8 := by
 have hf : ∀ s l, e.fetch dec st = (s, .no l) → l.length ≤ 8 := by
  intro s l hx
  unfold Ep.fetch at hx
  have k := Ep.getN_few e st 6
  split at hx
  ·cases hx
  ·split at hx
   ·cases hx
   ·split at hx
    ·cases hx; omega
    ·cases hx
 unfold Ep.read at h
 obtain ⟨s, x, hx⟩ : ∃ s x, e.fetch dec st = (s, x) := ⟨_, _, rfl⟩
 rw [hx] at h
 cases x with
 | no l2 => cases h; exact hf s _ hx
 | yes D =>
  dsimp only at h
  by_cases hd : e.doubt st = true
  ·rw [if_pos hd] at h
   obtain ⟨e2, r, hr⟩ : ∃ e2 r, ({ e with w := s } : Ep).write E st D = (e2, r) := ⟨_, _, rfl⟩
   rw [hr] at h
   cases r with
   | none => cases h
   | some l3 =>
    cases h
    exact Ep.write_few E _ st D (congrArg Prod.snd hr)
  ·rw [if_neg hd] at h; cases h
section
variable {w0 v : World} {g p lim : Nat} {nd : ND} {e : Ep}
theorem LE.pend_lt (h : LE w0 v g nd p lim e) {st : Nat} (hs : st < 40) {D : Nat → Nat} (hp : e.pend st = some D) : ∀ j, j < 128 → D j < 256 := by
 obtain ⟨cb, A, C, c, f, o, cap, B, h⟩ := h
 rcases h.cm.pb st hs with ⟨h1, _⟩ | ⟨D', b, cp, h1, _, _, _, _, h6⟩
 ·rw [h1] at hp; cases hp
 ·rw [h1] at hp
  cases hp
  exact h6
theorem LE.fit_read (h : LE w0 v g nd p lim e) {m : Nat} (hf : e.w.Fit m) {st : Nat} (hs : st < 40) : (e.read encK decK st).1.w.Fit (m + 582) := by
 have h1 := Ep.fit_fetch (st := st) decK hf
 have hD : ∀ s D, e.fetch decK st = (s, .yes D) → ∀ j, j < 128 → D j < 256 := by
  intro s D hx
  unfold Ep.fetch at hx
  cases hp : e.pend st with
  | some E =>
   rw [hp] at hx
   cases hx
   exact h.pend_lt hs hp
  | none =>
   rw [hp] at hx
   dsimp only at hx
   by_cases hg : e.gen st = 0
   ·rw [if_pos hg] at hx
    cases hx
    exact fun _ _ => by show (0 : Nat) < 256; omega
   ·rw [if_neg hg] at hx
    by_cases hl : (e.getN st 6).2.1.length < 4
    ·rw [if_pos hl] at hx; cases hx
    ·rw [if_neg hl] at hx
     cases hx
     exact fun j _ => Kc.outF_lt _ j
 unfold Ep.read
 obtain ⟨s, x, hx⟩ : ∃ s x, e.fetch decK st = (s, x) := ⟨_, _, rfl⟩
 rw [hx] at h1 ⊢
 cases x with
 | no l => exact h1.mono (by omega)
 | yes D =>
  dsimp only
  by_cases hd : e.doubt st = true
  ·rw [if_pos hd]
   have h2 := Ep.fit_write (e := { e with w := s }) (st := st) (E := encK) (D := D) h1 (hD s D hx) (fun i j _ => encK_lt' _ i j)
   obtain ⟨e2, r, hr⟩ : ∃ e2 r, ({ e with w := s } : Ep).write encK st D = (e2, r) := ⟨_, _, rfl⟩
   rw [hr] at h2 ⊢
   cases r with
   | none => exact h2
   | some l => exact h2
  ·rw [if_neg hd]
   exact h1.mono (by omega)
end
theorem TS.look {w v : World} {g p lim i mb F Dn : Nat} {nd : ND} {e : Ep} {l : List Nat} (h : TS w g nd p lim i mb e l F Dn v) {c : Nat} (hc : c < 1000) : (Instr.lookup 63 (.map (some mb)) (.int .i64 (c : Int)) false).run Tryz.prog v = .ok (.bool (decide (c ∈ l))) v := by
 obtain ⟨D, n, h1, h2, _⟩ := h.mp
 exact IB.look (f := fun c => decide (c ∈ l)) ⟨D, h1, h2.val⟩ hc
end Go.Proofs.YtelmcchleclklaaGreatDoor
namespace Go.Proofs.YtelmcchleclklaaGreatDoor
open Go.RowKit Go.Sort
set_option maxRecDepth 100000
set_option maxHeartbeats 8000000

theorem plainElem_bool_inv {P : Program} {t : TypeId} (he : P.underlying t = some .bool) {v : Value} {z : DataW Unit × List MemPlace} (h : plainElem P t v = some z) : ∃ b : Bool, v = .bool b := by
 unfold plainElem at h
 rw [he] at h
 cases v <;> simp at h
 exact ⟨_, rfl⟩
theorem plainElem_bool_invN {P : Program} {t : TypeId} (he : P.underlying t = some .bool) {v : Value} {z : DataW Unit × List MemPlace} (h : plainElem P t v = some z) : ∃ k : Nat, v = .bool (decide (k = 1)) := by
 obtain ⟨b, rfl⟩ := plainElem_bool_inv he h
 cases b with
 | false => exact ⟨0, rfl⟩
 | true => exact ⟨1, rfl⟩
theorem ranges_keep {w w' : World} {b r n cnt : Nat} {D : DataW Unit} {left : Lit → Bool} (h : w.ranges Tryz.prog 3 (plainElem Tryz.prog 4) b r n D left cnt) (e1 : w'.heap[b]? = w.heap[b]?) (e2 : w'.heap[r]? = w.heap[r]?) : w'.ranges Tryz.prog 3 (plainElem Tryz.prog 4) b r n D left cnt := by
 obtain ⟨es, clock, since, seen, c0, hb, F, hs, hD, hr, rest⟩ := h
 exact ⟨es, clock, since, seen, c0, e1.trans hb, F, hs, hD, e2.trans hr, rest⟩
theorem ranges_iter {w : World} {b r n cnt : Nat} {D : DataW Unit} {left : Lit → Bool} (h : w.ranges Tryz.prog 3 (plainElem Tryz.prog 4) b r n D left cnt) : ∃ s q c, w.heap[r]? = some (.mapIter (some b) s q c) := by
 obtain ⟨es, clock, since, seen, c0, hb, F, hs, hD, hr, rest⟩ := h
 exact ⟨_, _, _, hr⟩
theorem ranges_map {w : World} {b r n cnt : Nat} {D : DataW Unit} {left : Lit → Bool} (h : w.ranges Tryz.prog 3 (plainElem Tryz.prog 4) b r n D left cnt) : ∃ es c, w.heap[b]? = some (.map es c) := by
 obtain ⟨es, clock, since, seen, c0, hb, F, hs, hD, hr, rest⟩ := h
 exact ⟨_, _, hb⟩
theorem cells_keep {w w' : World} {mb : Nat} (hn : ∀ cs t fr, w.heap[mb]? ≠ some (.cells cs t fr)) (g : w.grownBy w' (some mb)) {k : Nat} {cs : Array Value} {t : TypeId} {fr : Nat × Nat} (hk : w.heap[k]? = some (.cells cs t fr)) : w'.heap[k]? = w.heap[k]? :=
 g.block k (heap_lt hk) (fun e => by
  injection e with e
  exact hn cs t fr (e ▸ hk))
theorem WL.other {w0 v v' : World} {g mb : Nat} {nd : ND} {s : Wp} (h : WL w0 v g nd s) (hn : ∀ cs t fr, v.heap[mb]? ≠ some (.cells cs t fr)) (hmb : w0.heap.size ≤ mb) (gr : v.grownBy v' (some mb)) (hz : ¬ nd.Z mb) : WL w0 v' g nd s := by
 obtain ⟨T, fv, h1, h2, h3, h4, h5, h6⟩ := h
 refine ⟨T, fv, h1.same (fun j hj => ?_) (fun i hi j hj => ?_) (fun j cs hj => cells_keep hn gr hj), h2.grown gr h2.size (fun k hk => by cases hk; exact hmb), h3, h4, h5, h6.keep gr.size (fun k hk => gr.block k (Nat.lt_of_lt_of_le (h6.2 k hk).1 h6.1) (fun e => by cases e; exact hz hk))⟩
 ·rw [List.mem_cons] at hj
  rcases hj with rfl | hj
  ·exact cells_keep hn gr h1.hd
  ·obtain ⟨row, hr⟩ := h1.fat.type j hj
   exact cells_keep hn gr hr
 ·obtain ⟨r, p, sb, S, q1, q2, q3⟩ := h1.node i hi
  have hj' : j ∈ nd i :: r :: sb :: S := by
   rw [q3] at hj
   simp only [List.mem_cons] at hj ⊢
   rcases hj with rfl | rfl | rfl | rfl | hj
   ·simp
   ·simp
   ·obtain ⟨db, nb, pv, _, _, hS⟩ := q1.plt
    rw [hS]
    simp
   ·simp
   ·simp [hj]
  obtain ⟨cs', t', hc, hT⟩ := q1.type j hj'
  exact cells_keep hn gr hc
section
variable {w0 v v' : World} {g p lim : Nat} {nd : ND} {e : Ep}
theorem LE.other (h : LE w0 v g nd p lim e) {mb : Nat} (hn : ∀ cs t fr, v.heap[mb]? ≠ some (.cells cs t fr)) (hl : lim ≤ mb) (gr : v.grownBy v' (some mb)) : LE w0 v' g nd p lim e := by
 obtain ⟨cb, A, C, cc, f, o, cap, B, h⟩ := h
 have hz : ¬ nd.Z mb := fun hz => by have := h.wl.zlt hz; have := h.bl; omega
 have hk : ∀ {k : Nat} {cs : Array Value} {t : TypeId} {fr : Nat × Nat}, v.heap[k]? = some (.cells cs t fr) → v'.heap[k]? = v.heap[k]? := fun hk => cells_keep hn gr hk
 refine ⟨cb, A, C, cc, f, o, cap, B, h.wl.other hn (Nat.le_trans h.w0l hl) gr hz, ?_, (hk h.ep).trans h.ep, h.pl, h.bl, Nat.le_trans h.lv gr.size, h.w0l⟩
 obtain ⟨q1, q2, q3, q4, qC, q5, q6, q7⟩ := h.cm
 obtain ⟨r1, r2⟩ := q3.keepA q4 gr.size (fun j h3 h4 => gr.block j (by omega) (fun e2 => by
  injection e2 with e2
  exact hz (e2 ▸ q5 j h3 h4)))
 obtain ⟨cs, hcs, hr⟩ := q1
 exact ⟨⟨cs, (hk hcs).trans hcs, hr⟩, q2.keep (fun b cs hb => hk hb), r1, r2, Nat.le_trans qC gr.size, q5, q6, q7⟩
theorem le_pendingT (h : LE w0 v g nd p lim e) : Calls Tryz.prog 32 #[.pointer (some ⟨p, 0, none⟩)] v fun en w' => ∃ A c, en = .returned (.slice A (listE (fun i => (e.pend i).isSome)).length c) ∧ w'.ownsRow v.heap.size 3 1 (.slice A (listE (fun i => (e.pend i).isSome)).length c) (listE (fun i => (e.pend i).isSome)).length (intsV (listE (fun i => (e.pend i).isSome))) ∧ Below v.heap.size v w' := by
 have HT := Lib.hid (le_thoseP h (fun i => (e.pend i).isSome) (fun i _ A l c hl w => by
  have := cy_pending (e.gen i : Int) (e.next i : Int) (e.doubt i) A l c w
  rw [hl] at this
  exact this))
 clear h
 go_enter Tryz.func32, Tryz.ntmps32
 go_wp2_with fail
 refine HT.out.mono ?_
 rintro en w1 ⟨A, c, rfl, hn, b1⟩
 try dsimp only
 have HZ := Lib.hid (And.intro hn b1)
 clear hn b1
 go_wp2_with fail
 go_ret
 exact ⟨A, c, rfl, HZ.out.1, HZ.out.2⟩
end
theorem listE_five {f : Nat → Bool} (h : ∀ i, f i = true → i < 5) : (listE f).length ≤ 5 := by
 unfold listE
 rw [List.length_map]
 have h1 : ((List.range 40).filter f).Nodup := List.Nodup.sublist List.filter_sublist List.nodup_range
 have h2 := nodup_sub ((List.range 40).filter f) (List.range 5) h1 (fun x hx => List.mem_range.2 (h x (List.mem_filter.1 hx).2))
 rwa [List.length_range] at h2
theorem listE_at {f : Nat → Bool} {j : Nat} {x : Int} (h : (listE f)[j]? = some x) : ∃ i, i < 40 ∧ f i = true ∧ x = (i : Int) := by
 have hm : x ∈ listE f := List.mem_of_getElem? h
 unfold listE at hm
 obtain ⟨i, hi, rfl⟩ := List.mem_map.1 hm
 exact ⟨i, List.mem_range.1 (List.mem_filter.1 hi).1, (List.mem_filter.1 hi).2, rfl⟩
structure TD (w : World) (g : Nat) (nd : ND) (p lim i : Nat) (e : Ep) (l : List Nat) (left : Lit → Bool) (v : World) (s : Wp) : Prop where
 le : LE w v g nd p lim { e with w := s }
 N : s.N = e.w.N
 calm : s.Calm
 fit : s.Fit (20000 * i)
 dn : ∀ c, c < 8 → (s.dn c = true ↔ c ∈ l ∧ left (ikB c) = true)
 lf : ∀ x : Int, left (.int .i64 x) = true → ∃ c ∈ l, x = (c : Int)
theorem TD.start {w v v' : World} {g p lim i mb F Dn : Nat} {nd : ND} {e : Ep} {l : List Nat} {D : DataW Unit} (h : TS w g nd p lim i mb e l F Dn v) (hD : OffD D l) (hl : LE w v' g nd p lim e) : TD w g nd p lim i e l (Maps.has D) v' e.w :=
 ⟨hl, rfl, h.tl.calm, h.fit, fun c hc => by
  rw [h.dn c hc]
  refine ⟨fun h1 => ⟨h1, (hD.has _).2 ⟨c, h1, rfl⟩⟩, fun h1 => h1.1⟩, fun x hx => (hD.has x).1 hx⟩
theorem TD.step {w v v' : World} {g p lim i : Nat} {nd : ND} {e : Ep} {l : List Nat} {left : Lit → Bool} {s : Wp} {c : Nat} (h : TD w g nd p lim i e l left v s) (hl : LE w v' g nd p lim { e with w := s.setD c false }) : TD w g nd p lim i e l (fun z => left z && !z.sameKey (ikB c)) v' (s.setD c false) :=
 ⟨hl, h.N, ⟨h.calm.F, h.calm.dead, h.calm.fuse⟩, Wp.Fit.mono (s := s.setD c false) (m := 20000 * i) (h.fit.congr rfl rfl rfl) (Nat.le_refl _), fun k hk => by
  show (if k = c then false else s.dn k) = true ↔ _
  by_cases ek : k = c
  ·subst ek
   rw [if_pos rfl]
   have : (ikB k).sameKey (ikB k) = true := WideAt.sameKey_self (show WideAt.IsKeyLit (ikB k) from trivial)
   simp [this]
  ·rw [if_neg ek, h.dn k hk]
   have : (ikB k).sameKey (ikB c) = false := by
    cases hs : (ikB k).sameKey (ikB c) with
    | false => rfl
    | true => exact absurd (ikB_inj (WideAt.sameKey_eq hs)) ek
   simp [this], fun x hx => h.lf x (by
  rw [Bool.and_eq_true] at hx
  exact hx.1)⟩
theorem TD.below {w v v' : World} {g p lim i : Nat} {nd : ND} {e : Ep} {l : List Nat} {left : Lit → Bool} {s : Wp} (h : TD w g nd p lim i e l left v s) (hl : LE w v' g nd p lim { e with w := s }) : TD w g nd p lim i e l left v' s :=
 ⟨hl, h.N, h.calm, h.fit, h.dn, h.lf⟩
structure TP (w : World) (g : Nat) (nd : ND) (p lim F K m : Nat) (e : Ep) (ps : List Int) (v : World) : Prop where
 le : LE w v g nd p lim e
 tl : e.Tl F K
 fit : e.w.Fit m
 dn : ∀ c, c < 8 → e.w.dn c = false
 pn : ∀ k, (e.pend k).isSome = true → (k : Int) ∈ ps
theorem TP.start {w v : World} {g p lim i mb F Dn : Nat} {nd : ND} {e : Ep} {l : List Nat} {left : Lit → Bool} {s : Wp} {v0 : World} (h : TS w g nd p lim i mb e l F Dn v0) (hd : TD w g nd p lim i e l left v s) (h0 : ∀ kl, left kl = false) : TP w g nd p lim F (1 + 10 * i) (20000 * i) { e with w := s } (listE (fun k => (e.pend k).isSome)) v :=
 ⟨hd.le, h.tl.same hd.N hd.calm, hd.fit, (fun c hc => by
  show s.dn c = false
  cases hs : s.dn c with
  | false => rfl
  | true =>
   have := ((hd.dn c hc).1 hs).2
   rw [h0] at this
   cases this), fun k hk => listE_mem.2 ⟨by have := h.tl.pl k hk; omega, hk⟩⟩
section
variable {w v v' : World} {g p lim F K m : Nat} {nd : ND} {e : Ep} {ps : List Int}
theorem TP.to (h : TP w g nd p lim F K m e ps v) (hl : LE w v' g nd p lim e) : TP w g nd p lim F K m e ps v' := ⟨hl, h.tl, h.fit, h.dn, h.pn⟩
theorem TP.cast (h : TP w g nd p lim F K m e ps v) {K' m' : Nat} (hK : K = K') (hm : m = m') : TP w g nd p lim F K' m' e ps v := hK ▸ hm ▸ h
theorem TP.read (h : TP w g nd p lim F K m e ps v) (hF : F ≤ 25) (hK : K ≤ 999999) {st : Nat} (hs : st < 5) (hm : (st : Int) ∈ ps) :
  (∀ l, (e.read encK decK st).2 ≠ .no l) ∧ ∀ v', LE w v' g nd p lim (e.read encK decK st).1 → TP w g nd p lim F (K + 1) (m + 582) (e.read encK decK st).1 ps v' := by
 obtain ⟨h1, ⟨F', _, h3, h4⟩, h5⟩ := h.tl.read hK hs encK decK
 have hno : ∀ l, (e.read encK decK st).2 ≠ .no l := fun l hl => by
  obtain ⟨k, hk, hk2⟩ := h5 [] (by simp) (fun n hn hd => by rw [h.dn n hn] at hd; cases hd) ⟨l, hl⟩
  simp at hk2
  omega
 refine ⟨hno, fun v' hl => ⟨hl, ?_, h.le.fit_read h.fit (by omega), fun c hc => by rw [h1.dn]; exact h.dn c hc, fun k hk => ?_⟩⟩
 ·cases hx : (e.read encK decK st).2 with
  | no l => exact absurd hx (hno l)
  | yes D =>
   obtain rfl := h4 ⟨D, hx⟩
   exact h3
 ·by_cases ek : k = st
  ·subst ek
   exact hm
  ·rw [h1.pnd k ek] at hk
   exact h.pn k hk
theorem TP.write (h : TP w g nd p lim F K m e ps v) (hF : F ≤ 25) (hK : K ≤ 999999) {st : Nat} (hs : st < 5) {D : Nat → Nat} (hD : ∀ j, j < 128 → D j < 256) {ps' : List Int} (hm : ∀ k : Nat, (k : Int) ∈ ps → k ≠ st → (k : Int) ∈ ps') :
  (e.write encK st D).2 = none ∧ ∀ v', LE w v' g nd p lim (e.write encK st D).1 → TP w g nd p lim F (K + 1) (m + 564) (e.write encK st D).1 ps' v' := by
 obtain ⟨h1, h2, _, h4⟩ := h.tl.write hK hs encK D
 have hno : (e.write encK st D).2 = none := by
  cases hx : (e.write encK st D).2 with
  | none => rfl
  | some l =>
   exfalso
   obtain ⟨k, hk, hk2⟩ := h4 [] (fun n hn hd => by rw [h.dn n hn] at hd; cases hd) (by rw [hx]; simp)
   simp at hk2
   omega
 refine ⟨hno, fun v' hl => ⟨hl, h2 hno, Ep.fit_write (m := m) h.fit hD (fun i j _ => encK_lt' _ i j), fun c hc => by rw [h1.dn]; exact h.dn c hc, fun k hk => ?_⟩⟩
 by_cases ek : k = st
 ·subst ek
  rw [(h1.ok hno).2.2.2 (fun n hn => h.dn n hn)] at hk
  cases hk
 ·rw [h1.pnd k ek] at hk
  exact hm k (h.pn k hk) ek
theorem TP.done {i mb Dn n : Nat} {e0 : Ep} {l0 : List Nat} {v0 : World} (h0 : TS w g nd p lim i mb e0 l0 F Dn v0) (h : TP w g nd p lim F K m e [] v) (hK : K ≤ 1 + 10 * i + 10) (hm : m ≤ 20000 * i + 20000) (hb : lim ≤ n) {k : Nat} (ho : v.ownsMap Tryz.prog 3 (plainElem Tryz.prog 4) n k (.map [] : DataW Unit)) (hk : k ≤ i + 1) : listE (fun k => (e.pend k).isSome) = [] ∧ TS w g nd p lim (i + 1) n e [] F Dn v := by
 have hpn : ∀ k, (e.pend k).isSome = true → False := fun k hk => by
  have := h.pn k hk
  cases this
 refine ⟨?_, h.le, ⟨.map [], k, ho, OffD.nil, hk⟩, hb, ⟨h.tl.inv, h.tl.calm, h.tl.lo, h.tl.up, h.tl.at3, fun st => by have := h.tl.nk st; omega, h.tl.pl, h.tl.ps⟩, h.fit.mono (by omega), fun c hc => ?_, (fun c hc => by cases hc), by have := h0.cn; omega, Nat.zero_le _, h0.f3⟩
 ·have : ∀ x, x ∉ listE (fun k => (e.pend k).isSome) := fun x hx => by
   obtain ⟨j, hj⟩ := List.getElem?_of_mem hx
   obtain ⟨i, _, hi, _⟩ := listE_at hj
   exact hpn i hi
  exact List.eq_nil_iff_forall_not_mem.2 this
 ·rw [h.dn c hc]
  exact ⟨fun h => (by cases h), fun h => (by cases h)⟩
end
end Go.Proofs.YtelmcchleclklaaGreatDoor
