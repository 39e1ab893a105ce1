import Derived.Test.YtobkmohoepgfmaaGreatDoorV41
import Derived.Test.YtobkmohoepgfmaaGreatDoorV34
import Derived.Test.YtobkmohoepgfmaaGreatDoorV36
namespace Go.Proofs.YtobkmohoepgfmaaGreatDoor
open Go.RowKit Go.Sort
set_option maxRecDepth 100000
set_option maxHeartbeats 8000000

def OErrOf (w : World) (u : Value) : Option OErr → Prop
 | none => u = .nilIface
 | some (.at_ n c) => ∃ b, u = onv b ∧ OnE w b (n : Int) (c : Int)
 | some (.car st l) => EV w u (l.map (fun z => (z.2 : Int))) (l.map (fun z => (z.1 : Int))) [(st : Int)]
 | some (.io st) => EV w u [8] [] [(st : Int)]
def MendRet (w0 v : World) (g cb : Nat) (nd : ND) (A C c f o cap : Nat) (x : Ep × Option OErr) (en : Ending) (w' : World) : Prop :=
 ∃ u, en = .returned u ∧ WL w0 w' g nd x.1.w ∧ (∃ B', CM w0 w' g cb nd x.1 A C c f o cap B') ∧ KeepE 0 v w' ∧ OErrOf w' u x.2
def mdT (st : Nat) (is : List (Nat × It)) (r : Ep × Option (List (Nat × Nat))) : Ep × Option OErr :=
 match r with
 | (e1, some l) => (e1, some (.car st l))
 | (e1, none) => if (e1.pend st).isSome = true then (e1, some (.io st)) else ({ e1 with w := relsI e1.w st is }, none)
def mdD (dec : List (Nat × (Nat → Nat)) → Nat → Nat) (p : Option (Nat → Nat)) (l : List (Nat × (Nat → Nat))) : Nat → Nat := match p with
 | some D => D
 | none => dec l
theorem mendF_eq (E : (Nat → Nat) → Nat → Nat → Nat) (dec : List (Nat × (Nat → Nat)) → Nat → Nat) (e : Ep) (st : Nat) (is : List (Nat × It)) (ps : List Pc) :
  mendF E dec e st is ps = if e.gen st = 0 ∨ (is = [] ∧ cntF (chF ps (e.gen st)) = 6) then (e, none) else mdT st is (e.carry E st (e.gen st) (mdD dec (e.pend st) (chL (chF ps (e.gen st)) 6))) := rfl
theorem mdT_err {st : Nat} {is : List (Nat × It)} {r : Ep × Option (List (Nat × Nat))} {e1 : Ep} {l : List (Nat × Nat)} (h : r = (e1, some l)) : mdT st is r = (e1, some (.car st l)) := by subst h; rfl
theorem mdT_pend {st : Nat} {is : List (Nat × It)} {r : Ep × Option (List (Nat × Nat))} {e1 : Ep} (h : r = (e1, none)) (hp : (e1.pend st).isSome = true) : mdT st is r = (e1, some (.io st)) := by
 subst h
 exact if_pos hp
theorem mdT_ok {st : Nat} {is : List (Nat × It)} {r : Ep × Option (List (Nat × Nat))} {e1 : Ep} (h : r = (e1, none)) (hp : (e1.pend st).isSome = false) : mdT st is r = ({ e1 with w := relsI e1.w st is }, none) := by
 subst h
 exact if_neg (by rw [hp]; decide)
theorem TLr.keepE {w w' : World} {v : Value} {l : List (Nat × It)} (h : TLr w v l) (k : KeepE 0 w w') : TLr w' v l :=
 h.keep (fun g cs t hg ht => k.cells hg (by rcases ht with rfl | rfl <;> exact notWi (by decide) (by decide) (by decide) (by decide) (by decide) (by decide) (by decide)) (by rcases ht with rfl | rfl <;> decide))
section
variable {w0 v : World} {g cb : Nat} {nd : ND} {e : Ep} {A C c f o cap : Nat} {B : Nat → Value}
theorem o_mend (h1 : WL w0 v g nd e.w) (h2 : CM w0 v g cb nd e A C c f o cap B) {m : Nat} (hf : e.w.Fit m) (hm : m ≤ 999800000) {st : Nat} (hst : st < 40) (hgn : e.gen st ≤ 1099511627776)
  {A1 A2 : Option Addr} {n1 c1 n2 c2 B0 : Nat} {is : List (Nat × It)} {ps : List Pc} (hn1 : is.length = n1) (hm1 : n1 ≤ 1000) (t1 : TLr v (.slice A1 n1 c1) is) (hn2 : ps.length = n2) (hm2 : n2 ≤ 1000000) (t2 : PL v B0 (.slice A2 n2 c2) ps)
  (h6 : ∀ p ∈ ps, p.i < 6) (hby : ∀ p ∈ ps, ∀ j, j < 32 → p.D j < 256) (his : ∀ x ∈ is, x.1 < 8 ∧ x.2.Ok ∧ x.2.s = st) (h4 : e.gen st ≠ 0 → e.pend st = none → 4 ≤ cntF (chF ps (e.gen st))) :
  Calls Tryz.prog 28 #[.agg #[.slice A1 n1 c1, .slice A2 n2 c2], .pointer (some ⟨cb, 0, none⟩), .int .i64 (st : Int)] v fun en w' => MendRet w0 v g cb nd A C c f o cap (mendF encK decK e st is ps) en w' ∧ ((e.gen st = 0 ∨ (is = [] ∧ cntF (chF ps (e.gen st)) = 6)) → KeepW v w') := by
 have q1 := we_neqNil
 have q2 := we_neqNilNil
 have hst' : (st : Int) < 40 := by omega
 obtain ⟨P0, l0, k0, hB0, hl0⟩ := h2.bl hst
 obtain ⟨gn, hgg⟩ : ∃ gn, e.gen st = gn := ⟨_, rfl⟩
 obtain ⟨nx, hnx⟩ : ∃ nx, e.next st = nx := ⟨_, rfl⟩
 obtain ⟨db, hdb⟩ : ∃ db, e.doubt st = db := ⟨_, rfl⟩
 rw [hgg] at hgn h4
 have HGG := Lib.hid hgg
 have HN1 := Lib.hid hn1
 obtain ⟨v1, hv1⟩ : ∃ v1, v.alloc (.cells #[.slice A1 n1 c1, .slice A2 n2 c2] 65) = v1 := ⟨_, rfl⟩
 have B1 : Below v.heap.size v v1 := by rw [← hv1]; exact (Below.refl _ _).alloc (Nat.le_refl _) _
 obtain ⟨q0, hq0⟩ : ∃ q0, v.heap.size = q0 := ⟨_, rfl⟩
 have hb1 : v1.heap[q0]? = some (.cells #[.slice A1 n1 c1, .slice A2 n2 c2] 65 (0, 0)) := by rw [← hv1, ← hq0]; exact alloc_block _ _
 have hz1 : v1.heap.size = q0 + 1 := by rw [← hv1, ← hq0]; simp
 obtain ⟨a1, a2, a3, a4⟩ := (h2.below B1).known hst
 rw [hgg] at a1
 rw [hnx] at a2
 rw [hdb] at a3
 rw [hB0] at a4
 obtain ⟨v2, hv2⟩ : ∃ v2, v1.alloc (.cells #[.int .i64 (gn : Int), .int .i64 (nx : Int), .bool db, .slice P0 l0 k0] 67) = v2 := ⟨_, rfl⟩
 have B2 : Below v1.heap.size v1 v2 := by rw [← hv2]; exact (Below.refl _ _).alloc (Nat.le_refl _) _
 have B12 : Below v.heap.size v v2 := B1.trans (B2.mono B1.size)
 have HFB : Hid (∀ W, KeepE 0 v2 W → W.heap[q0]? = some (.cells #[.slice A1 n1 c1, .slice A2 n2 c2] 65 (0, 0))) := Lib.hid (fun W hW => by
  have hb2 : v2.heap[q0]? = some (.cells #[.slice A1 n1 c1, .slice A2 n2 c2] 65 (0, 0)) := (B2.block q0 (heap_lt hb1)).trans hb1
  exact (hW.cells hb2 found_notW (by decide)).trans hb2)
 have HKV : Hid (∀ W, Below v2.heap.size v2 W → KV W (q0 + 1) (gn : Int) (nx : Int) db (.slice P0 l0 k0)) := Lib.hid (fun W hW => by
  have hb4 : KV v2 (q0 + 1) (gn : Int) (nx : Int) db (.slice P0 l0 k0) := by rw [← hv2]; exact KV.of_new hz1
  exact hb4.below hW)
 have HC1 := Lib.hid (o_chunks (va := .slice A1 n1 c1) hn2 hm2 (t2.below B12) h6 gn)
 have H1 := Lib.hid (h1.below B12)
 have H2 := Lib.hid (h2.below B12)
 have HT := Lib.hid (t1.below B12)
 have HF := Lib.hid hf
 have H4 := Lib.hid h4
 have HBY := Lib.hid hby
 have HIS := Lib.hid his
 have HL0 := Lib.hid hl0
 have HPB : Hid (PB w0 v2 e B ∧ B st = .slice P0 l0 k0) := Lib.hid ⟨(h2.below B12).pb, hB0⟩
 have HK2 : Hid (KeepE 0 v v2) := Lib.hid (KeepE.of 0 (KeepW.of B12))
 have HB12 := Lib.hid B12
 have HV1 := Lib.hid hv1
 have HV2 := Lib.hid hv2
 have HQ0 := Lib.hid hq0
 have HQ1 := Lib.hid hz1
 clear h1 h2 hf h4 hby his hl0 hB0 hgg hnx hdb hn1 hn2 t1 t2 h6 B1 B2 B12 hb1 hv1 hv2 hq0 hz1
 obtain ⟨X, hX⟩ : ∃ X, mendF encK decK e st is ps = X := ⟨_, rfl⟩
 have HX0 := Lib.hid (hX.symm.trans (mendF_eq encK decK e st is ps))
 rw [hX]
 clear hX
 go_enter Tryz.func28, Tryz.ntmps28
 go_upto_region 1 with fail
 rw [HQ0.out, HV1.out]
 clear HV1
 go_upto_region 2 with fail
 rw [HQ1.out, HV2.out]
 clear HV2 a1 a2 a3 a4
 have hk2 := HKV.out v2 (Below.refl _ _)
 have x0 : v2.cell? ⟨q0, 0, none⟩ = some (.slice A1 n1 c1) := cell_of_block (HFB.out v2 (KeepE.refl 0 v2))
 have x1 : v2.cell? ⟨q0, 1, none⟩ = some (.slice A2 n2 c2) := cell_of_block (HFB.out v2 (KeepE.refl 0 v2))
 have y0 := hk2.c0
 clear hk2
 go_wp2_with fail
 refine HC1.out.mono ?_
 rintro en w3 ⟨gb, rfl, ck, b3, hgb⟩
 try dsimp only
 have HCK := Lib.hid ck
 have HB3 := Lib.hid b3
 have H13 := Lib.hid (H1.out.below b3)
 have H23 := Lib.hid (H2.out.below b3)
 have HK3 : Hid (KeepE 0 v w3) := Lib.hid (HK2.out.trans (KeepE.of 0 (KeepW.of b3)))
 have hk3 := HKV.out w3 b3
 have x0 : w3.cell? ⟨q0, 0, none⟩ = some (.slice A1 n1 c1) := cell_of_block (HFB.out w3 (KeepE.of 0 (KeepW.of b3)))
 have y0 := hk3.c0
 have y1 := hk3.c1
 have y2 := hk3.c2
 have y3 := hk3.c3
 have yl := kn_load hk3
 clear ck b3 HC1 x1 hk3
 by_cases hg0 : gn = 0
 ·subst hg0
  have HX : Hid (X = (e, none)) := Lib.hid (HX0.out.trans (if_pos (Or.inl HGG.out)))
  go_wp2_with fail
  go_ret
  rw [HX.out]
  exact ⟨⟨_, rfl, H13.out, ⟨B, H23.out⟩, HK3.out, rfl⟩, fun _ => (KeepW.of HB12.out).trans (KeepW.of HB3.out)⟩
 ·have hg2 : ((gn : Int) == 0) = false := by rw [beq_eq_false_iff_ne]; omega
  obtain ⟨cn, hcn⟩ : ∃ cn, cntF (chF ps gn) = cn := ⟨_, rfl⟩
  have HCO := Lib.hid (o_count HCK.out)
  rw [hcn] at HCO
  have HCN := Lib.hid hcn
  by_cases hskip : n1 = 0 ∧ cn = 6
  ·obtain ⟨rfl, rfl⟩ := hskip
   have HX : Hid (X = (e, none)) := Lib.hid (by rw [HX0.out, HGG.out, if_pos (Or.inr ⟨List.eq_nil_of_length_eq_zero HN1.out, HCN.out⟩)])
   clear hcn
   go_wp2_with fail
   refine HCO.out.mono ?_
   rintro en wx ⟨rfl, rfl⟩
   go_wp2_with fail
   go_ret
   rw [HX.out]
   exact ⟨⟨_, rfl, H13.out, ⟨B, H23.out⟩, HK3.out, rfl⟩, fun _ => (KeepW.of HB12.out).trans (KeepW.of HB3.out)⟩
  ·have HX : Hid (X = mdT st is (e.carry encK st gn (mdD decK (e.pend st) (chL (chF ps gn) 6)))) := Lib.hid (by
    rw [HX0.out, HGG.out, if_neg (fun q => q.elim hg0 (fun r => hskip ⟨by rw [← HN1.out, r.1]; rfl, by rw [← hcn]; exact r.2⟩))])
   have hsplit : ((n1 : Int) == 0) = false ∨ (n1 = 0 ∧ ((cn : Int) == 6) = false) := by
    by_cases e1 : n1 = 0
    ·exact Or.inr ⟨e1, by rw [beq_eq_false_iff_ne]; omega⟩
    ·exact Or.inl (by rw [beq_eq_false_iff_ne]; omega)
   have HNS : Hid (¬ (e.gen st = 0 ∨ (is = [] ∧ cntF (chF ps (e.gen st)) = 6))) := Lib.hid (by
    rw [HGG.out]
    exact fun q => q.elim hg0 (fun r => hskip ⟨by rw [← HN1.out, r.1]; rfl, by rw [← hcn]; exact r.2⟩))
   clear hcn hskip
   have HAL : Hid ((e.pend st = none ∧ P0 = none ∧ l0 = 0 ∧ k0 = 0) ∨ ∃ D b, e.pend st = some D ∧ P0 = some ⟨b, 0, none⟩ ∧ l0 = 128 ∧ Blk8 w3 b 128 D ∧ ∀ j, j < 128 → D j < 256) := Lib.hid (by
    obtain ⟨hpb, hb0⟩ := HPB.out
    rcases hpb st hst with ⟨e1, e2⟩ | ⟨D, b, kk, e1, e2, _, _, e3, e4⟩
    ·rw [hb0] at e2
     cases e2
     exact Or.inl ⟨e1, rfl, rfl, rfl⟩
    ·rw [hb0] at e2
     cases e2
     exact Or.inr ⟨D, b, e1, rfl, rfl, e3.below HB3.out, e4⟩)
   have HPN : Hid (∀ W, Calls Tryz.prog 31 #[.agg #[.int .i64 (gn : Int), .int .i64 (nx : Int), .bool db, .slice P0 l0 k0]] W fun en w' => en = .returned (.bool (decide (0 < l0))) ∧ Below W.heap.size W w') := Lib.hid (fun W => cy_pending _ _ _ _ _ _ W)
   have HNW := Lib.hid (fun W => Kc.cnewF W)
   -- the tail, for whatever bytes are carried
   have HTAIL : Hid (∀ (w : World) (P : Option Addr) (k : Nat) (D : Nat → Nat), Below w3.heap.size w3 w → DatN w P 128 D → (∀ j, j < 128 → D j < 256) → Calls Tryz.prog 38 #[.pointer (some ⟨cb, 0, none⟩), .int .i64 (st : Int), .int .i64 (gn : Int), .slice P 128 k] w (CarRet w0 w g cb nd st A C c f o cap (e.carry encK st gn D))) := Lib.hid (fun w P k D hb hd hD =>
    cy_carry (H13.out.below hb) (H23.out.below hb) HF.out (by omega) hst hgn D P k hd hD)
   rcases hsplit with hne | ⟨hn0, hne⟩
   ·rcases HAL.out with ⟨hp, rfl, rfl, rfl⟩ | ⟨D, b, hp, rfl, rfl, hD, hDb⟩
    ·have hwh : Kc.Whole (rowsP (chL (chF ps gn) 6)) := chL_whole (H4.out hg0 hp)
     have HWH := Lib.hid hwh
     rw [hp] at HX
     clear HAL hwh hp
     go_wp2_with fail
     refine (HPN.out _).mono ?_
     rintro en w4 ⟨rfl, b4⟩
     try dsimp only
     have HB4 := Lib.hid b4
     clear b4
     go_wp2_with fail
     refine (HNW.out _).mono ?_
     rintro en w5 ⟨c5, f5, o5, cap5, rfl, hc5, b5, _⟩
     try dsimp only
     have HB5 : Hid (Below w3.heap.size w3 w5) := Lib.hid (HB4.out.trans (b5.mono HB4.out.size))
     have hrl : (rowsP (chL (chF ps gn) 6)).length = 6 := by simp [rowsP]
     have HDE := Lib.hid (Kc.cdecodeT c5 f5 o5 cap5 (some ⟨gb, 0, none⟩) (rowsP (chL (chF ps gn) 6)) 6 w5 hc5 (HCK.out.below HB5.out).ck.raw (by rw [hrl]; decide) (rows_bytes (chL_bytes HBY.out gn)))
     rw [hrl] at HDE
     clear hc5 b5 hrl HB4
     go_wp2_with fail
     refine HDE.out.mono ?_
     rintro en w6 (⟨_, _, hno⟩ | ⟨gd, cap6, rfl, b6, _, ⟨hr6, ht6⟩, _⟩)
     ·exact absurd HWH.out hno
     ·try dsimp only
      have HBW : Hid (Below w3.heap.size w3 w6) := Lib.hid (HB5.out.trans (b6.mono HB5.out.size))
      have HDD : Hid (DatN w6 (some ⟨gd, 0, none⟩) 128 (decK (chL (chF ps gn) 6))) := Lib.hid (by
       obtain ⟨cs, hcs⟩ := ht6
       exact Or.inr ⟨gd, 0, cs, rfl, hcs, fun j hj => by rw [Nat.zero_add]; exact hr6.cell j hj⟩)
      have HDB : Hid (∀ j, j < 128 → decK (chL (chF ps gn) 6) j < 256) := Lib.hid (fun j _ => Kc.outF_lt _ j)
      have HCR := Lib.hid (HTAIL.out w6 (some ⟨gd, 0, none⟩) cap6 _ HBW.out HDD.out HDB.out)
      have HXX : Hid (X = mdT st is (e.carry encK st gn (decK (chL (chF ps gn) 6)))) := HX
      have y0 := (HKV.out w6 (HB3.out.trans (HBW.out.mono HB3.out.size))).c0
      clear b6 hr6 ht6 HDE HTAIL HX
      go_wp2_with fail
      refine HCR.out.mono ?_
      rintro en w7 ⟨u, rfl, W7, ⟨B', M7⟩, K7, E7⟩
      try dsimp only
      obtain ⟨e1, er, hcx⟩ : ∃ e1 er, e.carry encK st gn (decK (chL (chF ps gn) 6)) = (e1, er) := ⟨_, _, rfl⟩
      have HCX := Lib.hid hcx
      rw [hcx] at W7 M7 E7
      dsimp only at W7 M7 E7
      have HW7 := Lib.hid W7
      have HM7 := Lib.hid M7
      have HK7 : Hid (KeepE 0 w3 w7) := Lib.hid ((KeepE.of 0 (KeepW.of HBW.out)).trans K7)
      have HF7 : Hid (e1.w.Fit (m + 564)) := Lib.hid (by
       have := fit_carry (st := st) (gn := gn) (E := encK) (D := (decK (chL (chF ps gn) 6))) HF.out HDB.out (fun i j hj => encK_lt' _ i j)
       rw [hcx] at this
       exact this)
      clear W7 M7 K7 HCR hcx
      cases er with
      | some er =>
       have HXY := Lib.hid (HXX.out.trans (mdT_err HCX.out))
       obtain ⟨tu, xu, rfl⟩ := E7.iface
       have HE := Lib.hid E7
       clear E7
       go_wp2_with fail
       go_ret
       rw [HXY.out]
       exact ⟨⟨_, rfl, HW7.out, ⟨B', HM7.out⟩, HK3.out.trans HK7.out, HE.out⟩, fun q => absurd q HNS.out⟩
      | none =>
       obtain rfl : u = .nilIface := E7
       obtain ⟨P7, l7, k7, hB7, hl7⟩ := HM7.out.bl hst
       obtain ⟨z1, z2, z3, z4⟩ := HM7.out.known hst
       rw [hB7] at z4
       have HPN7 := Lib.hid (cy_pending (e1.gen st : Int) (e1.next st : Int) (e1.doubt st) P7 l7 k7 w7)
       rw [hl7] at HPN7
       obtain ⟨pb, hpb⟩ : ∃ pb, (e1.pend st).isSome = pb := ⟨_, rfl⟩
       rw [hpb] at HPN7
       have HPB7 := Lib.hid hpb
       clear hl7 hB7 hpb
       go_wp2_with fail
       refine HPN7.out.mono ?_
       rintro en w8 ⟨rfl, b8⟩
       try dsimp only
       have HB8 := Lib.hid b8
       have HK8 : Hid (KeepE 0 v w8) := Lib.hid ((HK3.out.trans HK7.out).trans (KeepE.of 0 (KeepW.of b8)))
       have HW8 := Lib.hid (HW7.out.below b8)
       have HM8 := Lib.hid (HM7.out.below b8)
       clear b8 HPN7 z1 z2 z3 z4
       cases pb with
       | true =>
        have HXY := Lib.hid (HXX.out.trans (mdT_pend HCX.out HPB7.out))
        have HOF := Lib.hid (en_of (st : Int) (errno_ev w8 8))
        go_wp2_with fail
        refine HOF.out.mono ?_
        rintro en w9 ⟨u9, rfl, b9, E9⟩
        try dsimp only
        have HE := Lib.hid E9
        have HW9 := Lib.hid (HW8.out.below b9)
        have HM9 := Lib.hid (HM8.out.below b9)
        have HK9 := Lib.hid (HK8.out.trans (KeepE.of 0 (KeepW.of b9)))
        clear b9 E9
        go_wp2_with fail
        go_ret
        rw [HXY.out]
        exact ⟨⟨_, rfl, HW9.out, ⟨B', HM9.out⟩, HK9.out, HE.out⟩, fun q => absurd q HNS.out⟩
       | false =>
        have HXY := Lib.hid (HXX.out.trans (mdT_ok HCX.out HPB7.out))
        have hK28 : KeepE 0 v2 w8 := ((KeepE.of 0 (KeepW.of HB3.out)).trans HK7.out).trans (KeepE.of 0 (KeepW.of HB8.out))
        have HFB8 := Lib.hid (HFB.out w8 hK28)
        have HT8 := Lib.hid (HT.out.keepE hK28)
        have x8 : w8.cell? ⟨q0, 0, none⟩ = some (.slice A1 n1 c1) := cell_of_block HFB8.out
        clear hK28 x0
        go_wp2_with fail
        go_loopg [70] n1 (fun q s70 wr => ∃ i : Nat, s70 = .int .i64 (i : Int) ∧ i ≤ n1 ∧ q = n1 - i ∧ Hid (WL w0 wr g nd (relsI e1.w st (is.take i)) ∧ KeepW w8 wr))
        case atStart => exact ⟨0, rfl, by omega, rfl, Lib.hid ⟨HW8.out, KeepW.refl _⟩⟩
        case round =>
         obtain ⟨i, rfl, hi, rfl, HS⟩ := hrel
         obtain ⟨wo, rfl⟩ : ∃ wo : World, wo = wr := ⟨wr, rfl⟩
         clear x8
         by_cases hlt : i < n1
         ·have hlt' : (i : Int) < (n1 : Int) := by omega
          obtain ⟨z, hz⟩ : ∃ z, is[i]? = some z := ⟨_, List.getElem?_eq_getElem (by rw [HN1.out]; exact hlt)⟩
          obtain ⟨hz8, hzo, hzs⟩ := HIS.out z (List.mem_of_getElem? hz)
          obtain ⟨b1, c1', Az, dz, hvv, hbl, z0, z1, z2, z3, _⟩ := (HT8.out.keepE (KeepE.of 0 HS.out.2)).at hz
          rw [HN1.out] at hvv
          cases hvv
          rw [hzs] at z1
          have HZQ : Hid (OkQ 6 (st : Int) (z.2.g : Int) 0 0) := Lib.hid (by have := It.okq hzo; rw [hzs] at this; exact this)
          have HZI := Lib.hid hz
          obtain ⟨w9, hw9⟩ : ∃ w9, wo.alloc (.cells #[.int .i64 (z.1 : Int), .int .i64 (st : Int), .int .i64 (z.2.g : Int), .slice Az 128 dz] 112) = w9 := ⟨_, rfl⟩
          have B9 : Below wo.heap.size wo w9 := by rw [← hw9]; exact (Below.refl _ _).alloc (Nat.le_refl _) _
          obtain ⟨q9, hq9⟩ : ∃ q9, wo.heap.size = q9 := ⟨_, rfl⟩
          have hb9 : w9.heap[q9]? = some (.cells #[.int .i64 (z.1 : Int), .int .i64 (st : Int), .int .i64 (z.2.g : Int), .slice Az 128 dz] 112 (0, 0)) := by rw [← hw9, ← hq9]; exact alloc_block _ _
          have y9a : w9.cell? ⟨q9, 0, none⟩ = some (.int .i64 (z.1 : Int)) := cell_of_block hb9
          have y9b : w9.cell? ⟨q9, 2, none⟩ = some (.int .i64 (z.2.g : Int)) := cell_of_block hb9
          have HMo := Lib.hid (HM8.out.keep (e' := { e1 with w := relsI e1.w st (is.take i) }) HW8.out HS.out.1 (KeepF.of HS.out.2) rfl rfl rfl rfl)
          have hfi : (relsI e1.w st (is.take i)).Fit (m + 564 + 3 * i) := (relsI_fit (is.take i) e1.w (m + 564) (fun x hx => (HIS.out x (List.mem_of_mem_take hx)).1) HF7.out).mono (by rw [List.length_take]; omega)
          have HRL := Lib.hid (cy_release (HS.out.1.below B9) (HMo.out.below B9).cbp hfi (by omega) hz8 HZQ.out)
          have HS9 : Hid (KeepW w8 w9) := Lib.hid (HS.out.2.trans (KeepW.of B9))
          have HV9 := Lib.hid hw9
          have HQ9 := Lib.hid hq9
          clear hw9 B9 hq9 hb9 hfi hz hzo hz8 HMo HS
          go_upto_region 16 with fail
          rw [HV9.out, HQ9.out]
          clear z0 z1 z2 z3 HV9
          go_wp2_with fail
          refine HRL.out.mono ?_
          rintro en wa ⟨rfl, Wa, Ka⟩
          try dsimp only
          have HSa : Hid (WL w0 wa g nd (relsI e1.w st (is.take (i + 1))) ∧ KeepW w8 wa) := Lib.hid ⟨by rw [List.take_add_one, HZI.out]; show WL w0 wa g nd (relsI e1.w st (is.take i ++ [z])); rw [relsI_snoc]; exact Wa, HS9.out.trans Ka⟩
          clear Wa Ka HRL
          go_wp2_with fail
          go_roundg (n1 - (i + 1))
          case measure => omega
          case rel => exact ⟨i + 1, by go_num, by omega, rfl, HSa⟩
         ·obtain rfl : i = n1 := by omega
          have hge : ¬ (i : Int) < (i : Int) := by omega
          go_wp2_with fail
          go_ret
          have hta : is.take i = is := List.take_of_length_le (Nat.le_of_eq HN1.out)
          rw [HXY.out]
          exact ⟨⟨_, rfl, by have := HS.out.1; rw [hta] at this; exact this, ⟨B', HM8.out.keep HW8.out HS.out.1 (KeepF.of HS.out.2) rfl rfl rfl rfl⟩, HK8.out.trans (KeepE.of 0 HS.out.2), rfl⟩, fun q => absurd q HNS.out⟩
    ·rw [hp] at HX
     clear HAL hp
     go_wp2_with fail
     refine (HPN.out _).mono ?_
     rintro en w4 ⟨rfl, b4⟩
     try dsimp only
     have HBW : Hid (Below w3.heap.size w3 w4) := Lib.hid b4
     have HDD : Hid (DatN w4 (some ⟨b, 0, none⟩) 128 D) := Lib.hid (hD.below b4).dat
     have HDB := Lib.hid hDb
     have HCR := Lib.hid (HTAIL.out w4 (some ⟨b, 0, none⟩) k0 _ HBW.out HDD.out HDB.out)
     have HXX : Hid (X = mdT st is (e.carry encK st gn D)) := HX
     have y0 := (HKV.out w4 (HB3.out.trans (HBW.out.mono HB3.out.size))).c0
     clear b4 HTAIL HX hD hDb
     go_wp2_with fail
     refine HCR.out.mono ?_
     rintro en w7 ⟨u, rfl, W7, ⟨B', M7⟩, K7, E7⟩
     try dsimp only
     obtain ⟨e1, er, hcx⟩ : ∃ e1 er, e.carry encK st gn D = (e1, er) := ⟨_, _, rfl⟩
     have HCX := Lib.hid hcx
     rw [hcx] at W7 M7 E7
     dsimp only at W7 M7 E7
     have HW7 := Lib.hid W7
     have HM7 := Lib.hid M7
     have HK7 : Hid (KeepE 0 w3 w7) := Lib.hid ((KeepE.of 0 (KeepW.of HBW.out)).trans K7)
     have HF7 : Hid (e1.w.Fit (m + 564)) := Lib.hid (by
      have := fit_carry (st := st) (gn := gn) (E := encK) (D := D) HF.out HDB.out (fun i j hj => encK_lt' _ i j)
      rw [hcx] at this
      exact this)
     clear W7 M7 K7 HCR hcx
     cases er with
     | some er =>
      have HXY := Lib.hid (HXX.out.trans (mdT_err HCX.out))
      obtain ⟨tu, xu, rfl⟩ := E7.iface
      have HE := Lib.hid E7
      clear E7
      go_wp2_with fail
      go_ret
      rw [HXY.out]
      exact ⟨⟨_, rfl, HW7.out, ⟨B', HM7.out⟩, HK3.out.trans HK7.out, HE.out⟩, fun q => absurd q HNS.out⟩
     | none =>
      obtain rfl : u = .nilIface := E7
      obtain ⟨P7, l7, k7, hB7, hl7⟩ := HM7.out.bl hst
      obtain ⟨z1, z2, z3, z4⟩ := HM7.out.known hst
      rw [hB7] at z4
      have HPN7 := Lib.hid (cy_pending (e1.gen st : Int) (e1.next st : Int) (e1.doubt st) P7 l7 k7 w7)
      rw [hl7] at HPN7
      obtain ⟨pb, hpb⟩ : ∃ pb, (e1.pend st).isSome = pb := ⟨_, rfl⟩
      rw [hpb] at HPN7
      have HPB7 := Lib.hid hpb
      clear hl7 hB7 hpb
      go_wp2_with fail
      refine HPN7.out.mono ?_
      rintro en w8 ⟨rfl, b8⟩
      try dsimp only
      have HB8 := Lib.hid b8
      have HK8 : Hid (KeepE 0 v w8) := Lib.hid ((HK3.out.trans HK7.out).trans (KeepE.of 0 (KeepW.of b8)))
      have HW8 := Lib.hid (HW7.out.below b8)
      have HM8 := Lib.hid (HM7.out.below b8)
      clear b8 HPN7 z1 z2 z3 z4
      cases pb with
      | true =>
       have HXY := Lib.hid (HXX.out.trans (mdT_pend HCX.out HPB7.out))
       have HOF := Lib.hid (en_of (st : Int) (errno_ev w8 8))
       go_wp2_with fail
       refine HOF.out.mono ?_
       rintro en w9 ⟨u9, rfl, b9, E9⟩
       try dsimp only
       have HE := Lib.hid E9
       have HW9 := Lib.hid (HW8.out.below b9)
       have HM9 := Lib.hid (HM8.out.below b9)
       have HK9 := Lib.hid (HK8.out.trans (KeepE.of 0 (KeepW.of b9)))
       clear b9 E9
       go_wp2_with fail
       go_ret
       rw [HXY.out]
       exact ⟨⟨_, rfl, HW9.out, ⟨B', HM9.out⟩, HK9.out, HE.out⟩, fun q => absurd q HNS.out⟩
      | false =>
       have HXY := Lib.hid (HXX.out.trans (mdT_ok HCX.out HPB7.out))
       have hK28 : KeepE 0 v2 w8 := ((KeepE.of 0 (KeepW.of HB3.out)).trans HK7.out).trans (KeepE.of 0 (KeepW.of HB8.out))
       have HFB8 := Lib.hid (HFB.out w8 hK28)
       have HT8 := Lib.hid (HT.out.keepE hK28)
       have x8 : w8.cell? ⟨q0, 0, none⟩ = some (.slice A1 n1 c1) := cell_of_block HFB8.out
       clear hK28 x0
       go_wp2_with fail
       go_loopg [70] n1 (fun q s70 wr => ∃ i : Nat, s70 = .int .i64 (i : Int) ∧ i ≤ n1 ∧ q = n1 - i ∧ Hid (WL w0 wr g nd (relsI e1.w st (is.take i)) ∧ KeepW w8 wr))
       case atStart => exact ⟨0, rfl, by omega, rfl, Lib.hid ⟨HW8.out, KeepW.refl _⟩⟩
       case round =>
        obtain ⟨i, rfl, hi, rfl, HS⟩ := hrel
        obtain ⟨wo, rfl⟩ : ∃ wo : World, wo = wr := ⟨wr, rfl⟩
        clear x8
        by_cases hlt : i < n1
        ·have hlt' : (i : Int) < (n1 : Int) := by omega
         obtain ⟨z, hz⟩ : ∃ z, is[i]? = some z := ⟨_, List.getElem?_eq_getElem (by rw [HN1.out]; exact hlt)⟩
         obtain ⟨hz8, hzo, hzs⟩ := HIS.out z (List.mem_of_getElem? hz)
         obtain ⟨b1, c1', Az, dz, hvv, hbl, z0, z1, z2, z3, _⟩ := (HT8.out.keepE (KeepE.of 0 HS.out.2)).at hz
         rw [HN1.out] at hvv
         cases hvv
         rw [hzs] at z1
         have HZQ : Hid (OkQ 6 (st : Int) (z.2.g : Int) 0 0) := Lib.hid (by have := It.okq hzo; rw [hzs] at this; exact this)
         have HZI := Lib.hid hz
         obtain ⟨w9, hw9⟩ : ∃ w9, wo.alloc (.cells #[.int .i64 (z.1 : Int), .int .i64 (st : Int), .int .i64 (z.2.g : Int), .slice Az 128 dz] 112) = w9 := ⟨_, rfl⟩
         have B9 : Below wo.heap.size wo w9 := by rw [← hw9]; exact (Below.refl _ _).alloc (Nat.le_refl _) _
         obtain ⟨q9, hq9⟩ : ∃ q9, wo.heap.size = q9 := ⟨_, rfl⟩
         have hb9 : w9.heap[q9]? = some (.cells #[.int .i64 (z.1 : Int), .int .i64 (st : Int), .int .i64 (z.2.g : Int), .slice Az 128 dz] 112 (0, 0)) := by rw [← hw9, ← hq9]; exact alloc_block _ _
         have y9a : w9.cell? ⟨q9, 0, none⟩ = some (.int .i64 (z.1 : Int)) := cell_of_block hb9
         have y9b : w9.cell? ⟨q9, 2, none⟩ = some (.int .i64 (z.2.g : Int)) := cell_of_block hb9
         have HMo := Lib.hid (HM8.out.keep (e' := { e1 with w := relsI e1.w st (is.take i) }) HW8.out HS.out.1 (KeepF.of HS.out.2) rfl rfl rfl rfl)
         have hfi : (relsI e1.w st (is.take i)).Fit (m + 564 + 3 * i) := (relsI_fit (is.take i) e1.w (m + 564) (fun x hx => (HIS.out x (List.mem_of_mem_take hx)).1) HF7.out).mono (by rw [List.length_take]; omega)
         have HRL := Lib.hid (cy_release (HS.out.1.below B9) (HMo.out.below B9).cbp hfi (by omega) hz8 HZQ.out)
         have HS9 : Hid (KeepW w8 w9) := Lib.hid (HS.out.2.trans (KeepW.of B9))
         have HV9 := Lib.hid hw9
         have HQ9 := Lib.hid hq9
         clear hw9 B9 hq9 hb9 hfi hz hzo hz8 HMo HS
         go_upto_region 16 with fail
         rw [HV9.out, HQ9.out]
         clear z0 z1 z2 z3 HV9
         go_wp2_with fail
         refine HRL.out.mono ?_
         rintro en wa ⟨rfl, Wa, Ka⟩
         try dsimp only
         have HSa : Hid (WL w0 wa g nd (relsI e1.w st (is.take (i + 1))) ∧ KeepW w8 wa) := Lib.hid ⟨by rw [List.take_add_one, HZI.out]; show WL w0 wa g nd (relsI e1.w st (is.take i ++ [z])); rw [relsI_snoc]; exact Wa, HS9.out.trans Ka⟩
         clear Wa Ka HRL
         go_wp2_with fail
         go_roundg (n1 - (i + 1))
         case measure => omega
         case rel => exact ⟨i + 1, by go_num, by omega, rfl, HSa⟩
        ·obtain rfl : i = n1 := by omega
         have hge : ¬ (i : Int) < (i : Int) := by omega
         go_wp2_with fail
         go_ret
         have hta : is.take i = is := List.take_of_length_le (Nat.le_of_eq HN1.out)
         rw [HXY.out]
         exact ⟨⟨_, rfl, by have := HS.out.1; rw [hta] at this; exact this, ⟨B', HM8.out.keep HW8.out HS.out.1 (KeepF.of HS.out.2) rfl rfl rfl rfl⟩, HK8.out.trans (KeepE.of 0 HS.out.2), rfl⟩, fun q => absurd q HNS.out⟩
   ·rcases HAL.out with ⟨hp, rfl, rfl, rfl⟩ | ⟨D, b, hp, rfl, rfl, hD, hDb⟩
    ·have hwh : Kc.Whole (rowsP (chL (chF ps gn) 6)) := chL_whole (H4.out hg0 hp)
     have HWH := Lib.hid hwh
     rw [hp] at HX
     clear HAL hwh hp
     have hn00 : ((n1 : Int) == 0) = true := by rw [beq_iff_eq]; omega
     go_wp2_with fail
     refine HCO.out.mono ?_
     rintro en wx ⟨rfl, hwx⟩
     rw [hwx]
     clear hwx wx
     try dsimp only
     go_wp2_with fail
     refine (HPN.out _).mono ?_
     rintro en w4 ⟨rfl, b4⟩
     try dsimp only
     have HB4 := Lib.hid b4
     clear b4
     go_wp2_with fail
     refine (HNW.out _).mono ?_
     rintro en w5 ⟨c5, f5, o5, cap5, rfl, hc5, b5, _⟩
     try dsimp only
     have HB5 : Hid (Below w3.heap.size w3 w5) := Lib.hid (HB4.out.trans (b5.mono HB4.out.size))
     have hrl : (rowsP (chL (chF ps gn) 6)).length = 6 := by simp [rowsP]
     have HDE := Lib.hid (Kc.cdecodeT c5 f5 o5 cap5 (some ⟨gb, 0, none⟩) (rowsP (chL (chF ps gn) 6)) 6 w5 hc5 (HCK.out.below HB5.out).ck.raw (by rw [hrl]; decide) (rows_bytes (chL_bytes HBY.out gn)))
     rw [hrl] at HDE
     clear hc5 b5 hrl HB4
     go_wp2_with fail
     refine HDE.out.mono ?_
     rintro en w6 (⟨_, _, hno⟩ | ⟨gd, cap6, rfl, b6, _, ⟨hr6, ht6⟩, _⟩)
     ·exact absurd HWH.out hno
     ·try dsimp only
      have HBW : Hid (Below w3.heap.size w3 w6) := Lib.hid (HB5.out.trans (b6.mono HB5.out.size))
      have HDD : Hid (DatN w6 (some ⟨gd, 0, none⟩) 128 (decK (chL (chF ps gn) 6))) := Lib.hid (by
       obtain ⟨cs, hcs⟩ := ht6
       exact Or.inr ⟨gd, 0, cs, rfl, hcs, fun j hj => by rw [Nat.zero_add]; exact hr6.cell j hj⟩)
      have HDB : Hid (∀ j, j < 128 → decK (chL (chF ps gn) 6) j < 256) := Lib.hid (fun j _ => Kc.outF_lt _ j)
      have HCR := Lib.hid (HTAIL.out w6 (some ⟨gd, 0, none⟩) cap6 _ HBW.out HDD.out HDB.out)
      have HXX : Hid (X = mdT st is (e.carry encK st gn (decK (chL (chF ps gn) 6)))) := HX
      have y0 := (HKV.out w6 (HB3.out.trans (HBW.out.mono HB3.out.size))).c0
      clear b6 hr6 ht6 HDE HTAIL HX
      go_wp2_with fail
      refine HCR.out.mono ?_
      rintro en w7 ⟨u, rfl, W7, ⟨B', M7⟩, K7, E7⟩
      try dsimp only
      obtain ⟨e1, er, hcx⟩ : ∃ e1 er, e.carry encK st gn (decK (chL (chF ps gn) 6)) = (e1, er) := ⟨_, _, rfl⟩
      have HCX := Lib.hid hcx
      rw [hcx] at W7 M7 E7
      dsimp only at W7 M7 E7
      have HW7 := Lib.hid W7
      have HM7 := Lib.hid M7
      have HK7 : Hid (KeepE 0 w3 w7) := Lib.hid ((KeepE.of 0 (KeepW.of HBW.out)).trans K7)
      have HF7 : Hid (e1.w.Fit (m + 564)) := Lib.hid (by
       have := fit_carry (st := st) (gn := gn) (E := encK) (D := (decK (chL (chF ps gn) 6))) HF.out HDB.out (fun i j hj => encK_lt' _ i j)
       rw [hcx] at this
       exact this)
      clear W7 M7 K7 HCR hcx
      cases er with
      | some er =>
       have HXY := Lib.hid (HXX.out.trans (mdT_err HCX.out))
       obtain ⟨tu, xu, rfl⟩ := E7.iface
       have HE := Lib.hid E7
       clear E7
       go_wp2_with fail
       go_ret
       rw [HXY.out]
       exact ⟨⟨_, rfl, HW7.out, ⟨B', HM7.out⟩, HK3.out.trans HK7.out, HE.out⟩, fun q => absurd q HNS.out⟩
      | none =>
       obtain rfl : u = .nilIface := E7
       obtain ⟨P7, l7, k7, hB7, hl7⟩ := HM7.out.bl hst
       obtain ⟨z1, z2, z3, z4⟩ := HM7.out.known hst
       rw [hB7] at z4
       have HPN7 := Lib.hid (cy_pending (e1.gen st : Int) (e1.next st : Int) (e1.doubt st) P7 l7 k7 w7)
       rw [hl7] at HPN7
       obtain ⟨pb, hpb⟩ : ∃ pb, (e1.pend st).isSome = pb := ⟨_, rfl⟩
       rw [hpb] at HPN7
       have HPB7 := Lib.hid hpb
       clear hl7 hB7 hpb
       go_wp2_with fail
       refine HPN7.out.mono ?_
       rintro en w8 ⟨rfl, b8⟩
       try dsimp only
       have HB8 := Lib.hid b8
       have HK8 : Hid (KeepE 0 v w8) := Lib.hid ((HK3.out.trans HK7.out).trans (KeepE.of 0 (KeepW.of b8)))
       have HW8 := Lib.hid (HW7.out.below b8)
       have HM8 := Lib.hid (HM7.out.below b8)
       clear b8 HPN7 z1 z2 z3 z4
       cases pb with
       | true =>
        have HXY := Lib.hid (HXX.out.trans (mdT_pend HCX.out HPB7.out))
        have HOF := Lib.hid (en_of (st : Int) (errno_ev w8 8))
        go_wp2_with fail
        refine HOF.out.mono ?_
        rintro en w9 ⟨u9, rfl, b9, E9⟩
        try dsimp only
        have HE := Lib.hid E9
        have HW9 := Lib.hid (HW8.out.below b9)
        have HM9 := Lib.hid (HM8.out.below b9)
        have HK9 := Lib.hid (HK8.out.trans (KeepE.of 0 (KeepW.of b9)))
        clear b9 E9
        go_wp2_with fail
        go_ret
        rw [HXY.out]
        exact ⟨⟨_, rfl, HW9.out, ⟨B', HM9.out⟩, HK9.out, HE.out⟩, fun q => absurd q HNS.out⟩
       | false =>
        have HXY := Lib.hid (HXX.out.trans (mdT_ok HCX.out HPB7.out))
        have hK28 : KeepE 0 v2 w8 := ((KeepE.of 0 (KeepW.of HB3.out)).trans HK7.out).trans (KeepE.of 0 (KeepW.of HB8.out))
        have HFB8 := Lib.hid (HFB.out w8 hK28)
        have HT8 := Lib.hid (HT.out.keepE hK28)
        have x8 : w8.cell? ⟨q0, 0, none⟩ = some (.slice A1 n1 c1) := cell_of_block HFB8.out
        clear hK28 x0
        go_wp2_with fail
        go_loopg [70] n1 (fun q s70 wr => ∃ i : Nat, s70 = .int .i64 (i : Int) ∧ i ≤ n1 ∧ q = n1 - i ∧ Hid (WL w0 wr g nd (relsI e1.w st (is.take i)) ∧ KeepW w8 wr))
        case atStart => exact ⟨0, rfl, by omega, rfl, Lib.hid ⟨HW8.out, KeepW.refl _⟩⟩
        case round =>
         obtain ⟨i, rfl, hi, rfl, HS⟩ := hrel
         obtain ⟨wo, rfl⟩ : ∃ wo : World, wo = wr := ⟨wr, rfl⟩
         clear x8
         by_cases hlt : i < n1
         ·omega
         ·obtain rfl : i = n1 := by omega
          have hge : ¬ (i : Int) < (i : Int) := by omega
          go_wp2_with fail
          go_ret
          have hta : is.take i = is := List.take_of_length_le (Nat.le_of_eq HN1.out)
          rw [HXY.out]
          exact ⟨⟨_, rfl, by have := HS.out.1; rw [hta] at this; exact this, ⟨B', HM8.out.keep HW8.out HS.out.1 (KeepF.of HS.out.2) rfl rfl rfl rfl⟩, HK8.out.trans (KeepE.of 0 HS.out.2), rfl⟩, fun q => absurd q HNS.out⟩
    ·rw [hp] at HX
     clear HAL hp
     have hn00 : ((n1 : Int) == 0) = true := by rw [beq_iff_eq]; omega
     go_wp2_with fail
     refine HCO.out.mono ?_
     rintro en wx ⟨rfl, hwx⟩
     rw [hwx]
     clear hwx wx
     try dsimp only
     go_wp2_with fail
     refine (HPN.out _).mono ?_
     rintro en w4 ⟨rfl, b4⟩
     try dsimp only
     have HBW : Hid (Below w3.heap.size w3 w4) := Lib.hid b4
     have HDD : Hid (DatN w4 (some ⟨b, 0, none⟩) 128 D) := Lib.hid (hD.below b4).dat
     have HDB := Lib.hid hDb
     have HCR := Lib.hid (HTAIL.out w4 (some ⟨b, 0, none⟩) k0 _ HBW.out HDD.out HDB.out)
     have HXX : Hid (X = mdT st is (e.carry encK st gn D)) := HX
     have y0 := (HKV.out w4 (HB3.out.trans (HBW.out.mono HB3.out.size))).c0
     clear b4 HTAIL HX hD hDb
     go_wp2_with fail
     refine HCR.out.mono ?_
     rintro en w7 ⟨u, rfl, W7, ⟨B', M7⟩, K7, E7⟩
     try dsimp only
     obtain ⟨e1, er, hcx⟩ : ∃ e1 er, e.carry encK st gn D = (e1, er) := ⟨_, _, rfl⟩
     have HCX := Lib.hid hcx
     rw [hcx] at W7 M7 E7
     dsimp only at W7 M7 E7
     have HW7 := Lib.hid W7
     have HM7 := Lib.hid M7
     have HK7 : Hid (KeepE 0 w3 w7) := Lib.hid ((KeepE.of 0 (KeepW.of HBW.out)).trans K7)
     have HF7 : Hid (e1.w.Fit (m + 564)) := Lib.hid (by
      have := fit_carry (st := st) (gn := gn) (E := encK) (D := D) HF.out HDB.out (fun i j hj => encK_lt' _ i j)
      rw [hcx] at this
      exact this)
     clear W7 M7 K7 HCR hcx
     cases er with
     | some er =>
      have HXY := Lib.hid (HXX.out.trans (mdT_err HCX.out))
      obtain ⟨tu, xu, rfl⟩ := E7.iface
      have HE := Lib.hid E7
      clear E7
      go_wp2_with fail
      go_ret
      rw [HXY.out]
      exact ⟨⟨_, rfl, HW7.out, ⟨B', HM7.out⟩, HK3.out.trans HK7.out, HE.out⟩, fun q => absurd q HNS.out⟩
     | none =>
      obtain rfl : u = .nilIface := E7
      obtain ⟨P7, l7, k7, hB7, hl7⟩ := HM7.out.bl hst
      obtain ⟨z1, z2, z3, z4⟩ := HM7.out.known hst
      rw [hB7] at z4
      have HPN7 := Lib.hid (cy_pending (e1.gen st : Int) (e1.next st : Int) (e1.doubt st) P7 l7 k7 w7)
      rw [hl7] at HPN7
      obtain ⟨pb, hpb⟩ : ∃ pb, (e1.pend st).isSome = pb := ⟨_, rfl⟩
      rw [hpb] at HPN7
      have HPB7 := Lib.hid hpb
      clear hl7 hB7 hpb
      go_wp2_with fail
      refine HPN7.out.mono ?_
      rintro en w8 ⟨rfl, b8⟩
      try dsimp only
      have HB8 := Lib.hid b8
      have HK8 : Hid (KeepE 0 v w8) := Lib.hid ((HK3.out.trans HK7.out).trans (KeepE.of 0 (KeepW.of b8)))
      have HW8 := Lib.hid (HW7.out.below b8)
      have HM8 := Lib.hid (HM7.out.below b8)
      clear b8 HPN7 z1 z2 z3 z4
      cases pb with
      | true =>
       have HXY := Lib.hid (HXX.out.trans (mdT_pend HCX.out HPB7.out))
       have HOF := Lib.hid (en_of (st : Int) (errno_ev w8 8))
       go_wp2_with fail
       refine HOF.out.mono ?_
       rintro en w9 ⟨u9, rfl, b9, E9⟩
       try dsimp only
       have HE := Lib.hid E9
       have HW9 := Lib.hid (HW8.out.below b9)
       have HM9 := Lib.hid (HM8.out.below b9)
       have HK9 := Lib.hid (HK8.out.trans (KeepE.of 0 (KeepW.of b9)))
       clear b9 E9
       go_wp2_with fail
       go_ret
       rw [HXY.out]
       exact ⟨⟨_, rfl, HW9.out, ⟨B', HM9.out⟩, HK9.out, HE.out⟩, fun q => absurd q HNS.out⟩
      | false =>
       have HXY := Lib.hid (HXX.out.trans (mdT_ok HCX.out HPB7.out))
       have hK28 : KeepE 0 v2 w8 := ((KeepE.of 0 (KeepW.of HB3.out)).trans HK7.out).trans (KeepE.of 0 (KeepW.of HB8.out))
       have HFB8 := Lib.hid (HFB.out w8 hK28)
       have HT8 := Lib.hid (HT.out.keepE hK28)
       have x8 : w8.cell? ⟨q0, 0, none⟩ = some (.slice A1 n1 c1) := cell_of_block HFB8.out
       clear hK28 x0
       go_wp2_with fail
       go_loopg [70] n1 (fun q s70 wr => ∃ i : Nat, s70 = .int .i64 (i : Int) ∧ i ≤ n1 ∧ q = n1 - i ∧ Hid (WL w0 wr g nd (relsI e1.w st (is.take i)) ∧ KeepW w8 wr))
       case atStart => exact ⟨0, rfl, by omega, rfl, Lib.hid ⟨HW8.out, KeepW.refl _⟩⟩
       case round =>
        obtain ⟨i, rfl, hi, rfl, HS⟩ := hrel
        obtain ⟨wo, rfl⟩ : ∃ wo : World, wo = wr := ⟨wr, rfl⟩
        clear x8
        by_cases hlt : i < n1
        ·omega
        ·obtain rfl : i = n1 := by omega
         have hge : ¬ (i : Int) < (i : Int) := by omega
         go_wp2_with fail
         go_ret
         have hta : is.take i = is := List.take_of_length_le (Nat.le_of_eq HN1.out)
         rw [HXY.out]
         exact ⟨⟨_, rfl, by have := HS.out.1; rw [hta] at this; exact this, ⟨B', HM8.out.keep HW8.out HS.out.1 (KeepF.of HS.out.2) rfl rfl rfl rfl⟩, HK8.out.trans (KeepE.of 0 HS.out.2), rfl⟩, fun q => absurd q HNS.out⟩
end
end Go.Proofs.YtobkmohoepgfmaaGreatDoor
