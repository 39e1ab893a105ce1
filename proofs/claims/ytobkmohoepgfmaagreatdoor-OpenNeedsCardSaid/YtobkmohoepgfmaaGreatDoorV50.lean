import Derived.Test.YtobkmohoepgfmaaGreatDoorV05
import Derived.ProofKit
import Derived.OpenShut
import Derived.WideKeyArgs
import Derived.Carry
import Derived.ChangeSame
import Derived.SizedLaws
import Derived.Test.YtobkmohoepgfmaaGreatDoorV22
import Derived.LaidMore
import Derived.Stop.Joined
import Derived.LaidHandle
import Derived.Test.YtobkmohoepgfmaaGreatDoorV49
namespace Go.Proofs.YtobkmohoepgfmaaGreatDoor
open Go.ChangeShapes Go.WideShapes Go.ChangeAt Go.WideMaps Go.WideElems Go.RowKit

theorem own : ownKnob Tryz.prog.godebug = none := by kernel_rfl
section
variable {H : Type} {enc : TypeId × Value → H} {P : Program}
theorem post_of_below {f : Func} {s : ChangeSpec} {apart fresh handsOn again : Bool} {W W' : World} {args : Array Value} {v : Value} {ds gs : List (DataW H)} {before pa pv : List MemPlace}
  (hW : DataW.Whole enc P f.params.toList s.vars apart W args.toList ds gs before)
  (hres : ∀ (b : Nat) (sp : Nat → Bool) (hd : Bool), DataW.TrodAll enc P W' b sp hd f.resultTypes.toList (v.resultList f.resultTypes.size) (s.fn H (ds ++ gs)).results [])
  (hargs : ∀ sp : Nat → Bool, (∀ p ∈ before, sp p.block = true) → DataW.TrodAll enc P W' 0 sp true f.params.toList args.toList (s.fn H (ds ++ gs)).args pa)
  (hvars : ∀ sp : Nat → Bool, (∀ p ∈ before, sp p.block = true) → DataW.TrodVars enc P W' sp s.vars (s.fn H (ds ++ gs)).vars pv)
  (hps : before = pa ++ pv) (hb : Below W.heap.size W W')
  (hok : ∀ (j : Nat) (t : TypeId) (r : Value), f.resultTypes[j]? = some t → (v.resultList f.resultTypes.size)[j]? = some r → Value.okWide P W' .any 0 t r) :
  s.post enc P f apart fresh handsOn again W args v W' := by
 have hlt : ∀ p ∈ before, p.block < W.heap.size := fun p hp => hW.lt p hp
 have hold : ∀ p ∈ before, (fun b => decide (b < W.heap.size)) p.block = true := fun p hp => by simpa using hlt p hp
 refine ⟨ds, gs, before, [], pa, pv, hW, hres _ _ _, hargs _ hold, hvars _ hold, World.keptBut_mono (fun p hp => ⟨hp, ?_⟩) (hb.frame (· ∈ before)), fun _ => ?_⟩
 ·rw [hps, List.mem_append] at hp
  exact Or.inr hp
 ·obtain ⟨_, _, _, _, _, hz, hn⟩ := hW
  refine ⟨hok, _, _, ([] ++ pa) ++ pv, ⟨[] ++ pa, pv, trodAll_append (hargs _ (fun _ _ => rfl)) (hres _ _ _), hvars _ (fun _ _ => rfl), rfl, ?_, ?_⟩, ?_⟩
  ·intro b off hp
   have hin : MemPlace.cell b off ∈ before := by rw [hps]; simpa using hp
   rw [hb.frozen (hlt _ hin)]
   exact hz b off hin
  ·intro ha
   have := hn ha
   rw [hps] at this
   simpa using this
  ·intro p hp _
   rw [hps]
   simpa using hp
end

theorem i64_of {x : Int} (h : (Lit.int .i64 x).wf = true) : -9223372036854775808 ≤ x ∧ x ≤ 9223372036854775807 := by
 simp [Lit.wf, IntKind.min, IntKind.max, IntKind.signed, IntKind.bits] at h
 omega
end Go.Proofs.YtobkmohoepgfmaaGreatDoor
namespace Go.Proofs.YtobkmohoepgfmaaGreatDoor
open Go.ChangeShapes Go.WideShapes Go.ChangeAt Go.WideMaps Go.WideElems Go.RowKit

theorem gErr : Tryz.prog.globalNamed "errors.errorType" = some 0 := by kernel_rfl

def laidE : List (String × DataW Unit) := [("errors.errorType", Rows.laid_errors_errorType)]

theorem rtypeNo : (Tryz.prog.cutTypes.find? (·.1 == "internal/reflectlite.rtype")).map (·.2) = some 245 := by kernel_rfl
theorem namedError : ((List.range Tryz.prog.types.size).all fun t => !(Tryz.prog.rowNamed t [101, 114, 114, 111, 114]) || t == 27) = true := by kernel_rfl
theorem handleErr : typeHandle Tryz.prog 27 = .pointer (some ⟨1, 27, none⟩) := by kernel_rfl

theorem errType_of_laid {W : World} (h : laidMetH Tryz.prog laidE W) : ErrType W := by
 have h' : laidMet Tryz.prog [] W ∧ handlesMet Tryz.prog laidE W := h
 obtain ⟨name, u, ty, h1, h2, h3, h4, h5⟩ := h'.2 _ (List.mem_singleton.2 rfl)
 have e1 : name = [101, 114, 114, 111, 114] := by
  have : (Rows.laid_errors_errorType (H := Unit)).handleName? = some [101, 114, 114, 111, 114] := rfl
  exact Option.some.inj (h1.symm.trans this)
 subst e1
 have e2 : u = 245 := Option.some.inj (h2.symm.trans rtypeNo)
 subst e2
 have e3 : ty = 27 := by
  have := List.all_eq_true.1 namedError ty (List.mem_range.2 h3)
  rw [h4] at this
  simpa using this
 subst e3
 rw [handleErr] at h5
 have := World.var?_cell gErr h5 0
 unfold ErrType
 simpa using this

theorem door_met (os : Os) (args : Array Value) : laidMetH Tryz.prog laidE ((World.doorLaid Tryz.prog 400 os).forCall (fun _ _ => 0) ⟨#[], args, []⟩).memory :=
 laidMetH_of_parts3 (fuel := 8) (laidMet_of_run' 8 (by kernel_rfl) (by kernel_rfl)) (by kernel_rfl) (by kernel_rfl)

end Go.Proofs.YtobkmohoepgfmaaGreatDoor
namespace Go.Proofs.YtobkmohoepgfmaaGreatDoor
open Go.RowKit Go.Sort
set_option maxRecDepth 100000
set_option maxHeartbeats 2000000

theorem gen_raw {v : World} {p g cb c : Nat} {e : Ep} {B : Nat → Value} (hp : EPt v p cb) (hb : BlkT v 72 cb 162 (carF g c e B)) {st : Nat} (hst : st < 40) : Calls Tryz.prog 15 #[.pointer (some ⟨p, 0, none⟩), .int .i64 (st : Int)] v fun en w' => en = .returned (.int .i64 (e.gen st : Int)) ∧ w' = v := by
 have HH := Lib.hid (le_has hp hst)
 have c0 := hp.c0
 have k1 : v.cell? ⟨cb, 1 + st * 4, none⟩ = some (.int .i64 (e.gen st : Int)) := by
  have := hb.cell (j := 1 + 4 * st) (by omega)
  rw [carF_g _ _ _ _ hst, Nat.mul_comm 4 st] at this
  exact this
 have hst' : (st : Int) < 40 := by omega
 obtain ⟨gn, hg⟩ : ∃ gn, e.gen st = gn := ⟨_, rfl⟩
 rw [hg] at k1 ⊢
 clear hp hb hg
 go_enter Tryz.func15, Tryz.ntmps15
 go_wp2_with fail
 refine HH.out.mono ?_
 rintro en w' ⟨rfl, hw⟩
 obtain rfl := hw.symm
 go_wp2_with fail
 go_ret
 exact ⟨rfl, rfl⟩
section
variable {w0 v : World} {g p lim : Nat} {nd : ND} {e : Ep}
theorem le_readW (h : LE w0 v g nd p lim e) {m : Nat} (hf : e.w.Fit m) (hm : m ≤ 100000000 - 18) {st : Nat} (hst : st < 40) (hdb : e.doubt st = false) :
  Calls Tryz.prog 14 #[.pointer (some ⟨p, 0, none⟩), .int .i64 (st : Int)] v fun en w' => LRRet w0 v g nd p lim st (e.read encK decK st) en w' ∧ KeepW v w' := by
 obtain ⟨cb, A, C, c, f, o, cap, B, h⟩ := h
 have q1 := we_neqNil
 have q2 := we_neqNilNil
 have HH := Lib.hid (le_has h.ep hst)
 have c0 := h.ep.c0
 have hst' : (st : Int) < 40 := by omega
 have HF := Lib.hid (cy_fetch h.wl h.cm hf (by omega) hst)
 have HL := Lib.hid h
 obtain ⟨s1, x1, hx1⟩ : ∃ s1 x1, e.fetch decK st = (s1, x1) := ⟨_, _, rfl⟩
 rw [hx1] at HF
 obtain ⟨X, hX⟩ : ∃ X, e.read encK decK st = X := ⟨_, rfl⟩
 have HX := Lib.hid hX
 have HX1 := Lib.hid hx1
 rw [hX]
 have HDB := Lib.hid hdb
 clear h hf hX hx1
 go_enter Tryz.func14, Tryz.ntmps14
 go_wp2_with fail
 refine HH.out.mono ?_
 rintro en w' ⟨rfl, hw⟩
 obtain rfl := hw.symm
 go_wp2_with fail
 refine HF.out.mono ?_
 rintro en w1 ⟨r, u, rfl, W1, K1, hx⟩
 try dsimp only
 try dsimp only at W1 hx
 have HE1 : Hid (LEx w0 w1 g nd p lim { e with w := s1 } cb A C c f o cap B) := Lib.hid ⟨W1, HL.out.cm.keep HL.out.wl W1 (KeepF.of K1) rfl rfl rfl rfl, (K1.cells HL.out.ep eng_notW).trans HL.out.ep, HL.out.pl, HL.out.bl, Nat.le_trans HL.out.lv K1.1, HL.out.w0l⟩
 have HK1 := Lib.hid (KeepE.of lim K1)
 have HKW := Lib.hid K1
 clear W1 K1
 rcases hx with ⟨l, rfl, rfl, hev⟩ | ⟨D, P, k, rfl, rfl, rfl, hd, hk, hD⟩
 ·obtain ⟨tu, xu, rfl⟩ := hev.iface
  have HXX : Hid (X = ({ e with w := s1 }, .no l)) := Lib.hid (by rw [← HX.out]; unfold Ep.read; rw [HX1.out])
  have HE := Lib.hid hev
  clear hev
  go_wp2_with fail
  go_ret2
  rw [HXX.out]
  exact ⟨⟨_, _, rfl, ⟨cb, A, C, c, f, o, cap, B, HE1.out⟩, HK1.out, Or.inl ⟨l, rfl, rfl, HE.out⟩⟩, HKW.out⟩
 ·have HD := Lib.hid (And.intro hd (And.intro hk hD))
  have d0 := HE1.out.ep.c0
  obtain ⟨_, _, k3, _⟩ := HE1.out.cm.known hst
  dsimp only at k3
  rw [hdb] at k3
  clear hd hk hD c0
  have HXX : Hid (X = ({ e with w := s1 }, .yes D)) := Lib.hid (by rw [← HX.out]; unfold Ep.read; rw [HX1.out]; dsimp only; rw [HDB.out]; exact if_neg (by decide))
  go_wp2_with fail
  go_ret2
  rw [HXX.out]
  exact ⟨⟨_, _, rfl, ⟨cb, A, C, c, f, o, cap, B, HE1.out⟩, HK1.out, Or.inr ⟨D, P, k, rfl, rfl, rfl, HD.out.1, HD.out.2.1, HD.out.2.2⟩⟩, HKW.out⟩
end
theorem lsame15 {w0 v : World} {g p lim q g2 cb c : Nat} {nd : ND} {f e : Ep} {B : Nat → Value} (h : LE w0 v g nd p lim f) (hp : EPt v q cb) (hb : BlkT v 72 cb 162 (carF g2 c e B)) (hs : ∀ i, i < 40 → f.gen i = e.gen i) :
  Calls Tryz.prog 23 #[.pointer (some ⟨p, 0, none⟩), .pointer (some ⟨q, 0, none⟩)] v fun en w' => en = .returned (.bool true) ∧ w' = v := by
 have HL := Lib.hid h
 have HP := Lib.hid hp
 have HB := Lib.hid hb
 have HS := Lib.hid hs
 clear h hp hb hs
 go_enter Tryz.func23, Tryz.ntmps23
 go_wp2_with fail
 go_loopg [5] 40 (fun q s5 wr => ∃ i : Nat, s5 = .int .i64 (i : Int) ∧ i ≤ 40 ∧ q = 40 - i ∧ Hid (wr = v))
 case atStart => exact ⟨0, rfl, by omega, rfl, Lib.hid rfl⟩
 case round =>
  obtain ⟨i, rfl, hi, rfl, HW⟩ := hrel
  obtain rfl := HW.out
  by_cases hlt : i < 40
  ·have t1 : (i : Int) < 40 := by omega
   have HG1 := Lib.hid (le_gen HL.out hlt)
   have HG2 := Lib.hid (gen_raw HP.out HB.out hlt)
   rw [HS.out i hlt] at HG1
   obtain ⟨gn, hg⟩ : ∃ gn, e.gen i = gn := ⟨_, rfl⟩
   rw [hg] at HG1 HG2
   have hne : ((gn : Int) != (gn : Int)) = false := by simp
   clear hg
   go_wp2_with fail
   refine HG1.out.mono ?_
   rintro en wx ⟨rfl, hw⟩
   rw [hw]
   clear hw wx
   go_wp2_with fail
   refine HG2.out.mono ?_
   rintro en wx ⟨rfl, hw⟩
   rw [hw]
   clear hw wx
   go_wp2_with fail
   go_roundg (40 - (i + 1))
   case measure => omega
   case rel => exact ⟨i + 1, by go_num, by omega, rfl, Lib.hid rfl⟩
  ·have t1 : ¬ (i : Int) < 40 := by omega
   go_wp2_with fail
   go_ret
   exact ⟨rfl, rfl⟩
end Go.Proofs.YtobkmohoepgfmaaGreatDoor
