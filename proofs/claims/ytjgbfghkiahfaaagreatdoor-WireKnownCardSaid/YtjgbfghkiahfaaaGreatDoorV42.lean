import Derived.Test.YtjgbfghkiahfaaaGreatDoorV01
import Derived.ProofKit
import Derived.OpenShut
import Derived.WideKeyArgs
import Derived.Carry
import Derived.ChangeSame
import Derived.SizedLaws
import Derived.Test.YtjgbfghkiahfaaaGreatDoorV30
import Derived.LaidMore
import Derived.Stop.Joined
import Derived.LaidHandle
namespace Go.Proofs.YtjgbfghkiahfaaaGreatDoor
open Go.ChangeShapes Go.WideShapes Go.ChangeAt Go.WideMaps Go.WideElems Go.RowKit

theorem own : ownKnob Tryz.prog.godebug = none := by kernel_rfl
theorem laidOut : laidOutB Tryz.prog = true := by kernel_rfl
section
variable {H : Type} {enc : TypeId × Value → H} {P : Program}
theorem post_of_below {f : Func} {s : ChangeSpec} {apart fresh handsOn again : Bool} {W W' : World} {args : Array Value} {v : Value} {ds gs : List (DataW H)} {before pa pv : List MemPlace}
    (hW : DataW.Whole enc P f.params.toList s.vars apart W args.toList ds gs before)
    (hres : ∀ (b : Nat) (sp : Nat → Bool) (hd : Bool), DataW.TrodAll enc P W' b sp hd f.resultTypes.toList (v.resultList f.resultTypes.size) (s.fn H (ds ++ gs)).results [])
    (hargs : ∀ sp : Nat → Bool, (∀ p ∈ before, sp p.block = true) → DataW.TrodAll enc P W' 0 sp true f.params.toList args.toList (s.fn H (ds ++ gs)).args pa)
    (hvars : ∀ sp : Nat → Bool, (∀ p ∈ before, sp p.block = true) → DataW.TrodVars enc P W' sp s.vars (s.fn H (ds ++ gs)).vars pv)
    (hps : before = pa ++ pv) (hb : Below W.heap.size W W')
    (hok : ∀ (j : Nat) (t : TypeId) (r : Value), f.resultTypes[j]? = some t → (v.resultList f.resultTypes.size)[j]? = some r → Value.okWide P W' .any 0 t r) :
    s.post enc P f apart fresh handsOn again W args v W' := by
  have hlt : ∀ p ∈ before, p.block < W.heap.size := fun p hp => hW.lt p hp
  have hold : ∀ p ∈ before, (fun b => decide (b < W.heap.size)) p.block = true := fun p hp => by simpa using hlt p hp
  refine ⟨ds, gs, before, [], pa, pv, hW, hres _ _ _, hargs _ hold, hvars _ hold, World.keptBut_mono (fun p hp => ⟨hp, ?_⟩) (hb.frame (· ∈ before)), fun _ => ?_⟩
  · rw [hps, List.mem_append] at hp
    exact Or.inr hp
  · obtain ⟨_, _, _, _, _, hz, hn⟩ := hW
    refine ⟨hok, _, _, ([] ++ pa) ++ pv, ⟨[] ++ pa, pv, trodAll_append (hargs _ (fun _ _ => rfl)) (hres _ _ _), hvars _ (fun _ _ => rfl), rfl, ?_, ?_⟩, ?_⟩
    · intro b off hp
      have hin : MemPlace.cell b off ∈ before := by rw [hps]; simpa using hp
      rw [hb.frozen (hlt _ hin)]
      exact hz b off hin
    · intro ha
      have := hn ha
      rw [hps] at this
      simpa using this
    · intro p hp _
      rw [hps]
      simpa using hp
end

theorem u8_of {x : Int} (h : (Lit.int .u8 x).wf = true) : ∃ a : Nat, x = (a : Int) ∧ a < 256 := by
  simp [Lit.wf, IntKind.min, IntKind.max, IntKind.signed, IntKind.bits] at h
  exact ⟨x.toNat, by omega, by omega⟩
theorem i64_of {x : Int} (h : (Lit.int .i64 x).wf = true) : -9223372036854775808 ≤ x ∧ x ≤ 9223372036854775807 := by
  simp [Lit.wf, IntKind.min, IntKind.max, IntKind.signed, IntKind.bits] at h
  omega
theorem cells3 : Tryz.prog.cellsOf 3 = 1 := by kernel_rfl
theorem cell_plain {W : World} {a : Addr} {i : Nat} {v v0 : Value} (h0 : W.cell? (a.add 0) = some v0) (h : W.cell? (a.add i) = some v) : ∃ g o, a = ⟨g, o, none⟩ ∧ g < W.heap.size ∧ W.cell? ⟨g, o + i, none⟩ = some v := by
  obtain ⟨g, o, sp⟩ := a
  have hsp : sp = none := by
    cases sp with
    | none => rfl
    | some q =>
      exfalso
      have hn : W.cell? ⟨g, o, some q⟩ = none := by
        unfold World.cell?
        simp only [Option.isSome_some, if_true]
        split <;> rfl
      have e : (⟨g, o, some q⟩ : Addr).add 0 = ⟨g, o, some q⟩ := rfl
      rw [e, hn] at h0; cases h0
  subst hsp
  have h' : W.cell? ⟨g, o + i, none⟩ = some v := by
    by_cases hi : i = 0
    · subst hi; exact h
    · simpa [Addr.add, hi] using h
  exact ⟨g, o, rfl, cell?_lt h', h'⟩
theorem cellsByte : Tryz.prog.cellsOf 5 = 1 := by kernel_rfl

/-- Bytes that came in. -/
theorem rd_in {H : Type} {enc : TypeId × Value → H} {W : World} {a0 : Option Addr} {len cap : Nat} {d : DataW H} {p : List MemPlace} (h : DataW.Trod enc Tryz.prog W 0 (fun _ => true) true 36 (.slice a0 len cap) d p) :
    ∃ F : Nat → Nat, Rd W a0 len F ∧ (∀ j, j < len → F j < 256) ∧ len ≤ cap ∧ len ≤ 9223372036854775807 ∧ (len = 0 ∨ ∃ el sp, d = .slice el sp ∧ el.length = len) := by
  obtain ⟨fuel, hf⟩ := h
  rcases open_ints Tryz.underlying36 Tryz.underlying5 cellsByte hf with ⟨hcs, hx⟩ | ⟨a, len', cap', zs, hcs, _, hl, hm, hz, hx, hcell, hwz⟩
  · simp [Value.cells] at hcs
    obtain ⟨rfl, rfl, rfl⟩ := hcs
    exact ⟨fun _ => 0, Rd.none_, fun _ _ => (show (0 : Nat) < 256 by decide), Nat.le_refl _, by omega, Or.inl rfl⟩
  · simp [Value.cells] at hcs
    obtain ⟨rfl, rfl, rfl⟩ := hcs
    unfold maxLen at hm
    have hzl : len ≤ zs.length := by rw [hz]; simp; omega
    refine ⟨fun j => (zs.getD j 0).toNat, fun hn => ?_, fun j hj => ?_, hl, by omega, Or.inr ⟨_, _, congrArg Prod.fst hx, ?_⟩⟩
    · have c0 := hcell 0 (by omega)
      obtain ⟨g, o, rfl, h1, h2⟩ := cell_plain c0 c0
      refine ⟨g, o, rfl, fun j hj => ?_⟩
      obtain ⟨g', o', e, _, h3⟩ := cell_plain c0 (hcell j (by omega))
      cases e
      rw [h3]
      have hmem : zs.getD j 0 ∈ zs := by rw [List.getD_eq_getElem?_getD, List.getElem?_eq_getElem (show j < zs.length by omega)]; exact List.getElem_mem _
      obtain ⟨b, hb, _⟩ := u8_of (hwz _ hmem)
      show some (Value.int .u8 (zs.getD j 0)) = some (.int .u8 (((zs.getD j 0).toNat : Nat) : Int))
      rw [hb]; rfl
    · have hmem : zs.getD j 0 ∈ zs := by rw [List.getD_eq_getElem?_getD, List.getElem?_eq_getElem (show j < zs.length by omega)]; exact List.getElem_mem _
      obtain ⟨b, hb, hl⟩ := u8_of (hwz _ hmem)
      show (zs.getD j 0).toNat < 256
      rw [hb]
      simpa using hl
    · simp [lits]; omega
/-- A slice of numbers that came in. -/
theorem ints_in {H : Type} {enc : TypeId × Value → H} {W : World} {a0 : Option Addr} {len cap : Nat} {d : DataW H} {p : List MemPlace} (h : DataW.Trod enc Tryz.prog W 0 (fun _ => true) true 43 (.slice a0 len cap) d p) :
    ∃ (xs : List Int), xs.length = len ∧ Nums W a0 xs ∧ (∀ x ∈ xs, (Lit.int .i64 x).wf = true) ∧ xs.length ≤ 9223372036854775807 := by
  obtain ⟨fuel, hf⟩ := h
  rcases open_ints Tryz.underlying43 Tryz.underlying3 cells3 hf with ⟨hcs, hx⟩ | ⟨a, len', cap', zs, hcs, _, hl, hm, hz, hx, hcell, hwz⟩
  · simp [Value.cells] at hcs
    obtain ⟨rfl, rfl, rfl⟩ := hcs
    exact ⟨[], rfl, fun i x hx => by simp at hx, by simp, by simp⟩
  · simp [Value.cells] at hcs
    obtain ⟨rfl, rfl, rfl⟩ := hcs
    unfold maxLen at hm
    have hzl : len ≤ zs.length := by rw [hz]; simp; omega
    refine ⟨zs.take len, by simp; omega, fun i x hx => ?_, fun x hx => hwz x (List.mem_of_mem_take hx), by simp; omega⟩
    rw [List.getElem?_take] at hx
    split at hx
    · have hlt : i < zs.length := by omega
      have hc := hcell i hlt
      rw [List.getD_eq_getElem?_getD, hx] at hc
      obtain ⟨g, o, rfl, h1, h2⟩ := cell_plain (hcell 0 (by omega)) hc
      exact ⟨g, o, rfl, h1, h2⟩
    · cases hx
end Go.Proofs.YtjgbfghkiahfaaaGreatDoor
namespace Go.Proofs.YtjgbfghkiahfaaaGreatDoor
open Go.ChangeShapes Go.WideShapes Go.ChangeAt Go.WideMaps Go.WideElems Go.RowKit

theorem gErr : Tryz.prog.globalNamed "errors.errorType" = some 0 := by kernel_rfl

def laidE : List (String × DataW Unit) := [("errors.errorType", Rows.laid_errors_errorType)]

theorem rtypeNo : (Tryz.prog.cutTypes.find? (·.1 == "internal/reflectlite.rtype")).map (·.2) = some 151 := by kernel_rfl
theorem namedError : ((List.range Tryz.prog.types.size).all fun t => !(Tryz.prog.rowNamed t [101, 114, 114, 111, 114]) || t == 33) = true := by kernel_rfl
theorem handleErr : typeHandle Tryz.prog 33 = .pointer (some ⟨1, 33, none⟩) := by kernel_rfl

theorem errType_of_laid {W : World} (h : laidMetH Tryz.prog laidE W) : ErrType W := by
  have h' : laidMet Tryz.prog [] W ∧ handlesMet Tryz.prog laidE W := h
  obtain ⟨name, u, ty, h1, h2, h3, h4, h5⟩ := h'.2 _ (List.mem_singleton.2 rfl)
  have e1 : name = [101, 114, 114, 111, 114] := by
    have : (Rows.laid_errors_errorType (H := Unit)).handleName? = some [101, 114, 114, 111, 114] := rfl
    exact Option.some.inj (h1.symm.trans this)
  subst e1
  have e2 : u = 151 := Option.some.inj (h2.symm.trans rtypeNo)
  subst e2
  have e3 : ty = 33 := by
    have := List.all_eq_true.1 namedError ty (List.mem_range.2 h3)
    rw [h4] at this
    simpa using this
  subst e3
  rw [handleErr] at h5
  have := World.var?_cell gErr h5 0
  unfold ErrType
  simpa using this

theorem door_met (os : Os) (args : Array Value) : laidMetH Tryz.prog laidE ((World.doorLaid Tryz.prog 400 os).forCall (fun _ _ => 0) ⟨#[], args, []⟩).memory :=
  laidMetH_of_parts3 (fuel := 8) (laidMet_of_run' 8 (by kernel_rfl) (by kernel_rfl)) (by kernel_rfl) (by kernel_rfl)

end Go.Proofs.YtjgbfghkiahfaaaGreatDoor
