import Derived.Test.YtajpnbmfeapmcaaI1
import Derived.Deep.Matrix
import Derived.ProofKit
import Derived.OpenShut
import Derived.WideKeyArgs
import Derived.Carry
import Derived.ChangeSame
namespace Go.Proofs.Ytajpnbmfeapmcaa
open Go.ChangeShapes Go.WideShapes Go.ChangeAt Go.WideMaps Go.WideElems Go.RowKit

theorem own : ownKnob Try.prog.godebug = none := by kernel_rfl
theorem laidOut : laidOutB Try.prog = true := by kernel_rfl

section
variable {H : Type} {enc : TypeId × Value → H} {P : Program}
theorem post_of_below {f : Func} {s : ChangeSpec} {apart fresh handsOn again : Bool} {W W' : World} {args : Array Value} {v : Value} {ds gs : List (DataW H)} {before pa pv : List MemPlace}
    (hW : DataW.Whole enc P f.params.toList s.vars apart W args.toList ds gs before)
    (hres : ∀ (b : Nat) (sp : Nat → Bool) (hd : Bool), DataW.TrodAll enc P W' b sp hd f.resultTypes.toList (v.resultList f.resultTypes.size) (s.fn H (ds ++ gs)).results [])
    (hargs : ∀ sp : Nat → Bool, (∀ p ∈ before, sp p.block = true) → DataW.TrodAll enc P W' 0 sp true f.params.toList args.toList (s.fn H (ds ++ gs)).args pa)
    (hvars : ∀ sp : Nat → Bool, (∀ p ∈ before, sp p.block = true) → DataW.TrodVars enc P W' sp s.vars (s.fn H (ds ++ gs)).vars pv)
    (hps : before = pa ++ pv) (hb : Below W.heap.size W W')
    (hok : ∀ (j : Nat) (t : TypeId) (r : Value), f.resultTypes[j]? = some t → (v.resultList f.resultTypes.size)[j]? = some r → Value.okWide P W' .any 0 t r) :
    s.post enc P f apart fresh handsOn again W args v W' := by
  have hlt : ∀ p ∈ before, p.block < W.heap.size := fun p hp => hW.lt p hp
  have hold : ∀ p ∈ before, (fun b => decide (b < W.heap.size)) p.block = true := fun p hp => by simpa using hlt p hp
  refine ⟨ds, gs, before, [], pa, pv, hW, hres _ _ _, hargs _ hold, hvars _ hold, World.keptBut_mono (fun p hp => ⟨hp, ?_⟩) (hb.frame (· ∈ before)), fun _ => ?_⟩
  · rw [hps, List.mem_append] at hp
    exact Or.inr hp
  · obtain ⟨_, _, _, _, _, hz, hn⟩ := hW
    refine ⟨hok, _, _, ([] ++ pa) ++ pv, ⟨[] ++ pa, pv, trodAll_append (hargs _ (fun _ _ => rfl)) (hres _ _ _), hvars _ (fun _ _ => rfl), rfl, ?_, ?_⟩, ?_⟩
    · intro b off hp
      have hin : MemPlace.cell b off ∈ before := by rw [hps]; simpa using hp
      rw [hb.frozen (hlt _ hin)]
      exact hz b off hin
    · intro ha
      have := hn ha
      rw [hps] at this
      simpa using this
    · intro p hp _
      rw [hps]
      simpa using hp
end

theorem u8_of {x : Int} (h : (Lit.int .u8 x).wf = true) : ∃ a : Nat, x = (a : Int) ∧ a < 256 := by
  simp [Lit.wf, IntKind.min, IntKind.max, IntKind.signed, IntKind.bits] at h
  exact ⟨x.toNat, by omega, by omega⟩
theorem i64_of {x : Int} (h : (Lit.int .i64 x).wf = true) : -9223372036854775808 ≤ x ∧ x ≤ 9223372036854775807 := by
  simp [Lit.wf, IntKind.min, IntKind.max, IntKind.signed, IntKind.bits] at h
  omega

theorem cells3 : Try.prog.cellsOf 3 = 1 := by kernel_rfl

theorem cell_plain {W : World} {a : Addr} {i : Nat} {v v0 : Value} (h0 : W.cell? (a.add 0) = some v0) (h : W.cell? (a.add i) = some v) : ∃ g o, a = ⟨g, o, none⟩ ∧ g < W.heap.size ∧ W.cell? ⟨g, o + i, none⟩ = some v := by
  obtain ⟨g, o, sp⟩ := a
  have hsp : sp = none := by
    cases sp with
    | none => rfl
    | some q =>
      exfalso
      have hn : W.cell? ⟨g, o, some q⟩ = none := by
        unfold World.cell?
        simp only [Option.isSome_some, if_true]
        split <;> rfl
      have e : (⟨g, o, some q⟩ : Addr).add 0 = ⟨g, o, some q⟩ := rfl
      rw [e, hn] at h0; cases h0
  subst hsp
  have h' : W.cell? ⟨g, o + i, none⟩ = some v := by
    by_cases hi : i = 0
    · subst hi; exact h
    · simpa [Addr.add, hi] using h
  exact ⟨g, o, rfl, cell?_lt h', h'⟩

theorem cellsRow : Try.prog.cellsOf 29 = 1 := by kernel_rfl
theorem cellsByte : Try.prog.cellsOf 5 = 1 := by kernel_rfl

/-- Rows of bytes that came in. -/
theorem rows_in {H : Type} {enc : TypeId × Value → H} {W : World} {a0 : Option Addr} {len cap : Nat} {d : DataW H} {p : List MemPlace} (h : DataW.Trod enc Try.prog W 0 (fun _ => true) true 25 (.slice a0 len cap) d p) :
    ∃ (xss : List (List Nat)), xss.length = len ∧ RawIn W a0 xss ∧ Bytes xss ∧ xss.length ≤ 9223372036854775807 := by
  obtain ⟨fuel, hf⟩ := h
  rcases Go.Deep.open_int_rows Try.underlying25 Try.underlying29 Try.underlying5 cellsRow cellsByte hf with ⟨hcs, hx⟩ | ⟨a, len', cap', A, L, C, Z, hcs, _, hl, hm, hx, hr⟩
  · simp [Value.cells] at hcs
    obtain ⟨rfl, rfl, rfl⟩ := hcs
    exact ⟨[], rfl, fun i x hx => by simp at hx, fun i x hx => by simp at hx, by simp⟩
  · simp [Value.cells] at hcs
    obtain ⟨rfl, rfl, rfl⟩ := hcs
    unfold maxLen at hm
    refine ⟨(List.range len).map (fun r => ((Z r).map Int.toNat).take (L r)), by simp, fun i xs hi => ?_, fun i xs hi x hxm => ?_, by simp; omega⟩
    · have hil : i < len := by have := (List.getElem?_eq_some_iff.1 hi).1; simpa using this
      simp [hil] at hi
      subst hi
      obtain ⟨c0, h1, h2, h3, h4, h5, h6⟩ := hr i (by omega)
      obtain ⟨b, o, rfl, hb, hc⟩ := cell_plain (hr 0 (by omega)).1 c0
      have hlen : (((Z i).map Int.toNat).take (L i)).length = L i := by rw [List.length_take, List.length_map]; omega
      refine ⟨b, o, rfl, hb, A i, C i, by rw [hlen]; exact hc, fun j x hj => ?_⟩
      have hjl : j < L i := by have := (List.getElem?_eq_some_iff.1 hj).1; rw [hlen] at this; exact this
      cases hA : A i with
      | none => have := h5 hA; omega
      | some a' =>
        have hcell := (h6 a' hA).2
        obtain ⟨g, q, rfl, hg, hv⟩ := cell_plain (hcell 0 (by omega)) (hcell j (by omega))
        refine ⟨g, q, rfl, hg, ?_⟩
        rw [List.getElem?_take, if_pos hjl, List.getElem?_map] at hj
        rw [hv, List.getD_eq_getElem?_getD]
        cases hz : (Z i)[j]? with
        | none => rw [hz] at hj; cases hj
        | some z =>
          rw [hz] at hj
          cases hj
          have := h4 z (List.mem_of_getElem? hz)
          simp [Lit.wf, IntKind.min, IntKind.max, IntKind.signed, IntKind.bits] at this
          have e : ((z.toNat : Nat) : Int) = z := by omega
          rw [Option.getD_some, e]
    · have hil : i < len := by have := (List.getElem?_eq_some_iff.1 hi).1; simpa using this
      simp [hil] at hi
      subst hi
      obtain ⟨c0, h1, h2, h3, h4, h5, h6⟩ := hr i (by omega)
      obtain ⟨z, hz, rfl⟩ := List.mem_map.1 (List.mem_of_mem_take hxm)
      have := h4 z hz
      simp [Lit.wf, IntKind.min, IntKind.max, IntKind.signed, IntKind.bits] at this
      omega

end Go.Proofs.Ytajpnbmfeapmcaa
