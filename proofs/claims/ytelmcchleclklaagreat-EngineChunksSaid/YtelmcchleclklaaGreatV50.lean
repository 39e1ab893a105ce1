import Derived.Test.YtelmcchleclklaaGreatV01
import Derived.ProofKit
import Derived.OpenShut
import Derived.WideKeyArgs
import Derived.Carry
import Derived.ChangeSame
import Derived.SizedLaws
import Derived.Test.YtelmcchleclklaaGreatV47
import Derived.Deep.Slices
import Derived.Deep.Fields
namespace Go.Proofs.YtelmcchleclklaaGreat
open Go.ChangeShapes Go.WideShapes Go.ChangeAt Go.WideMaps Go.WideElems Go.RowKit

theorem own : ownKnob Tryz.prog.godebug = none := by kernel_rfl
theorem laidOut : laidOutB Tryz.prog = true := by kernel_rfl
section
variable {H : Type} {enc : TypeId × Value → H} {P : Program}
theorem post_of_below {f : Func} {s : ChangeSpec} {apart fresh handsOn again : Bool} {W W' : World} {args : Array Value} {v : Value} {ds gs : List (DataW H)} {before pa pv : List MemPlace}
  (hW : DataW.Whole enc P f.params.toList s.vars apart W args.toList ds gs before)
  (hres : ∀ (b : Nat) (sp : Nat → Bool) (hd : Bool), DataW.TrodAll enc P W' b sp hd f.resultTypes.toList (v.resultList f.resultTypes.size) (s.fn H (ds ++ gs)).results [])
  (hargs : ∀ sp : Nat → Bool, (∀ p ∈ before, sp p.block = true) → DataW.TrodAll enc P W' 0 sp true f.params.toList args.toList (s.fn H (ds ++ gs)).args pa)
  (hvars : ∀ sp : Nat → Bool, (∀ p ∈ before, sp p.block = true) → DataW.TrodVars enc P W' sp s.vars (s.fn H (ds ++ gs)).vars pv)
  (hps : before = pa ++ pv) (hb : Below W.heap.size W W')
  (hok : ∀ (j : Nat) (t : TypeId) (r : Value), f.resultTypes[j]? = some t → (v.resultList f.resultTypes.size)[j]? = some r → Value.okWide P W' .any 0 t r) :
  s.post enc P f apart fresh handsOn again W args v W' := by
 have hlt : ∀ p ∈ before, p.block < W.heap.size := fun p hp => hW.lt p hp
 have hold : ∀ p ∈ before, (fun b => decide (b < W.heap.size)) p.block = true := fun p hp => by simpa using hlt p hp
 refine ⟨ds, gs, before, [], pa, pv, hW, hres _ _ _, hargs _ hold, hvars _ hold, World.keptBut_mono (fun p hp => ⟨hp, ?_⟩) (hb.frame (· ∈ before)), fun _ => ?_⟩
 ·rw [hps, List.mem_append] at hp
  exact Or.inr hp
 ·obtain ⟨_, _, _, _, _, hz, hn⟩ := hW
  refine ⟨hok, _, _, ([] ++ pa) ++ pv, ⟨[] ++ pa, pv, trodAll_append (hargs _ (fun _ _ => rfl)) (hres _ _ _), hvars _ (fun _ _ => rfl), rfl, ?_, ?_⟩, ?_⟩
  ·intro b off hp
   have hin : MemPlace.cell b off ∈ before := by rw [hps]; simpa using hp
   rw [hb.frozen (hlt _ hin)]
   exact hz b off hin
  ·intro ha
   have := hn ha
   rw [hps] at this
   simpa using this
  ·intro p hp _
   rw [hps]
   simpa using hp
end

theorem i64_of {x : Int} (h : (Lit.int .i64 x).wf = true) : -9223372036854775808 ≤ x ∧ x ≤ 9223372036854775807 := by
 simp [Lit.wf, IntKind.min, IntKind.max, IntKind.signed, IntKind.bits] at h
 omega
theorem cells3 : Tryz.prog.cellsOf 3 = 1 := by kernel_rfl
theorem cell_plain {W : World} {a : Addr} {i : Nat} {v v0 : Value} (h0 : W.cell? (a.add 0) = some v0) (h : W.cell? (a.add i) = some v) : ∃ g o, a = ⟨g, o, none⟩ ∧ g < W.heap.size ∧ W.cell? ⟨g, o + i, none⟩ = some v := by
 obtain ⟨g, o, sp⟩ := a
 have hsp : sp = none := by
  cases sp with
  | none => rfl
  | some q =>
   exfalso
   have hn : W.cell? ⟨g, o, some q⟩ = none := by
    unfold World.cell?
    simp only [Option.isSome_some, if_true]
    split <;> rfl
   have e : (⟨g, o, some q⟩ : Addr).add 0 = ⟨g, o, some q⟩ := rfl
   rw [e, hn] at h0; cases h0
 subst hsp
 have h' : W.cell? ⟨g, o + i, none⟩ = some v := by
  by_cases hi : i = 0
  ·subst hi; exact h
  ·simpa [Addr.add, hi] using h
 exact ⟨g, o, rfl, cell?_lt h', h'⟩
end Go.Proofs.YtelmcchleclklaaGreat
namespace Go.Proofs.YtelmcchleclklaaGreat
open Go.ChangeShapes Go.WideShapes Go.ChangeAt Go.WideMaps Go.WideElems Go.RowKit Go.Deep

section
variable {H : Type} {enc : TypeId × Value → H} {P : Program} {w : World} {base : Nat} {spare : Nat → Bool} {held : Bool}
theorem fields_in {t e : TypeId} {fs : Array Field} {fuel : Nat} {cs : List Value} {x : DataW H × List MemPlace} (ht : P.underlying t = some (.slice e)) (he : P.underlying e = some (.struct fs))
  (hone : oneCellFields P fs = true) (hC : P.cellsOf e = fs.size) (h : DataW.trod enc P w base spare held fuel t cs = some x) :
  cs = [.slice none 0 0] ∨
  ∃ (a : Addr) (len cap m : Nat), cs = [.slice (some a) len cap] ∧ len ≤ m ∧ len ≤ cap ∧ cap ≤ maxLen ∧
   ∀ i, i < m → ∃ n : Nat, ∀ (j : Nat) (f : Field), fs[j]? = some f → ∃ (v : Value) (y : DataW H × List MemPlace), w.cell? (a.add (i * fs.size + j)) = some v ∧ DataW.trod enc P w base spare held n f.type [v] = some y := by
 rcases open_slice ht h with ⟨h0, _⟩ | ⟨a, len, cap, m, n, D, Pl, hcs, hb, hl, hm, hmm, hx, hi⟩
 ·exact .inl h0
 ·refine .inr ⟨a, len, cap, m, hcs, by rw [hmm]; split <;> omega, hl, hm, fun i him => ?_⟩
  obtain ⟨cs', hc, ht'⟩ := hi i him
  rw [hC] at hc
  obtain ⟨ys, n', hn', hy, hlen, hyl, hf⟩ := DataW.trod_struct he ht'
  obtain ⟨_, hcl, hat⟩ := World.cells?_some hc
  refine ⟨n', fun j f hj => ?_⟩
  obtain ⟨ho, hk⟩ := hone_of hone j f hj
  have hjl : j < fs.size := (Array.getElem?_eq_some_iff.1 hj).1
  have hcell := hat j hjl
  have hv : cs'[j]? = some (cs'[j]'(by omega)) := List.getElem?_eq_getElem (by omega)
  have h1 := hf j f hj
  rw [ho, hk] at h1
  have hone' : (cs'.drop j).take 1 = [cs'[j]'(by omega)] := by
   rw [List.drop_eq_getElem_cons (by omega)]
   rfl
  rw [hone'] at h1
  have hys : ys[j]? = some (ys[j]'(by omega)) := List.getElem?_eq_getElem (by omega)
  refine ⟨_, _, ?_, h1.trans hys⟩
  rw [← Go.Deep.add_add, hcell, hv]
end
theorem ints_at {H : Type} {enc : TypeId × Value → H} {W : World} {n : Nat} {v : Value} {y : DataW H × List MemPlace} (h : DataW.trod enc Tryz.prog W 0 (fun _ => true) true n 29 [v] = some y) :
  ∃ (a : Option Addr) (xs : List Int) (c : Nat), v = .slice a xs.length c ∧ Nums W a xs ∧ xs.length ≤ 9223372036854775807 := by
 rcases open_ints Tryz.underlying29 Tryz.underlying3 cells3 h with ⟨hcs, hx⟩ | ⟨a, len', cap', zs, hcs, _, hl, hm, hz, hx, hcell, hwz⟩
 ·simp at hcs
  subst hcs
  exact ⟨none, [], 0, rfl, fun i x hx => by simp at hx, by simp⟩
 ·simp at hcs
  subst hcs
  unfold maxLen at hm
  have hzl : len' ≤ zs.length := by rw [hz]; simp; omega
  refine ⟨some a, zs.take len', cap', by rw [List.length_take, Nat.min_eq_left hzl], fun i x hx => ?_, by simp; omega⟩
  rw [List.getElem?_take] at hx
  split at hx
  ·have hlt : i < zs.length := by omega
   have hc := hcell i hlt
   rw [List.getD_eq_getElem?_getD, hx] at hc
   obtain ⟨g, o, rfl, h1, h2⟩ := cell_plain (hcell 0 (by omega)) hc
   exact ⟨g, o, rfl, h1, h2⟩
  ·cases hx
theorem acts14_in {H : Type} {enc : TypeId × Value → H} {W : World} {a0 : Option Addr} {len cap : Nat} {d : DataW H} {p : List MemPlace} (h : DataW.Trod enc Tryz.prog W 0 (fun _ => true) true 22 (.slice a0 len cap) d p) :
  ∃ L : List A14, L.length = len ∧ A14sIn W a0 L ∧ L.length ≤ 9223372036854775807 := by
 obtain ⟨fuel, hf⟩ := h
 obtain ⟨fs, hfs⟩ : ∃ fs, Tryz.prog.underlying 31 = some (.struct fs) := ⟨_, Tryz.underlying31⟩
 have e38 := hfs.symm.trans Tryz.underlying31
 injection e38 with e38
 injection e38 with e38
 have hsz : fs.size = 6 := by rw [e38]; rfl
 rcases fields_in Tryz.underlying22 hfs (by rw [e38]; kernel_rfl) (by rw [hsz]; kernel_rfl) hf with hcs | ⟨a, len', cap', m, hcs, hlm, hlc, hcm, hi⟩
 ·simp [Value.cells] at hcs
  obtain ⟨rfl, rfl, rfl⟩ := hcs
  exact ⟨[], rfl, fun i x hx => by simp at hx, by simp⟩
 ·simp [Value.cells] at hcs
  obtain ⟨rfl, rfl, rfl⟩ := hcs
  unfold maxLen at hcm
  have key : ∀ i, i < len → ∃ x : A14, ∃ g o, a = ⟨g, o, none⟩ ∧ g < W.heap.size ∧ W.cell? ⟨g, o + i * 6, none⟩ = some (.int .i64 x.what) ∧ W.cell? ⟨g, o + i * 6 + 1, none⟩ = some (.int .i64 x.stripe) ∧ W.cell? ⟨g, o + i * 6 + 2, none⟩ = some (.int .i64 x.seed) ∧ W.cell? ⟨g, o + i * 6 + 3, none⟩ = some (.int .i64 x.node) ∧
    W.cell? ⟨g, o + i * 6 + 4, none⟩ = some (.slice x.fa x.fs.length x.fc) ∧ W.cell? ⟨g, o + i * 6 + 5, none⟩ = some (.slice x.ka x.ks.length x.kc) ∧ Nums W x.fa x.fs ∧ Nums W x.ka x.ks ∧ x.fs.length ≤ 9223372036854775807 ∧ x.ks.length ≤ 9223372036854775807 := by
   intro i hil
   obtain ⟨n, hn⟩ := hi i (by omega)
   obtain ⟨n0, h00⟩ := hi 0 (by omega)
   have get : ∀ j, j < 4 → ∃ z : Int, W.cell? (a.add (i * 6 + j)) = some (.int .i64 z) ∧ (-9223372036854775808 ≤ z ∧ z ≤ 9223372036854775807) := by
    intro j hj
    obtain ⟨f, hfj, hft⟩ : ∃ f, fs[j]? = some f ∧ f.type = 3 := by
     rw [e38]
     match j, hj with
     | 0, _ => exact ⟨_, rfl, rfl⟩
     | 1, _ => exact ⟨_, rfl, rfl⟩
     | 2, _ => exact ⟨_, rfl, rfl⟩
     | 3, _ => exact ⟨_, rfl, rfl⟩
    obtain ⟨v, y, hv, hy⟩ := hn j f hfj
    rw [hft] at hy
    obtain ⟨z, hz, _, hw⟩ := DataW.trod_int Tryz.underlying3 hy
    simp at hz
    subst hz
    rw [hsz] at hv
    exact ⟨z, hv, i64_of hw⟩
   have g3 : ∀ j, 4 ≤ j → j < 6 → ∃ (b : Option Addr) (xs : List Int) (c : Nat), W.cell? (a.add (i * 6 + j)) = some (.slice b xs.length c) ∧ Nums W b xs ∧ xs.length ≤ 9223372036854775807 := by
    intro j hj4 hj
    obtain ⟨f, hfj, hft⟩ : ∃ f, fs[j]? = some f ∧ f.type = 29 := by
     rw [e38]
     match j, hj4, hj with
     | 4, _, _ => exact ⟨_, rfl, rfl⟩
     | 5, _, _ => exact ⟨_, rfl, rfl⟩
    obtain ⟨v, y, hv, hy⟩ := hn j f hfj
    rw [hft] at hy
    rw [hsz] at hv
    obtain ⟨b, xs, c, rfl, h1, h2⟩ := ints_at hy
    exact ⟨b, xs, c, hv, h1, h2⟩
   have g0 : ∃ v, W.cell? (a.add 0) = some v := by
    obtain ⟨f, hfj⟩ : ∃ f, fs[0]? = some f := by rw [e38]; exact ⟨_, rfl⟩
    obtain ⟨v, y, hv, hy⟩ := h00 0 f hfj
    rw [hsz] at hv
    exact ⟨v, hv⟩
   obtain ⟨v0, hv0⟩ := g0
   obtain ⟨z0, q0, _⟩ := get 0 (by omega)
   obtain ⟨z1, q1, _⟩ := get 1 (by omega)
   obtain ⟨z2, q2, _⟩ := get 2 (by omega)
   obtain ⟨z3, q3, _⟩ := get 3 (by omega)
   obtain ⟨b4, xs4, cc4, q4, hn4, hl4⟩ := g3 4 (by omega) (by omega)
   obtain ⟨b5, xs5, cc5, q5, hn5, hl5⟩ := g3 5 (by omega) (by omega)
   obtain ⟨g, o, rfl, hg, c0⟩ := cell_plain hv0 q0
   obtain ⟨g1, o1, e1, _, c1⟩ := cell_plain hv0 q1
   obtain ⟨g2, o2, e2, _, c2⟩ := cell_plain hv0 q2
   obtain ⟨g3', o3, e3, _, c3⟩ := cell_plain hv0 q3
   obtain ⟨g4, o4, e4, _, c4⟩ := cell_plain hv0 q4
   obtain ⟨g5, o5, e5, _, c5⟩ := cell_plain hv0 q5
   cases e1
   cases e2
   cases e3
   cases e4
   cases e5
   exact ⟨⟨z0, z1, z2, z3, b4, xs4, cc4, b5, xs5, cc5⟩, g, o, rfl, hg, c0, c1, c2, c3, c4, c5, hn4, hn5, hl4, hl5⟩
  have ex : ∀ n, n ≤ len → ∃ L : List A14, L.length = n ∧ A14sIn W (some a) L := by
   intro n
   induction n with
   | zero => intro _; exact ⟨[], rfl, fun i x hx => by simp at hx⟩
   | succ n ih =>
    intro hn
    obtain ⟨L, hl, h1⟩ := ih (by omega)
    obtain ⟨x, g, o, ea, hx⟩ := key n (by omega)
    refine ⟨L ++ [x], by simp [hl], fun i y hy => ?_⟩
    by_cases hi : i < L.length
    ·rw [List.getElem?_append_left hi] at hy
     exact h1 i y hy
    ·rw [List.getElem?_append_right (by omega)] at hy
     have e : i = n := by
      have := (List.getElem?_eq_some_iff.1 hy).1
      simp at this
      omega
     subst e
     rw [hl, Nat.sub_self] at hy
     cases hy
     exact ⟨g, o, by rw [ea], hx⟩
  obtain ⟨L, hl, h1⟩ := ex len (Nat.le_refl _)
  exact ⟨L, hl, h1, by omega⟩
end Go.Proofs.YtelmcchleclklaaGreat
