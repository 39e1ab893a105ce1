import Derived.Test.YtjgbfghkiahfaaaGreatDoorV12
import Derived.Test.YtjgbfghkiahfaaaGreatDoorV37
import Derived.Test.YtjgbfghkiahfaaaGreatDoorV30
namespace Go.Proofs.YtjgbfghkiahfaaaGreatDoor
open Go.RowKit Go.Sort
set_option maxRecDepth 100000
set_option maxHeartbeats 1000000

/-- corbelref7.SameInts. -/
theorem lsame (A1 A2 : Option Addr) (xs ys : List Int) (c1 c2 : Nat) (w : World) (h1 : Nums w A1 xs) (h2 : Nums w A2 ys) (l1 : xs.length ≤ 1000000000) (t : Bool) (ht : t = true ↔ xs = ys) :
    Calls Tryz.prog 22 #[.slice A1 xs.length c1, .slice A2 ys.length c2] w fun e w' => e = .returned (.bool t) ∧ Below w.heap.size w w' := by
  by_cases hl : xs.length = ys.length
  · obtain ⟨n, hn⟩ : ∃ n, xs.length = n := ⟨_, rfl⟩
    have e2 : ys.length = n := by omega
    rw [e2, hn]
    have H1 := Lib.hid h1
    have H2 := Lib.hid h2
    have HN := Lib.hid hn
    have HM := Lib.hid e2
    have HT := Lib.hid ht
    rw [hn] at l1
    clear hl hn e2 h1 h2 ht
    go_enter Tryz.func22, Tryz.ntmps22
    go_wp2_with fail
    go_loopg [5] n (fun q s5 v => ∃ i : Nat, s5 = .int .i64 (i : Int) ∧ i ≤ n ∧ q = n - i ∧ Hid (xs.take i = ys.take i ∧ Below w.heap.size w v))
    case atStart => exact ⟨0, rfl, by omega, rfl, Lib.hid ⟨rfl, Below.refl _ _⟩⟩
    case round =>
      obtain ⟨i, rfl, hi, rfl, HS⟩ := hrel
      generalize wr = v at *
      by_cases hlt : i < n
      · have hl3 : (i : Int) < (n : Int) := by omega
        obtain ⟨x, hx⟩ : ∃ x, xs[i]? = some x := ⟨_, List.getElem?_eq_getElem (by rw [HN.out]; exact hlt)⟩
        obtain ⟨y, hy⟩ : ∃ y, ys[i]? = some y := ⟨_, List.getElem?_eq_getElem (by rw [HM.out]; exact hlt)⟩
        obtain ⟨g, o, rfl, hg, hc⟩ := H1.out i x hx
        obtain ⟨g', o', rfl, hg', hc'⟩ := H2.out i y hy
        have d1 : ∀ k, (v.drewN k).cell? ⟨g, o + i, none⟩ = some (.int .i64 x) := fun k => (HS.out.2.cell (p := ⟨g, o + i, none⟩) hg).trans hc
        have d2 : ∀ k, (v.drewN k).cell? ⟨g', o' + i, none⟩ = some (.int .i64 y) := fun k => (HS.out.2.cell (p := ⟨g', o' + i, none⟩) hg').trans hc'
        have d1' := d1 0
        have d2' := d2 0
        have HX := Lib.hid hx
        have HY := Lib.hid hy
        clear hx hy hc hc' hg hg'
        by_cases e : x = y
        · subst e
          have t1 : (x != x) = false := by simp
          go_wp2_with fail
          go_big_quiet (fail)
          go_wp2_with fail
          go_roundg (n - (i + 1))
          case measure => omega
          case rel => exact ⟨i + 1, by go_num, by omega, rfl, Lib.hid ⟨by rw [List.take_add_one, List.take_add_one, HX.out, HY.out, HS.out.1], HS.out.2.trans ((below_drewN _ _).mono HS.out.2.size)⟩⟩
        · have t1 : (x != y) = true := by simpa using e
          have HF : Hid (t = false) := Lib.hid (by
            cases t with
            | false => rfl
            | true =>
              have := HT.out.1 rfl
              subst this
              have h := HX.out
              rw [HY.out] at h
              cases h
              exact absurd rfl e)
          clear e
          go_wp2_with fail
          go_big_quiet (fail)
          go_wp2_with fail
          go_ret
          exact ⟨congrArg (fun b => Ending.returned (Value.bool b)) HF.out.symm, HS.out.2.trans ((below_drewN _ _).mono HS.out.2.size)⟩
      · obtain rfl : i = n := by omega
        have hge : ¬ (i : Int) < (i : Int) := by omega
        have HF : Hid (t = true) := Lib.hid (HT.out.2 (by
          have := HS.out.1
          rwa [List.take_of_length_le (by rw [HN.out]; omega), List.take_of_length_le (by rw [HM.out]; omega)] at this))
        clear hlt
        go_wp2_with fail
        go_ret
        exact ⟨congrArg (fun b => Ending.returned (Value.bool b)) HF.out.symm, HS.out.2⟩
  · have e1 : ((xs.length : Int) != (ys.length : Int)) = true := by rw [bne_iff_ne]; omega
    have HF : Hid (t = false) := Lib.hid (by
      cases t with
      | false => rfl
      | true => exact absurd (congrArg List.length (ht.1 rfl)) hl)
    clear hl ht h1 h2
    generalize xs.length = n at *
    generalize ys.length = m at *
    go_enter Tryz.func22, Tryz.ntmps22
    go_wp2_with fail
    go_ret
    exact ⟨congrArg (fun b => Ending.returned (Value.bool b)) HF.out.symm, Below.refl _ _⟩
end Go.Proofs.YtjgbfghkiahfaaaGreatDoor
namespace Go.Proofs.YtjgbfghkiahfaaaGreatDoor
open Go.RowKit Go.Sort
set_option maxRecDepth 100000
set_option maxHeartbeats 2000000

theorem wf_block (g : Nat) (t : TypeId) (fr : Nat × Nat) : ∀ (vs : List Value) (o : Nat) (w : World) (cur : Array Value), w.heap[g]? = some (.cells cur t fr) → o + vs.length ≤ cur.size →
    ∃ cur', (w.setCells g o vs).heap[g]? = some (.cells cur' t fr) ∧ cur'.size = cur.size ∧ (∀ j, j < vs.length → cur'[o + j]? = vs[j]?) ∧ ∀ j, j < o ∨ o + vs.length ≤ j → cur'[j]? = cur[j]?
  | [], o, w, cur, h, _ => ⟨cur, h, rfl, fun j hj => absurd hj (by simp), fun _ _ => rfl⟩
  | v :: r, o, w, cur, h, hs => by
    rw [List.length_cons] at hs
    obtain ⟨c', h1, h2, h3, h4⟩ := wf_block g t fr r (o + 1) (w.setCell ⟨g, o, none⟩ v) (cur.setIfInBounds o v) (set_block h o v) (by rw [Array.size_setIfInBounds]; omega)
    refine ⟨c', h1, by rw [h2, Array.size_setIfInBounds], fun j hj => ?_, fun j hj => ?_⟩
    · cases j with
      | zero =>
        rw [Nat.add_zero, h4 o (Or.inl (by omega))]
        simp [show o < cur.size by omega]
      | succ j =>
        rw [List.length_cons] at hj
        rw [show o + (j + 1) = o + 1 + j by omega, h3 j (by omega)]
        rfl
    · rw [List.length_cons] at hj
      rw [h4 j (by omega), Array.getElem?_setIfInBounds]
      rw [if_neg (by omega)]
theorem wf_turn (g : Nat) : ∀ (vs : List Value) (o : Nat) (w : World), Turn [g] w (w.setCells g o vs)
  | [], _, w => Turn.refl _ w
  | v :: r, o, w => (Turn.set [g] w ⟨g, o, none⟩ v (by simp)).trans (wf_turn g r (o + 1) _)
theorem wf_own {w : World} {base n : Nat} {v : Value} {F : List Int} (h : w.ownsRow base 3 1 v n (intsV F)) : FatV w v F ∧ ∀ k ∈ fatB v, base ≤ k := by
  have hl : F.length = n := by have := h.1; simpa [intsV] using this
  subst hl
  rcases h.2 with ⟨rfl, h0⟩ | ⟨g, cap, cur, rfl, hb, hg, h1, h2, h3, h4⟩
  · have : F = [] := List.eq_nil_of_length_eq_zero h0
    subst this
    exact ⟨FatV.nil w, fun k hk => by simp [fatB] at hk⟩
  · refine ⟨⟨_, cap, rfl, h1, h2, fun _ => ⟨g, 0, cur, rfl, hg, by omega, fun i x hx => ?_⟩⟩, fun k hk => ?_⟩
    · have := h.cells (g := g) rfl i (.int .i64 x) (by simp [intsV, hx])
      rw [addr_add, cell_of_block hg] at this
      exact this
    · unfold fatB at hk
      dsimp only at hk
      split at hk
      · simp at hk; omega
      · simp at hk
theorem run_append_fat (w : World) (ty : TypeId) {v : Value} {F : List Int} (hf : FatV w v F) (A : Option Addr) (n c : Nat) (xs : List Int) (hn : xs.length = n) (hN : Nums w A xs) (hlen : F.length + n ≤ 1000000) :
    ∃ v' w', (Builtin.append_ #[43, 43] ty #[v, .slice A n c]).run Tryz.prog w = .ok v' w' ∧ FatV w' v' (F ++ xs) ∧ Turn (fatB v) w w' ∧ ∀ k ∈ fatB v', k ∈ fatB v ∨ w.heap.size ≤ k := by
  obtain ⟨i0, hi0, hz0, hz1, hz2⟩ := info_parts infoInt
  obtain ⟨A0, c0, rfl, h1, h2, h3⟩ := hf
  by_cases h0 : n = 0
  · subst h0
    obtain rfl : xs = [] := List.eq_nil_of_length_eq_zero hn
    refine ⟨.slice A0 F.length c0, w, ?_, by rw [List.append_nil]; exact ⟨A0, c0, rfl, h1, h2, h3⟩, Turn.refl _ _, fun k hk => Or.inl hk⟩
    have hld : ∀ a : Addr, Sem.run Tryz.prog (loadCells a 0) w = .ok #[] w := fun a => rfl
    cases A <;> cases A0 <;> simp [Builtin.append_, run_underlying Tryz.underlying43, sizeOf, typeInfo, hi0, Builtin.lenOf, Builtin.firstCells, h1, storeCells, hld, Result.andThen]
  · obtain ⟨x0, hx0⟩ : ∃ x, xs[0]? = some x := ⟨_, List.getElem?_eq_getElem (by omega)⟩
    obtain ⟨g, o, rfl, hg, _⟩ := hN 0 x0 hx0
    have hnews : ∀ j u, (intsV xs)[j]? = some u → w.cell? ((⟨g, o, none⟩ : Addr).add j) = some u := by
      intro j u hu
      unfold intsV at hu
      rw [List.getElem?_map] at hu
      cases hx : xs[j]? with
      | none => rw [hx] at hu; cases hu
      | some x =>
        rw [hx] at hu
        cases hu
        obtain ⟨g', o', e, _, hc⟩ := hN j x hx
        cases e
        rw [addr_add]
        exact hc
    have hone : ∀ u ∈ intsV xs, u.oneCell' = true := fun u hu => by
      unfold intsV at hu
      obtain ⟨x, _, rfl⟩ := List.mem_map.1 hu
      rfl
    have hl : (intsV xs).length = n * 1 := by simp [intsV, hn]
    have hm1 : F.length + n ≤ maxLen := by unfold maxLen; omega
    by_cases hc : F.length + n ≤ c0
    · obtain ⟨gf, of, row, rfl, r1, r2, r3⟩ := h3 (by omega)
      have hrun := run_append_room_cells (P := Tryz.prog) w 43 ty 3 i0 Tryz.underlying43 hi0 gf of F.length c0 ⟨g, o, none⟩ n c (intsV xs) (by rw [hz1]; exact hl) hnews hone hc (fun j hj => by
        rw [hz1, cell_of_block r1, Nat.mul_one]
        rw [hl] at hj
        rw [Array.getElem?_eq_getElem (by omega)]
        rfl) (fun j _ => free_of_block r1)
      rw [hz1, Nat.mul_one] at hrun
      obtain ⟨row', k1, k2, k3, k4⟩ := wf_block gf 3 (0, 0) (intsV xs) (of + F.length) w row r1 (by rw [hl]; omega)
      have hfb : fatB (.slice (some ⟨gf, of, none⟩) F.length c0) = [gf] := by simp [fatB]; omega
      refine ⟨_, _, hrun, ⟨_, c0, by rw [List.length_append, hn], by rw [List.length_append, hn]; exact hc, h2, fun _ => ⟨gf, of, row', rfl, k1, by omega, fun i x hx => ?_⟩⟩, ?_, fun k hk => Or.inl ?_⟩
      · by_cases hi : i < F.length
        · rw [k4 _ (Or.inl (by omega))]
          rw [List.getElem?_append_left hi] at hx
          exact r3 i x hx
        · rw [List.getElem?_append_right (by omega)] at hx
          have hlt := (List.getElem?_eq_some_iff.1 hx).1
          have := k3 (i - F.length) (by rw [hl]; omega)
          rw [show of + F.length + (i - F.length) = of + i by omega] at this
          rw [this]
          simp [intsV, hx]
      · rw [hfb]
        exact wf_turn gf _ _ _
      · rw [hfb]
        have : 0 < c0 := by omega
        simp [fatB, this] at hk
        simp [hk]
    · have key : ∃ v' w', (Builtin.append_ #[43, 43] ty #[.slice A0 F.length c0, .slice (some ⟨g, o, none⟩) n c]).run Tryz.prog w = .ok v' w' ∧ w'.ownsRow w.heap.size 3 1 v' (F.length + n) (intsV F ++ intsV xs) ∧ w.grownBy w' none := by
        cases A0 with
        | some b =>
          refine run_append_arg_grows (P := Tryz.prog) w 43 ty 3 i0 (.int .i64 0) 1 8 Tryz.underlying43 hi0 hz0 hz1 hz2 rfl (by decide) b F.length c0 (intsV F) (by simp [intsV]) (fun j u hu => ?_) ⟨g, o, none⟩ n c (intsV xs) hl hnews (by omega) hm1 (by omega)
          unfold intsV at hu
          rw [List.getElem?_map] at hu
          cases hx : F[j]? with
          | none => rw [hx] at hu; cases hu
          | some x =>
            rw [hx] at hu
            cases hu
            have := (List.getElem?_eq_some_iff.1 hx).1
            obtain ⟨gf, of, row, e, r1, r2, r3⟩ := h3 (by omega)
            cases e
            rw [addr_add, cell_of_block r1]
            exact r3 j x hx
        | none =>
          have hc0 : c0 = 0 := by
            rcases Nat.eq_zero_or_pos c0 with h | h
            · exact h
            · obtain ⟨_, _, _, e, _⟩ := h3 h
              cases e
          subst hc0
          obtain rfl : F = [] := List.eq_nil_of_length_eq_zero (by omega)
          obtain ⟨v', w', hrun, q1, q2, _⟩ := run_append_own (P := Tryz.prog) w w.heap.size 43 ty 3 i0 (.int .i64 0) 1 8 Tryz.underlying43 hi0 hz0 hz1 hz2 rfl (by decide) (.slice none 0 0) 0 [] (World.ownsRow_nil _ _ _ _) ⟨g, o, none⟩ n c (intsV xs) hl hnews hone (by unfold maxLen; simp at hlen; omega) (by simp at hlen; omega) (Nat.le_refl _)
          exact ⟨v', w', hrun, by simpa [intsV] using q1, q2⟩
      obtain ⟨v', w', hrun, q1, q2⟩ := key
      rw [← show intsV (F ++ xs) = intsV F ++ intsV xs by simp [intsV]] at q1
      obtain ⟨z1, z2⟩ := wf_own q1
      exact ⟨v', w', hrun, z1, ⟨q2.os, q2.tape, q2.output, q2.size, fun k hk _ => q2.block k hk (by simp)⟩, fun k hk => Or.inr (z2 k hk)⟩
/-- append to the fates that wait, as a step of a region. -/
theorem step_append_fat (w : World) {ops : Array Oper} {o : Oper} {a : Act} {K : Act → World → Prop} {Q : Exit → Act → World → Prop} {E : Prop} (hgd : o.guard = none) (s x : Operand)
    (ho : o.op = .call { callee := .builtin .append, args := #[s, x], argTypes := #[43, 43] })
    (v : Value) (F : List Int) (hs : a.eval s = v) (hf : FatV w v F) (A : Option Addr) (n c : Nat) (xs : List Int) (hx : a.eval x = .slice A n c) (hn : xs.length = n) (hN : Nums w A xs) (hlen : F.length + n ≤ 1000000)
    (h : ∀ A' l c' w', FatV w' (.slice A' l c') (F ++ xs) → Turn (fatB v) w w' → (∀ k ∈ fatB (.slice A' l c'), k ∈ fatB v ∨ w.heap.size ≤ k) → K (a.put o.dst (.slice A' l c')) w') :
    if Region.wanted o (yielded ops a.tmps) = true then Oper.wp Tryz.prog o a w K Q else E := by
  have hw : Region.wanted o (yielded ops a.tmps) = true := by simp [Region.wanted, hgd]
  rw [if_pos hw]
  obtain ⟨v', w', hrun, r1, r2, r3⟩ := run_append_fat w o.type hf A n c xs hn hN hlen
  unfold Oper.wp
  simp [execOp, ho, resolve, invoke, builtin, hs, hx, hrun, Result.andThen]
  have r1' := r1
  obtain ⟨A', c', rfl, _⟩ := r1'
  exact h A' _ c' w' r1 r2 r3
end Go.Proofs.YtjgbfghkiahfaaaGreatDoor
namespace Go.Proofs.YtjgbfghkiahfaaaGreatDoor
open Go.RowKit Go.Sort
set_option maxRecDepth 100000
set_option maxHeartbeats 2000000

/-- The fates grow. -/
theorem WL.grow {w0 v : World} {g : Nat} {nd : Nat → Nat} {s : Wp} (h : WL w0 v g nd s) : ∃ fv, v.cell? ⟨g, 16, none⟩ = some fv ∧ FatV v fv s.F ∧ ∀ v' w' F', FatV w' v' F' → Turn (fatB fv) v w' → (∀ k ∈ fatB v', k ∈ fatB fv ∨ v.heap.size ≤ k) →
    WL w0 (w'.setCell ⟨g, 16, none⟩ v') g nd { s with F := F' } ∧ KeepW v (w'.setCell ⟨g, 16, none⟩ v') ∧ w'.frozen? ⟨g, 16, none⟩ = false ∧ w'.cell? ⟨g, 16, none⟩ = some fv := by
  obtain ⟨T, fv, h1, h2, h3, h4, h5⟩ := h
  refine ⟨fv, h1.cf, h1.fat, fun v' w' F' hf t hb => ?_⟩
  have hne : ∀ (j : Nat) (cs : Array Value) (ty : TypeId) (fr : Nat × Nat), v.heap[j]? = some (.cells cs ty fr) → ty ≠ 3 → w'.heap[j]? = v.heap[j]? := by
    intro j cs ty fr hj ht
    refine t.block j (heap_lt hj) (fun hm => ?_)
    obtain ⟨row, hr⟩ := h1.fat.type j hm
    rw [hj] at hr
    cases hr
    exact ht rfl
  have hd : w'.heap[g]? = _ := (hne _ _ _ _ h1.hd (by decide)).trans h1.hd
  have hk : KeepW v w' := ⟨t.size, fun k o hk' ho => by
    by_cases hm : k ∈ fatB fv
    · obtain ⟨row, hr⟩ := h1.fat.type k hm
      rw [hk'] at hr
      cases hr
      exact absurd (Or.inr (Or.inr rfl)) (ho _ _ _ rfl)
    · exact (t.block k (heap_lt hk') hm).trans hk'⟩
  have hw : WM w' g 8 nd T v' { s with F := F' } ∨ True := Or.inr trivial
  clear hw
  refine ⟨⟨T, v', ⟨?_, hf.keep (fun j hj => set_other (fun e => ?_) _ _), fun i hi => ?_, h1.sep⟩, (Below.of_turn h2 t (fun k hk => h4 k hk) h2.size).setCell h3 _, h3, fun k hk => ?_, h5⟩, hk.trans (KeepW.set hd), free_of_block hd, ?_⟩
  · rw [set_block hd]
    rfl
  · subst e
    obtain ⟨row, hr⟩ := hf.type j hj
    rw [hd] at hr
    injection hr with hr
    injection hr with _ hr
    exact absurd hr (by decide)
  · obtain ⟨r, p, sb, S, q1, q2, q3⟩ := h1.node i hi
    refine ⟨r, p, sb, S, (q1.keep (fun k hk => ?_) (fun j cs hj => hne _ _ _ _ hj (by decide))).set hd (by decide) (by decide) (by decide) (by decide) (by decide) (by decide) (by decide), q2, q3⟩
    obtain ⟨cs, ty, hc, ht⟩ := q1.type k hk
    exact hne _ _ _ _ hc (fun e => int_notN (e ▸ ht))
  · rcases hb k hk with h | h
    · exact h4 k h
    · exact Nat.le_trans h2.size h
  · rw [cell_of_block hd]
    rfl
theorem Nums.take {w : World} {A : Option Addr} {xs : List Int} (h : Nums w A xs) (k : Nat) : Nums w A (xs.take k) := fun i x hi => by
  rw [List.getElem?_take] at hi
  split at hi
  · exact h i x hi
  · cases hi
theorem wl_fates {w0 v : World} {g : Nat} {nd : Nat → Nat} {s : Wp} (h : WL w0 v g nd s) (hs : s.F.length ≤ 1000) (A : Option Addr) (xs : List Int) (c : Nat) (hN : Nums v A xs) (hx : xs.length ≤ 1000000) (hc : xs.length ≤ c) :
    Calls Tryz.prog 13 #[.pointer (some ⟨g, 0, none⟩), .slice A xs.length c] v (WRet w0 v g nd { s with F := s.F ++ xs.take (1000 - s.F.length) } (.tuple #[])) := by
  obtain ⟨fv, c1, hf, hG⟩ := (h.below (below_drewN 1 v)).grow
  have c2 : v.cell? ⟨g, 16, none⟩ = some fv := c1
  have KD := Lib.hid (KeepW.of (below_drewN 1 v))
  have HF := Lib.hid hf
  have HG := Lib.hid hG
  obtain ⟨A0, c0, rfl, hc0, hm0, _⟩ := hf
  obtain ⟨m, hm⟩ : ∃ m, s.F.length = m := ⟨_, rfl⟩
  obtain ⟨n, hn⟩ : ∃ n, xs.length = n := ⟨_, rfl⟩
  obtain ⟨k, hk⟩ : ∃ k, min n (1000 - m) = k := ⟨_, rfl⟩
  rw [hm] at c1 c2 hs HF HG hc0
  rw [hn] at hx hc ⊢
  have hwr : IntKind.i64.wrap (1000 - (m : Int)) = ((1000 - m : Nat) : Int) := by rw [IntWalk.i64_in _ (by omega)]; omega
  obtain ⟨rm, hrm⟩ : ∃ rm, 1000 - m = rm := ⟨_, rfl⟩
  rw [hrm] at hwr hk
  have hmin : min (n : Int) (rm : Int) = (k : Int) := by omega
  have hkn : k ≤ n := by omega
  have hkc : (k : Int) ≤ (c : Int) := by omega
  have hl : (xs.take k).length = k := by rw [List.length_take, hn]; omega
  have HL := Lib.hid hl
  have HN : Hid (Nums v.drew A (xs.take k)) := Lib.hid ((hN.take k).keep (below_drewN 1 v))
  have HT : Hid (xs.take (1000 - s.F.length) = xs.take k) := Lib.hid (by rw [hm, hrm, ← hk, ← hn]; exact (List.take_eq_take_iff.2 (by omega)))
  have HM := Lib.hid hm
  have hmk : m + k ≤ 1000000 := by omega
  clear hG hN hl hm hn hk hrm h
  by_cases hlt : rm < n
  · obtain rfl : k = rm := by omega
    have hr0 : (0 : Int) ≤ (k : Int) := by omega
    clear hmin hkn
    go_enter Tryz.func13, Tryz.ntmps13
    go_upto_region 2 with fail
    go_region_law (first | (show (if Region.wanted (Oper.mk (some 24) _ _ _ _ _) _ = true then _ else _); refine step_append_fat _ rfl (.tmp 17) (.tmp 23) rfl (.slice A0 m c0) s.F rfl HF.out A k c (xs.take k) rfl HL.out HN.out (by rw [HM.out]; exact hmk) ?_; intro A9 l9 d9 w9 hf9 ht9 hb9; have H9 := Lib.hid (HG.out (.slice A9 l9 d9) w9 _ hf9 ht9 hb9); clear hf9; have f9 := H9.out.2.2.1; have c9 := H9.out.2.2.2; clear ht9 hb9))
    all_goals
      go_end0
      rw [HT.out]
      exact ⟨rfl, H9.out.1, KD.out.trans H9.out.2.1⟩
  · obtain rfl : k = n := by omega
    have hr0 : (0 : Int) ≤ (k : Int) := by omega
    clear hmin hkn
    go_enter Tryz.func13, Tryz.ntmps13
    go_upto_region 2 with fail
    go_region_law (first | (show (if Region.wanted (Oper.mk (some 24) _ _ _ _ _) _ = true then _ else _); refine step_append_fat _ rfl (.tmp 17) (.tmp 23) rfl (.slice A0 m c0) s.F rfl HF.out A k c (xs.take k) rfl HL.out HN.out (by rw [HM.out]; exact hmk) ?_; intro A9 l9 d9 w9 hf9 ht9 hb9; have H9 := Lib.hid (HG.out (.slice A9 l9 d9) w9 _ hf9 ht9 hb9); clear hf9; have f9 := H9.out.2.2.1; have c9 := H9.out.2.2.2; clear ht9 hb9))
    all_goals
      go_end0
      rw [HT.out]
      exact ⟨rfl, H9.out.1, KD.out.trans H9.out.2.1⟩
end Go.Proofs.YtjgbfghkiahfaaaGreatDoor
namespace Go.Proofs.YtjgbfghkiahfaaaGreatDoor
open Go.RowKit Go.Extern.Stop Go.Stop Go.Extern Go.Extern.Rtype
set_option maxRecDepth 100000
set_option maxHeartbeats 1000000

theorem we_partsE (c : Int) (w : World) : Calls Tryz.prog 63 #[ev c] w fun e w' => e = .returned (.slice none 0 0) ∧ Below w.heap.size w w' := by
  have hmf : ∀ (fn : Fn) (first cap : Array Value) (w : World), (Instr.makeFunc fn first cap).run Tryz.prog w = .ok (.func fn first cap) w := fun _ _ _ _ => rfl
  have t7 := we_taUnE
  have t8 := we_taUnsE
  go_enter_defers Tryz.func63, Tryz.ntmps63
  go_wp2_with fail
  refine leaves_cons (f := 82) (args := #[.pointer (some ⟨w.heap.size, 0, none⟩)]) (by simp) (by simp [go_sem]) ?_
  refine (we_partsIdle ⟨w.heap.size, 0, none⟩ _).mono ?_
  rintro e u' w'' ⟨rfl, rfl, rfl⟩
  simp [Leaves, settle, results, Tryz.results63, go_sem]
  exact (Below.refl _ w).alloc (Nat.le_refl _) _

theorem we_partsN {w : World} {b : Nat} {n c : Int} (h : OnE w b n c) : Calls Tryz.prog 63 #[onv b] w fun e w' => ∃ g, e = .returned (.slice (some ⟨g, 0, none⟩) 1 1) ∧ w'.cell? ⟨g, 0, none⟩ = some (ev c) ∧ g < w'.heap.size ∧ Below w.heap.size w w' := by
  have hmf : ∀ (fn : Fn) (first cap : Array Value) (w : World), (Instr.makeFunc fn first cap).run Tryz.prog w = .ok (.func fn first cap) w := fun _ _ _ _ => rfl
  have t7 := we_taUnN
  have t9 := we_mUnN
  have t10 := we_naUnN
  have H := Lib.hid h
  clear h
  go_enter_defers Tryz.func63, Tryz.ntmps63
  go_wp2_with (go_at_call 151; refine (onUnwrap b _ _ _ (H.out.below ((Below.refl _ _).alloc (Nat.le_refl _) _))).mono ?_; rintro e w' ⟨rfl, rfl⟩)
  refine leaves_cons (f := 82) (args := #[.pointer (some ⟨w.heap.size, 0, none⟩)]) (by simp) (by simp [go_sem]) ?_
  refine (we_partsIdle ⟨w.heap.size, 0, none⟩ _).mono ?_
  rintro e u' w'' ⟨rfl, rfl, rfl⟩
  simp [Leaves, settle, results, Tryz.results63, go_sem]
  exact ((Below.refl _ w).alloc (Nat.le_refl _) _).alloc (by simp) _

/-- How gather and Nodes end: a row of one's own. -/
def NodesRet (base : Nat) (l : List Int) (w : World) (e : Ending) (w' : World) : Prop := ∃ v, e = .returned v ∧ w'.ownsRow base 3 1 v l.length (intsV l) ∧ Below base w w'

theorem we_gatherE (v : Value) (c : Int) (w : World) : Calls Tryz.prog 47 #[v, ev c] w fun e w' => e = .returned v ∧ Below w.heap.size w w' := by
  have a1 := we_taOnE
  have hlen' : ∀ (w : World) (a : Option Addr) (n c : Nat), (Builtin.len_ #[103] 3 #[.slice a n c]).run Tryz.prog w = .ok (.int .i64 n) w := fun _ _ _ _ => by kernel_rfl
  go_enter Tryz.func47, Tryz.ntmps47
  go_wp2_with fail
  refine (we_partsE c w).mono ?_
  rintro e w2 ⟨rfl, hb2⟩
  have HB := Lib.hid hb2
  clear hb2
  go_wp2_with fail
  go_loopg [0, 29] 0 (fun q s0 s29 wr => s0 = v ∧ s29 = .int .i64 0 ∧ wr = w2)
  case atStart => exact ⟨rfl, rfl, rfl⟩
  case round =>
    obtain ⟨hs0, rfl, hwr⟩ := hrel
    subst hs0
    subst hwr
    go_wp2_with fail
    go_ret
    exact ⟨rfl, HB.out⟩

theorem we_gatherN {w : World} {b : Nat} {n c : Int} (h : OnE w b n c) : Calls Tryz.prog 47 #[.slice none 0 0, onv b] w (NodesRet w.heap.size [n] w) := by
  have a1 := we_taOnN
  have hc : w.cell? ⟨b, 0, none⟩ = some (.int .i64 n) := by simp [World.cell?, show w.heap[b]? = _ from h]
  have hlen' : ∀ (w : World) (a : Option Addr) (n c : Nat), (Builtin.len_ #[103] 3 #[.slice a n c]).run Tryz.prog w = .ok (.int .i64 n) w := fun _ _ _ _ => by kernel_rfl
  have H := Lib.hid h
  clear h
  go_enter Tryz.func47, Tryz.ntmps47
  go_upto_region 3 with fail
  go_wp2_with (at_builtin; refine append_int _ rfl (.tmp 19) (.tmp 24) rfl w.heap.size (.slice none 0 0) 0 [] rfl (World.ownsRow_nil _ _ _ _) w.heap.size n rfl ?c1 (by omega) (by simp) ?_)
  case c1 => simp [go_sem]
  intro g1 cap1 w1 hown1 hgrow1 _ _
  have hb1 : Below w.heap.size w w1 := ((Below.refl _ w).alloc (Nat.le_refl _) _).grown hgrow1 (by simp) (fun k hk => by cases hk)
  have HO1 := Lib.hid (And.intro hown1 hb1)
  clear hown1 hgrow1 hb1 hc
  go_wp2_with fail
  refine (we_partsN (H.out.below HO1.out.2)).mono ?_
  rintro e w2 ⟨g, rfl, hg, hgl, hb2⟩
  have HB2 := Lib.hid hb2
  have HG := Lib.hid (And.intro hg hgl)
  clear hb2 hg hgl
  go_wp2_with fail
  go_loopg [0, 29] 1 (fun q s0 s29 wr => ∃ i : Nat, s29 = .int .i64 i ∧ i ≤ 1 ∧ q = 1 - i ∧ s0 = .slice (some ⟨g1, 0, none⟩) 1 cap1 ∧ Below w2.heap.size w2 wr)
  case atStart => exact ⟨0, rfl, by omega, rfl, rfl, Below.refl _ _⟩
  case round =>
    obtain ⟨i, rfl, hi, rfl, rfl, hb⟩ := hrel
    by_cases h0 : i < 1
    · obtain rfl : i = 0 := by omega
      have hcell : wr.cell? ⟨g, 0, none⟩ = some (ev c) := (hb.cell (p := ⟨g, 0, none⟩) HG.out.2).trans HG.out.1
      have HB := Lib.hid hb
      clear hb
      go_wp2_with fail
      refine (we_gatherE _ c _).mono ?_
      rintro e w3 ⟨rfl, hb3⟩
      have HB3 := Lib.hid hb3
      clear hb3
      go_wp2_with fail
      go_roundg 0
      case measure => omega
      case rel => exact ⟨1, rfl, by omega, rfl, rfl, HB.out.trans (HB3.out.mono HB.out.size)⟩
    · obtain rfl : i = 1 := by omega
      have HB := Lib.hid hb
      clear hb
      go_wp2_with fail
      go_ret
      have hbx : Below w1.heap.size w1 wr := HB2.out.trans (HB.out.mono HB2.out.size)
      exact ⟨_, rfl, own_keep HO1.out.1 hbx, HO1.out.2.trans (hbx.mono HO1.out.2.size)⟩

/-- Nodes of an error that a node's is. -/
theorem we_nodes {w : World} {b : Nat} {n c : Int} (h : OnE w b n c) : Calls Tryz.prog 23 #[onv b] w (NodesRet w.heap.size [n] w) := by
  have H := Lib.hid h
  clear h
  go_enter Tryz.func23, Tryz.ntmps23
  go_wp2_with fail
  refine (we_gatherN H.out).mono ?_
  rintro e w' ⟨v, rfl, ho, hb⟩
  have HB := Lib.hid (And.intro ho hb)
  clear ho hb
  go_wp2_with fail
  go_ret
  exact ⟨_, rfl, HB.out.1, HB.out.2⟩
end Go.Proofs.YtjgbfghkiahfaaaGreatDoor
