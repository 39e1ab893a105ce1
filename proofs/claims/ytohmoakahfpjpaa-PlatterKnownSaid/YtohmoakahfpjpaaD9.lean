import Derived.Test.YtohmoakahfpjpaaD8
namespace Go.Proofs.Ytohmoakahfpjpaa
open Go.RowKit Go.Sort
set_option maxRecDepth 100000
set_option maxHeartbeats 1000000

theorem infoInt : (Try.prog.info? 3).map (fun i => (i.zero, i.size, i.bytes)) = some (some (.int .i64 0), 1, 8) := by kernel_rfl
def intsV (xs : List Int) : List Value := xs.map (Value.int .i64)
theorem intsV_snoc (xs : List Int) (x : Int) : intsV (xs ++ [x]) = intsV xs ++ [.int .i64 x] := by simp [intsV]
/-- append of one number to a row of one's own. -/
theorem append_int (w : World) {ops : Array Oper} {rest : List Oper} {o : Oper} {a : Act} {Q : Exit → Act → World → Prop} (hgd : o.guard = none) (s x : Operand)
    (ho : o.op = .call { callee := .builtin .append, args := #[s, x], argTypes := #[28, 28] })
    (base : Nat) (v : Value) (n : Nat) (xs : List Int) (hs : a.eval s = v) (hown : w.ownsRow base 3 1 v n (intsV xs)) (g : Nat) (k : Int) (hx : a.eval x = .slice (some ⟨g, 0, none⟩) 1 1)
    (hc : w.cell? ⟨g, 0, none⟩ = some (.int .i64 k)) (hn : n ≤ 1000000000) (hbase : base ≤ w.heap.size)
    (h : ∀ g' cap w', w'.ownsRow base 3 1 (.slice (some ⟨g', 0, none⟩) (n + 1) cap) (n + 1) (intsV (xs ++ [k])) → w.grownBy w' v.ownBlock → (v.ownBlock = some g' ∨ g' = w.heap.size) → g' < w'.heap.size →
      wpList Try.prog ops Q rest (a.put o.dst (.slice (some ⟨g', 0, none⟩) (n + 1) cap)) w') : wpList Try.prog ops Q (o :: rest) a w := by
  obtain ⟨i0, hi0, hz0, hz1, hz2⟩ := info_parts infoInt
  refine wpList_append_lies w hgd s x 28 ho base 3 i0 (.int .i64 0) 1 8 Try.underlying28 hi0 hz0 hz1 hz2 rfl (by decide) v n (intsV xs) hs hown ⟨g, 0, none⟩ 1 1 [.int .i64 k] hx rfl (fun j u hj => ?_) (fun u hu => ?_) (by omega) (by unfold maxLen; omega) (by omega) hbase w.heap.size rfl (fun g' cap w' h2 h3 h4 h5 => ?_)
  · match j, hj with
    | 0, hj => simp at hj; subst hj; exact hc
  · simp at hu; subst hu; rfl
  · exact h g' cap w' (by rw [intsV_snoc]; exact h2) h3 h4 h5
theorem own_nums {w : World} {B n cap : Nat} {A : Option Addr} {xs : List Int} (h : w.ownsRow B 3 1 (.slice A n cap) n (intsV xs)) : Nums w A xs ∧ xs.length = n := by
  have hl : xs.length = n := by have := h.1; simpa [intsV] using this
  refine ⟨fun i x hi => ?_, hl⟩
  have hi' : i < n := by have := (List.getElem?_eq_some_iff.1 hi).1; omega
  rcases h.2 with ⟨h0, h1⟩ | ⟨g, cap', cur, e, _, hh, _⟩
  · omega
  · cases e
    refine ⟨g, 0, rfl, heap_lt hh, ?_⟩
    have := h.cells (g := g) rfl i (.int .i64 x) (by simp [intsV, hi])
    rw [addr_add] at this
    exact this
theorem own_form {w : World} {B n : Nat} {v : Value} {t : TypeId} {s : Nat} {xs : List Value} (h : w.ownsRow B t s v n xs) : ∃ A cap, v = .slice A n cap ∧ (A = none ∧ n = 0 ∧ cap = 0 ∨ ∃ g, A = some ⟨g, 0, none⟩ ∧ B ≤ g ∧ g < w.heap.size) := by
  rcases h.2 with ⟨rfl, h0⟩ | ⟨g, cap', cur, rfl, hb, hh, _⟩
  · exact ⟨none, 0, by rw [h0], Or.inl ⟨rfl, h0, rfl⟩⟩
  · exact ⟨_, cap', rfl, Or.inr ⟨g, rfl, hb, heap_lt hh⟩⟩
theorem own_ge {w : World} {B n s : Nat} {v : Value} {t : TypeId} {xs : List Value} (h : w.ownsRow B t s v n xs) : ∀ k, v.ownBlock = some k → B ≤ k := by
  intro k hk
  rcases h.2 with ⟨rfl, _⟩ | ⟨g, cap', cur, rfl, hb, _⟩
  · cases hk
  · cases hk; exact hb
theorem Nums.keep {w w' : World} {A : Option Addr} {xs : List Int} (h : Nums w A xs) (b : Below w.heap.size w w') : Nums w' A xs := fun i x hi => by
  obtain ⟨g, o, e, hl, hc⟩ := h i x hi
  exact ⟨g, o, e, Nat.lt_of_lt_of_le hl b.size, (b.cell (p := ⟨g, o + i, none⟩) hl).trans hc⟩

/-- Pending. -/
def DPendRet (ks : List Int) (w : World) (e : Ending) (w' : World) : Prop := ∃ A cap, e = .returned (.slice A ks.length cap) ∧ w'.ownsRow w.heap.size 3 1 (.slice A ks.length cap) ks.length (intsV ks) ∧ Below w.heap.size w w'
def ksOf (l : List (Nat × Blk)) : List Int := l.map (fun x => (x.1 : Int))
theorem dpending {w : World} {p : Nat} {S : List Nat} {N : Nat} {d : Disk} {nw : Nat} (h : Plt w p S N d nw) (hwr : nw ≤ 1000000000) :
    Calls Try.prog 11 #[.pointer (some ⟨p, 0, none⟩)] w (DPendRet (ksOf d.pend) w) := by
  obtain ⟨db, nb, pv, h, _, _⟩ := h
  obtain ⟨a, cap, rfl, ha⟩ := h.pend.form
  have hl := h.len
  have c2 := h.c2
  have HA := Lib.hid ha
  have HP := Lib.hid h
  have hz := heap_lt h.head
  have HK : Hid (∃ ks, ks = ksOf d.pend) := Lib.hid ⟨_, rfl⟩
  obtain ⟨l, hl0⟩ : ∃ l, d.pend = l := ⟨_, rfl⟩
  rw [hl0] at HP HA hl c2 ⊢
  clear ha h hl0 HK
  obtain ⟨n, hn⟩ : ∃ n, l.length = n := ⟨_, rfl⟩
  have HN := Lib.hid hn
  rw [hn] at HP HA hl c2
  clear hn
  have HB : Hid (Below w.heap.size w w) := Lib.hid (Below.refl _ _)
  go_enter Try.func11, Try.ntmps11
  go_wp2_with fail
  clear c2
  go_loopg [3, 5, 13] n (fun q s3 s5 s13 v => ∃ i : Nat, s13 = .int .i64 (i : Int) ∧ i ≤ n ∧ q = n - i ∧ Hid (v.ownsRow w.heap.size 3 1 s3 i (intsV (ksOf (l.take i))) ∧ Below w.heap.size w v))
  case atStart => exact ⟨0, rfl, by omega, rfl, Lib.hid ⟨World.ownsRow_nil _ _ _ _, Below.refl _ _⟩⟩
  case round =>
    obtain ⟨i, rfl, hi, rfl, HS⟩ := hrel
    generalize wr = v at *
    by_cases hlt : i < n
    · have hl3 : (i : Int) < (n : Int) := by omega
      obtain ⟨⟨k, F⟩, hx⟩ : ∃ x, l[i]? = some x := ⟨_, List.getElem?_eq_getElem (by rw [HN.out]; exact hlt)⟩
      obtain ⟨q, rfl⟩ := HA.out (by omega)
      have HP2 : Hid (PltR v p db nb N (.slice (some ⟨q, 0, none⟩) n cap) d.done l nw) := Lib.hid (HP.out.below HS.out.2)
      obtain ⟨hk, c1, g, c', c2, hr⟩ := HP2.out.pend.at hx
      have hks : ksOf (l.take (i + 1)) = ksOf (l.take i) ++ [(k : Int)] := by rw [List.take_add_one, hx]; simp [ksOf]
      have HKS := Lib.hid hks
      clear hx hr hks
      go_wp2_with (at_builtin; refine append_int _ rfl _ _ rfl w.heap.size u3 i (ksOf (l.take i)) rfl ((HS.out.1.alloc _).alloc _) (v.heap.size + 1) (k : Int) rfl (by simp [go_sem]) (by omega) (by have := HS.out.2.size; simp; omega) ?_; intro g' cap' w4 hown4 hgrow4 hlies4 hlt4; have HO4 := Lib.hid hown4; have HG4 := Lib.hid hgrow4; have HY4 := Lib.hid hlies4; clear hown4 hgrow4 hlies4)
      go_roundg (n - (i + 1))
      case measure => omega
      case rel => exact ⟨i + 1, by go_num, by omega, rfl, Lib.hid ⟨by rw [HKS.out]; exact HO4.out, Below.grown ((HS.out.2.alloc HS.out.2.size _).alloc (by have := HS.out.2.size; simp; omega) _) HG4.out (by have := HS.out.2.size; simp; omega) (own_ge HS.out.1)⟩⟩
    · obtain rfl : i = n := by omega
      have hge : ¬ (i : Int) < (i : Int) := by omega
      have HL : Hid (l.take i = l) := Lib.hid (List.take_of_length_le (by rw [HN.out]; omega))
      clear hlt
      go_wp2_with fail
      go_ret
      have h1 := HS.out.1
      rw [HL.out] at h1
      have hlen : (ksOf l).length = i := by simp [ksOf, HN.out]
      obtain ⟨A, cap', rfl, _⟩ := own_form h1
      exact ⟨A, cap', by rw [hlen]; rfl, by rw [hlen]; exact h1, HS.out.2⟩

/-- corbelref7.SameInts. -/
theorem lsame (A1 A2 : Option Addr) (xs ys : List Int) (c1 c2 : Nat) (w : World) (h1 : Nums w A1 xs) (h2 : Nums w A2 ys) (l1 : xs.length ≤ 1000000000) (t : Bool) (ht : t = true ↔ xs = ys) :
    Calls Try.prog 17 #[.slice A1 xs.length c1, .slice A2 ys.length c2] w fun e w' => e = .returned (.bool t) ∧ Below w.heap.size w w' := by
  by_cases hl : xs.length = ys.length
  · obtain ⟨n, hn⟩ : ∃ n, xs.length = n := ⟨_, rfl⟩
    have e2 : ys.length = n := by omega
    rw [e2, hn]
    have H1 := Lib.hid h1
    have H2 := Lib.hid h2
    have HN := Lib.hid hn
    have HM := Lib.hid e2
    have HT := Lib.hid ht
    rw [hn] at l1
    clear hl hn e2 h1 h2 ht
    go_enter Try.func17, Try.ntmps17
    go_wp2_with fail
    go_loopg [5] n (fun q s5 v => ∃ i : Nat, s5 = .int .i64 (i : Int) ∧ i ≤ n ∧ q = n - i ∧ Hid (xs.take i = ys.take i ∧ Below w.heap.size w v))
    case atStart => exact ⟨0, rfl, by omega, rfl, Lib.hid ⟨rfl, Below.refl _ _⟩⟩
    case round =>
      obtain ⟨i, rfl, hi, rfl, HS⟩ := hrel
      generalize wr = v at *
      by_cases hlt : i < n
      · have hl3 : (i : Int) < (n : Int) := by omega
        obtain ⟨x, hx⟩ : ∃ x, xs[i]? = some x := ⟨_, List.getElem?_eq_getElem (by rw [HN.out]; exact hlt)⟩
        obtain ⟨y, hy⟩ : ∃ y, ys[i]? = some y := ⟨_, List.getElem?_eq_getElem (by rw [HM.out]; exact hlt)⟩
        obtain ⟨g, o, rfl, hg, hc⟩ := H1.out i x hx
        obtain ⟨g', o', rfl, hg', hc'⟩ := H2.out i y hy
        have d1 : ∀ k, (v.drewN k).cell? ⟨g, o + i, none⟩ = some (.int .i64 x) := fun k => (HS.out.2.cell (p := ⟨g, o + i, none⟩) hg).trans hc
        have d2 : ∀ k, (v.drewN k).cell? ⟨g', o' + i, none⟩ = some (.int .i64 y) := fun k => (HS.out.2.cell (p := ⟨g', o' + i, none⟩) hg').trans hc'
        have d1' := d1 0
        have d2' := d2 0
        have HX := Lib.hid hx
        have HY := Lib.hid hy
        clear hx hy hc hc' hg hg'
        by_cases e : x = y
        · subst e
          have t1 : (x != x) = false := by simp
          go_wp2_with fail
          go_big_quiet (fail)
          go_wp2_with fail
          go_roundg (n - (i + 1))
          case measure => omega
          case rel => exact ⟨i + 1, by go_num, by omega, rfl, Lib.hid ⟨by rw [List.take_add_one, List.take_add_one, HX.out, HY.out, HS.out.1], HS.out.2.trans ((below_drewN _ _).mono HS.out.2.size)⟩⟩
        · have t1 : (x != y) = true := by simpa using e
          have HF : Hid (t = false) := Lib.hid (by
            cases t with
            | false => rfl
            | true =>
              have := HT.out.1 rfl
              subst this
              have h := HX.out
              rw [HY.out] at h
              cases h
              exact absurd rfl e)
          clear e
          go_wp2_with fail
          go_big_quiet (fail)
          go_wp2_with fail
          go_ret
          exact ⟨congrArg (fun b => Ending.returned (Value.bool b)) HF.out.symm, HS.out.2.trans ((below_drewN _ _).mono HS.out.2.size)⟩
      · obtain rfl : i = n := by omega
        have hge : ¬ (i : Int) < (i : Int) := by omega
        have HF : Hid (t = true) := Lib.hid (HT.out.2 (by
          have := HS.out.1
          rwa [List.take_of_length_le (by rw [HN.out]; omega), List.take_of_length_le (by rw [HM.out]; omega)] at this))
        clear hlt
        go_wp2_with fail
        go_ret
        exact ⟨congrArg (fun b => Ending.returned (Value.bool b)) HF.out.symm, HS.out.2⟩
  · have e1 : ((xs.length : Int) != (ys.length : Int)) = true := by rw [bne_iff_ne]; omega
    have HF : Hid (t = false) := Lib.hid (by
      cases t with
      | false => rfl
      | true => exact absurd (congrArg List.length (ht.1 rfl)) hl)
    clear hl ht h1 h2
    generalize xs.length = n at *
    generalize ys.length = m at *
    go_enter Try.func17, Try.ntmps17
    go_wp2_with fail
    go_ret
    exact ⟨congrArg (fun b => Ending.returned (Value.bool b)) HF.out.symm, Below.refl _ _⟩
end Go.Proofs.Ytohmoakahfpjpaa
