import Derived.Test.YtbifpjdkljibeaaDoorP
namespace Go.Proofs.YtbifpjdkljibeaaDoor
open Go.RowKit Go.Extern.Stop Go.Stop Go.Extern Go.Extern.Rtype

theorem info3 : (Tryd.prog.info? 3).map (fun i => (i.zero, i.size, i.bytes)) = some (some (.int .i64 0), 1, 8) := by kernel_rfl

theorem Rest_any {w w' : World} {k : Nat} {c : Array Value} {t : TypeId} {f : Nat × Nat} (h : Below w.heap.size w w') (hk : w.heap[k]? = some (.cells c t f)) : w'.heap[k]? = some (.cells c t f) := by
  have hlt : k < w.heap.size := by
    by_cases hk' : k < w.heap.size
    · exact hk'
    · rw [Array.getElem?_eq_none (by omega)] at hk; cases hk
  rw [h.block k hlt]; exact hk

/-- An append to a row of numbers leaves all other rows. -/
theorem grown_rest {w w' : World} {base n : Nat} {l : Value} {xs : List Value} (h : w.ownsRow base 3 1 l n xs) (hg : w.grownBy w' l.ownBlock) : Rest w w' :=
  ⟨hg.size, fun k c t f hk ht => by
    have hlt : k < w.heap.size := by
      by_cases hk' : k < w.heap.size
      · exact hk'
      · rw [Array.getElem?_eq_none (by omega)] at hk; cases hk
    rw [hg.block k hlt ?_]; exact hk
    obtain ⟨_, ⟨rfl, _⟩ | ⟨g, cap, cur, rfl, _, hh, _⟩⟩ := h
    · intro e; cases e
    · intro e; cases e
      rw [hh] at hk; cases hk; exact ht rfl⟩

theorem ownsRow_below {w w' : World} {base n : Nat} {v : Value} {xs : List Value} (h : w.ownsRow base 3 1 v n xs) (hb : Below w.heap.size w w') : w'.ownsRow base 3 1 v n xs := by
  obtain ⟨h1, h2⟩ := h
  refine ⟨h1, ?_⟩
  rcases h2 with h2 | ⟨g, cap, cur, hv, hg, hh, r⟩
  · exact Or.inl h2
  · exact Or.inr ⟨g, cap, cur, hv, hg, (Rest_any hb hh), r⟩

theorem take_flat {α : Type} (f : α → List Int) (l : List α) (i : Nat) (z : α) (h : l[i]? = some z) : ((l.take i).map f).flatten ++ f z = ((l.take (i + 1)).map f).flatten := by
  rw [List.take_add_one, h]; simp

theorem take_flat_le {α : Type} (f : α → List Int) (l : List α) (i : Nat) (z : α) (h : l[i]? = some z) : ((l.take i).map f).flatten.length + (f z).length ≤ (l.map f).flatten.length := by
  have h1 := take_flat f l i z h
  have h2 : l.map f = (l.take (i + 1)).map f ++ (l.drop (i + 1)).map f := by rw [← List.map_append, List.take_append_drop]
  rw [h2, List.flatten_append, ← h1]
  simp only [List.length_append]; omega

set_option maxRecDepth 100000 in
set_option maxHeartbeats 1000000 in
theorem gather31 (d : Nat) (ih : ∀ k, k < d → Gather31 k) : Gather31 d := by
  intro l xs v cs ns ss w B base herr hB hbase hown hlen
  cases d with
  | zero => exact herr.elim
  | succ d =>
    obtain ⟨zs, pre, hparts, hkids, hns, hz1000, hv⟩ := tree_kids herr
    have HK := Lib.hid (And.intro hparts (And.intro hkids hns))
    have IH := Lib.hid (ih d (by omega))
    have hl2 : nodesOf ns = pre ++ (zs.map fun z => nodesOf z.2).flatten := hns
    rw [hl2] at hlen
    have HL := Lib.hid hlen
    clear hparts hkids hns herr ih hl2 hlen
    have hlen' : ∀ (w : World) (a : Option Addr) (n c : Nat), (Builtin.len_ #[29] 3 #[.slice a n c]).run Tryd.prog w = .ok (.int .i64 n) w := fun _ _ _ _ => by kernel_rfl
    rcases hv with ⟨b, n, y, rfl, rfl, hb, hheap⟩ | ⟨rfl, t, u, rfl, ht⟩
    · obtain ⟨pre', hpre⟩ : ∃ pre', pre' = [n] := ⟨_, rfl⟩
      have a1 := taOnN
      have hc : w.cell? ⟨b, 0, none⟩ = some (.int .i64 n) := by simp [World.cell?, hheap]
      obtain ⟨i0, hi, hz0, hzz1, hz2⟩ := info_parts info3
      have HO := Lib.hid hown
      have HH := Lib.hid hheap
      have hx : xs.length + 1 ≤ 100001 := by have := HL.out; omega
      have HP := Lib.hid hpre
      clear hown hheap hpre
      go_enter Tryd.func31, Tryd.ntmps31
      go_wp2_with (at_builtin; refine wpList_append_own _ rfl (.tmp 19) (.tmp 24) 44 rfl base 3 i0 (.int .i64 0) 1 8 Tryd.underlying44 hi hz0 hzz1 hz2 rfl (by decide) _ xs.length _ rfl (HO.out.alloc _) ⟨w.heap.size, 0, none⟩ 1 1 [.int .i64 n] rfl rfl ?c1 ?c2 ?c3 ?c4 ?c5 ?_)
      case c1 =>
        intro j u hj
        cases j with
        | zero => cases hj; simp [Addr.add, go_sem]
        | succ j => simp at hj
      case c2 => intro u hu; rw [List.mem_singleton.1 hu]; rfl
      case c3 => unfold maxLen; omega
      case c4 => omega
      case c5 => simp; omega
      intro v1 w1 hown1 hgrow1 _
      have hb1 : Below base w w1 := by
        refine ((Below.refl base w).alloc hbase _).grown hgrow1 (by simp; omega) ?_
        intro k hk
        obtain ⟨_, ⟨rfl, _⟩ | ⟨g, cap, cur, rfl, hg, _⟩⟩ := HO.out
        · cases hk
        · cases hk; exact hg
      have hr1 : Rest w w1 := (Rest.of ((Below.refl _ w).alloc (Nat.le_refl _) _)).trans (grown_rest (HO.out.alloc _) hgrow1)
      have hsz1 : base ≤ w1.heap.size := Nat.le_trans hbase hb1.size
      have HO1 := Lib.hid (And.intro hown1 (And.intro hb1 hr1))
      clear hown1 hgrow1 hb1 hr1
      go_wp2_with fail
      have hpre := HP.out
      refine (HK.out.1 _ (HO1.out.2.1.mono hB) (Nat.le_trans hB hsz1)).mono ?_
      rintro e w2 ⟨vp, rfl, hb2, hvp⟩
      have hvp' : ∃ a cap, vp = .slice a zs.length cap ∧ (zs = [] ∨ ∃ g cur, a = some ⟨g, 0, none⟩ ∧ w2.heap[g]? = some (.cells cur 24 (0, 0)) ∧ zs.length ≤ cap ∧ ∀ (i : Nat) (y : Value), (zs.map (·.1))[i]? = some y → cur[i]? = some y) := by
        rcases hvp with ⟨rfl, hz⟩ | ⟨g, cap, cur, rfl, hg, hh, hc, hcur⟩
        · have : zs = [] := List.map_eq_nil_iff.1 hz
          subst this
          exact ⟨none, 0, rfl, .inl rfl⟩
        · exact ⟨some ⟨g, 0, none⟩, cap, by rw [List.length_map], .inr ⟨g, cur, rfl, hh, by rw [List.length_map] at hc; exact hc, hcur⟩⟩
      obtain ⟨a, cap, rfl, hslice⟩ := hvp'
      have HS := Lib.hid hslice
      have HW := Lib.hid (show Below base w w2 ∧ Rest w w2 ∧ w2.ownsRow base 3 1 v1 (xs ++ pre').length ((xs ++ pre').map (Value.int .i64)) from
        ⟨HO1.out.2.1.trans (hb2.mono (by have := hsz1; omega)), HO1.out.2.2.trans (Rest.of hb2), by subst hpre; exact ownsRow_below (by simpa using HO1.out.1) hb2⟩)
      clear hb2 hslice hvp
      go_wp2
      go_loopg [0, 29] zs.length (fun q s0 s29 wr => ∃ i : Nat, s29 = .int .i64 i ∧ i ≤ zs.length ∧ q = zs.length - i ∧ Hid (wr.ownsRow base 3 1 s0 (xs ++ pre' ++ ((zs.take i).map fun z => nodesOf z.2).flatten).length ((xs ++ pre' ++ ((zs.take i).map fun z => nodesOf z.2).flatten).map (Value.int .i64)) ∧ Below base w wr ∧ Rest w2 wr))
      case atStart => exact ⟨0, rfl, Nat.zero_le _, rfl, Lib.hid ⟨by have h := HW.out.2.2; simpa using h, HW.out.1, Rest.refl _⟩⟩
      case round =>
        obtain ⟨i, rfl, hi, rfl, HR⟩ := hrel
        have hmx : zs.length ≤ 9223372036854775807 := by omega
        by_cases hlt : i < zs.length
        · have hz : zs[i]? = some zs[i] := List.getElem?_eq_getElem hlt
          generalize zs[i] = z at hz
          obtain ⟨csz, ssz, hze⟩ := HK.out.2.1 i z hz
          rcases HS.out with hnil | ⟨g, cur, rfl, hh, hc, hcur⟩
          · subst hnil; simp at hlt
          have hcell : wr.cell? ⟨g, i, none⟩ = some z.1 := by
            have := hcur i z.1 (by rw [List.getElem?_map, hz]; rfl)
            have h3 := HR.out.2.2.block g cur 24 (0, 0) hh (by decide)
            simp [World.cell?, h3, this]
          have HZ := Lib.hid hz
          have HZE := Lib.hid hze
          have HHC := Lib.hid (And.intro hh hcur)
          clear hz hze hh hcur
          go_wp2_with fail
          refine (IH.out _ (xs ++ pre' ++ ((zs.take i).map fun z => nodesOf z.2).flatten) _ csz z.2 ssz _ B base (HZE.out.below (HR.out.2.1.mono hB)) hB (Nat.le_trans hbase HR.out.2.1.size) HR.out.1 ?_).mono ?_
          · have h := HL.out
            have h2 := take_flat_le (fun z : Value × List Nd => nodesOf z.2) zs i z HZ.out
            subst hpre
            simp only [List.length_append] at h h2 ⊢
            omega
          rintro e w3 ⟨v3, rfl, ho3, hb3, hr3⟩
          have H3 := Lib.hid (And.intro ho3 (And.intro hb3 hr3))
          clear ho3 hb3 hr3
          go_wp2_with fail
          go_roundg (zs.length - (i + 1))
          case measure => omega
          case rel =>
            refine ⟨i + 1, by go_num, by omega, rfl, Lib.hid ⟨?_, HR.out.2.1.trans H3.out.2.1, HR.out.2.2.trans H3.out.2.2⟩⟩
            have h := H3.out.1
            rw [← take_flat (fun z : Value × List Nd => nodesOf z.2) zs i z HZ.out, ← List.append_assoc]
            exact h
        · obtain rfl : i = zs.length := by omega
          go_wp2_with fail
          go_ret
          refine ⟨_, rfl, ?_, HR.out.2.1, HW.out.2.1.trans HR.out.2.2⟩
          have h := HR.out.1
          rw [List.take_of_length_le (Nat.le_refl _)] at h
          rw [HK.out.2.2, ← List.append_assoc]; subst hpre; exact h
    · obtain ⟨pre', hpre⟩ : ∃ pre' : List Int, pre' = [] := ⟨_, rfl⟩
      have a1 := taOnO t ht
      have HO := Lib.hid hown
      have HP := Lib.hid hpre
      clear hown hpre
      go_enter Tryd.func31, Tryd.ntmps31
      go_wp2_with fail
      have hpre := HP.out
      refine (HK.out.1 _ ((Below.refl base w).mono hB) (Nat.le_trans hB hbase)).mono ?_
      rintro e w2 ⟨vp, rfl, hb2, hvp⟩
      have hvp' : ∃ a cap, vp = .slice a zs.length cap ∧ (zs = [] ∨ ∃ g cur, a = some ⟨g, 0, none⟩ ∧ w2.heap[g]? = some (.cells cur 24 (0, 0)) ∧ zs.length ≤ cap ∧ ∀ (i : Nat) (y : Value), (zs.map (·.1))[i]? = some y → cur[i]? = some y) := by
        rcases hvp with ⟨rfl, hz⟩ | ⟨g, cap, cur, rfl, hg, hh, hc, hcur⟩
        · have : zs = [] := List.map_eq_nil_iff.1 hz
          subst this
          exact ⟨none, 0, rfl, .inl rfl⟩
        · exact ⟨some ⟨g, 0, none⟩, cap, by rw [List.length_map], .inr ⟨g, cur, rfl, hh, by rw [List.length_map] at hc; exact hc, hcur⟩⟩
      obtain ⟨a, cap, rfl, hslice⟩ := hvp'
      have HS := Lib.hid hslice
      have HW := Lib.hid (show Below base w w2 ∧ Rest w w2 ∧ w2.ownsRow base 3 1 l (xs ++ pre').length ((xs ++ pre').map (Value.int .i64)) from
        ⟨(Below.refl base w).trans (hb2.mono (by have := hbase; omega)), (Rest.refl w).trans (Rest.of hb2), by subst hpre; exact ownsRow_below (by simpa using HO.out) hb2⟩)
      clear hb2 hslice hvp
      go_wp2
      go_loopg [0, 29] zs.length (fun q s0 s29 wr => ∃ i : Nat, s29 = .int .i64 i ∧ i ≤ zs.length ∧ q = zs.length - i ∧ Hid (wr.ownsRow base 3 1 s0 (xs ++ pre' ++ ((zs.take i).map fun z => nodesOf z.2).flatten).length ((xs ++ pre' ++ ((zs.take i).map fun z => nodesOf z.2).flatten).map (Value.int .i64)) ∧ Below base w wr ∧ Rest w2 wr))
      case atStart => exact ⟨0, rfl, Nat.zero_le _, rfl, Lib.hid ⟨by have h := HW.out.2.2; simpa using h, HW.out.1, Rest.refl _⟩⟩
      case round =>
        obtain ⟨i, rfl, hi, rfl, HR⟩ := hrel
        have hmx : zs.length ≤ 9223372036854775807 := by omega
        by_cases hlt : i < zs.length
        · have hz : zs[i]? = some zs[i] := List.getElem?_eq_getElem hlt
          generalize zs[i] = z at hz
          obtain ⟨csz, ssz, hze⟩ := HK.out.2.1 i z hz
          rcases HS.out with hnil | ⟨g, cur, rfl, hh, hc, hcur⟩
          · subst hnil; simp at hlt
          have hcell : wr.cell? ⟨g, i, none⟩ = some z.1 := by
            have := hcur i z.1 (by rw [List.getElem?_map, hz]; rfl)
            have h3 := HR.out.2.2.block g cur 24 (0, 0) hh (by decide)
            simp [World.cell?, h3, this]
          have HZ := Lib.hid hz
          have HZE := Lib.hid hze
          have HHC := Lib.hid (And.intro hh hcur)
          clear hz hze hh hcur
          go_wp2_with fail
          refine (IH.out _ (xs ++ pre' ++ ((zs.take i).map fun z => nodesOf z.2).flatten) _ csz z.2 ssz _ B base (HZE.out.below (HR.out.2.1.mono hB)) hB (Nat.le_trans hbase HR.out.2.1.size) HR.out.1 ?_).mono ?_
          · have h := HL.out
            have h2 := take_flat_le (fun z : Value × List Nd => nodesOf z.2) zs i z HZ.out
            subst hpre
            simp only [List.length_append] at h h2 ⊢
            omega
          rintro e w3 ⟨v3, rfl, ho3, hb3, hr3⟩
          have H3 := Lib.hid (And.intro ho3 (And.intro hb3 hr3))
          clear ho3 hb3 hr3
          go_wp2_with fail
          go_roundg (zs.length - (i + 1))
          case measure => omega
          case rel =>
            refine ⟨i + 1, by go_num, by omega, rfl, Lib.hid ⟨?_, HR.out.2.1.trans H3.out.2.1, HR.out.2.2.trans H3.out.2.2⟩⟩
            have h := H3.out.1
            rw [← take_flat (fun z : Value × List Nd => nodesOf z.2) zs i z HZ.out, ← List.append_assoc]
            exact h
        · obtain rfl : i = zs.length := by omega
          go_wp2_with fail
          go_ret
          refine ⟨_, rfl, ?_, HR.out.2.1, HW.out.2.1.trans HR.out.2.2⟩
          have h := HR.out.1
          rw [List.take_of_length_le (Nat.le_refl _)] at h
          rw [HK.out.2.2, ← List.append_assoc]; subst hpre; exact h

theorem gather31_all (d : Nat) : Gather31 d := by
  induction d using Nat.strongRecOn with
  | _ d ih => exact gather31 d ih

end Go.Proofs.YtbifpjdkljibeaaDoor
