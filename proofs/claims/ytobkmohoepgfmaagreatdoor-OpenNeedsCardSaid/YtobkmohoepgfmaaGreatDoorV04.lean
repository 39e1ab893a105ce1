import Derived.Test.YtobkmohoepgfmaaGreatDoorV03
namespace Go.Proofs.YtobkmohoepgfmaaGreatDoor.Tr
open Go.RowKit Go.Extern.Stop Go.Stop Go.Extern Go.Extern.Rtype

theorem info3 : (Tryz.prog.info? 3).map (fun i => (i.zero, i.size, i.bytes)) = some (some (.int .i64 0), 1, 8) := by kernel_rfl

theorem Rest_any {w w' : World} {k : Nat} {c : Array Value} {t : TypeId} {f : Nat × Nat} (h : Below w.heap.size w w') (hk : w.heap[k]? = some (.cells c t f)) : w'.heap[k]? = some (.cells c t f) := by
 have hlt : k < w.heap.size := by
  by_cases hk' : k < w.heap.size
  ·exact hk'
  ·rw [Array.getElem?_eq_none (by omega)] at hk; cases hk
 rw [h.block k hlt]; exact hk

theorem grown_rest {w w' : World} {base n : Nat} {l : Value} {xs : List Value} (h : w.ownsRow base 3 1 l n xs) (hg : w.grownBy w' l.ownBlock) : Rest w w' :=
 ⟨hg.size, fun k c t f hk ht => by
  have hlt : k < w.heap.size := by
   by_cases hk' : k < w.heap.size
   ·exact hk'
   ·rw [Array.getElem?_eq_none (by omega)] at hk; cases hk
  rw [hg.block k hlt ?_]; exact hk
  obtain ⟨_, ⟨rfl, _⟩ | ⟨g, cap, cur, rfl, _, hh, _⟩⟩ := h
  ·intro e; cases e
  ·intro e; cases e
   rw [hh] at hk; cases hk; exact ht rfl⟩

theorem ownsRow_below {w w' : World} {base n : Nat} {v : Value} {xs : List Value} (h : w.ownsRow base 3 1 v n xs) (hb : Below w.heap.size w w') : w'.ownsRow base 3 1 v n xs := by
 obtain ⟨h1, h2⟩ := h
 refine ⟨h1, ?_⟩
 rcases h2 with h2 | ⟨g, cap, cur, hv, hg, hh, r⟩
 ·exact Or.inl h2
 ·exact Or.inr ⟨g, cap, cur, hv, hg, (Rest_any hb hh), r⟩

theorem take_flat {α : Type} (f : α → List Int) (l : List α) (i : Nat) (z : α) (h : l[i]? = some z) : ((l.take i).map f).flatten ++ f z = ((l.take (i + 1)).map f).flatten := by
 rw [List.take_add_one, h]; simp

theorem take_flat_le {α : Type} (f : α → List Int) (l : List α) (i : Nat) (z : α) (h : l[i]? = some z) : ((l.take i).map f).flatten.length + (f z).length ≤ (l.map f).flatten.length := by
 have h1 := take_flat f l i z h
 have h2 : l.map f = (l.take (i + 1)).map f ++ (l.drop (i + 1)).map f := by rw [← List.map_append, List.take_append_drop]
 rw [h2, List.flatten_append, ← h1]
 simp only [List.length_append]; omega

set_option maxRecDepth 100000 in
set_option maxHeartbeats 1000000 in
theorem gather31 (d : Nat) (ih : ∀ k, k < d → Gather31 k) : Gather31 d := by
 intro l xs v cs ns ss w B base herr hB hbase hown hlen
 cases d with
 | zero => exact herr.elim
 | succ d =>
  obtain ⟨zs, pre, hparts, hkids, hns, hz1000, hv⟩ := tree_kids herr
  have HK := Lib.hid (And.intro hparts (And.intro hkids hns))
  have IH := Lib.hid (ih d (by omega))
  have hl2 : nodesOf ns = pre ++ (zs.map fun z => nodesOf z.2).flatten := hns
  rw [hl2] at hlen
  have HL := Lib.hid hlen
  clear hparts hkids hns herr ih hl2 hlen
  have hlen' : ∀ (w : World) (a : Option Addr) (n c : Nat), (Builtin.len_ #[80] 3 #[.slice a n c]).run Tryz.prog w = .ok (.int .i64 n) w := fun _ _ _ _ => by kernel_rfl
  rcases hv with ⟨b, n, y, rfl, rfl, hb, hheap⟩ | ⟨rfl, t, u, rfl, ht⟩
  ·obtain ⟨pre', hpre⟩ : ∃ pre', pre' = [n] := ⟨_, rfl⟩
   have a1 := taOnN
   have hc : w.cell? ⟨b, 0, none⟩ = some (.int .i64 n) := by simp [World.cell?, hheap]
   obtain ⟨i0, hi, hz0, hzz1, hz2⟩ := info_parts info3
   have HO := Lib.hid hown
   have HH := Lib.hid hheap
   have hx : xs.length + 1 ≤ 100001 := by have := HL.out; omega
   have HP := Lib.hid hpre
   clear hown hheap hpre
   go_enter Tryz.func45, Tryz.ntmps45
   go_wp2_with (at_builtin; refine wpList_append_own _ rfl (.tmp 19) (.tmp 24) 51 rfl base 3 i0 (.int .i64 0) 1 8 Tryz.underlying51 hi hz0 hzz1 hz2 rfl (by decide) _ xs.length _ rfl (HO.out.alloc _) ⟨w.heap.size, 0, none⟩ 1 1 [.int .i64 n] rfl rfl ?c1 ?c2 ?c3 ?c4 ?c5 ?_)
   case c1 =>
    intro j u hj
    cases j with
    | zero => cases hj; simp [Addr.add, go_sem]
    | succ j => simp at hj
   case c2 => intro u hu; rw [List.mem_singleton.1 hu]; rfl
   case c3 => unfold maxLen; omega
   case c4 => omega
   case c5 => simp; omega
   intro v1 w1 hown1 hgrow1 _
   have hb1 : Below base w w1 := by
    refine ((Below.refl base w).alloc hbase _).grown hgrow1 (by simp; omega) ?_
    intro k hk
    obtain ⟨_, ⟨rfl, _⟩ | ⟨g, cap, cur, rfl, hg, _⟩⟩ := HO.out
    ·cases hk
    ·cases hk; exact hg
   have hr1 : Rest w w1 := (Rest.of ((Below.refl _ w).alloc (Nat.le_refl _) _)).trans (grown_rest (HO.out.alloc _) hgrow1)
   have hsz1 : base ≤ w1.heap.size := Nat.le_trans hbase hb1.size
   have HO1 := Lib.hid (And.intro hown1 (And.intro hb1 hr1))
   clear hown1 hgrow1 hb1 hr1
   go_wp2_with fail
   have hpre := HP.out
   refine (HK.out.1 _ (HO1.out.2.1.mono hB) (Nat.le_trans hB hsz1)).mono ?_
   rintro e w2 ⟨vp, rfl, hb2, hvp⟩
   have hvp' : ∃ a cap, vp = .slice a zs.length cap ∧ (zs = [] ∨ ∃ g cur, a = some ⟨g, 0, none⟩ ∧ w2.heap[g]? = some (.cells cur 27 (0, 0)) ∧ zs.length ≤ cap ∧ ∀ (i : Nat) (y : Value), (zs.map (·.1))[i]? = some y → cur[i]? = some y) := by
    rcases hvp with ⟨rfl, hz⟩ | ⟨g, cap, cur, rfl, hg, hh, hc, hcur⟩
    ·have : zs = [] := List.map_eq_nil_iff.1 hz
     subst this
     exact ⟨none, 0, rfl, .inl rfl⟩
    ·exact ⟨some ⟨g, 0, none⟩, cap, by rw [List.length_map], .inr ⟨g, cur, rfl, hh, by rw [List.length_map] at hc; exact hc, hcur⟩⟩
   obtain ⟨a, cap, rfl, hslice⟩ := hvp'
   have HS := Lib.hid hslice
   have HW := Lib.hid (show Below base w w2 ∧ Rest w w2 ∧ w2.ownsRow base 3 1 v1 (xs ++ pre').length ((xs ++ pre').map (Value.int .i64)) from
    ⟨HO1.out.2.1.trans (hb2.mono (by have := hsz1; omega)), HO1.out.2.2.trans (Rest.of hb2), by subst hpre; exact ownsRow_below (by simpa using HO1.out.1) hb2⟩)
   clear hb2 hslice hvp
   go_wp2
   go_loopg [0, 29] zs.length (fun q s0 s29 wr => ∃ i : Nat, s29 = .int .i64 i ∧ i ≤ zs.length ∧ q = zs.length - i ∧ Hid (wr.ownsRow base 3 1 s0 (xs ++ pre' ++ ((zs.take i).map fun z => nodesOf z.2).flatten).length ((xs ++ pre' ++ ((zs.take i).map fun z => nodesOf z.2).flatten).map (Value.int .i64)) ∧ Below base w wr ∧ Rest w2 wr))
   case atStart => exact ⟨0, rfl, Nat.zero_le _, rfl, Lib.hid ⟨by have h := HW.out.2.2; simpa using h, HW.out.1, Rest.refl _⟩⟩
   case round =>
    obtain ⟨i, rfl, hi, rfl, HR⟩ := hrel
    have hmx : zs.length ≤ 9223372036854775807 := by omega
    by_cases hlt : i < zs.length
    ·have hz : zs[i]? = some zs[i] := List.getElem?_eq_getElem hlt
     generalize zs[i] = z at hz
     obtain ⟨csz, ssz, hze⟩ := HK.out.2.1 i z hz
     rcases HS.out with hnil | ⟨g, cur, rfl, hh, hc, hcur⟩
     ·subst hnil; simp at hlt
     have hcell : wr.cell? ⟨g, i, none⟩ = some z.1 := by
      have := hcur i z.1 (by rw [List.getElem?_map, hz]; rfl)
      have h3 := HR.out.2.2.block g cur 27 (0, 0) hh (by decide)
      simp [World.cell?, h3, this]
     have HZ := Lib.hid hz
     have HZE := Lib.hid hze
     have HHC := Lib.hid (And.intro hh hcur)
     clear hz hze hh hcur
     go_wp2_with fail
     refine (IH.out _ (xs ++ pre' ++ ((zs.take i).map fun z => nodesOf z.2).flatten) _ csz z.2 ssz _ B base (HZE.out.below (HR.out.2.1.mono hB)) hB (Nat.le_trans hbase HR.out.2.1.size) HR.out.1 ?_).mono ?_
     ·have h := HL.out
      have h2 := take_flat_le (fun z : Value × List Nd => nodesOf z.2) zs i z HZ.out
      subst hpre
      simp only [List.length_append] at h h2 ⊢
      omega
     rintro e w3 ⟨v3, rfl, ho3, hb3, hr3⟩
     have H3 := Lib.hid (And.intro ho3 (And.intro hb3 hr3))
     clear ho3 hb3 hr3
     go_wp2_with fail
     go_roundg (zs.length - (i + 1))
     case measure => omega
     case rel =>
      refine ⟨i + 1, by go_num, by omega, rfl, Lib.hid ⟨?_, HR.out.2.1.trans H3.out.2.1, HR.out.2.2.trans H3.out.2.2⟩⟩
      have h := H3.out.1
      rw [← take_flat (fun z : Value × List Nd => nodesOf z.2) zs i z HZ.out, ← List.append_assoc]
      exact h
    ·obtain rfl : i = zs.length := by omega
     go_wp2_with fail
     go_ret
     refine ⟨_, rfl, ?_, HR.out.2.1, HW.out.2.1.trans HR.out.2.2⟩
     have h := HR.out.1
     rw [List.take_of_length_le (Nat.le_refl _)] at h
     rw [HK.out.2.2, ← List.append_assoc]; subst hpre; exact h
  ·obtain ⟨pre', hpre⟩ : ∃ pre' : List Int, pre' = [] := ⟨_, rfl⟩
   have a1 := taOnO t ht
   have HO := Lib.hid hown
   have HP := Lib.hid hpre
   clear hown hpre
   go_enter Tryz.func45, Tryz.ntmps45
   go_wp2_with fail
   have hpre := HP.out
   refine (HK.out.1 _ ((Below.refl base w).mono hB) (Nat.le_trans hB hbase)).mono ?_
   rintro e w2 ⟨vp, rfl, hb2, hvp⟩
   have hvp' : ∃ a cap, vp = .slice a zs.length cap ∧ (zs = [] ∨ ∃ g cur, a = some ⟨g, 0, none⟩ ∧ w2.heap[g]? = some (.cells cur 27 (0, 0)) ∧ zs.length ≤ cap ∧ ∀ (i : Nat) (y : Value), (zs.map (·.1))[i]? = some y → cur[i]? = some y) := by
    rcases hvp with ⟨rfl, hz⟩ | ⟨g, cap, cur, rfl, hg, hh, hc, hcur⟩
    ·have : zs = [] := List.map_eq_nil_iff.1 hz
     subst this
     exact ⟨none, 0, rfl, .inl rfl⟩
    ·exact ⟨some ⟨g, 0, none⟩, cap, by rw [List.length_map], .inr ⟨g, cur, rfl, hh, by rw [List.length_map] at hc; exact hc, hcur⟩⟩
   obtain ⟨a, cap, rfl, hslice⟩ := hvp'
   have HS := Lib.hid hslice
   have HW := Lib.hid (show Below base w w2 ∧ Rest w w2 ∧ w2.ownsRow base 3 1 l (xs ++ pre').length ((xs ++ pre').map (Value.int .i64)) from
    ⟨(Below.refl base w).trans (hb2.mono (by have := hbase; omega)), (Rest.refl w).trans (Rest.of hb2), by subst hpre; exact ownsRow_below (by simpa using HO.out) hb2⟩)
   clear hb2 hslice hvp
   go_wp2
   go_loopg [0, 29] zs.length (fun q s0 s29 wr => ∃ i : Nat, s29 = .int .i64 i ∧ i ≤ zs.length ∧ q = zs.length - i ∧ Hid (wr.ownsRow base 3 1 s0 (xs ++ pre' ++ ((zs.take i).map fun z => nodesOf z.2).flatten).length ((xs ++ pre' ++ ((zs.take i).map fun z => nodesOf z.2).flatten).map (Value.int .i64)) ∧ Below base w wr ∧ Rest w2 wr))
   case atStart => exact ⟨0, rfl, Nat.zero_le _, rfl, Lib.hid ⟨by have h := HW.out.2.2; simpa using h, HW.out.1, Rest.refl _⟩⟩
   case round =>
    obtain ⟨i, rfl, hi, rfl, HR⟩ := hrel
    have hmx : zs.length ≤ 9223372036854775807 := by omega
    by_cases hlt : i < zs.length
    ·have hz : zs[i]? = some zs[i] := List.getElem?_eq_getElem hlt
     generalize zs[i] = z at hz
     obtain ⟨csz, ssz, hze⟩ := HK.out.2.1 i z hz
     rcases HS.out with hnil | ⟨g, cur, rfl, hh, hc, hcur⟩
     ·subst hnil; simp at hlt
     have hcell : wr.cell? ⟨g, i, none⟩ = some z.1 := by
      have := hcur i z.1 (by rw [List.getElem?_map, hz]; rfl)
      have h3 := HR.out.2.2.block g cur 27 (0, 0) hh (by decide)
      simp [World.cell?, h3, this]
     have HZ := Lib.hid hz
     have HZE := Lib.hid hze
     have HHC := Lib.hid (And.intro hh hcur)
     clear hz hze hh hcur
     go_wp2_with fail
     refine (IH.out _ (xs ++ pre' ++ ((zs.take i).map fun z => nodesOf z.2).flatten) _ csz z.2 ssz _ B base (HZE.out.below (HR.out.2.1.mono hB)) hB (Nat.le_trans hbase HR.out.2.1.size) HR.out.1 ?_).mono ?_
     ·have h := HL.out
      have h2 := take_flat_le (fun z : Value × List Nd => nodesOf z.2) zs i z HZ.out
      subst hpre
      simp only [List.length_append] at h h2 ⊢
      omega
     rintro e w3 ⟨v3, rfl, ho3, hb3, hr3⟩
     have H3 := Lib.hid (And.intro ho3 (And.intro hb3 hr3))
     clear ho3 hb3 hr3
     go_wp2_with fail
     go_roundg (zs.length - (i + 1))
     case measure => omega
     case rel =>
      refine ⟨i + 1, by go_num, by omega, rfl, Lib.hid ⟨?_, HR.out.2.1.trans H3.out.2.1, HR.out.2.2.trans H3.out.2.2⟩⟩
      have h := H3.out.1
      rw [← take_flat (fun z : Value × List Nd => nodesOf z.2) zs i z HZ.out, ← List.append_assoc]
      exact h
    ·obtain rfl : i = zs.length := by omega
     go_wp2_with fail
     go_ret
     refine ⟨_, rfl, ?_, HR.out.2.1, HW.out.2.1.trans HR.out.2.2⟩
     have h := HR.out.1
     rw [List.take_of_length_le (Nat.le_refl _)] at h
     rw [HK.out.2.2, ← List.append_assoc]; subst hpre; exact h

theorem gather31_all (d : Nat) : Gather31 d := by
 induction d using Nat.strongRecOn with
 | _ d ih => exact gather31 d ih

end Go.Proofs.YtobkmohoepgfmaaGreatDoor.Tr
namespace Go.Proofs.YtobkmohoepgfmaaGreatDoor.Tr
open Go.RowKit Go.Extern.Stop Go.Stop Go.Extern Go.Extern.Rtype

set_option maxRecDepth 100000 in
set_option maxHeartbeats 1000000 in
theorem nodes18 (d : Nat) (v : Value) (cs : List Int) (ns : List Nd) (ss : List Int) (w : World) (herr : Err w w.heap.size d v cs ns ss) (hlen : (nodesOf ns).length ≤ 100000) :
  Calls Tryz.prog 21 #[v] w fun e w' => ∃ u, e = .returned u ∧ w'.ownsRow w.heap.size 3 1 u (nodesOf ns).length ((nodesOf ns).map (Value.int .i64)) ∧ Below w.heap.size w w' := by
 have HE := Lib.hid herr
 clear herr
 go_enter Tryz.func21, Tryz.ntmps21
 go_wp2_with fail
 refine (gather31_all d _ [] _ cs ns ss _ w.heap.size w.heap.size HE.out (Nat.le_refl _) (Nat.le_refl _) (World.ownsRow_nil _ _ _ _) (by simpa using hlen)).mono ?_
 rintro e w' ⟨u, rfl, ho, hb, _⟩
 have HO := Lib.hid (And.intro ho hb)
 clear ho hb
 go_wp2_with fail
 go_ret
 exact ⟨u, rfl, HO.out⟩

set_option maxRecDepth 100000 in
set_option maxHeartbeats 1000000 in
theorem ofStripe_err (d : Nat) (n : Int) (v : Value) (cs : List Int) (ns : List Nd) (ss : List Int) (w : World) (herr : Err w w.heap.size d v cs ns ss) :
  Calls Tryz.prog 37 #[.int .i64 n, v] w fun e w' => ∃ b, e = .returned (.iface 139 (.pointer (some ⟨b, 0, none⟩))) ∧ w.heap.size ≤ b ∧ Below w.heap.size w w' ∧ w'.heap[b]? = some (.cells #[.int .i64 n, v] 141 (0, 0)) ∧ Err w' w'.heap.size (d + 1) (.iface 139 (.pointer (some ⟨b, 0, none⟩))) cs ((.iface 139 (.pointer (some ⟨b, 0, none⟩)), none) :: ns) (n :: ss) := by
 obtain ⟨t, u, rfl⟩ := herr.iface
 have q1 := eqlNil
 have HE := Lib.hid herr
 clear herr
 go_enter Tryz.func37, Tryz.ntmps37
 go_wp2_with fail
 go_ret
 have hb : Below w.heap.size w (w.alloc (.cells #[.int .i64 n, .iface t u] 141)) := (Below.refl _ w).alloc (Nat.le_refl _) _
 exact ⟨w.heap.size, rfl, Nat.le_refl _, hb, heap_new _ _, .inr (.inr (.inl ⟨w.heap.size, n, .iface t u, ns, ss, rfl, by simp, heap_new _ _, (HE.out.below hb).mono hb.size, rfl, rfl⟩))⟩

theorem heap_lt {w : World} {k : Nat} {o : Obj} (h : w.heap[k]? = some o) : k < w.heap.size := by
 by_cases hk : k < w.heap.size
 ·exact hk
 ·rw [Array.getElem?_eq_none (by omega)] at h; cases h

def alive (xs : List Value) : List Value := xs.filter fun | .nilIface => false | _ => true

def Holds (w : World) (a : Option Addr) (xs : List Value) : Prop := ∀ (i : Nat) (x : Value), xs[i]? = some x → ∃ g o, a = some ⟨g, o, none⟩ ∧ g < w.heap.size ∧ w.cell? ⟨g, o + i, none⟩ = some x

def JPost (ys : List Value) (w : World) (e : Ending) (w' : World) : Prop :=
 Below w.heap.size w w' ∧ ((ys = [] ∧ e = .returned .nilIface) ∨ (∃ y, ys = [y] ∧ e = .returned y) ∨
  (2 ≤ ys.length ∧ ∃ b g cap row, e = .returned (.iface 136 (.pointer (some ⟨b, 0, none⟩))) ∧ w.heap.size ≤ b ∧ w.heap.size ≤ g ∧ w'.heap[b]? = some (.cells #[.slice (some ⟨g, 0, none⟩) ys.length cap] 138 (0, 0)) ∧
   w'.heap[g]? = some (.cells row 27 (0, 0)) ∧ ys.length ≤ cap ∧ row.toList.take ys.length = ys))

theorem alive_snoc (xs : List Value) (i : Nat) (x : Value) (h : xs[i]? = some x) : alive (xs.take (i + 1)) = alive (xs.take i) ++ alive [x] := by
 unfold alive
 rw [List.take_add_one, h, List.filter_append]; rfl

theorem alive_le (xs : List Value) (i : Nat) : (alive (xs.take i)).length ≤ i := by
 unfold alive
 exact Nat.le_trans (List.length_filter_le _ _) (List.length_take_le _ _)

set_option maxRecDepth 100000 in
set_option maxHeartbeats 1000000 in
theorem join10 (a : Option Addr) (xs : List Value) (cap : Nat) (w : World) (hm : xs.length ≤ 1000) (hx : ∀ x ∈ xs, x = .nilIface ∨ ∃ t u, x = .iface t u) (hh : Holds w a xs) :
  Calls Tryz.prog 35 #[.slice a xs.length cap] w (JPost (alive xs) w) := by
 have q1 := eqlNil
 have q2 := eqlNilNil
 have q3 := neqNil
 have q4 := neqNilNil
 obtain ⟨i0, hi, hz0, hz1, hz2⟩ := info_parts info24
 have HX := Lib.hid hx
 have HH := Lib.hid hh
 clear hx hh
 go_enter Tryz.func35, Tryz.ntmps35
 go_wp2
 go_loopg [3, 8] xs.length (fun q s3 s8 wr => ∃ i : Nat, s8 = .int .i64 i ∧ i ≤ xs.length ∧ q = xs.length - i ∧ Hid (wr.ownsRow w.heap.size 27 1 s3 (alive (xs.take i)).length (alive (xs.take i)) ∧ Below w.heap.size w wr))
 case atStart => exact ⟨0, rfl, Nat.zero_le _, rfl, Lib.hid ⟨World.ownsRow_nil _ _ _ _, Below.refl _ _⟩⟩
 case round =>
  obtain ⟨i, rfl, hi', rfl, HR⟩ := hrel
  have hal := alive_le xs i
  by_cases hlt : i < xs.length
  ·have hz : xs[i]? = some xs[i] := List.getElem?_eq_getElem hlt
   generalize xs[i] = x at hz
   obtain ⟨g, o, rfl, hg, hc⟩ := HH.out i x hz
   have hc' : wr.cell? ⟨g, o + i, none⟩ = some x := by rw [HR.out.2.cell (p := ⟨g, o + i, none⟩) hg]; exact hc
   have hxx := HX.out x (List.mem_of_getElem? hz)
   have HZ := Lib.hid hz
   clear hz hc
   rcases hxx with rfl | ⟨t, u, rfl⟩
   ·go_wp2_with fail
    go_roundg (xs.length - (i + 1))
    case measure => omega
    case rel =>
     refine ⟨i + 1, by go_num, by omega, rfl, Lib.hid ⟨?_, HR.out.2⟩⟩
     rw [alive_snoc xs i _ HZ.out]
     have : alive [Value.nilIface] = [] := rfl
     rw [this, List.append_nil]; exact HR.out.1
   ·go_wp2_with (at_builtin; refine wpList_append_own _ rfl (.tmp 14) (.tmp 16) 80 rfl w.heap.size 27 i0 .nilIface 1 16 Tryz.underlying80 hi hz0 hz1 hz2 rfl (by decide) _ (alive (xs.take i)).length _ rfl (HR.out.1.alloc _) ⟨wr.heap.size, 0, none⟩ 1 1 [.iface t u] rfl rfl ?c1 ?c2 ?c3 ?c4 ?c5 ?_)
    case c1 =>
     intro j u' hj
     cases j with
     | zero => cases hj; simp [Addr.add, go_sem]
     | succ j => simp at hj
    case c2 => intro u hu; rw [List.mem_singleton.1 hu]; rfl
    case c3 => unfold maxLen; omega
    case c4 => omega
    case c5 => have := HR.out.2.size; simp; omega
    intro v1 w1 hown1 hgrow1 _
    have hb1 : Below w.heap.size w w1 := by
     refine (HR.out.2.alloc HR.out.2.size _).grown hgrow1 (by have := HR.out.2.size; simp; omega) ?_
     intro k hk
     obtain ⟨_, ⟨rfl, _⟩ | ⟨g, cap, cur, rfl, hg, _⟩⟩ := HR.out.1
     ·cases hk
     ·cases hk; exact hg
    have H1 := Lib.hid (And.intro hown1 hb1)
    clear hown1 hgrow1 hb1
    go_wp2_with fail
    go_roundg (xs.length - (i + 1))
    case measure => omega
    case rel =>
     refine ⟨i + 1, by go_num, by omega, rfl, Lib.hid ⟨?_, H1.out.2⟩⟩
     rw [alive_snoc xs i _ HZ.out]
     have : alive [Value.iface t u] = [Value.iface t u] := rfl
     rw [this, List.length_append]; exact H1.out.1
  ·obtain rfl : i = xs.length := by omega
   have hr := HR.out
   rw [List.take_of_length_le (Nat.le_refl _)] at hr hal
   clear HR
   obtain ⟨⟨_, ⟨rfl, hn⟩ | ⟨g, cap', cur, hv, hg, hh, h1, h2, h3, h4⟩⟩, hb⟩ := hr
   ·have HN := Lib.hid (And.intro hn hb)
    clear hn hb
    go_wp2_with fail
    go_ret
    exact ⟨HN.out.2, .inl ⟨List.eq_nil_of_length_eq_zero HN.out.1, rfl⟩⟩
   ·obtain ⟨ys, hys⟩ : ∃ ys, ys = alive xs := ⟨_, rfl⟩
    obtain ⟨m, hm'⟩ : ∃ m, ys.length = m := ⟨_, rfl⟩
    rw [← hys, hm'] at hv h1 hal
    rw [← hys] at h4
    rw [hm', Nat.mul_one] at h4
    subst hv
    have HYS := Lib.hid hys
    have HN := Lib.hid (And.intro hm' (And.intro hb (And.intro hh (And.intro h4 (And.intro h1 hg)))))
    have hmx : m ≤ 1000 := by omega
    clear hb hh h4 h3 hm' hys hg h1 h2
    by_cases h0 : m = 0
    ·subst h0
     go_wp2_with fail
     go_ret
     rw [← HYS.out]
     exact ⟨HN.out.2.1, .inl ⟨List.eq_nil_of_length_eq_zero HN.out.1, rfl⟩⟩
    by_cases h00 : m = 1
    ·subst h00
     clear h0
     obtain ⟨y, rfl⟩ := List.length_eq_one_iff.1 HN.out.1
     have hc : wr.cell? ⟨g, 0, none⟩ = some y := by
      have h := HN.out.2.2.2.1
      have h2 : cur[0]? = some y := by
       have := congrArg (fun l : List Value => l[0]?) h
       simpa [List.getElem?_take] using this
      simp [World.cell?, HN.out.2.2.1, h2]
     go_wp2_with fail
     go_ret
     rw [← HYS.out]
     exact ⟨HN.out.2.1, .inr (.inl ⟨y, rfl, rfl⟩)⟩
    ·have e0 : ((m : Int) == 0) = false := by rw [beq_eq_false_iff_ne]; omega
     have e1 : ((m : Int) == 1) = false := by rw [beq_eq_false_iff_ne]; omega
     have hm2 : 2 ≤ m := by omega
     clear h0 h00
     go_wp2_with fail
     go_ret
     rw [← HYS.out]
     obtain ⟨hm', hb, hh, h4, h1, hg⟩ := HN.out
     subst hm'
     refine ⟨hb.alloc hb.size _, .inr (.inr ⟨hm2, wr.heap.size, g, cap', cur, rfl, hb.size, hg, heap_new _ _, by rw [Below.heap_alloc _ _ _ (heap_lt hh)]; exact hh, h1, by simpa using h4⟩)⟩

theorem JPost.tree {ys : List Value} {w w' : World} {e : Ending} (h : JPost ys w e w') (zs : List (Value × List Int × List Nd × List Int)) (hys : ys = zs.map (·.1)) (hm : zs.length ≤ 1000) (d : Nat)
  (hz : ∀ (i : Nat) (z : Value × List Int × List Nd × List Int), zs[i]? = some z → Err w w.heap.size d z.1 z.2.1 z.2.2.1 z.2.2.2) (hne : zs ≠ []) :
  ∃ v ns, e = .returned v ∧ Err w' w'.heap.size (d + 1) v (zs.map (·.2.1)).flatten ns (zs.map (·.2.2.2)).flatten ∧ nodesOf ns = (zs.map fun z => nodesOf z.2.2.1).flatten ∧ ∀ x ∈ (zs.map (·.2.2.1)).flatten, x ∈ ns := by
 obtain ⟨hb, ⟨h0, _⟩ | ⟨y, h1, he⟩ | ⟨h2, b, g, cap, row, he, hb1, hg1, hh, hr, hc, ht⟩⟩ := h
 ·rw [hys] at h0; exact absurd (List.map_eq_nil_iff.1 h0) hne
 ·rw [hys] at h1
  match zs, h1, hz with
  | [z], h1, hz =>
   simp at h1
   refine ⟨y, z.2.2.1, he, ?_, by simp, by simp⟩
   have := ((hz 0 z rfl).below hb).mono hb.size
   rw [h1] at this
   simpa using this.deeper
 ·refine ⟨_, _, he, .inr (.inr (.inr ⟨b, g, ys.length, cap, row, zs, rfl, ?_, ?_, hh, hr, hc, ?_, by omega, ?_, fun i x hx => ⟨?_, ((hz i x hx).below hb).mono hb.size⟩, rfl, rfl, rfl⟩)), ?_, fun x hx => List.mem_cons_of_mem _ hx⟩
  ·exact heap_lt hh
  ·exact heap_lt hr
  ·rw [hys, List.length_map]; exact hm
  ·rw [hys, List.length_map]
  ·have h3 : ys[i]? = some x.1 := by rw [hys, List.getElem?_map, hx]; rfl
   rw [← ht, List.getElem?_take] at h3
   split at h3
   ·simpa using h3
   ·cases h3
  ·have : nodesOf ((Value.iface 136 (.pointer (some ⟨b, 0, none⟩)), none) :: (zs.map (·.2.2.1)).flatten) = nodesOf (zs.map (·.2.2.1)).flatten := rfl
   rw [this, nodesOf_flat]

end Go.Proofs.YtobkmohoepgfmaaGreatDoor.Tr
