import Derived.Test.YtbifpjdkljibeaaDoorP
import Derived.Outline
namespace Go.Proofs.YtbifpjdkljibeaaDoor
open Go.RowKit Go.Extern.Stop Go.Stop Go.Extern Go.Extern.Rtype

/-- How errors.as ends at a target that holds a *cause.On: c the variable's block. -/
def AsPostN (c : Nat) (l : List Int) (w : World) (e : Ending) (w' : World) : Prop :=
  (l = [] ∧ e = .returned (.bool false) ∧ Below w.heap.size w w') ∨ (∃ n r, l = n :: r ∧ e = .returned (.bool true) ∧ But c w w' ∧ ∃ b y, b < c ∧ w'.cell? ⟨c, 0, none⟩ = some (.pointer (some ⟨b, 0, none⟩)) ∧ w'.heap[b]? = some (.cells #[.int .i64 n, y] 42 (0, 0)))

def As32 (d : Nat) : Prop := ∀ v cs ns ss w B c x, Err w B d v cs ns ss → B ≤ c → c < x → w.cell? ⟨c, 0, none⟩ = some (.pointer none) → w.frozen? ⟨c, 0, none⟩ = false → w.cell? ⟨x, 0, none⟩ = some (.pointer (some ⟨c, 0, none⟩)) →
  Calls Tryd.prog 30 #[v, .iface 40 (.pointer (some ⟨c, 0, none⟩)), .agg #[.pointer (some ⟨4, 40, none⟩), .pointer (some ⟨x, 0, none⟩), .int .u64 150], .iface 97 (.agg #[.pointer (some ⟨4, 32, none⟩)])] w (AsPostN c (nodesOf ns) w)

set_option maxRecDepth 100000 in
set_option maxHeartbeats 1000000 in
theorem as32 (d : Nat) (ih : ∀ k, k < d → As32 k) : As32 d := by
  intro v cs ns ss w B c x herr hBc hcx hc hcf hx
  have hcb := cell?_lt hc
  have hxb := cell?_lt hx
  have HE := Lib.hid herr
  have IH := Lib.hid ih
  clear herr ih
  go_enter Tryd.func30, Tryd.ntmps30
  go_wp2_with fail
  go_loopg [0] d (fun k s0 wr => k ≤ d ∧ (∃ cs' ns' ss', Hid (Err wr B k s0 cs' ns' ss' ∧ nodesOf ns' = nodesOf ns)) ∧ Below (w.heap.size + 1) (w.alloc (.cells #[.pointer (some ⟨4, 40, none⟩), .pointer (some ⟨x, 0, none⟩), .int .u64 150] 72)) wr)
  case atStart => exact ⟨Nat.le_refl _, ⟨cs, ns, ss, Lib.hid ⟨HE.out.below ((Below.refl _ _).alloc (by omega) _), rfl⟩⟩, Below.refl _ _⟩
  case round =>
    obtain ⟨hkd, ⟨cs', ns', ss', HR⟩, hb⟩ := hrel
    have kc : wr.cell? ⟨c, 0, none⟩ = some (.pointer none) := by rw [hb.cell (p := ⟨c, 0, none⟩) (by show c < _; omega), World.cell?_alloc_past _ _ _ hcb]; exact hc
    have kf : wr.frozen? ⟨c, 0, none⟩ = false := by rw [hb.frozen (p := ⟨c, 0, none⟩) (by show c < _; omega)]; simp [hcf, hcb, go_sem]
    have kx : wr.cell? ⟨x, 0, none⟩ = some (.pointer (some ⟨c, 0, none⟩)) := by rw [hb.cell (p := ⟨x, 0, none⟩) (by show x < _; omega), World.cell?_alloc_past _ _ _ hxb]; exact hx
    have k0 : wr.cell? ⟨w.heap.size, 0, none⟩ = some (.pointer (some ⟨4, 40, none⟩)) := by rw [hb.cell (p := ⟨w.heap.size, 0, none⟩) (by show w.heap.size < _; omega)]; simp [go_sem]
    have k1 : wr.cell? ⟨w.heap.size, 1, none⟩ = some (.pointer (some ⟨x, 0, none⟩)) := by rw [hb.cell (p := ⟨w.heap.size, 1, none⟩) (by show w.heap.size < _; omega)]; simp [go_sem]
    have k2 : wr.cell? ⟨w.heap.size, 2, none⟩ = some (.int .u64 150) := by rw [hb.cell (p := ⟨w.heap.size, 2, none⟩) (by show w.heap.size < _; omega)]; simp [go_sem]
    have HB := Lib.hid hb
    clear hb hc hcf hx
    have m4 := mAsg
    obtain ⟨hr, hnd⟩ := HR.out
    cases gk with
    | zero => exact hr.elim
    | succ k =>
      rcases hr with ⟨n, rfl, h1, h2, h3⟩ | ⟨b, sx, rfl, h0, h1, h2, h3, h4⟩ | ⟨b, n, y, ns2, rfl, h1, h2, h3, h4⟩ | ⟨b, n, y, ns2, ss2, rfl, h1, h2, h3, h4, h5⟩ | ⟨b, g, m, cap, row, vs, rfl, h1, h2, h3, h4, h5, h6, h7, h8, h9, h10, h11, h12⟩
      · have t1 := Tryd.typeOfE
        have t2 := Tryd.asgE32
        have t6 := taAsE
        have t7 := taUnE
        have t8 := taUnsE
        have H1 := Lib.hid (show nodesOf ns = [] by rw [← hnd, h2]; rfl)
        clear hnd h1 h2 h3 HR HE IH
        go_wp2
        go_ret
        refine .inl ⟨H1.out, rfl, ?_⟩
        have hb := HB.out
        exact ((Below.refl _ w).alloc (by omega) _).trans (hb.mono (by omega))
      · have t1 := Tryd.typeOfS
        have t2 := Tryd.asgS32
        have t6 := taAsS
        have t7 := taUnS
        have t8 := taUnsS
        have H1 := Lib.hid (show nodesOf ns = [] by rw [← hnd, h3]; rfl)
        clear hnd h0 h1 h2 h3 h4 HR HE IH
        go_wp2
        go_ret
        refine .inl ⟨H1.out, rfl, ?_⟩
        have hb := HB.out
        exact ((Below.refl _ w).alloc (by omega) _).trans (hb.mono (by omega))
      · have t1 := Tryd.typeOfN
        have t2 := Tryd.asgN32
        have t3 := velem40
        have t4 := Tryd.valueOfN
        have hcr : c < wr.heap.size := cell?_lt kc
        have t5 := vset32 ⟨c, 0, none⟩ ⟨wr.heap.size, 0, none⟩ (some ⟨b, 0, none⟩) (.pointer none) (wr.alloc (.cells #[.pointer (some ⟨b, 0, none⟩)] 32)) (by simp [go_sem]) (by rw [World.cell?_alloc_past _ _ _ hcr]; exact kc) (by simp [kf, hcr, go_sem])
        have H1 := Lib.hid (And.intro h2 (show nodesOf ns = n :: nodesOf ns2 by rw [← hnd, h4]; rfl))
        clear hnd h2 h3 h4 HR HE IH
        go_wp2
        go_ret
        refine .inr ⟨n, nodesOf ns2, H1.out.2, rfl, ?_, b, y, by omega, by simp [kc, hcr, go_sem], ?_⟩
        · have hb := HB.out
          exact ((But.of (((Below.refl _ w).alloc (Nat.le_refl _) _).trans (hb.mono (by omega)))).trans (But.set c _ _)).trans (But.of ((Below.refl _ _).alloc (Nat.le_refl _) _))
        · have hx := ((Below.refl c wr).setCell (p := ⟨c, 0, none⟩) (Nat.le_refl c) (.pointer (some ⟨b, 0, none⟩))).alloc (by simp [World.setCell]; omega) (.cells #[.pointer (some ⟨b, 0, none⟩)] 32)
          rw [hx.block b (by omega)]; exact H1.out.1
      · have t1 := Tryd.typeOfF
        have t2 := Tryd.asgF32
        have t6 := taAsF
        have t7 := taUnF
        have t9 := mUnF
        have t10 := naUnF
        have q := eqlNil
        obtain ⟨ty, y', rfl⟩ := h3.iface
        have H2 := Lib.hid h2
        have H3 := Lib.hid (And.intro h3 (show nodesOf ns2 = nodesOf ns by rw [← hnd, h5]; rfl))
        clear hnd h2 h3 h4 h5 HR HE IH
        go_wp2_with (go_at_call 86; refine (ofUnwrap b _ _ _ H2.out).mono ?_; rintro e w' ⟨rfl, rfl⟩)
        go_roundg k
        case measure => omega
        case rel => exact ⟨by omega, ⟨_, _, _, H3⟩, HB.out⟩
      · obtain ⟨wo, rfl⟩ : ∃ wo : World, wo = wr := ⟨wr, rfl⟩
        have t1 := Tryd.typeOfA
        have t2 := Tryd.asgA32
        have t6 := taAsA
        have t7 := taUnA
        have t8 := taUnsA
        have t9 := mUnA
        have t10 := naUnA
        have q := eqlNil
        have hrow := take_row row m vs h8 (fun i x hx => (h9 i x hx).1)
        have hsz : m ≤ row.size := by
          have := congrArg List.length hrow
          simp at this; omega
        have hone : ∀ y ∈ row.toList.take m, Value.oneCell' y = true := by
          intro y hy
          rw [hrow] at hy
          obtain ⟨z, hz, rfl⟩ := List.mem_map.1 hy
          obtain ⟨i, hi⟩ := List.mem_iff_getElem?.1 hz
          obtain ⟨t, u, hu⟩ := (h9 i z hi).2.iface
          rw [hu]; rfl
        have HH := Lib.hid (And.intro h3 (And.intro h4 (And.intro h9 (And.intro hrow (And.intro hsz (And.intro hone (show nodesOf ns = (vs.map fun z => nodesOf z.2.2.1).flatten by rw [← hnd, h11]; exact nodesOf_flat (·.2.2.1) vs)))))))
        clear h3 h4 h9 hrow hsz hone h10 h11 h12 hnd HR HE
        go_wp2_with (go_at_call 84; refine (allUnwrap b g m cap row _ HH.out.1 HH.out.2.1 h6 h7 HH.out.2.2.2.2.1 HH.out.2.2.2.2.2.1).mono ?_; rintro e w1 ⟨v1, rfl, ho, hb1, hn⟩)
        rw [HH.out.2.2.2.1] at ho
        obtain ⟨g1, cap1, rfl, hg1, hg2, hcap, hmax, hcell⟩ := owns_open ho hn
        have HC := Lib.hid hcell
        have HB1 := Lib.hid hb1
        clear ho hn hcell hb1
        have hlen : ∀ (w : World) (a : Option Addr) (n c : Nat), (Builtin.len_ #[29] 3 #[.slice a n c]).run Tryd.prog w = .ok (.int .i64 n) w := fun _ _ _ _ => by kernel_rfl
        go_wp2
        rw [hlen]
        go_wp2
        go_loopg [50] m (fun q s50 wr => ∃ i : Nat, s50 = .int .i64 i ∧ i ≤ m ∧ q = m - i ∧ Below w1.heap.size w1 wr ∧ Hid (∀ (j : Nat) (z : Value × List Int × List Nd × List Int), j < i → vs[j]? = some z → nodesOf z.2.2.1 = []))
        case atStart => exact ⟨0, rfl, by omega, rfl, Below.refl _ _, Lib.hid (fun j z hj => absurd hj (by omega))⟩
        case round =>
          obtain ⟨i, rfl, hi, rfl, hbx, HD⟩ := hrel
          have hmx : m ≤ 9223372036854775807 := by omega
          have hbw : Below wo.heap.size wo wr := HB1.out.trans (hbx.mono HB1.out.size)
          have hcr : c < wo.heap.size := cell?_lt kc
          have hxr : x < wo.heap.size := cell?_lt kx
          have hwo : w.heap.size < wo.heap.size := cell?_lt k0
          have kc' : wo.cell? ⟨c, 0, none⟩ = wr.cell? ⟨c, 0, none⟩ := (hbw.cell (p := ⟨c, 0, none⟩) hcr).symm
          have kf' : wo.frozen? ⟨c, 0, none⟩ = wr.frozen? ⟨c, 0, none⟩ := (hbw.frozen (p := ⟨c, 0, none⟩) hcr).symm
          have kx' : wo.cell? ⟨x, 0, none⟩ = wr.cell? ⟨x, 0, none⟩ := (hbw.cell (p := ⟨x, 0, none⟩) hxr).symm
          have k0' : wo.cell? ⟨w.heap.size, 0, none⟩ = wr.cell? ⟨w.heap.size, 0, none⟩ := (hbw.cell (p := ⟨w.heap.size, 0, none⟩) hwo).symm
          have k1' : wo.cell? ⟨w.heap.size, 1, none⟩ = wr.cell? ⟨w.heap.size, 1, none⟩ := (hbw.cell (p := ⟨w.heap.size, 1, none⟩) hwo).symm
          have k2' : wo.cell? ⟨w.heap.size, 2, none⟩ = wr.cell? ⟨w.heap.size, 2, none⟩ := (hbw.cell (p := ⟨w.heap.size, 2, none⟩) hwo).symm
          rw [kc'] at kc; rw [kf'] at kf; rw [kx'] at kx; rw [k0'] at k0; rw [k1'] at k1; rw [k2'] at k2
          clear kc' kf' kx' k0' k1' k2'
          by_cases hlt : i < m
          · have hz : vs[i]? = some vs[i] := List.getElem?_eq_getElem (by omega)
            generalize vs[i] = z at hz
            have hcell : wr.cell? ⟨g1, i, none⟩ = some z.1 := by
              rw [hbx.cell (p := ⟨g1, i, none⟩) hg2]
              exact HC.out i z.1 (by rw [List.getElem?_map, hz]; rfl)
            obtain ⟨tz, uz, huz⟩ := (HH.out.2.2.1 i z hz).2.iface
            have HZ := Lib.hid hz
            have HX := Lib.hid hbx
            have HW := Lib.hid hbw
            have HUZ := Lib.hid huz
            rw [huz] at hcell
            clear hz hbx hbw huz
            go_wp2_with fail
            refine (IH.out k (by omega) _ _ _ _ _ B c x (by have := (HH.out.2.2.1 i z HZ.out).2.below (HW.out.mono (by omega)); rw [HUZ.out] at this; exact this) hBc hcx kc kf kx).mono ?_
            rintro e w2 (⟨hl, rfl, hb2⟩ | ⟨n, r, hl, rfl, hb2, hc2⟩)
            · have HL := Lib.hid hl
              have HB2 := Lib.hid hb2
              clear hl hb2
              go_wp2_with fail
              go_roundg (m - (i + 1))
              case measure => omega
              case rel =>
                refine ⟨i + 1, by go_num, by omega, rfl, HX.out.trans (HB2.out.mono HX.out.size), Lib.hid fun j y hj hy => ?_⟩
                by_cases hji : j < i
                · exact HD.out j y hji hy
                · obtain rfl : j = i := by omega
                  rw [HZ.out] at hy; cases hy
                  exact HL.out
            · have HL := Lib.hid hl
              have HB2 := Lib.hid (And.intro hb2 hc2)
              clear hl hb2 hc2
              go_wp2_with fail
              go_ret
              obtain ⟨r', hr'⟩ := flat_first (fun z : Value × List Int × List Nd × List Int => nodesOf z.2.2.1) n r vs i z HZ.out HD.out HL.out
              refine .inr ⟨n, r', by rw [HH.out.2.2.2.2.2.2]; exact hr', rfl, ?_, HB2.out.2⟩
              have hb := HB.out
              exact (But.of ((((Below.refl _ w).alloc (Nat.le_refl _) _).trans (hb.mono (by omega))).trans (HW.out.mono (by omega)))).trans HB2.out.1
          · obtain rfl : i = m := by omega
            have HX := Lib.hid hbx
            have HW := Lib.hid hbw
            clear hbx hbw
            go_wp2_with fail
            go_ret
            refine .inl ⟨by rw [HH.out.2.2.2.2.2.2]; exact flat_none (fun z : Value × List Int × List Nd × List Int => nodesOf z.2.2.1) vs (fun j z hz => HD.out j z (by have := (List.getElem?_eq_some_iff.1 hz).1; omega) hz), rfl, ?_⟩
            have hb := HB.out
            exact (((Below.refl _ w).alloc (by omega) _).trans (hb.mono (by omega))).trans (HW.out.mono (by omega))

end Go.Proofs.YtbifpjdkljibeaaDoor
