import Derived.Test.YtbifpjdkljibeaaDoorF
import Derived.Outline
namespace Go.Proofs.YtbifpjdkljibeaaDoor
open Go.RowKit Go.Extern.Stop Go.Stop Go.Extern Go.Extern.Rtype

def anyN (F : Value → Bool) (ns : List Nd) : Bool := ns.any fun x => F x.1
theorem anyN_cons (F : Value → Bool) (v : Value) (o : Option Int) (ns : List Nd) : anyN F ((v, o) :: ns) = (F v || anyN F ns) := rfl
theorem anyN_flat {α : Type} (F : Value → Bool) (f : α → List Nd) : ∀ (l : List α), (∀ (j : Nat) (z : α), l[j]? = some z → anyN F (f z) = false) → anyN F (l.map f).flatten = false
  | [], _ => rfl
  | a :: l, h => by
    have h0 := h 0 a rfl
    have := anyN_flat F f l (fun j z hz => h (j + 1) z (by simpa using hz))
    unfold anyN at *
    simp only [List.map_cons, List.flatten_cons, List.any_append, h0, this, Bool.or_self]
theorem anyN_hit {α : Type} (F : Value → Bool) (f : α → List Nd) (l : List α) (i : Nat) (z : α) (h : l[i]? = some z) (hz : anyN F (f z) = true) : anyN F (l.map f).flatten = true := by
  unfold anyN at *
  rw [List.any_eq_true] at hz ⊢
  obtain ⟨x, hx, hF⟩ := hz
  exact ⟨x, List.mem_flatten.2 ⟨f z, List.mem_map.2 ⟨z, List.mem_of_getElem? h, rfl⟩, hx⟩, hF⟩
theorem mem_flat {α : Type} (f : α → List Nd) (l : List α) (i : Nat) (z : α) (h : l[i]? = some z) (x : Nd) (hx : x ∈ f z) : x ∈ (l.map f).flatten :=
  List.mem_flatten.2 ⟨f z, List.mem_map.2 ⟨z, List.mem_of_getElem? h, rfl⟩, hx⟩

/-- '==' of each part of the tree with the target, in w and behind whatever only makes new blocks: as F says. -/
def EqAs (F : Value → Bool) (tv : Value) (B : Nat) (w : World) (ns : List Nd) : Prop := ∀ w', Below B w w' → ∀ x ∈ ns, (binOp .eql 24 x.1 tv).run Tryd.prog w' = .ok (.bool (F x.1)) w'

def IsPost (F : Value → Bool) (ns : List Nd) (w : World) (e : Ending) (w' : World) : Prop := e = .returned (.bool (anyN F ns)) ∧ Below w.heap.size w w'

def Is34 (d : Nat) : Prop := ∀ v cs ns ss w B F tt tx, Err w B d v cs ns ss → B ≤ w.heap.size → EqAs F (.iface tt tx) B w ns →
  Calls Tryd.prog 34 #[v, .iface tt tx, .bool true] w (IsPost F ns w)

set_option maxRecDepth 100000 in
set_option maxHeartbeats 1000000 in
theorem is34 (d : Nat) (ih : ∀ k, k < d → Is34 k) : Is34 d := by
  intro v cs ns ss w B F tt tx herr hBw heq
  have HE := Lib.hid herr
  have HQ := Lib.hid heq
  have IH := Lib.hid ih
  clear herr ih heq
  go_enter Tryd.func34, Tryd.ntmps34
  go_wp2_with fail
  go_loopg [0] d (fun k s0 wr => k ≤ d ∧ (∃ cs' ns' ss', Hid (Err wr B k s0 cs' ns' ss' ∧ anyN F ns' = anyN F ns ∧ ∀ x ∈ ns', x ∈ ns)) ∧ Below w.heap.size w wr)
  case atStart => exact ⟨Nat.le_refl _, ⟨cs, ns, ss, Lib.hid ⟨HE.out, rfl, fun _ h => h⟩⟩, Below.refl _ _⟩
  case round =>
    obtain ⟨hkd, ⟨cs', ns', ss', HR⟩, hb⟩ := hrel
    have HB := Lib.hid hb
    clear hb
    obtain ⟨hr, hany, hsub⟩ := HR.out
    cases gk with
    | zero => exact hr.elim
    | succ k =>
      have q := eqlNil
      have hbB : Below B w wr := HB.out.mono hBw
      rcases hr with ⟨n, rfl, h1, h2, h3⟩ | ⟨b, sx, rfl, h0, h1, h2, h3, h4⟩ | ⟨b, n, y, ns2, rfl, h1, h2, h3, h4⟩ | ⟨b, n, y, ns2, ss2, rfl, h1, h2, h3, h4, h5⟩ | ⟨b, g, m, cap, row, vs, rfl, h1, h2, h3, h4, h5, h6, h7, h8, h9, h10, h11, h12⟩
      · have heq := HQ.out wr hbB _ (hsub _ (by rw [h2]; exact List.mem_singleton.2 rfl))
        rw [h2, anyN_cons] at hany
        have t6 := taIsE
        have t7 := taUnE
        have t8 := taUnsE
        clear h1 h2 h3 HE IH hsub hbB HR
        cases hF : F (.iface 26 (.int .i64 n))
        · rw [hF] at heq hany
          have HA := Lib.hid hany
          clear hany hF
          go_wp2
          go_ret
          exact ⟨by rw [← HA.out]; rfl, HB.out⟩
        · rw [hF] at heq hany
          have HA := Lib.hid hany
          clear hany hF
          go_wp2
          go_ret
          exact ⟨by rw [← HA.out]; rfl, HB.out⟩
      · have heq := HQ.out wr hbB _ (hsub _ (by rw [h3]; exact List.mem_singleton.2 rfl))
        rw [h3, anyN_cons] at hany
        have t6 := taIsS
        have t7 := taUnS
        have t8 := taUnsS
        clear h1 h2 h3 HE IH hsub hbB HR h0 h4
        cases hF : F (.iface 64 (.pointer (some ⟨b, 0, none⟩)))
        · rw [hF] at heq hany
          have HA := Lib.hid hany
          clear hany hF
          go_wp2
          go_ret
          exact ⟨by rw [← HA.out]; rfl, HB.out⟩
        · rw [hF] at heq hany
          have HA := Lib.hid hany
          clear hany hF
          go_wp2
          go_ret
          exact ⟨by rw [← HA.out]; rfl, HB.out⟩
      · have heq := HQ.out wr hbB _ (hsub _ (by rw [h4]; exact List.mem_cons_self))
        have hsub2 : ∀ x ∈ ns2, x ∈ ns := fun x hx => hsub x (by rw [h4]; exact List.mem_cons_of_mem _ hx)
        rw [h4, anyN_cons] at hany
        have t6 := taIsN
        have t7 := taUnN
        have t9 := mUnN
        have t10 := naUnN
        obtain ⟨ty, y', rfl⟩ := h3.iface
        have H2 := Lib.hid h2
        clear h2 HE IH hsub hbB HR h4
        cases hF : F (.iface 32 (.pointer (some ⟨b, 0, none⟩)))
        · rw [hF] at heq hany
          have H3 := Lib.hid (And.intro h3 (And.intro hany hsub2))
          clear hany hF h3 hsub2
          go_wp2_with (go_at_call 83; refine (onUnwrap b _ _ _ H2.out).mono ?_; rintro e w' ⟨rfl, rfl⟩)
          go_roundg k
          case measure => omega
          case rel => exact ⟨by omega, ⟨_, _, _, Lib.hid ⟨H3.out.1, by rw [← H3.out.2.1]; rfl, H3.out.2.2⟩⟩, HB.out⟩
        · rw [hF] at heq hany
          have HA := Lib.hid hany
          clear hany hF h3 hsub2
          go_wp2_with fail
          go_ret
          exact ⟨by rw [← HA.out]; rfl, HB.out⟩
      · have heq := HQ.out wr hbB _ (hsub _ (by rw [h5]; exact List.mem_cons_self))
        have hsub2 : ∀ x ∈ ns2, x ∈ ns := fun x hx => hsub x (by rw [h5]; exact List.mem_cons_of_mem _ hx)
        rw [h5, anyN_cons] at hany
        have t6 := taIsF
        have t7 := taUnF
        have t9 := mUnF
        have t10 := naUnF
        obtain ⟨ty, y', rfl⟩ := h3.iface
        have H2 := Lib.hid h2
        clear h2 HE IH hsub hbB HR h4 h5
        cases hF : F (.iface 55 (.pointer (some ⟨b, 0, none⟩)))
        · rw [hF] at heq hany
          have H3 := Lib.hid (And.intro h3 (And.intro hany hsub2))
          clear hany hF h3 hsub2
          go_wp2_with (go_at_call 86; refine (ofUnwrap b _ _ _ H2.out).mono ?_; rintro e w' ⟨rfl, rfl⟩)
          go_roundg k
          case measure => omega
          case rel => exact ⟨by omega, ⟨_, _, _, Lib.hid ⟨H3.out.1, by rw [← H3.out.2.1]; rfl, H3.out.2.2⟩⟩, HB.out⟩
        · rw [hF] at heq hany
          have HA := Lib.hid hany
          clear hany hF h3 hsub2
          go_wp2_with fail
          go_ret
          exact ⟨by rw [← HA.out]; rfl, HB.out⟩
      · obtain ⟨wo, rfl⟩ : ∃ wo : World, wo = wr := ⟨wr, rfl⟩
        have heq := HQ.out wo hbB _ (hsub _ (by rw [h11]; exact List.mem_cons_self))
        have hsub2 : ∀ x ∈ (vs.map (·.2.2.1)).flatten, x ∈ ns := fun x hx => hsub x (by rw [h11]; exact List.mem_cons_of_mem _ hx)
        rw [h11, anyN_cons] at hany
        have t6 := taIsA
        have t7 := taUnA
        have t8 := taUnsA
        have t9 := mUnA
        have t10 := naUnA
        have hrow := take_row row m vs h8 (fun i x hx => (h9 i x hx).1)
        have hsz : m ≤ row.size := by
          have := congrArg List.length hrow
          simp at this; omega
        have hone : ∀ y ∈ row.toList.take m, Value.oneCell' y = true := by
          intro y hy
          rw [hrow] at hy
          obtain ⟨z, hz, rfl⟩ := List.mem_map.1 hy
          obtain ⟨i, hi⟩ := List.mem_iff_getElem?.1 hz
          obtain ⟨t, u, hu⟩ := (h9 i z hi).2.iface
          rw [hu]; rfl
        have HH := Lib.hid (And.intro h3 (And.intro h4 (And.intro h9 (And.intro hrow (And.intro hsz (And.intro hone hsub2))))))
        clear h3 h4 h9 hrow hsz hone h10 h11 h12 HR HE hsub hsub2 hbB
        cases hF : F (.iface 33 (.pointer (some ⟨b, 0, none⟩)))
        case true =>
          rw [hF] at heq hany
          have HA := Lib.hid hany
          clear hany hF
          go_wp2_with fail
          go_ret
          exact ⟨by rw [← HA.out]; rfl, HB.out⟩
        rw [hF] at heq hany
        have HA := Lib.hid hany
        clear hany hF
        go_wp2_with (go_at_call 84; refine (allUnwrap b g m cap row _ HH.out.1 HH.out.2.1 h6 h7 HH.out.2.2.2.2.1 HH.out.2.2.2.2.2.1).mono ?_; rintro e w1 ⟨v1, rfl, ho, hb1, hn⟩)
        rw [HH.out.2.2.2.1] at ho
        obtain ⟨g1, cap1, rfl, hg1, hg2, hcap, hmax, hcell⟩ := owns_open ho hn
        have HC := Lib.hid hcell
        have HB1 := Lib.hid hb1
        clear ho hn hcell hb1
        have hlen : ∀ (w : World) (a : Option Addr) (n c : Nat), (Builtin.len_ #[29] 3 #[.slice a n c]).run Tryd.prog w = .ok (.int .i64 n) w := fun _ _ _ _ => by kernel_rfl
        go_wp2
        rw [hlen]
        go_wp2
        go_loopg [45] m (fun q s45 wr => ∃ i : Nat, s45 = .int .i64 i ∧ i ≤ m ∧ q = m - i ∧ Below w1.heap.size w1 wr ∧ Hid (∀ (j : Nat) (z : Value × List Int × List Nd × List Int), j < i → vs[j]? = some z → anyN F z.2.2.1 = false))
        case atStart => exact ⟨0, rfl, by omega, rfl, Below.refl _ _, Lib.hid (fun j z hj => absurd hj (by omega))⟩
        case round =>
          obtain ⟨i, rfl, hi, rfl, hbx, HD⟩ := hrel
          have hmx : m ≤ 9223372036854775807 := by omega
          have hbw : Below wo.heap.size wo wr := HB1.out.trans (hbx.mono HB1.out.size)
          have hBo : B ≤ wo.heap.size := Nat.le_trans hBw HB.out.size
          by_cases hlt : i < m
          · have hz : vs[i]? = some vs[i] := List.getElem?_eq_getElem (by omega)
            generalize vs[i] = z at hz
            have hcell : wr.cell? ⟨g1, i, none⟩ = some z.1 := by
              rw [hbx.cell (p := ⟨g1, i, none⟩) hg2]
              exact HC.out i z.1 (by rw [List.getElem?_map, hz]; rfl)
            obtain ⟨tz, uz, huz⟩ := (HH.out.2.2.1 i z hz).2.iface
            have HZ := Lib.hid hz
            have HX := Lib.hid hbx
            have HW := Lib.hid hbw
            have HUZ := Lib.hid huz
            rw [huz] at hcell
            clear hz hbx hbw huz
            go_wp2_with fail
            refine (IH.out k (by omega) _ z.2.1 z.2.2.1 z.2.2.2 _ B F tt tx (by have := (HH.out.2.2.1 i z HZ.out).2.below (HW.out.mono hBo); rw [HUZ.out] at this; exact this) (by have := HW.out.size; omega)
              (fun w' hw' x hx => HQ.out w' ((HB.out.mono hBw).trans ((HW.out.mono hBo).trans hw')) x (HH.out.2.2.2.2.2.2 x (mem_flat (·.2.2.1) vs i z HZ.out x hx)))).mono ?_
            rintro e w2 ⟨rfl, hb2⟩
            have HB2 := Lib.hid hb2
            clear hb2
            cases hA : anyN F z.2.2.1
            · have HL := Lib.hid hA
              clear hA
              go_wp2_with fail
              go_roundg (m - (i + 1))
              case measure => omega
              case rel =>
                refine ⟨i + 1, by go_num, by omega, rfl, HX.out.trans (HB2.out.mono HX.out.size), Lib.hid fun j y hj hy => ?_⟩
                by_cases hji : j < i
                · exact HD.out j y hji hy
                · obtain rfl : j = i := by omega
                  rw [HZ.out] at hy; cases hy
                  exact HL.out
            · have HL := Lib.hid hA
              clear hA
              go_wp2_with fail
              go_ret
              refine ⟨?_, HB.out.trans ((HW.out.trans (HB2.out.mono HW.out.size)).mono HB.out.size)⟩
              rw [← HA.out, anyN_hit F (·.2.2.1) vs i z HZ.out HL.out]; rfl
          · obtain rfl : i = m := by omega
            have HX := Lib.hid hbx
            have HW := Lib.hid hbw
            clear hbx hbw
            go_wp2_with fail
            go_ret
            refine ⟨?_, HB.out.trans (HW.out.mono HB.out.size)⟩
            rw [← HA.out, anyN_flat F (·.2.2.1) vs (fun j z hz => HD.out j z (by have := (List.getElem?_eq_some_iff.1 hz).1; omega) hz)]; rfl

theorem is34_all (d : Nat) : Is34 d := by
  induction d using Nat.strongRecOn with
  | _ d ih => exact is34 d ih

end Go.Proofs.YtbifpjdkljibeaaDoor
