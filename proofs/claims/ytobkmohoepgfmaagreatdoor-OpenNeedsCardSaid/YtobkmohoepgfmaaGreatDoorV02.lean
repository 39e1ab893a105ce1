import Derived.Test.YtobkmohoepgfmaaGreatDoorV01
import Derived.Lib.Hide
import Derived.Outline
namespace Go.Proofs.YtobkmohoepgfmaaGreatDoor.Tr
open Go.RowKit

theorem info24 : (Tryz.prog.info? 27).map (fun i => (i.zero, i.size, i.bytes)) = some (some .nilIface, 1, 16) := by kernel_rfl

theorem cell_add {w : World} {g j : Nat} {row : Array Value} {t : TypeId} {fr : Nat × Nat} {u : Value} (hg : w.heap[g]? = some (.cells row t fr)) (hj : row[j]? = some u) : w.cell? ((⟨g, 0, none⟩ : Addr).add j) = some u := by
 by_cases h0 : j = 0
 ·subst h0; simp [World.cell?, Addr.add, hg, hj]
 ·simp [World.cell?, Addr.add, hg, hj, h0]

set_option maxHeartbeats 400000 in
theorem allUnwrap (b g m cap : Nat) (row : Array Value) (w : World) (h : w.heap[b]? = some (.cells #[.slice (some ⟨g, 0, none⟩) m cap] 138 (0, 0))) (hg : w.heap[g]? = some (.cells row 27 (0, 0)))
  (hm : m ≤ 1000) (h0 : 0 < m) (hr : m ≤ row.size) (h1 : ∀ x ∈ row.toList.take m, Value.oneCell' x = true) :
  Calls Tryz.prog 242 #[.pointer (some ⟨b, 0, none⟩)] w fun e w' => ∃ v, e = .returned v ∧ w'.ownsRow w.heap.size 27 1 v m (row.toList.take m) ∧ Below w.heap.size w w' ∧ v ≠ .slice none 0 0 := by
 have hc : w.cell? ⟨b, 0, none⟩ = some (.slice (some ⟨g, 0, none⟩) m cap) := by simp [World.cell?, h]
 obtain ⟨i0, hi, hz0, hz1, hz2⟩ := info_parts info24
 have HG := Lib.hid hg
 have H1 := Lib.hid h1
 clear h hg h1
 go_enter Tryz.func242, Tryz.ntmps242
 go_wp2_with (at_builtin; refine wpList_append_own _ rfl _ _ 80 rfl w.heap.size 27 i0 .nilIface 1 16 Tryz.underlying80 hi hz0 hz1 hz2 rfl (by decide) _ _ _ rfl (World.ownsRow_nil _ _ _ _) ⟨g, 0, none⟩ m cap (row.toList.take m) rfl ?c1 ?c2 ?c3 ?c4 ?c5 ?c6 ?_)
 case c1 => simp; omega
 case c2 =>
  intro j u hj
  have hg := HG.out
  rw [List.getElem?_take] at hj
  split at hj
  ·exact cell_add hg (by simpa using hj)
  ·cases hj
 case c3 => exact H1.out
 case c4 => unfold maxLen; omega
 case c5 => omega
 case c6 => exact Nat.le_refl _
 intro v' w' hown hgrow hnil
 have HO := Lib.hid hown
 have HW := Lib.hid hgrow
 have HN := Lib.hid hnil
 clear hown hgrow hnil
 go_wp2
 go_ret
 refine ⟨v', rfl, ?_, (Below.refl _ _).grown HW.out (Nat.le_refl _) (fun k hk => by cases hk), fun e => ?_⟩
 ·exact HO.out
 ·have := HN.out.1 e; omega

theorem take_row {α : Type} (row : Array Value) (m : Nat) (vs : List (Value × α)) (hl : vs.length = m) (h : ∀ (i : Nat) (x : Value × α), vs[i]? = some x → row[i]? = some x.1) : row.toList.take m = vs.map (·.1) := by
 apply List.ext_getElem?
 intro i
 rw [List.getElem?_take, List.getElem?_map]
 by_cases hi : i < m
 ·rw [if_pos hi]
  have hv : i < vs.length := by omega
  have := h i vs[i] (List.getElem?_eq_getElem hv)
  rw [List.getElem?_eq_getElem hv]
  simpa using this
 ·rw [if_neg hi, List.getElem?_eq_none (by omega)]; rfl

theorem owns_open {w : World} {base m : Nat} {t : TypeId} {v : Value} {xs : List Value} (h : w.ownsRow base t 1 v m xs) (hn : v ≠ .slice none 0 0) :
  ∃ g cap, v = .slice (some ⟨g, 0, none⟩) m cap ∧ base ≤ g ∧ g < w.heap.size ∧ m ≤ cap ∧ cap ≤ maxLen ∧ ∀ i y, xs[i]? = some y → w.cell? ⟨g, i, none⟩ = some y := by
 obtain ⟨_, h | ⟨g, cap, cur, rfl, hb, hg, h1, h2, h3, h4⟩⟩ := h
 ·exact absurd h.1 hn
 ·refine ⟨g, cap, rfl, hb, ?_, h1, h2, fun i y hy => ?_⟩
  ·by_cases hlt : g < w.heap.size
   ·exact hlt
   ·rw [Array.getElem?_eq_none (by omega)] at hg; cases hg
  ·rw [← h4, List.getElem?_take] at hy
   split at hy
   ·simp only [Array.getElem?_toList] at hy
    simp [World.cell?, hg, hy]
   ·cases hy

theorem flat_none {α : Type} (f : α → List Int) : ∀ (l : List α), (∀ (j : Nat) (z : α), l[j]? = some z → f z = []) → (l.map f).flatten = []
 | [], _ => rfl
 | a :: l, h => by
  have h0 := h 0 a rfl
  have := flat_none f l (fun j z hz => h (j + 1) z (by simpa using hz))
  simp [h0, this]

theorem flat_first {α : Type} (f : α → List Int) (n : Int) (r : List Int) : ∀ (l : List α) (i : Nat) (z : α), l[i]? = some z → (∀ (j : Nat) (z : α), j < i → l[j]? = some z → f z = []) → f z = n :: r → ∃ r', (l.map f).flatten = n :: r'
 | [], i, z, h, _, _ => by cases h
 | a :: l, 0, z, h, _, hz => by
  cases h
  exact ⟨r ++ (l.map f).flatten, by simp [hz]⟩
 | a :: l, i + 1, z, h, hn, hz => by
  have h0 := hn 0 a (by omega) rfl
  obtain ⟨r', hr⟩ := flat_first f n r l i z (by simpa using h) (fun j z hj hz => hn (j + 1) z (by omega) (by simpa using hz)) hz
  exact ⟨r', by simp [h0, hr]⟩

structure But (c : Nat) (w w' : World) : Prop where
 os : w'.os = w.os
 tape : w'.tape = w.tape
 output : w'.output = w.output
 size : w.heap.size ≤ w'.heap.size
 block : ∀ k, k < w.heap.size → k ≠ c → w'.heap[k]? = w.heap[k]?

theorem But.of {c : Nat} {w w' : World} (h : Below w.heap.size w w') : But c w w' := ⟨h.os, h.tape, h.output, h.size, fun k hk _ => h.block k hk⟩
theorem But.trans {c : Nat} {a b d : World} (h : But c a b) (k : But c b d) : But c a d :=
 ⟨k.os.trans h.os, k.tape.trans h.tape, k.output.trans h.output, Nat.le_trans h.size k.size, fun i hi hc => (k.block i (Nat.lt_of_lt_of_le hi h.size) hc).trans (h.block i hi hc)⟩
theorem But.set (c : Nat) (w : World) (v : Value) : But c w (w.setCell ⟨c, 0, none⟩ v) :=
 ⟨rfl, rfl, rfl, by simp [World.setCell], fun k _ hk => Below.heap_setCell _ _ _ _ hk⟩
theorem But.below {c B : Nat} {w w' : World} (h : But c w w') (h1 : B ≤ c) (h2 : B ≤ w.heap.size) : Below B w w' :=
 ⟨h.os, h.tape, h.output, h.size, fun k hk => h.block k (by omega) (by omega)⟩
theorem But.cell {c : Nat} {w w' : World} (h : But c w w') {p : Addr} (hp : p.block < w.heap.size) (hc : p.block ≠ c) : w'.cell? p = w.cell? p := World.cell?_of_block (w := w) (h.block p.block hp hc)
theorem But.frozen {c : Nat} {w w' : World} (h : But c w w') {p : Addr} (hp : p.block < w.heap.size) (hc : p.block ≠ c) : w'.frozen? p = w.frozen? p := World.frozen?_of_block (w := w) (h.block p.block hp hc)

end Go.Proofs.YtobkmohoepgfmaaGreatDoor.Tr
namespace Go.Proofs.YtobkmohoepgfmaaGreatDoor.Tr
open Go.RowKit Go.Extern.Stop Go.Stop Go.Extern Go.Extern.Rtype

def anyN (F : Value → Bool) (ns : List Nd) : Bool := ns.any fun x => F x.1
theorem anyN_cons (F : Value → Bool) (v : Value) (o : Option Int) (ns : List Nd) : anyN F ((v, o) :: ns) = (F v || anyN F ns) := rfl
theorem anyN_flat {α : Type} (F : Value → Bool) (f : α → List Nd) : ∀ (l : List α), (∀ (j : Nat) (z : α), l[j]? = some z → anyN F (f z) = false) → anyN F (l.map f).flatten = false
 | [], _ => rfl
 | a :: l, h => by
  have h0 := h 0 a rfl
  have := anyN_flat F f l (fun j z hz => h (j + 1) z (by simpa using hz))
  unfold anyN at *
  simp only [List.map_cons, List.flatten_cons, List.any_append, h0, this, Bool.or_self]
theorem anyN_hit {α : Type} (F : Value → Bool) (f : α → List Nd) (l : List α) (i : Nat) (z : α) (h : l[i]? = some z) (hz : anyN F (f z) = true) : anyN F (l.map f).flatten = true := by
 unfold anyN at *
 rw [List.any_eq_true] at hz ⊢
 obtain ⟨x, hx, hF⟩ := hz
 exact ⟨x, List.mem_flatten.2 ⟨f z, List.mem_map.2 ⟨z, List.mem_of_getElem? h, rfl⟩, hx⟩, hF⟩
theorem mem_flat {α : Type} (f : α → List Nd) (l : List α) (i : Nat) (z : α) (h : l[i]? = some z) (x : Nd) (hx : x ∈ f z) : x ∈ (l.map f).flatten :=
 List.mem_flatten.2 ⟨f z, List.mem_map.2 ⟨z, List.mem_of_getElem? h, rfl⟩, hx⟩

def EqAs (F : Value → Bool) (tv : Value) (B : Nat) (w : World) (ns : List Nd) : Prop := ∀ w', Below B w w' → ∀ x ∈ ns, (binOp .eql 27 x.1 tv).run Tryz.prog w' = .ok (.bool (F x.1)) w'

def IsPost (F : Value → Bool) (ns : List Nd) (w : World) (e : Ending) (w' : World) : Prop := e = .returned (.bool (anyN F ns)) ∧ Below w.heap.size w w'

def Is34 (d : Nat) : Prop := ∀ v cs ns ss w B F tt tx, Err w B d v cs ns ss → B ≤ w.heap.size → EqAs F (.iface tt tx) B w ns →
 Calls Tryz.prog 198 #[v, .iface tt tx, .bool true] w (IsPost F ns w)

set_option maxRecDepth 100000 in
set_option maxHeartbeats 1000000 in
theorem is34 (d : Nat) (ih : ∀ k, k < d → Is34 k) : Is34 d := by
 intro v cs ns ss w B F tt tx herr hBw heq
 have HE := Lib.hid herr
 have HQ := Lib.hid heq
 have IH := Lib.hid ih
 clear herr ih heq
 go_enter Tryz.func198, Tryz.ntmps198
 go_wp2_with fail
 go_loopg [0] d (fun k s0 wr => k ≤ d ∧ (∃ cs' ns' ss', Hid (Err wr B k s0 cs' ns' ss' ∧ anyN F ns' = anyN F ns ∧ ∀ x ∈ ns', x ∈ ns)) ∧ Below w.heap.size w wr)
 case atStart => exact ⟨Nat.le_refl _, ⟨cs, ns, ss, Lib.hid ⟨HE.out, rfl, fun _ h => h⟩⟩, Below.refl _ _⟩
 case round =>
  obtain ⟨hkd, ⟨cs', ns', ss', HR⟩, hb⟩ := hrel
  have HB := Lib.hid hb
  clear hb
  obtain ⟨hr, hany, hsub⟩ := HR.out
  cases gk with
  | zero => exact hr.elim
  | succ k =>
   have q := eqlNil
   have hbB : Below B w wr := HB.out.mono hBw
   rcases hr with ⟨n, rfl, h1, h2, h3⟩ | ⟨b, n, y, ns2, rfl, h1, h2, h3, h4⟩ | ⟨b, n, y, ns2, ss2, rfl, h1, h2, h3, h4, h5⟩ | ⟨b, g, m, cap, row, vs, rfl, h1, h2, h3, h4, h5, h6, h7, h8, h9, h10, h11, h12⟩
   ·have heq := HQ.out wr hbB _ (hsub _ (by rw [h2]; exact List.mem_singleton.2 rfl))
    rw [h2, anyN_cons] at hany
    have t6 := taIsE
    have t7 := taUnE
    have t8 := taUnsE
    clear h1 h2 h3 HE IH hsub hbB HR
    cases hF : F (.iface 46 (.int .i64 n))
    ·rw [hF] at heq hany
     have HA := Lib.hid hany
     clear hany hF
     go_wp2
     go_ret
     exact ⟨by rw [← HA.out]; rfl, HB.out⟩
    ·rw [hF] at heq hany
     have HA := Lib.hid hany
     clear hany hF
     go_wp2
     go_ret
     exact ⟨by rw [← HA.out]; rfl, HB.out⟩
   ·have heq := HQ.out wr hbB _ (hsub _ (by rw [h4]; exact List.mem_cons_self))
    have hsub2 : ∀ x ∈ ns2, x ∈ ns := fun x hx => hsub x (by rw [h4]; exact List.mem_cons_of_mem _ hx)
    rw [h4, anyN_cons] at hany
    have t6 := taIsN
    have t7 := taUnN
    have t9 := mUnN
    have t10 := naUnN
    obtain ⟨ty, y', rfl⟩ := h3.iface
    have H2 := Lib.hid h2
    clear h2 HE IH hsub hbB HR h4
    cases hF : F (.iface 150 (.pointer (some ⟨b, 0, none⟩)))
    ·rw [hF] at heq hany
     have H3 := Lib.hid (And.intro h3 (And.intro hany hsub2))
     clear hany hF h3 hsub2
     go_wp2_with (go_at_call 246; refine (onUnwrap b _ _ _ H2.out).mono ?_; rintro e w' ⟨rfl, rfl⟩)
     go_roundg k
     case measure => omega
     case rel => exact ⟨by omega, ⟨_, _, _, Lib.hid ⟨H3.out.1, by rw [← H3.out.2.1]; rfl, H3.out.2.2⟩⟩, HB.out⟩
    ·rw [hF] at heq hany
     have HA := Lib.hid hany
     clear hany hF h3 hsub2
     go_wp2_with fail
     go_ret
     exact ⟨by rw [← HA.out]; rfl, HB.out⟩
   ·have heq := HQ.out wr hbB _ (hsub _ (by rw [h5]; exact List.mem_cons_self))
    have hsub2 : ∀ x ∈ ns2, x ∈ ns := fun x hx => hsub x (by rw [h5]; exact List.mem_cons_of_mem _ hx)
    rw [h5, anyN_cons] at hany
    have t6 := taIsF
    have t7 := taUnF
    have t9 := mUnF
    have t10 := naUnF
    obtain ⟨ty, y', rfl⟩ := h3.iface
    have H2 := Lib.hid h2
    clear h2 HE IH hsub hbB HR h4 h5
    cases hF : F (.iface 139 (.pointer (some ⟨b, 0, none⟩)))
    ·rw [hF] at heq hany
     have H3 := Lib.hid (And.intro h3 (And.intro hany hsub2))
     clear hany hF h3 hsub2
     go_wp2_with (go_at_call 244; refine (ofUnwrap b _ _ _ H2.out).mono ?_; rintro e w' ⟨rfl, rfl⟩)
     go_roundg k
     case measure => omega
     case rel => exact ⟨by omega, ⟨_, _, _, Lib.hid ⟨H3.out.1, by rw [← H3.out.2.1]; rfl, H3.out.2.2⟩⟩, HB.out⟩
    ·rw [hF] at heq hany
     have HA := Lib.hid hany
     clear hany hF h3 hsub2
     go_wp2_with fail
     go_ret
     exact ⟨by rw [← HA.out]; rfl, HB.out⟩
   ·obtain ⟨wo, rfl⟩ : ∃ wo : World, wo = wr := ⟨wr, rfl⟩
    have heq := HQ.out wo hbB _ (hsub _ (by rw [h11]; exact List.mem_cons_self))
    have hsub2 : ∀ x ∈ (vs.map (·.2.2.1)).flatten, x ∈ ns := fun x hx => hsub x (by rw [h11]; exact List.mem_cons_of_mem _ hx)
    rw [h11, anyN_cons] at hany
    have t6 := taIsA
    have t7 := taUnA
    have t8 := taUnsA
    have t9 := mUnA
    have t10 := naUnA
    have hrow := take_row row m vs h8 (fun i x hx => (h9 i x hx).1)
    have hsz : m ≤ row.size := by
     have := congrArg List.length hrow
     simp at this; omega
    have hone : ∀ y ∈ row.toList.take m, Value.oneCell' y = true := by
     intro y hy
     rw [hrow] at hy
     obtain ⟨z, hz, rfl⟩ := List.mem_map.1 hy
     obtain ⟨i, hi⟩ := List.mem_iff_getElem?.1 hz
     obtain ⟨t, u, hu⟩ := (h9 i z hi).2.iface
     rw [hu]; rfl
    have HH := Lib.hid (And.intro h3 (And.intro h4 (And.intro h9 (And.intro hrow (And.intro hsz (And.intro hone hsub2))))))
    clear h3 h4 h9 hrow hsz hone h10 h11 h12 HR HE hsub hsub2 hbB
    cases hF : F (.iface 136 (.pointer (some ⟨b, 0, none⟩)))
    case true =>
     rw [hF] at heq hany
     have HA := Lib.hid hany
     clear hany hF
     go_wp2_with fail
     go_ret
     exact ⟨by rw [← HA.out]; rfl, HB.out⟩
    rw [hF] at heq hany
    have HA := Lib.hid hany
    clear hany hF
    go_wp2_with (go_at_call 242; refine (allUnwrap b g m cap row _ HH.out.1 HH.out.2.1 h6 h7 HH.out.2.2.2.2.1 HH.out.2.2.2.2.2.1).mono ?_; rintro e w1 ⟨v1, rfl, ho, hb1, hn⟩)
    rw [HH.out.2.2.2.1] at ho
    obtain ⟨g1, cap1, rfl, hg1, hg2, hcap, hmax, hcell⟩ := owns_open ho hn
    have HC := Lib.hid hcell
    have HB1 := Lib.hid hb1
    clear ho hn hcell hb1
    have hlen : ∀ (w : World) (a : Option Addr) (n c : Nat), (Builtin.len_ #[80] 3 #[.slice a n c]).run Tryz.prog w = .ok (.int .i64 n) w := fun _ _ _ _ => by kernel_rfl
    go_wp2
    rw [hlen]
    go_wp2
    go_loopg [45] m (fun q s45 wr => ∃ i : Nat, s45 = .int .i64 i ∧ i ≤ m ∧ q = m - i ∧ Below w1.heap.size w1 wr ∧ Hid (∀ (j : Nat) (z : Value × List Int × List Nd × List Int), j < i → vs[j]? = some z → anyN F z.2.2.1 = false))
    case atStart => exact ⟨0, rfl, by omega, rfl, Below.refl _ _, Lib.hid (fun j z hj => absurd hj (by omega))⟩
    case round =>
     obtain ⟨i, rfl, hi, rfl, hbx, HD⟩ := hrel
     have hmx : m ≤ 9223372036854775807 := by omega
     have hbw : Below wo.heap.size wo wr := HB1.out.trans (hbx.mono HB1.out.size)
     have hBo : B ≤ wo.heap.size := Nat.le_trans hBw HB.out.size
     by_cases hlt : i < m
     ·have hz : vs[i]? = some vs[i] := List.getElem?_eq_getElem (by omega)
      generalize vs[i] = z at hz
      have hcell : wr.cell? ⟨g1, i, none⟩ = some z.1 := by
       rw [hbx.cell (p := ⟨g1, i, none⟩) hg2]
       exact HC.out i z.1 (by rw [List.getElem?_map, hz]; rfl)
      obtain ⟨tz, uz, huz⟩ := (HH.out.2.2.1 i z hz).2.iface
      have HZ := Lib.hid hz
      have HX := Lib.hid hbx
      have HW := Lib.hid hbw
      have HUZ := Lib.hid huz
      rw [huz] at hcell
      clear hz hbx hbw huz
      go_wp2_with fail
      refine (IH.out k (by omega) _ z.2.1 z.2.2.1 z.2.2.2 _ B F tt tx (by have := (HH.out.2.2.1 i z HZ.out).2.below (HW.out.mono hBo); rw [HUZ.out] at this; exact this) (by have := HW.out.size; omega)
       (fun w' hw' x hx => HQ.out w' ((HB.out.mono hBw).trans ((HW.out.mono hBo).trans hw')) x (HH.out.2.2.2.2.2.2 x (mem_flat (·.2.2.1) vs i z HZ.out x hx)))).mono ?_
      rintro e w2 ⟨rfl, hb2⟩
      have HB2 := Lib.hid hb2
      clear hb2
      cases hA : anyN F z.2.2.1
      ·have HL := Lib.hid hA
       clear hA
       go_wp2_with fail
       go_roundg (m - (i + 1))
       case measure => omega
       case rel =>
        refine ⟨i + 1, by go_num, by omega, rfl, HX.out.trans (HB2.out.mono HX.out.size), Lib.hid fun j y hj hy => ?_⟩
        by_cases hji : j < i
        ·exact HD.out j y hji hy
        ·obtain rfl : j = i := by omega
         rw [HZ.out] at hy; cases hy
         exact HL.out
      ·have HL := Lib.hid hA
       clear hA
       go_wp2_with fail
       go_ret
       refine ⟨?_, HB.out.trans ((HW.out.trans (HB2.out.mono HW.out.size)).mono HB.out.size)⟩
       rw [← HA.out, anyN_hit F (·.2.2.1) vs i z HZ.out HL.out]; rfl
     ·obtain rfl : i = m := by omega
      have HX := Lib.hid hbx
      have HW := Lib.hid hbw
      clear hbx hbw
      go_wp2_with fail
      go_ret
      refine ⟨?_, HB.out.trans (HW.out.mono HB.out.size)⟩
      rw [← HA.out, anyN_flat F (·.2.2.1) vs (fun j z hz => HD.out j z (by have := (List.getElem?_eq_some_iff.1 hz).1; omega) hz)]; rfl

theorem is34_all (d : Nat) : Is34 d := by
 induction d using Nat.strongRecOn with
 | _ d ih => exact is34 d ih

end Go.Proofs.YtobkmohoepgfmaaGreatDoor.Tr
namespace Go.Proofs.YtobkmohoepgfmaaGreatDoor.Tr
open Go.RowKit Go.Extern.Stop Go.Stop Go.Extern Go.Extern.Rtype

def AsPost (c : Nat) (val : Int → Value) (l : List Int) (w : World) (e : Ending) (w' : World) : Prop :=
 (l = [] ∧ e = .returned (.bool false) ∧ Below w.heap.size w w') ∨ (∃ n r, l = n :: r ∧ e = .returned (.bool true) ∧ But c w w' ∧ w'.cell? ⟨c, 0, none⟩ = some (val n))

def As26 (d : Nat) : Prop := ∀ v cs ns ss w B c x, Err w B d v cs ns ss → B ≤ c → c < x → w.cell? ⟨c, 0, none⟩ = some (.int .i64 0) → w.frozen? ⟨c, 0, none⟩ = false → w.cell? ⟨x, 0, none⟩ = some (.pointer (some ⟨c, 0, none⟩)) →
 Calls Tryz.prog 104 #[v, .iface 98 (.pointer (some ⟨c, 0, none⟩)), .agg #[.pointer (some ⟨1, 98, none⟩), .pointer (some ⟨x, 0, none⟩), .int .u64 150], .iface 245 (.agg #[.pointer (some ⟨1, 46, none⟩)])] w (AsPost c (.int .i64 ·) cs w)

set_option maxRecDepth 100000 in
set_option maxHeartbeats 1000000 in
theorem as26 (d : Nat) (ih : ∀ k, k < d → As26 k) : As26 d := by
 intro v cs ns ss w B c x herr hBc hcx hc hcf hx
 have hcb := cell?_lt hc
 have hxb := cell?_lt hx
 have HE := Lib.hid herr
 have IH := Lib.hid ih
 clear herr ih
 go_enter Tryz.func104, Tryz.ntmps104
 go_wp2_with fail
 go_loopg [0] d (fun k s0 wr => k ≤ d ∧ (∃ ns' ss', Hid (Err wr B k s0 cs ns' ss')) ∧ Below (w.heap.size + 1) (w.alloc (.cells #[.pointer (some ⟨1, 98, none⟩), .pointer (some ⟨x, 0, none⟩), .int .u64 150] 199)) wr)
 case atStart => exact ⟨Nat.le_refl _, ⟨ns, ss, Lib.hid (HE.out.below ((Below.refl _ _).alloc (by omega) _))⟩, Below.refl _ _⟩
 case round =>
  obtain ⟨hkd, ⟨ns', ss', HR⟩, hb⟩ := hrel
  have kc : wr.cell? ⟨c, 0, none⟩ = some (.int .i64 0) := by rw [hb.cell (p := ⟨c, 0, none⟩) (by show c < _; omega), World.cell?_alloc_past _ _ _ hcb]; exact hc
  have kf : wr.frozen? ⟨c, 0, none⟩ = false := by rw [hb.frozen (p := ⟨c, 0, none⟩) (by show c < _; omega)]; simp [hcf, hcb, go_sem]
  have kx : wr.cell? ⟨x, 0, none⟩ = some (.pointer (some ⟨c, 0, none⟩)) := by rw [hb.cell (p := ⟨x, 0, none⟩) (by show x < _; omega), World.cell?_alloc_past _ _ _ hxb]; exact hx
  have k0 : wr.cell? ⟨w.heap.size, 0, none⟩ = some (.pointer (some ⟨1, 98, none⟩)) := by rw [hb.cell (p := ⟨w.heap.size, 0, none⟩) (by show w.heap.size < _; omega)]; simp [go_sem]
  have k1 : wr.cell? ⟨w.heap.size, 1, none⟩ = some (.pointer (some ⟨x, 0, none⟩)) := by rw [hb.cell (p := ⟨w.heap.size, 1, none⟩) (by show w.heap.size < _; omega)]; simp [go_sem]
  have k2 : wr.cell? ⟨w.heap.size, 2, none⟩ = some (.int .u64 150) := by rw [hb.cell (p := ⟨w.heap.size, 2, none⟩) (by show w.heap.size < _; omega)]; simp [go_sem]
  have HB := Lib.hid hb
  clear hb hc hcf hx
  have m4 := mAsg
  have hr := HR.out
  cases gk with
  | zero => exact hr.elim
  | succ k =>
   rcases hr with ⟨n, rfl, h1, h2, h3⟩ | ⟨b, n, y, ns2, rfl, h1, h2, h3, h4⟩ | ⟨b, n, y, ns2, ss2, rfl, h1, h2, h3, h4, h5⟩ | ⟨b, g, m, cap, row, vs, rfl, h1, h2, h3, h4, h5, h6, h7, h8, h9, h10, h11, h12⟩
   ·have t1 := Tryz.typeOfE
    have t2 := Tryz.asgE26
    have t3 := velem67
    have t4 := Tryz.valueOfE
    have hcr : c < wr.heap.size := cell?_lt kc
    have t5 := vset26 ⟨c, 0, none⟩ ⟨wr.heap.size, 0, none⟩ n (.int .i64 0) (wr.alloc (.cells #[.int .i64 n] 46)) (by simp [go_sem]) (by rw [World.cell?_alloc_past _ _ _ hcr]; exact kc) (by simp [kf, hcr, go_sem])
    have H1 := Lib.hid h1
    clear h1 h2 h3 HR HE IH
    go_wp2
    go_ret
    refine .inr ⟨n, [], H1.out, rfl, ?_, by simp [kc, hcr, go_sem]⟩
    have hb := HB.out
    exact ((But.of (((Below.refl _ w).alloc (Nat.le_refl _) _).trans (hb.mono (by omega)))).trans (But.set c _ _)).trans (But.of ((Below.refl _ _).alloc (Nat.le_refl _) _))
   ·have t1 := Tryz.typeOfN
    have t2 := Tryz.asgN26
    have t6 := taAsN
    have t7 := taUnN
    have t9 := mUnN
    have t10 := naUnN
    have q := eqlNil
    obtain ⟨ty, y', rfl⟩ := h3.iface
    have H2 := Lib.hid h2
    have H3 := Lib.hid h3
    clear h2 h3 h4 HR HE IH
    go_wp2_with (go_at_call 246; refine (onUnwrap b _ _ _ H2.out).mono ?_; rintro e w' ⟨rfl, rfl⟩)
    go_roundg k
    case measure => omega
    case rel => exact ⟨by omega, ⟨_, _, H3⟩, HB.out⟩
   ·have t1 := Tryz.typeOfF
    have t2 := Tryz.asgF26
    have t6 := taAsF
    have t7 := taUnF
    have t9 := mUnF
    have t10 := naUnF
    have q := eqlNil
    obtain ⟨ty, y', rfl⟩ := h3.iface
    have H2 := Lib.hid h2
    have H3 := Lib.hid h3
    clear h2 h3 h4 h5 HR HE IH
    go_wp2_with (go_at_call 244; refine (ofUnwrap b _ _ _ H2.out).mono ?_; rintro e w' ⟨rfl, rfl⟩)
    go_roundg k
    case measure => omega
    case rel => exact ⟨by omega, ⟨_, _, H3⟩, HB.out⟩
   ·obtain ⟨wo, rfl⟩ : ∃ wo : World, wo = wr := ⟨wr, rfl⟩
    have t1 := Tryz.typeOfA
    have t2 := Tryz.asgA26
    have t6 := taAsA
    have t7 := taUnA
    have t8 := taUnsA
    have t9 := mUnA
    have t10 := naUnA
    have q := eqlNil
    have hrow := take_row row m vs h8 (fun i x hx => (h9 i x hx).1)
    have hsz : m ≤ row.size := by
     have := congrArg List.length hrow
     simp at this; omega
    have hone : ∀ y ∈ row.toList.take m, Value.oneCell' y = true := by
     intro y hy
     rw [hrow] at hy
     obtain ⟨z, hz, rfl⟩ := List.mem_map.1 hy
     obtain ⟨i, hi⟩ := List.mem_iff_getElem?.1 hz
     obtain ⟨t, u, hu⟩ := (h9 i z hi).2.iface
     rw [hu]; rfl
    have HH := Lib.hid (And.intro h3 (And.intro h4 (And.intro h9 (And.intro hrow (And.intro hsz (And.intro hone h10))))))
    clear h3 h4 h9 hrow hsz hone h10 h11 h12 HR HE
    go_wp2_with (go_at_call 242; refine (allUnwrap b g m cap row _ HH.out.1 HH.out.2.1 h6 h7 HH.out.2.2.2.2.1 HH.out.2.2.2.2.2.1).mono ?_; rintro e w1 ⟨v1, rfl, ho, hb1, hn⟩)
    rw [HH.out.2.2.2.1] at ho
    obtain ⟨g1, cap1, rfl, hg1, hg2, hcap, hmax, hcell⟩ := owns_open ho hn
    have HC := Lib.hid hcell
    have HB1 := Lib.hid hb1
    clear ho hn hcell hb1
    have hlen : ∀ (w : World) (a : Option Addr) (n c : Nat), (Builtin.len_ #[80] 3 #[.slice a n c]).run Tryz.prog w = .ok (.int .i64 n) w := fun _ _ _ _ => by kernel_rfl
    go_wp2
    rw [hlen]
    go_wp2
    go_loopg [50] m (fun q s50 wr => ∃ i : Nat, s50 = .int .i64 i ∧ i ≤ m ∧ q = m - i ∧ Below w1.heap.size w1 wr ∧ Hid (∀ (j : Nat) (z : Value × List Int × List Nd × List Int), j < i → vs[j]? = some z → z.2.1 = []))
    case atStart => exact ⟨0, rfl, by omega, rfl, Below.refl _ _, Lib.hid (fun j z hj => absurd hj (by omega))⟩
    case round =>
     obtain ⟨i, rfl, hi, rfl, hbx, HD⟩ := hrel
     have hmx : m ≤ 9223372036854775807 := by omega
     have hbw : Below wo.heap.size wo wr := HB1.out.trans (hbx.mono HB1.out.size)
     have hcr : c < wo.heap.size := cell?_lt kc
     have hxr : x < wo.heap.size := cell?_lt kx
     have hwo : w.heap.size < wo.heap.size := cell?_lt k0
     have kc' : wo.cell? ⟨c, 0, none⟩ = wr.cell? ⟨c, 0, none⟩ := (hbw.cell (p := ⟨c, 0, none⟩) hcr).symm
     have kf' : wo.frozen? ⟨c, 0, none⟩ = wr.frozen? ⟨c, 0, none⟩ := (hbw.frozen (p := ⟨c, 0, none⟩) hcr).symm
     have kx' : wo.cell? ⟨x, 0, none⟩ = wr.cell? ⟨x, 0, none⟩ := (hbw.cell (p := ⟨x, 0, none⟩) hxr).symm
     have k0' : wo.cell? ⟨w.heap.size, 0, none⟩ = wr.cell? ⟨w.heap.size, 0, none⟩ := (hbw.cell (p := ⟨w.heap.size, 0, none⟩) hwo).symm
     have k1' : wo.cell? ⟨w.heap.size, 1, none⟩ = wr.cell? ⟨w.heap.size, 1, none⟩ := (hbw.cell (p := ⟨w.heap.size, 1, none⟩) hwo).symm
     have k2' : wo.cell? ⟨w.heap.size, 2, none⟩ = wr.cell? ⟨w.heap.size, 2, none⟩ := (hbw.cell (p := ⟨w.heap.size, 2, none⟩) hwo).symm
     rw [kc'] at kc; rw [kf'] at kf; rw [kx'] at kx; rw [k0'] at k0; rw [k1'] at k1; rw [k2'] at k2
     clear kc' kf' kx' k0' k1' k2'
     by_cases hlt : i < m
     ·have hz : vs[i]? = some vs[i] := List.getElem?_eq_getElem (by omega)
      generalize vs[i] = z at hz
      have hcell : wr.cell? ⟨g1, i, none⟩ = some z.1 := by
       rw [hbx.cell (p := ⟨g1, i, none⟩) hg2]
       exact HC.out i z.1 (by rw [List.getElem?_map, hz]; rfl)
      obtain ⟨tz, uz, huz⟩ := (HH.out.2.2.1 i z hz).2.iface
      have HZ := Lib.hid hz
      have HX := Lib.hid hbx
      have HW := Lib.hid hbw
      have HUZ := Lib.hid huz
      rw [huz] at hcell
      clear hz hbx hbw huz
      go_wp2_with fail
      refine (IH.out k (by omega) _ _ _ _ _ B c x (by have := (HH.out.2.2.1 i z HZ.out).2.below (HW.out.mono (by omega)); rw [HUZ.out] at this; exact this) hBc hcx kc kf kx).mono ?_
      rintro e w2 (⟨hl, rfl, hb2⟩ | ⟨n, r, hl, rfl, hb2, hc2⟩)
      ·have HL := Lib.hid hl
       have HB2 := Lib.hid hb2
       clear hl hb2
       go_wp2_with fail
       go_roundg (m - (i + 1))
       case measure => omega
       case rel =>
        refine ⟨i + 1, by go_num, by omega, rfl, HX.out.trans (HB2.out.mono HX.out.size), Lib.hid fun j y hj hy => ?_⟩
        by_cases hji : j < i
        ·exact HD.out j y hji hy
        ·obtain rfl : j = i := by omega
         rw [HZ.out] at hy; cases hy
         exact HL.out
      ·have HL := Lib.hid hl
       have HB2 := Lib.hid (And.intro hb2 hc2)
       clear hl hb2 hc2
       go_wp2_with fail
       go_ret
       obtain ⟨r', hr'⟩ := flat_first (·.2.1) n r vs i z HZ.out HD.out HL.out
       refine .inr ⟨n, r', by rw [HH.out.2.2.2.2.2.2]; exact hr', rfl, ?_, HB2.out.2⟩
       have hb := HB.out
       exact (But.of ((((Below.refl _ w).alloc (Nat.le_refl _) _).trans (hb.mono (by omega))).trans (HW.out.mono (by omega)))).trans HB2.out.1
     ·obtain rfl : i = m := by omega
      have HX := Lib.hid hbx
      have HW := Lib.hid hbw
      clear hbx hbw
      go_wp2_with fail
      go_ret
      refine .inl ⟨by rw [HH.out.2.2.2.2.2.2]; exact flat_none (·.2.1) vs (fun j z hz => HD.out j z (by have := (List.getElem?_eq_some_iff.1 hz).1; omega) hz), rfl, ?_⟩
      have hb := HB.out
      exact (((Below.refl _ w).alloc (by omega) _).trans (hb.mono (by omega))).trans (HW.out.mono (by omega))

end Go.Proofs.YtobkmohoepgfmaaGreatDoor.Tr
