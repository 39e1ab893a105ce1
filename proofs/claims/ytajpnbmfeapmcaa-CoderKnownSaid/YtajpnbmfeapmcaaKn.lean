import Derived.Test.YtajpnbmfeapmcaaAd
import Derived.Deep.CutRange
import Derived.Deep.RegionHeld3
import Derived.Deep.RegionHeldLaw
namespace Go.Proofs.Ytajpnbmfeapmcaa
open Go.RowKit Go.Sort
set_option linter.unusedVariables false
set_option maxRecDepth 100000
set_option maxHeartbeats 8000000

/-- Six chunks of which one byte is turned. -/
def bent (A : Mx) (p q y : Nat) : Mx := fun i j => if i = p then (if j = q then A p q ^^^ y else A p j) else A i j
theorem bent_bd {A : Mx} {p q y : Nat} (hA : Bd 6 32 A) (hp : p < 6) (hq : q < 32) (hy : y < 256) : Bd 6 32 (bent A p q y) := fun i hi j hj => by
  unfold bent
  split
  · split
    · exact xor_lt (hA p hp q hq) hy
    · exact hA p hp j hj
  · exact hA i hi j hj
theorem check_bent {D : Mx} {p q y : Nat} (hD : Bd 4 32 D) (hp : p < 6) (hq : q < 32) (_hy : y < 256) :
    y = 0 ↔ Whole (rowsOf 6 32 (bent (enc D) p q y)) ∧ rowsOf 6 32 (bent (enc D) p q y) = rowsOf 6 32 (enc (parts (outF (rowsOf 6 32 (bent (enc D) p q y))))) := by
  constructor
  · rintro rfl
    have e : rowsOf 6 32 (bent (enc D) p q 0) = rowsOf 6 32 (enc D) := rowsOf_congr (fun i _ j _ => by
      unfold bent
      by_cases h : i = p
      · subst h
        rw [if_pos rfl]
        by_cases h2 : j = q
        · subst h2; rw [if_pos rfl, Nat.xor_zero]
        · rw [if_neg h2]
      · rw [if_neg h])
    rw [e]
    exact check_enc hD
  · rintro ⟨_, h⟩
    have h1 := rowsOf_inj h
    generalize hS : outF (rowsOf 6 32 (bent (enc D) p q y)) = S at h1
    have hE : Bd 4 32 (parts S) := parts_bd (fun j _ => by rw [← hS]; exact outF_lt _ _)
    have h2 : EqM 4 32 D (parts S) := code_one hp hD hE (fun i hi hne k hk => by
      rw [← h1 i hi k hk]
      unfold bent
      rw [if_neg hne])
    have h3 := h1 p hp q hq
    rw [← enc_congr h2 p hp q hq] at h3
    unfold bent at h3
    rw [if_pos rfl, if_pos rfl] at h3
    have h4 : (enc D p q ^^^ y) ^^^ enc D p q = 0 := by rw [h3, Nat.xor_self]
    rw [Nat.xor_comm (enc D p q) y, Nat.xor_assoc, Nat.xor_self, Nat.xor_zero] at h4
    exact h4
/-- Six rows, each as long as it is. -/
def mixRows (ln : Nat → Nat) (A : Mx) : List (List Nat) := (List.range 6).map (fun i => (List.range (ln i)).map (A i))
theorem mixRows_len (ln : Nat → Nat) (A : Mx) : (mixRows ln A).length = 6 := by simp [mixRows]
theorem mixRows_get {ln : Nat → Nat} {A : Mx} {i : Nat} (hi : i < 6) : (mixRows ln A)[i]? = some ((List.range (ln i)).map (A i)) := by simp [mixRows, hi]
theorem mixRows_lenOf {ln : Nat → Nat} {A : Mx} {i : Nat} (hi : i < 6) : lenOf (mixRows ln A) i = ln i := by
  unfold lenOf
  rw [mixRows_get hi, Option.getD_some]
  simp
theorem mixRows_bytes {ln : Nat → Nat} {A : Mx} (hl : ∀ i, i < 6 → ln i ≤ 32) (h : Bd 6 32 A) : Bytes (mixRows ln A) := fun i xs hx x hm => by
  have hi : i < 6 := by have := (List.getElem?_eq_some_iff.1 hx).1; rwa [mixRows_len] at this
  rw [mixRows_get hi] at hx
  cases hx
  simp at hm
  obtain ⟨j, hj, rfl⟩ := hm
  exact h i hi j (by have := hl i hi; omega)
theorem mixRows_raw {w : World} {b : Nat} {ln : Nat → Nat} {A : Mx} (hb : b < w.heap.size) (h : ∀ i, i < 6 → ∃ g cap, w.cell? ⟨b, i, none⟩ = some (.slice g (ln i) cap) ∧ (0 < ln i → ∃ h q, g = some ⟨h, q, none⟩ ∧ ∀ j, j < ln i → w.cell? ⟨h, q + j, none⟩ = some (.int .u8 (A i j : Nat)))) :
    RawIn w (some ⟨b, 0, none⟩) (mixRows ln A) := by
  intro i xs hx
  have hi : i < 6 := by have := (List.getElem?_eq_some_iff.1 hx).1; rwa [mixRows_len] at this
  rw [mixRows_get hi] at hx
  cases hx
  obtain ⟨g, cap, hc, hk⟩ := h i hi
  refine ⟨b, 0, rfl, hb, g, cap, by rw [Nat.zero_add, hc]; simp, fun j x hj => ?_⟩
  have hj32 : j < ln i := by have := (List.getElem?_eq_some_iff.1 hj).1; simpa using this
  obtain ⟨h, q, e, hcell⟩ := hk (by omega)
  simp [hj32] at hj
  subst hj
  exact ⟨h, q, e, cell?_lt (hcell j hj32), hcell j hj32⟩

theorem cdecodeN (c f o cap0 n : Nat) (a : Option Addr) (xss : List (List Nat)) (cap : Nat) (w : World) (hc : Cdr w c f o cap0) (h : RawIn w a xss) (hl : xss.length = n) (hn9 : n ≤ 9) (hby : Bytes xss) (hno : ¬ Whole xss) :
    Calls Try.prog 13 #[.pointer (some ⟨c, 0, none⟩), .slice a n cap] w fun e w' => e = .returned (.tuple #[.slice none 0 0, .bool false]) ∧ Below w.heap.size w w' := by
  have hd := cdecodeR c f o cap0 a xss cap w hc h (by omega) hby
  rw [hl] at hd
  refine hd.mono ?_
  rintro e w' (⟨rfl, hb, _⟩ | ⟨g, cap', rfl, hb, hw, _⟩)
  · exact ⟨rfl, hb⟩
  · exact absurd hw hno
theorem ccheckN (c f o cap0 n : Nat) (a : Option Addr) (xss : List (List Nat)) (cap : Nat) (w : World) (hc : Cdr w c f o cap0) (h : RawIn w a xss) (hl : xss.length = n) (hn9 : n ≤ 9) (hby : Bytes xss) (hno : ¬ (Whole xss ∧ xss = rowsOf 6 32 (enc (parts (outF xss))))) :
    Calls Try.prog 15 #[.pointer (some ⟨c, 0, none⟩), .slice a n cap] w fun e w' => e = .returned (.bool false) ∧ Below w.heap.size w w' := by
  have hd := ccheck c f o cap0 a xss cap w hc h (by omega) hby false ⟨fun h => (by cases h), fun h => absurd h hno⟩
  rw [hl] at hd
  exact hd
theorem cdelta_idx (c f o cap0 n1 k1 n2 k2 : Nat) (a1 a2 : Option Addr) (w : World) (hc : Cdr w c f o cap0) :
    Calls Try.prog 14 #[.pointer (some ⟨c, 0, none⟩), .int .i64 4, .slice a1 n1 k1, .slice a2 n2 k2] w fun e w' => e = .returned (.tuple #[.slice none 0 0, .int .i64 1]) ∧ w' = w := by
  have HM := Lib.hid (cmade c f o cap0 w hc)
  clear hc
  go_enter Try.func14, Try.ntmps14
  go_wp2_with fail
  refine HM.out.mono ?_
  rintro e w' ⟨rfl, hw⟩
  obtain rfl := hw.symm
  go_wp2_with fail
  go_ret2
  exact ⟨rfl, rfl⟩
theorem cdelta_len (c f o cap0 k1 n2 k2 : Nat) (a1 a2 : Option Addr) (w : World) (hc : Cdr w c f o cap0) :
    Calls Try.prog 14 #[.pointer (some ⟨c, 0, none⟩), .int .i64 0, .slice a1 3 k1, .slice a2 n2 k2] w fun e w' => e = .returned (.tuple #[.slice none 0 0, .int .i64 1]) ∧ w' = w := by
  have HM := Lib.hid (cmade c f o cap0 w hc)
  clear hc
  go_enter Try.func14, Try.ntmps14
  go_wp2_with fail
  refine HM.out.mono ?_
  rintro e w' ⟨rfl, hw⟩
  obtain rfl := hw.symm
  go_wp2_with fail
  go_ret2
  exact ⟨rfl, rfl⟩

theorem hp2 (w : World) (o p : Obj) : ((w.alloc o).alloc p).heap[w.heap.size]? = some o := (alloc_old (w.alloc o) p (by rw [alloc_size]; omega)).trans (alloc_block w o)
theorem hp3 (w : World) (o p : Obj) : ((w.alloc o).alloc p).heap[w.heap.size + 1]? = some p := by
  have := alloc_block (w.alloc o) p
  rwa [alloc_size] at this
theorem one_news {V : World} {X : Nat} {v : Value} {t : TypeId} (h : V.heap[X]? = some (.cells #[v] t (0, 0))) : ∀ j u, [v][j]? = some u → V.cell? ((⟨X, 0, none⟩ : Addr).add j) = some u := fun j u hj => by
  have hj1 : j < 1 := (List.getElem?_eq_some_iff.1 hj).1
  obtain rfl : j = 0 := by omega
  rw [addr_add, cell_of_block h]
  exact hj
theorem rawTake {w : World} {a : Option Addr} {xss : List (List Nat)} (h : RawIn w a xss) (k : Nat) : RawIn w a (xss.take k) := fun i xs hx => by
  rw [List.getElem?_take] at hx
  split at hx
  · exact h i xs hx
  · cases hx
theorem bytesTake {xss : List (List Nat)} (h : Bytes xss) (k : Nat) : Bytes (xss.take k) := fun i xs hx => by
  rw [List.getElem?_take] at hx
  split at hx
  · exact h i xs hx
  · cases hx
def lnA (i : Nat) : Nat := if i = 0 then 32 else if i = 2 then 32 else if i = 4 then 32 else 0
def lnB (i : Nat) : Nat := if i < 4 then 32 else if i = 4 then 5 else 0
theorem notA (A : Mx) : ¬ Whole (mixRows lnA A) := fun h => by
  have h2 : pres (mixRows lnA A) 6 = ((List.range 6).filter (fun i => decide (lnA i ≠ 0))).take 4 := by
    exact congrArg (List.take 4) (List.filter_congr (fun l hl => by rw [mixRows_lenOf (by simpa using hl)]))
  have h3 := h.2.2
  rw [h2] at h3
  revert h3
  decide
theorem notB (A : Mx) : ¬ Whole (mixRows lnB A) := fun h => by
  have h2 := h.2.1 4 (by omega)
  rw [mixRows_lenOf (by omega)] at h2
  revert h2
  decide

/-- The list of rows of which one bit is changed. -/
def BadP (w5 : World) (b h6 : Nat) (A : Mx) (wx : World) : Prop := ∃ gD capD : Nat, Below w5.heap.size w5 wx ∧ h6 < wx.heap.size ∧ (∀ k, k < 5 → wx.cell? ⟨h6, k, none⟩ = some (.slice (some ⟨b + 1 + k, 0, none⟩) 32 32)) ∧ wx.cell? ⟨h6, 5, none⟩ = some (.slice (some ⟨gD, 0, none⟩) 32 capD) ∧ ∀ j, j < 32 → wx.cell? ⟨gD, j, none⟩ = some (.int .u8 (bent A 5 31 1 5 j : Nat))
theorem badP_of {w5 w9 wD : World} {b h6 gD capD xv : Nat} {A : Mx} (hb : Below w5.heap.size w5 wD) (hk : ∀ k, k < w9.heap.size → wD.heap[k]? = w9.heap[k]?) (hc : ∀ r, r < 6 → w9.cell? ⟨h6, r, none⟩ = some (.slice (some ⟨b + 1 + r, 0, none⟩) 32 32)) (h69 : h6 < w9.heap.size) (h65 : w5.heap.size ≤ h6) (hx : xv = A 5 31)
    (own : wD.ownsRow w9.heap.size 5 1 (.slice (some ⟨gD, 0, none⟩) 32 capD) 32 (rowL 31 (A 5) ++ [.int .u8 ((xv ^^^ 1 : Nat) : Int)])) :
    BadP w5 b h6 A (wD.setCell ⟨h6, 5, none⟩ (.slice (some ⟨gD, 0, none⟩) 32 capD)) := by
  have hge : w9.heap.size ≤ gD := by
    rcases own.2 with ⟨h0, _⟩ | ⟨g', cap', cur, e, hge, _⟩
    · cases h0
    · cases e; exact hge
  have hne : gD ≠ h6 := by omega
  have hcD : ∀ r, r < 6 → wD.cell? ⟨h6, r, none⟩ = some (.slice (some ⟨b + 1 + r, 0, none⟩) 32 32) := fun r hr => (World.cell?_of_block (hk h6 h69)).trans (hc r hr)
  have row : Row8 wD gD 32 (bent A 5 31 1 5) := own_row8 own (fun j hj => by
    by_cases e : j = 31
    · subst e
      rw [List.getElem?_append_right (by rw [rowL_len]; exact Nat.le_refl _), rowL_len]
      simp [bent, hx]
    · rw [List.getElem?_append_left (by rw [rowL_len]; omega), rowL_get (by omega)]
      simp [bent, e])
  have row' := row.keep (Below.heap_setCell wD ⟨h6, 5, none⟩ (.slice (some ⟨gD, 0, none⟩) 32 capD) gD (fun e => hne e))
  have r1 : (wD.setCell ⟨h6, 5, none⟩ (.slice (some ⟨gD, 0, none⟩) 32 capD)).cell? ⟨h6, 5, none⟩ = some (.slice (some ⟨gD, 0, none⟩) 32 capD) := World.cell?_setCell_same _ _ _ (hcD 5 (by omega))
  exact ⟨gD, capD, hb.setCell (p := ⟨h6, 5, none⟩) h65 _, cell?_lt r1, fun k hk5 => by rw [cell_far (Or.inr (by omega))]; exact hcD k (by omega), r1, fun j hj => row'.cell j hj⟩
theorem BadP.raw {w5 wx : World} {b h6 : Nat} {A : Mx} (h : BadP w5 b h6 A wx) (hrow : ∀ i, i < 5 → ∀ j, j < 32 → wx.cell? ⟨b + 1 + i, j, none⟩ = some (.int .u8 (A i j : Nat))) : RawIn wx (some ⟨h6, 0, none⟩) (rowsOf 6 32 (bent A 5 31 1)) := by
  obtain ⟨gD, capD, hb, hlt, hc, h5, hrow5⟩ := h
  refine mixRows_raw (ln := fun _ => 32) hlt (fun i hi => ?_)
  by_cases e : i = 5
  · subst e
    exact ⟨some ⟨gD, 0, none⟩, capD, h5, fun _ => ⟨gD, 0, rfl, fun j hj => by rw [Nat.zero_add]; exact hrow5 j hj⟩⟩
  · exact ⟨some ⟨b + 1 + i, 0, none⟩, 32, hc i (by omega), fun _ => ⟨_, 0, rfl, fun j hj => by rw [Nat.zero_add, hrow i (by omega) j hj]; simp [bent, e]⟩⟩

def SK (wc : World) (b : Nat) (w' : World) : Prop := Below wc.heap.size wc w' ∧ w'.cell? ⟨b, 0, none⟩ = some (.slice (some ⟨b + 1 + 0, 0, none⟩) 32 32) ∧ w'.cell? ⟨b, 1, none⟩ = some (.slice (some ⟨b + 1 + 1, 0, none⟩) 32 32)
theorem SK.drew {wc w : World} {b : Nat} (h : SK wc b w) : SK wc b w.drew := ⟨h.1.drew, h.2⟩
theorem SK.more {wc w w' : World} {b : Nat} (h : SK wc b w) (hb : Below w.heap.size w w') : SK wc b w' :=
  ⟨h.1.trans (hb.mono h.1.size), (hb.cell (p := ⟨b, 0, none⟩) (cell?_lt h.2.1)).trans h.2.1, (hb.cell (p := ⟨b, 1, none⟩) (cell?_lt h.2.1)).trans h.2.2⟩
theorem sk_below {wc w : World} {b : Nat} (h : SK wc b w) : Below wc.heap.size wc w := h.1
theorem idx_any (c f o cap0 n1 k1 n2 k2 : Nat) (a1 a2 : Option Addr) (w : World) (hc : Cdr w c f o cap0) :
    Calls Try.prog 14 #[.pointer (some ⟨c, 0, none⟩), .int .i64 4, .slice a1 n1 k1, .slice a2 n2 k2] w fun e w' => e = .returned (.tuple #[.slice none 0 0, .int .i64 1]) ∧ Below w.heap.size w w' :=
  (cdelta_idx c f o cap0 n1 k1 n2 k2 a1 a2 w hc).mono (fun _ _ h => ⟨h.1, by rw [h.2]; exact Below.refl _ _⟩)
theorem len_any (c f o cap0 k1 n2 k2 : Nat) (a1 a2 : Option Addr) (w : World) (hc : Cdr w c f o cap0) :
    Calls Try.prog 14 #[.pointer (some ⟨c, 0, none⟩), .int .i64 0, .slice a1 3 k1, .slice a2 n2 k2] w fun e w' => e = .returned (.tuple #[.slice none 0 0, .int .i64 1]) ∧ Below w.heap.size w w' :=
  (cdelta_len c f o cap0 k1 n2 k2 a1 a2 w hc).mono (fun _ _ h => ⟨h.1, by rw [h.2]; exact Below.refl _ _⟩)
theorem txt5 : strOf ((List.range 4).map (fun j => gr 5 j)) = ⟨#[1, 2, 4, 8]⟩ := by kernel_rfl
theorem txt1 : strOf ((List.range 4).map (fun j => gr 1 j)) = ⟨#[0, 1, 0, 0]⟩ := by kernel_rfl
theorem row_five (c f o cap0 : Nat) (w : World) (hc : Cdr w c f o cap0) :
    Calls Try.prog 16 #[.pointer (some ⟨c, 0, none⟩), .int .i64 5] w fun e w' => ∃ g cap, e = .returned (.slice (some ⟨g, 0, none⟩) 4 cap) ∧ Sem.run Try.prog (convert 29 9 (.slice (some ⟨g, 0, none⟩) 4 cap)) w' = .ok (.string ⟨#[1, 2, 4, 8]⟩) w' ∧ Below w.heap.size w w' := by
  have h := crow c f o cap0 5 w hc (by omega)
  refine Calls.mono h ?_
  rintro e w' ⟨g, cap, rfl, hr, hb⟩
  have := conv_row (cap := cap) hr (F' := fun j => gr 5 j) (fun _ _ => rfl)
  rw [txt5] at this
  exact ⟨g, cap, rfl, this, hb⟩
theorem row_one (c f o cap0 : Nat) (w : World) (hc : Cdr w c f o cap0) :
    Calls Try.prog 16 #[.pointer (some ⟨c, 0, none⟩), .int .i64 1] w fun e w' => ∃ g cap, e = .returned (.slice (some ⟨g, 0, none⟩) 4 cap) ∧ Sem.run Try.prog (convert 29 9 (.slice (some ⟨g, 0, none⟩) 4 cap)) w' = .ok (.string ⟨#[0, 1, 0, 0]⟩) w' ∧ Below w.heap.size w w' := by
  have h := crow c f o cap0 1 w hc (by omega)
  refine Calls.mono h ?_
  rintro e w' ⟨g, cap, rfl, hr, hb⟩
  have := conv_row (cap := cap) hr (F' := fun j => gr 1 j) (fun _ _ => rfl)
  rw [txt1] at this
  exact ⟨g, cap, rfl, this, hb⟩
theorem row_six (c f o cap0 : Nat) (w : World) (hc : Cdr w c f o cap0) :
    Calls Try.prog 16 #[.pointer (some ⟨c, 0, none⟩), .int .i64 6] w fun e w' => e = .returned (.slice none 0 0) ∧ Below w.heap.size w w' :=
  (crow_none c f o cap0 6 w hc (by omega)).mono (fun _ _ h => ⟨h.1, by rw [h.2]; exact Below.refl _ _⟩)
theorem row_minus (c f o cap0 : Nat) (w : World) (hc : Cdr w c f o cap0) :
    Calls Try.prog 16 #[.pointer (some ⟨c, 0, none⟩), .int .i64 (-1)] w fun e w' => e = .returned (.slice none 0 0) ∧ Below w.heap.size w w' :=
  (crow_none c f o cap0 (-1) w hc (by omega)).mono (fun _ _ h => ⟨h.1, by rw [h.2]; exact Below.refl _ _⟩)

theorem coderKnown (w : World) : Calls Try.prog 3 #[] w fun e w' => e = .returned (.bool true) ∧ Below w.heap.size w w' := by
  obtain ⟨i0, hi0, hz0, hz1, hz2⟩ := info_parts infoByte
  obtain ⟨zs, _, z2⟩ := make8 127 (by omega)
  have mk2 : ∀ W : World, Sem.run Try.prog (Instr.makeSlice 29 (.int .i64 127) (.int .i64 127)) W = .ok (.slice (some ⟨W.heap.size, 0, none⟩) 127 127) (W.alloc (.cells zs 5)) := z2
  clear z2
  go_enter Try.func3, Try.ntmps3
  go_wp2_with fail
  refine (cnew w).mono ?_
  rintro e w1 ⟨c, f, o, cap, rfl, hc, hb⟩
  have HB1 := Lib.hid hb
  have HC1 := Lib.hid hc
  clear hc hb
  go_wp2_with fail
  refine (lknown w1).mono ?_
  rintro e w2 ⟨rfl, hb⟩
  have HB2 : Hid (Below w.heap.size w w2) := Lib.hid (HB1.out.trans (hb.mono HB1.out.size))
  have HC2 := Lib.hid (HC1.out.keep hb)
  clear hb HC1 HB1
  have HBa : Hid (Below w2.heap.size w2 (w2.alloc (.cells zs 5))) := Lib.hid ((Below.refl _ _).alloc (Nat.le_refl _) _)
  have HEN := Lib.hid (cencode_no c f o cap 127 127 (some ⟨w2.heap.size, 0, none⟩) (w2.alloc (.cells zs 5)) (HC2.out.keep HBa.out) (by omega))
  go_wp2_with fail
  refine HEN.out.mono ?_
  rintro e w3 ⟨rfl, hw⟩
  obtain rfl := hw.symm
  have HB3 : Hid (Below w.heap.size w (w2.alloc (.cells zs 5))) := Lib.hid (HB2.out.trans (HBa.out.mono HB2.out.size))
  have HC3 := Lib.hid (HC2.out.keep HBa.out)
  clear HB2 HC2 HBa HEN
  generalize w2.alloc (.cells zs 5) = w3 at *
  go_wp2_with fail
  refine (rbytes 5 128 w3 (by omega)).mono ?_
  rintro e w4 ⟨g, F, rfl, hr, hF, hb, _⟩
  have HB4 : Hid (Below w.heap.size w w4) := Lib.hid (HB3.out.trans (hb.mono HB3.out.size))
  have HC4 := Lib.hid (HC3.out.keep hb)
  have HR4 := Lib.hid hr
  have HF := Lib.hid hF
  clear hb HC3 HB3 hr hF
  have HE := Lib.hid (cencode0 c f o cap g 128 F w4 HC4.out (by omega) HR4.out (fun j _ => HF.out j))
  go_wp2_with fail
  refine HE.out.mono ?_
  rintro e w5 ⟨b, rfl, ho, _, hb⟩
  have HB5 : Hid (Below w.heap.size w w5) := Lib.hid (HB4.out.trans (hb.mono HB4.out.size))
  have HC5 := Lib.hid (HC4.out.keep hb)
  have HO5 := Lib.hid ho
  have HPD : Hid (Bd 4 32 (parts F)) := Lib.hid (parts_bd (fun j _ => HF.out j))
  have HAB := Lib.hid (enc_bd 6 32 (parts F))
  have hbl : b < w5.heap.size := ho.lt (by omega)
  clear hb ho HE HC4 HB4 HR4
  go_wp2_with fail
  go_loopg [42] 6 (fun q s42 v => ∃ i : Nat, s42 = .int .i64 (i : Int) ∧ i ≤ 6 ∧ q = 6 - i ∧ w5 = v)
  case atStart => exact ⟨0, rfl, by omega, rfl, rfl⟩
  case round =>
    obtain ⟨i, rfl, hi, rfl, rfl⟩ := hrel
    by_cases hli : i < 6
    · have hli' : (i : Int) < 6 := by omega
      have hi0' : (0 : Int) ≤ (i : Int) := by omega
      have p1 := HO5.out.outer i hli
      go_wp2_with fail
      go_roundg (6 - (i + 1))
      case measure => omega
      case rel => exact ⟨i + 1, by go_num, by omega, rfl, rfl⟩
    · have hge : ¬ (i : Int) < 6 := by omega
      clear hli hi
      have d0 := HO5.out.outer 0 (by omega)
      have d1 := HO5.out.outer 1 (by omega)
      have d2 := HO5.out.outer 2 (by omega)
      have d3 := HO5.out.outer 3 (by omega)
      have d4 := HO5.out.outer 4 (by omega)
      have rowc : ∀ W : World, Below w5.heap.size w5 W → ∀ i, i < 6 → ∀ n, n ≤ 32 → ∀ j, j < n → W.cell? ⟨b + 1 + i, 0 + j, none⟩ = some (.int .u8 (enc (parts F) i j : Nat)) := fun W hW i hi n hn j hj => by
        rw [Nat.zero_add]
        exact (hW.cell (p := ⟨b + 1 + i, j, none⟩) (HO5.out.ltG hi (by omega))).trans (HO5.out.cell i hi j (by omega))
      have HROW := Lib.hid rowc
      clear rowc
      have HBA : Hid (Below w5.heap.size w5 ((w5.alloc (.cells #[] 5)).alloc (.cells #[.slice (some ⟨b + 1 + 0, 0, none⟩) 32 32, .slice none 0 0, .slice (some ⟨b + 1 + 2, 0, none⟩) 32 32, .slice (some ⟨w5.heap.size, 0, none⟩) 0 0, .slice (some ⟨b + 1 + 4, 0, none⟩) 32 32, .slice none 0 0] 29)).drew) := Lib.hid (((Below.refl _ w5).alloc (Nat.le_refl _) _).alloc (by rw [alloc_size]; omega) _).drew
      have HRA : Hid (RawIn ((w5.alloc (.cells #[] 5)).alloc (.cells #[.slice (some ⟨b + 1 + 0, 0, none⟩) 32 32, .slice none 0 0, .slice (some ⟨b + 1 + 2, 0, none⟩) 32 32, .slice (some ⟨w5.heap.size, 0, none⟩) 0 0, .slice (some ⟨b + 1 + 4, 0, none⟩) 32 32, .slice none 0 0] 29)).drew (some ⟨w5.heap.size + 1, 0, none⟩) (mixRows lnA (enc (parts F)))) := by
        have hbk : ∀ k, ((w5.alloc (.cells #[] 5)).alloc (.cells #[.slice (some ⟨b + 1 + 0, 0, none⟩) 32 32, .slice none 0 0, .slice (some ⟨b + 1 + 2, 0, none⟩) 32 32, .slice (some ⟨w5.heap.size, 0, none⟩) 0 0, .slice (some ⟨b + 1 + 4, 0, none⟩) 32 32, .slice none 0 0] 29)).drew.cell? ⟨w5.heap.size + 1, k, none⟩ = #[Value.slice (some ⟨b + 1 + 0, 0, none⟩) 32 32, .slice none 0 0, .slice (some ⟨b + 1 + 2, 0, none⟩) 32 32, .slice (some ⟨w5.heap.size, 0, none⟩) 0 0, .slice (some ⟨b + 1 + 4, 0, none⟩) 32 32, .slice none 0 0][k]? := fun k => by
          rw [← alloc_size w5 (.cells #[] 5)]
          exact cell_of_block (alloc_block (w5.alloc (.cells #[] 5)) _)
        refine Lib.hid (mixRows_raw (by rw [← alloc_size w5 (.cells #[] 5)]; exact heap_lt (alloc_block (w5.alloc (.cells #[] 5)) _)) (fun i hi => ?_))
        match i, hi with
        | 0, h => exact ⟨some ⟨b + 1 + 0, 0, none⟩, 32, by rw [hbk]; rfl, fun _ => ⟨_, _, rfl, HROW.out _ HBA.out 0 h 32 (by omega)⟩⟩
        | 1, _ => exact ⟨none, 0, by rw [hbk]; rfl, fun h => absurd h (by decide)⟩
        | 2, h => exact ⟨some ⟨b + 1 + 2, 0, none⟩, 32, by rw [hbk]; rfl, fun _ => ⟨_, _, rfl, HROW.out _ HBA.out 2 h 32 (by omega)⟩⟩
        | 3, _ => exact ⟨some ⟨w5.heap.size, 0, none⟩, 0, by rw [hbk]; rfl, fun h => absurd h (by decide)⟩
        | 4, h => exact ⟨some ⟨b + 1 + 4, 0, none⟩, 32, by rw [hbk]; rfl, fun _ => ⟨_, _, rfl, HROW.out _ HBA.out 4 h 32 (by omega)⟩⟩
        | 5, _ => exact ⟨none, 0, by rw [hbk]; rfl, fun h => absurd h (by decide)⟩
      have HD := Lib.hid (cdecodeN c f o cap 6 (some ⟨w5.heap.size + 1, 0, none⟩) (mixRows lnA (enc (parts F))) 6 _ (HC5.out.keep HBA.out) HRA.out (mixRows_len _ _) (by omega) (mixRows_bytes (by decide) HAB.out) (notA _))
      clear HRA
      go_wp2_with fail
      go_region_held3 (fun w' => w'.cell? ⟨b, 0, none⟩ = some (.slice (some ⟨b + 1 + 0, 0, none⟩) 32 32) ∧ w'.cell? ⟨b, 2, none⟩ = some (.slice (some ⟨b + 1 + 2, 0, none⟩) 32 32) ∧ w'.cell? ⟨b, 4, none⟩ = some (.slice (some ⟨b + 1 + 4, 0, none⟩) 32 32))
        (first | go_keep | (refine ⟨?_, ?_, ?_⟩ <;> assumption))
        (first | (go_at_call 13; refine HD.out.mono ?_; rintro e w6 ⟨rfl, hb6⟩; have H6 : Hid (Below w5.heap.size w5 w6) := Lib.hid (HBA.out.trans (hb6.mono HBA.out.size)); have r0 : w6.cell? ⟨b, 0, none⟩ = some (.slice (some ⟨b + 1 + 0, 0, none⟩) 32 32) := (H6.out.cell (p := ⟨b, 0, none⟩) hbl).trans d0; have r2 : w6.cell? ⟨b, 2, none⟩ = some (.slice (some ⟨b + 1 + 2, 0, none⟩) 32 32) := (H6.out.cell (p := ⟨b, 2, none⟩) hbl).trans d2; have r4 : w6.cell? ⟨b, 4, none⟩ = some (.slice (some ⟨b + 1 + 4, 0, none⟩) 32 32) := (H6.out.cell (p := ⟨b, 4, none⟩) hbl).trans d4; clear hb6) | fail)
      clear HBA HD r0 r2 r4
      have HO6 := Lib.hid (HO5.out.on (by omega) (by omega) H6.out)
      have HC6 := Lib.hid (HC5.out.keep H6.out)
      have hd5 := cdecodeN c f o cap 5 (some ⟨b, 0, none⟩) ((rowsOf 6 32 (enc (parts F))).take 5) 6 w6 HC6.out (rawTake HO6.out.raw 5) (by rw [List.length_take, rowsOf_len]; omega) (by omega) (bytesTake (rowsOf_bytes HAB.out) 5) (fun h => by have := h.1; rw [List.length_take, rowsOf_len] at this; omega)
      have HD5 := Lib.hid hd5
      clear hd5
      go_wp2_with fail
      refine HD5.out.mono ?_
      rintro e w7 ⟨rfl, hb7⟩
      have H7 : Hid (Below w5.heap.size w5 w7) := Lib.hid (H6.out.trans (hb7.mono H6.out.size))
      clear hb7 HD5 HO6 HC6
      have d5 := HO5.out.outer 5 (by omega)
      have HD4 := Lib.hid (And.intro d0 (And.intro d1 (And.intro d2 (And.intro d3 (And.intro d4 d5)))))
      have x0 := (H7.out.cell (p := ⟨b, 0, none⟩) hbl).trans d0
      have x1 := (H7.out.cell (p := ⟨b, 1, none⟩) hbl).trans d1
      have x2 := (H7.out.cell (p := ⟨b, 2, none⟩) hbl).trans d2
      have x3 := (H7.out.cell (p := ⟨b, 3, none⟩) hbl).trans d3
      have x4 := (H7.out.cell (p := ⟨b, 4, none⟩) hbl).trans d4
      clear d0 d1 d2 d3 d4 d5
      have HBA : Hid (Below w7.heap.size w7 (w7.alloc (.cells #[.slice (some ⟨b + 1 + 0, 0, none⟩) 32 32, .slice (some ⟨b + 1 + 1, 0, none⟩) 32 32, .slice (some ⟨b + 1 + 2, 0, none⟩) 32 32, .slice (some ⟨b + 1 + 3, 0, none⟩) 32 32, .slice (some ⟨b + 1 + 4, 0, none⟩) 5 32, .slice none 0 0] 29)).drew) := Lib.hid ((Below.refl _ w7).alloc (Nat.le_refl _) _).drew
      have HB7 : Hid (Below w5.heap.size w5 (w7.alloc (.cells #[.slice (some ⟨b + 1 + 0, 0, none⟩) 32 32, .slice (some ⟨b + 1 + 1, 0, none⟩) 32 32, .slice (some ⟨b + 1 + 2, 0, none⟩) 32 32, .slice (some ⟨b + 1 + 3, 0, none⟩) 32 32, .slice (some ⟨b + 1 + 4, 0, none⟩) 5 32, .slice none 0 0] 29)).drew) := Lib.hid (H7.out.trans (HBA.out.mono H7.out.size))
      have HRA : Hid (RawIn (w7.alloc (.cells #[.slice (some ⟨b + 1 + 0, 0, none⟩) 32 32, .slice (some ⟨b + 1 + 1, 0, none⟩) 32 32, .slice (some ⟨b + 1 + 2, 0, none⟩) 32 32, .slice (some ⟨b + 1 + 3, 0, none⟩) 32 32, .slice (some ⟨b + 1 + 4, 0, none⟩) 5 32, .slice none 0 0] 29)).drew (some ⟨w7.heap.size, 0, none⟩) (mixRows lnB (enc (parts F)))) := by
        have hbk : ∀ k, (w7.alloc (.cells #[.slice (some ⟨b + 1 + 0, 0, none⟩) 32 32, .slice (some ⟨b + 1 + 1, 0, none⟩) 32 32, .slice (some ⟨b + 1 + 2, 0, none⟩) 32 32, .slice (some ⟨b + 1 + 3, 0, none⟩) 32 32, .slice (some ⟨b + 1 + 4, 0, none⟩) 5 32, .slice none 0 0] 29)).drew.cell? ⟨w7.heap.size, k, none⟩ = _ := fun k => cell_of_block (w := (w7.alloc (.cells #[.slice (some ⟨b + 1 + 0, 0, none⟩) 32 32, .slice (some ⟨b + 1 + 1, 0, none⟩) 32 32, .slice (some ⟨b + 1 + 2, 0, none⟩) 32 32, .slice (some ⟨b + 1 + 3, 0, none⟩) 32 32, .slice (some ⟨b + 1 + 4, 0, none⟩) 5 32, .slice none 0 0] 29)).drew) (alloc_block w7 _)
        refine Lib.hid (mixRows_raw (show w7.heap.size < (w7.alloc _).heap.size by rw [alloc_size]; exact Nat.lt_succ_self _) (fun i hi => ?_))
        match i, hi with
        | 0, h => exact ⟨some ⟨b + 1 + 0, 0, none⟩, 32, by rw [hbk]; rfl, fun _ => ⟨_, _, rfl, HROW.out _ HB7.out 0 h 32 (by omega)⟩⟩
        | 1, h => exact ⟨some ⟨b + 1 + 1, 0, none⟩, 32, by rw [hbk]; rfl, fun _ => ⟨_, _, rfl, HROW.out _ HB7.out 1 h 32 (by omega)⟩⟩
        | 2, h => exact ⟨some ⟨b + 1 + 2, 0, none⟩, 32, by rw [hbk]; rfl, fun _ => ⟨_, _, rfl, HROW.out _ HB7.out 2 h 32 (by omega)⟩⟩
        | 3, h => exact ⟨some ⟨b + 1 + 3, 0, none⟩, 32, by rw [hbk]; rfl, fun _ => ⟨_, _, rfl, HROW.out _ HB7.out 3 h 32 (by omega)⟩⟩
        | 4, h => exact ⟨some ⟨b + 1 + 4, 0, none⟩, 32, by rw [hbk]; rfl, fun _ => ⟨_, _, rfl, HROW.out _ HB7.out 4 h 5 (by omega)⟩⟩
        | 5, _ => exact ⟨none, 0, by rw [hbk]; rfl, fun h => absurd h (by decide)⟩
      have HD := Lib.hid (cdecodeN c f o cap 6 (some ⟨w7.heap.size, 0, none⟩) (mixRows lnB (enc (parts F))) 6 _ (HC5.out.keep HB7.out) HRA.out (mixRows_len _ _) (by omega) (mixRows_bytes (by decide) HAB.out) (notB _))
      clear HRA HBA
      go_wp2_with fail
      go_region_held3 (fun w' => w'.cell? ⟨b, 0, none⟩ = some (.slice (some ⟨b + 1 + 0, 0, none⟩) 32 32) ∧ w'.cell? ⟨b, 1, none⟩ = some (.slice (some ⟨b + 1 + 1, 0, none⟩) 32 32) ∧ w'.cell? ⟨b, 2, none⟩ = some (.slice (some ⟨b + 1 + 2, 0, none⟩) 32 32) ∧ w'.cell? ⟨b, 3, none⟩ = some (.slice (some ⟨b + 1 + 3, 0, none⟩) 32 32) ∧ w'.cell? ⟨b, 4, none⟩ = some (.slice (some ⟨b + 1 + 4, 0, none⟩) 32 32))
        (first | go_keep | (refine ⟨?_, ?_, ?_, ?_, ?_⟩ <;> assumption))
        (first | (go_at_call 13; refine HD.out.mono ?_; rintro e w8 ⟨rfl, hb8⟩; have H8 : Hid (Below w5.heap.size w5 w8) := Lib.hid (HB7.out.trans (hb8.mono HB7.out.size)); have y0 : w8.cell? ⟨b, 0, none⟩ = some (.slice (some ⟨b + 1 + 0, 0, none⟩) 32 32) := (H8.out.cell (p := ⟨b, 0, none⟩) hbl).trans HD4.out.1; have y1 : w8.cell? ⟨b, 1, none⟩ = some (.slice (some ⟨b + 1 + 1, 0, none⟩) 32 32) := (H8.out.cell (p := ⟨b, 1, none⟩) hbl).trans HD4.out.2.1; have y2 : w8.cell? ⟨b, 2, none⟩ = some (.slice (some ⟨b + 1 + 2, 0, none⟩) 32 32) := (H8.out.cell (p := ⟨b, 2, none⟩) hbl).trans HD4.out.2.2.1; have y3 : w8.cell? ⟨b, 3, none⟩ = some (.slice (some ⟨b + 1 + 3, 0, none⟩) 32 32) := (H8.out.cell (p := ⟨b, 3, none⟩) hbl).trans HD4.out.2.2.2.1; have y4 : w8.cell? ⟨b, 4, none⟩ = some (.slice (some ⟨b + 1 + 4, 0, none⟩) 32 32) := (H8.out.cell (p := ⟨b, 4, none⟩) hbl).trans HD4.out.2.2.2.2.1; clear hb8) | fail)
      clear HD HB7 H7 H6 x0 x1 x2 x3 x4
      have HO8 := Lib.hid (HO5.out.on (by omega) (by omega) H8.out)
      go_wp2_with (at_builtin; refine clone_rows _ w8 rfl _ _ rfl rfl rfl b 6 6 rfl (fun r => .slice (some ⟨b + 1 + r, 0, none⟩) 32 32) (fun r hr => HO8.out.outer r hr) (fun r hr => rfl) (by omega) (by omega) ?_; intro h6 cap6 w9 hcell hfree hge hlt hb9; have HCL := Lib.hid hcell; have HFR := Lib.hid hfree; have HGE := Lib.hid (And.intro hge hlt); have HB9 := Lib.hid hb9; clear hcell hfree hge hlt hb9)
      go_cut [] from 100 to 115 (fun wx => Hid (BadP w5 b h6 (enc (parts F)) wx))
      case first =>
        have HB9x : Hid (Below w5.heap.size w5 w9) := Lib.hid (H8.out.trans (HB9.out.mono H8.out.size))
        have hsz9 : w5.heap.size ≤ w9.heap.size := HB9x.out.size
        have z5 := (HB9x.out.cell (p := ⟨b, 5, none⟩) hbl).trans HD4.out.2.2.2.2.2
        obtain ⟨xv, hxv⟩ : ∃ xv, xv = enc (parts F) 5 31 := ⟨_, rfl⟩
        have HXV := Lib.hid hxv
        have HV31 : Hid (∀ W : World, Below w5.heap.size w5 W → W.cell? ⟨b + 1 + 5, 31, none⟩ = some (.int .u8 (xv : Int))) := Lib.hid (fun W hW => by rw [hxv]; exact (hW.cell (p := ⟨b + 1 + 5, 31, none⟩) (HO5.out.ltG (i := 5) (by omega) (by omega))).trans (HO5.out.cell 5 (by omega) 31 (by omega)))
        have z31 := HV31.out w9 HB9x.out
        have hxor := bits_xor_u8 xv 1 (by rw [hxv]; exact HAB.out 5 (by omega) 31 (by omega)) (by omega)
        rw [show ((1 : Nat) : Int) = 1 from rfl] at hxor
        have hb9 : b < w9.heap.size := Nat.lt_of_lt_of_le hbl hsz9
        have hb59 : b + 1 + 5 < w9.heap.size := Nat.lt_of_lt_of_le (HO5.out.ltG (i := 5) (by omega) (by omega)) hsz9
        have hh9 : h6 < w9.heap.size := HGE.out.2
        clear hxv
        go_region_law (first | (refine step_append_any _ (by rfl) (.tmp 101) (.tmp 105) 29 (by rfl) w9.heap.size 5 i0 (.int .u8 0) 1 1 Try.underlying29 hi0 hz0 hz1 hz2 rfl (by decide) _ 0 0 [] (by rfl) (own_empty (by first | exact alloc_block _ _ | exact hp2 _ _ _ | exact hp3 _ _ _) (by first | omega | (simp; done) | (simp; omega))) ⟨b + 1 + 5, 0, none⟩ 31 32 (rowL 31 (enc (parts F) 5)) (by rfl) (by rw [rowL_len]) (rowL_cells (HROW.out _ (by repeat' (first | exact HB9x.out | refine Below.drew ?_ | refine Below.alloc ?_ (by first | omega | (simp; done) | (simp; omega)) _)) 5 (by omega) 31 (by omega))) rowL_one (by unfold maxLen; omega) (by omega) (by first | omega | (simp; done) | (simp; omega)) ?_; intro gB capB wB ownB grB hgB hlB; rw [List.nil_append] at ownB; have hgB9 : w9.heap.size ≤ gB := (by rcases hgB with h | h <;> first | omega | (simp at h; omega)); have HBB : Hid (Below w5.heap.size w5 wB) := Lib.hid (Below.of_only (by repeat' (first | exact HB9x.out | refine Below.drew ?_ | refine Below.alloc ?_ (by first | omega | (simp; done) | (simp; omega)) _)) grB (by first | omega | (simp; done) | (simp; omega)) (by first | omega | (simp; done) | (simp; omega))); have hszB : w9.heap.size ≤ wB.heap.size := Nat.le_trans (by first | omega | (simp; done) | (simp; omega)) grB.size; have HH6 : Hid (∀ k, k < w9.heap.size → wB.heap[k]? = w9.heap[k]?) := Lib.hid (fun k hk => (grB.block k (by first | omega | (simp; done) | (simp; omega)) (fun e => by injection e with e; first | omega | (simp at e; omega))).trans (by first | exact alloc_old _ _ hk | exact (alloc_old _ _ (by simp; omega)).trans (alloc_old _ _ hk))); have k5 := (HBB.out.cell (p := ⟨b, 5, none⟩) hbl).trans HD4.out.2.2.2.2.2; have v5 := HV31.out wB HBB.out) | (refine step_append_any _ (by rfl) (.tmp 106) (.tmp 113) 29 (by rfl) w9.heap.size 5 i0 (.int .u8 0) 1 1 Try.underlying29 hi0 hz0 hz1 hz2 rfl (by decide) gB 31 capB (rowL 31 (enc (parts F) 5)) (by rfl) (by first | exact ownB | exact own_keep ownB ((Below.refl _ _).alloc (Nat.le_refl _) _)) _ 1 1 [.int .u8 ((xv ^^^ 1 : Nat) : Int)] (by rfl) (by rfl) (one_news (by first | exact alloc_block _ _ | exact (grB.block _ (by first | omega | (simp; done) | (simp; omega)) (fun e => by injection e with e; first | omega | (simp at e; done) | (simp at e; omega))).trans (by first | exact hp3 _ _ _ | exact hp2 _ _ _))) (by intro u hu; simp at hu; subst hu; rfl) (by unfold maxLen; omega) (by omega) (by first | omega | (simp; done) | (simp; omega)) ?_; intro gD capD wD ownD grD hgD hlD; have HDB : Hid (Below w5.heap.size w5 wD) := Lib.hid (Below.of_only (by first | exact HBB.out | exact HBB.out.alloc (by omega) _) grD (by omega) (by first | omega | (simp; done) | (simp; omega))); have HD6 : Hid (∀ k, k < w9.heap.size → wD.heap[k]? = w9.heap[k]?) := Lib.hid (fun k hk => (grD.block k (by first | omega | (simp; done) | (simp; omega)) (fun e => by injection e with e; omega)).trans (by first | exact HH6.out k hk | exact (alloc_old _ _ (by omega)).trans (HH6.out k hk))); have s6 : wD.cell? ⟨h6, 5, none⟩ = some (.slice (some ⟨b + 1 + 5, 0, none⟩) 32 32) := (World.cell?_of_block (HD6.out h6 HGE.out.2)).trans (HCL.out 5 (by omega)); have f6 : wD.frozen? ⟨h6, 5, none⟩ = false := (World.frozen?_of_block (a := ⟨h6, 5, none⟩) (HD6.out h6 HGE.out.2)).trans (HFR.out 5); have HOD := Lib.hid ownD) | fail)
        all_goals
          go_wp2_with fail
          go_meet
          case rel => exact Lib.hid (badP_of HDB.out HD6.out (fun r hr => HCL.out r hr) HGE.out.2 (Nat.le_trans H8.out.size HGE.out.1) HXV.out HOD.out)
      case rest =>
        have hcb : Below w5.heap.size w5 wc := by obtain ⟨_, _, h, _⟩ := hcut.out; exact h
        have HOC := Lib.hid (HO5.out.on (by omega) (by omega) hcb)
        have HCC := Lib.hid (HC5.out.keep hcb)
        have HRB := Lib.hid (hcut.out.raw (fun i hi j hj => HOC.out.cell i (by omega) j hj))
        have HBC : Hid (Below w.heap.size w wc) := Lib.hid (HB5.out.trans (hcb.mono HB5.out.size))
        clear hcb hcut
        have e0 : wc.cell? ⟨b, 0, none⟩ = some (.slice (some ⟨b + 1 + 0, 0, none⟩) 32 32) := HOC.out.outer 0 (by omega)
        have e1 : wc.cell? ⟨b, 1, none⟩ = some (.slice (some ⟨b + 1 + 1, 0, none⟩) 32 32) := HOC.out.outer 1 (by omega)
        have HE := Lib.hid (And.intro e0 e1)
        clear e0 e1
        have HD1 := Lib.hid (fun w' (h : SK wc b w') => idx_any c f o cap 32 32 32 32 (some ⟨b + 1 + 0, 0, none⟩) (some ⟨b + 1 + 1, 0, none⟩) w' (HCC.out.keep h.1))
        have HD2 := Lib.hid (fun w' (h : SK wc b w') => len_any c f o cap 32 32 32 (some ⟨b + 1 + 0, 0, none⟩) (some ⟨b + 1 + 1, 0, none⟩) w' (HCC.out.keep h.1))
        have HK1 := Lib.hid (fun w' (h : SK wc b w') => ccheckT c f o cap b 6 (parts F) (HCC.out.keep h.1) (HOC.out.raw.keep h.1) HPD.out)
        have HK2 := Lib.hid (fun w' (h : SK wc b w') => ccheckN c f o cap 6 (some ⟨h6, 0, none⟩) (rowsOf 6 32 (bent (enc (parts F)) 5 31 1)) cap6 w' (HCC.out.keep h.1) (HRB.out.keep h.1) (rowsOf_len _ _ _) (by omega) (rowsOf_bytes (bent_bd HAB.out (by omega) (by omega) (by omega))) (fun h => absurd ((check_bent HPD.out (by omega) (by omega) (by omega)).2 h) (by omega)))
        have HK3 := Lib.hid (fun w' (h : SK wc b w') => ccheckN c f o cap 5 (some ⟨b, 0, none⟩) ((rowsOf 6 32 (enc (parts F))).take 5) 6 w' (HCC.out.keep h.1) (rawTake (HOC.out.raw.keep h.1) 5) (by rw [List.length_take, rowsOf_len]; omega) (by omega) (bytesTake (rowsOf_bytes HAB.out) 5) (fun h => by have := h.1.1; rw [List.length_take, rowsOf_len] at this; omega))
        have HR5 := Lib.hid (fun w' (h : SK wc b w') => row_five c f o cap w' (HCC.out.keep h.1))
        have HR1 := Lib.hid (fun w' (h : SK wc b w') => row_one c f o cap w' (HCC.out.keep h.1))
        have HR6 := Lib.hid (fun w' (h : SK wc b w') => row_six c f o cap w' (HCC.out.keep h.1))
        have HRM := Lib.hid (fun w' (h : SK wc b w') => row_minus c f o cap w' (HCC.out.keep h.1))
        have HE0 : Hid (SK wc b wc.drew) := Lib.hid ⟨(Below.refl _ _).drew, HE.out⟩
        clear HO5 HC5 HOC HCC HRB HAB HPD HROW HE
        go_wp2_with fail
        first
        | (go_region_held3 (fun w' => Below wc.heap.size wc w' ∧ w'.cell? ⟨b, 0, none⟩ = some (.slice (some ⟨b + 1 + 0, 0, none⟩) 32 32) ∧ w'.cell? ⟨b, 1, none⟩ = some (.slice (some ⟨b + 1 + 1, 0, none⟩) 32 32))
            (first | exact HE0.out | exact SK.more (by assumption) hbc)
            (first | (go_at_call 14; refine (HD1.out _ (by assumption)).mono ?_; rintro e wz ⟨rfl, hbc⟩; (try dsimp only)) | fail))
        | fail
        all_goals go_wp2_with fail
        all_goals first
        | (go_region_held3 (fun w' => Below wc.heap.size wc w' ∧ w'.cell? ⟨b, 0, none⟩ = some (.slice (some ⟨b + 1 + 0, 0, none⟩) 32 32) ∧ w'.cell? ⟨b, 1, none⟩ = some (.slice (some ⟨b + 1 + 1, 0, none⟩) 32 32))
            (first | exact SK.drew (by assumption) | exact SK.more (by assumption) hbc)
            (first | (go_at_call 14; refine (HD2.out _ (by assumption)).mono ?_; rintro e wy ⟨rfl, hbc⟩; (try dsimp only)) | fail))
        | fail
        have HS0 := Lib.hid (show SK wc b wy from by assumption)
        go_wp2_with fail
        refine (HK1.out _ (by first | exact HS0.out | exact HS0.out.drew)).mono ?_
        rintro e wa ⟨rfl, hb⟩
        have HSa : Hid (SK wc b wa) := Lib.hid (by first | exact HS0.out.more hb | exact HS0.out.drew.more hb)
        clear hb
        go_wp2_with fail
        refine (HK2.out _ HSa.out).mono ?_
        rintro e wb ⟨rfl, hb⟩
        have HSb := Lib.hid (HSa.out.more hb)
        clear hb
        go_wp2_with fail
        refine (HK3.out _ HSb.out).mono ?_
        rintro e wd ⟨rfl, hb⟩
        have HSd := Lib.hid (HSb.out.more hb)
        clear hb
        go_wp2_with fail
        refine (HR5.out _ HSd.out).mono ?_
        rintro e we ⟨g5, k5, rfl, cv5, hb⟩
        have HSe := Lib.hid (HSd.out.more hb)
        clear hb
        go_wp2_with fail
        refine (HR1.out _ HSe.out).mono ?_
        rintro e wf ⟨g1, k1, rfl, cv1, hb⟩
        have HSf := Lib.hid (HSe.out.more hb)
        clear hb
        go_wp2_with fail
        refine (HR6.out _ HSf.out).mono ?_
        rintro e wg ⟨rfl, hb⟩
        have HSg := Lib.hid (HSf.out.more hb)
        clear hb
        go_wp2_with fail
        refine (HRM.out _ HSg.out).mono ?_
        rintro e wh ⟨rfl, hb⟩
        have HSh := Lib.hid (HSg.out.more hb)
        clear hb
        go_wp2_with fail
        go_ret
        exact ⟨by first | rfl | simp, HBC.out.trans ((sk_below HSh.out).mono HBC.out.size)⟩

end Go.Proofs.Ytajpnbmfeapmcaa
