import Derived.Test.YtajpnbmfeapmcaaAd
namespace Go.Proofs.Ytajpnbmfeapmcaa
open Go.RowKit Go.Sort
set_option maxRecDepth 100000
set_option maxHeartbeats 8000000

/-- A slice's Booleans, cell by cell. -/
def Bools (w : World) (a : Option Addr) (xs : List Bool) : Prop := ∀ (i : Nat) (x : Bool), xs[i]? = some x → ∃ g o, a = some ⟨g, o, none⟩ ∧ g < w.heap.size ∧ w.cell? ⟨g, o + i, none⟩ = some (.bool x)
theorem Bools.on {w w' : World} {a : Option Addr} {xs : List Bool} (h : Bools w a xs) (b : Below w.heap.size w w') : Bools w' a xs := fun i x hx => by
  obtain ⟨g, o, e, hg, hc⟩ := h i x hx
  exact ⟨g, o, e, Nat.lt_of_lt_of_le hg b.size, (b.cell (p := ⟨g, o + i, none⟩) hg).trans hc⟩

/-- Places of rows, each as long as it is, whose bytes lie outside a block. -/
def Us (w : World) (us : List Value) (xss : List (List Nat)) (ob : Option Nat) : Prop := ∀ (l : Nat) (xs : List Nat), xss[l]? = some xs → ∃ (g : Option Addr) (cap : Nat), us[l]? = some (.slice g xs.length cap) ∧
  ∀ (j x : Nat), xs[j]? = some x → ∃ h q, g = some ⟨h, q, none⟩ ∧ h < w.heap.size ∧ w.cell? ⟨h, q + j, none⟩ = some (.int .u8 (x : Nat)) ∧ ob ≠ some h
/-- A list of rows under way. -/
structure Have (w : World) (B : Nat) (v : Value) (xss : List (List Nat)) : Prop where
  own : ∃ us, w.ownsRow B 29 1 v xss.length us ∧ Us w us xss v.ownBlock
  bytes : Bytes xss
/-- One row of it. -/
structure Chk (w : World) (g : Option Addr) (xs : List Nat) (ob : Option Nat) : Prop where
  at_ : ∀ (j x : Nat), xs[j]? = some x → ∃ h q, g = some ⟨h, q, none⟩ ∧ h < w.heap.size ∧ w.cell? ⟨h, q + j, none⟩ = some (.int .u8 (x : Nat)) ∧ ob ≠ some h
  lt : ∀ x ∈ xs, x < 256
theorem Have.start (w : World) (B : Nat) : Have w B (.slice none 0 0) [] := ⟨⟨[], World.ownsRow_nil _ _ _ _, fun l xs h => by simp at h⟩, fun i xs h => by simp at h⟩
theorem Us.on {w w' : World} {us : List Value} {xss : List (List Nat)} {ob : Option Nat} (h : Us w us xss ob) (b : Below w.heap.size w w') : Us w' us xss ob := fun l xs hl => by
  obtain ⟨g, cap, hu, hx⟩ := h l xs hl
  refine ⟨g, cap, hu, fun j x hj => ?_⟩
  obtain ⟨h1, q, e, hlt, hc, hn⟩ := hx j x hj
  exact ⟨h1, q, e, Nat.lt_of_lt_of_le hlt b.size, (b.cell (p := ⟨h1, q + j, none⟩) hlt).trans hc, hn⟩
theorem Have.on {w w' : World} {B : Nat} {v : Value} {xss : List (List Nat)} (h : Have w B v xss) (b : Below w.heap.size w w') : Have w' B v xss := by
  obtain ⟨us, ho, hu⟩ := h.own
  exact ⟨⟨us, own_keep ho b, hu.on b⟩, h.bytes⟩
theorem bytes_snoc {xss : List (List Nat)} {xs : List Nat} (h : Bytes xss) (hx : ∀ x ∈ xs, x < 256) : Bytes (xss ++ [xs]) := fun i ys hy => by
  by_cases e : i < xss.length
  · rw [List.getElem?_append_left e] at hy; exact h i ys hy
  · rw [List.getElem?_append_right (by omega)] at hy
    have h0 : i - xss.length = 0 := by have := (List.getElem?_eq_some_iff.1 hy).1; simp at this; omega
    rw [h0] at hy
    cases hy
    exact hx
theorem Have.add {w w' : World} {B : Nat} {v v' : Value} {xss : List (List Nat)} {us : List Value} {g : Option Addr} {xs : List Nat} {cap : Nat} (ho : w.ownsRow B 29 1 v xss.length us) (hu : Us w us xss v.ownBlock) (hby : Bytes xss)
    (hc : Chk w g xs v.ownBlock) (own : w'.ownsRow B 29 1 v' (xss.length + 1) (us ++ [.slice g xs.length cap])) (gr : (w.alloc (.cells #[.slice g xs.length cap] 29)).grownBy w' v.ownBlock)
    (hv : v'.ownBlock = v.ownBlock ∨ w'.ownsRow (w.alloc (.cells #[.slice g xs.length cap] 29)).heap.size 29 1 v' (xss.length + 1) (us ++ [.slice g xs.length cap])) : Have w' B v' (xss ++ [xs]) := by
  have far : ∀ h, h < w.heap.size → v.ownBlock ≠ some h → w'.heap[h]? = w.heap[h]? ∧ v'.ownBlock ≠ some h := fun h hl hn => ⟨(gr.block h (by rw [alloc_size]; omega) (fun e => hn e.symm)).trans (alloc_old w _ hl), fun e => by
    rcases hv with hv | hv
    · exact hn (hv ▸ e)
    · have := (hv.lt h e).1
      rw [alloc_size] at this
      omega⟩
  have hgs : w.heap.size ≤ w'.heap.size := by have := gr.size; rw [alloc_size] at this; omega
  have hlen : us.length = xss.length := by have := ho.1; omega
  refine ⟨⟨_, by rw [List.length_append]; exact own, fun l ys hl => ?_⟩, bytes_snoc hby hc.lt⟩
  by_cases e : l < xss.length
  · rw [List.getElem?_append_left e] at hl
    obtain ⟨g', cap', h1, h2⟩ := hu l ys hl
    refine ⟨g', cap', by rw [List.getElem?_append_left (by omega)]; exact h1, fun j x hj => ?_⟩
    obtain ⟨h, q, e1, hlt, hcell, hn⟩ := h2 j x hj
    exact ⟨h, q, e1, by omega, (World.cell?_of_block (far h hlt hn).1).trans hcell, (far h hlt hn).2⟩
  · rw [List.getElem?_append_right (by omega)] at hl
    have h0 : l - xss.length = 0 := by have := (List.getElem?_eq_some_iff.1 hl).1; simp at this; omega
    rw [h0] at hl
    cases hl
    refine ⟨g, cap, by rw [List.getElem?_append_right (by omega), hlen, h0]; rfl, fun j x hj => ?_⟩
    obtain ⟨h, q, e1, hlt, hcell, hn⟩ := hc.at_ j x hj
    exact ⟨h, q, e1, by omega, (World.cell?_of_block (far h hlt hn).1).trans hcell, (far h hlt hn).2⟩
theorem Have.add' {w w' : World} {B k ln : Nat} {v v' : Value} {xss : List (List Nat)} {us : List Value} {g : Option Addr} {xs : List Nat} {cap : Nat} (hk : xss.length = k) (hln : xs.length = ln) (ho : w.ownsRow B 29 1 v k us) (hu : Us w us xss v.ownBlock) (hby : Bytes xss)
    (hc : Chk w g xs v.ownBlock) (own : w'.ownsRow B 29 1 v' (k + 1) (us ++ [.slice g ln cap])) (gr : (w.alloc (.cells #[.slice g ln cap] 29)).grownBy w' v.ownBlock)
    (hv : v'.ownBlock = v.ownBlock ∨ w'.ownsRow (w.alloc (.cells #[.slice g ln cap] 29)).heap.size 29 1 v' (k + 1) (us ++ [.slice g ln cap])) : Have w' B v' (xss ++ [xs]) := by
  subst hk hln
  exact Have.add ho hu hby hc own gr hv
theorem Have.raw {w : World} {B o n cap : Nat} {xss : List (List Nat)} (h : Have w B (.slice (some ⟨o, 0, none⟩) n cap) xss) (hn : xss.length = n) (h1 : 1 ≤ n) : RawIn w (some ⟨o, 0, none⟩) xss := by
  obtain ⟨us, ho, hu⟩ := h.own
  have hol : o < w.heap.size := (ho.lt o rfl).2
  intro i xs hx
  obtain ⟨g, cp, hui, hc⟩ := hu i xs hx
  refine ⟨o, 0, rfl, hol, g, cp, ?_, fun j x hj => ?_⟩
  · rw [← addr_add]
    exact ho.cells (g := o) rfl i _ hui
  · obtain ⟨h, q, e, hlt, hcell, _⟩ := hc j x hj
    exact ⟨h, q, e, hlt, hcell⟩
theorem RawIn.take {w : World} {a : Option Addr} {xss : List (List Nat)} (h : RawIn w a xss) (k : Nat) : RawIn w a (xss.take k) := fun i xs hx => by
  rw [List.getElem?_take] at hx
  split at hx
  · exact h i xs hx
  · cases hx
theorem Bytes.take {xss : List (List Nat)} (h : Bytes xss) (k : Nat) : Bytes (xss.take k) := fun i xs hx => by
  rw [List.getElem?_take] at hx
  split at hx
  · exact h i xs hx
  · cases hx
theorem chk_none (w : World) (ob : Option Nat) : Chk w none [] ob := ⟨fun j x h => by simp at h, fun x h => by simp at h⟩
theorem chk_row {w : World} {g n : Nat} {F : Nat → Nat} {ob : Option Nat} (h : Row8 w g n F) (hb : ∀ j, j < n → F j < 256) (hn : ob ≠ some g) : Chk w (some ⟨g, 0, none⟩) ((List.range n).map F) ob := by
  have get : ∀ j x, ((List.range n).map F)[j]? = some x → j < n ∧ x = F j := fun j x hj => by
    have hjn : j < n := by have := (List.getElem?_eq_some_iff.1 hj).1; simpa using this
    simp [hjn] at hj
    exact ⟨hjn, hj.symm⟩
  refine ⟨fun j x hj => ?_, fun x hx => ?_⟩
  · obtain ⟨hjn, rfl⟩ := get j x hj
    exact ⟨g, 0, rfl, cell?_lt (h.cell j hjn), by rw [Nat.zero_add]; exact h.cell j hjn, hn⟩
  · simp at hx
    obtain ⟨j, hj, rfl⟩ := hx
    exact hb j hj

/-- What the reference's Decode answers. -/
def RDecRet (xss : List (List Nat)) (w : World) (e : Ending) (w' : World) : Prop :=
  (e = .returned (.tuple #[.slice none 0 0, .bool false]) ∧ Hid (Below w.heap.size w w' ∧ ¬ Whole xss)) ∨
  (∃ g cap', e = .returned (.tuple #[.slice (some ⟨g, 0, none⟩) 128 cap', .bool true]) ∧ Hid (Below w.heap.size w w' ∧ Whole xss ∧ Row8 w' g 128 (outF xss)))
theorem rdecodeR (a : Option Addr) (xss : List (List Nat)) (cap : Nat) (w : World) (h : RawIn w a xss) (hl : xss.length ≤ 9223372036854775807) (hby : Bytes xss) :
    Calls Try.prog 20 #[.slice a xss.length cap] w (RDecRet xss w) := by
  by_cases h6 : xss.length = 6
  · have := rdecode_go a xss cap w h h6 (RDecRet xss w) (fun w' h1 h2 => .inl ⟨rfl, Lib.hid ⟨h1, h2⟩⟩) (fun w' g cap' h1 h2 h3 => .inr ⟨g, cap', rfl, Lib.hid ⟨h1, h2, h3⟩⟩) hby
    rw [h6]
    exact this
  · exact (rdecode_no a xss cap w h hl h6).mono (fun e w' ⟨h1, h2⟩ => .inl ⟨h1, Lib.hid ⟨h2, fun hw => h6 hw.1⟩⟩)
theorem have_shape {w : World} {B : Nat} {v : Value} {xss : List (List Nat)} (h : Have w B v xss) : ∃ p c, v = .slice p xss.length c := by
  obtain ⟨us, ho, _⟩ := h.own
  exact own_shape ho
theorem have_some {w : World} {B : Nat} {v : Value} {xss : List (List Nat)} (h : Have w B v xss) (hn : 1 ≤ xss.length) : ∃ o c, v = .slice (some ⟨o, 0, none⟩) xss.length c ∧ xss.length ≤ c := by
  obtain ⟨us, ho, _⟩ := h.own
  rcases ho.2 with ⟨_, h0⟩ | ⟨g, cap, cur, e, _, _, h3, _⟩
  · omega
  · exact ⟨g, cap, e, h3⟩

theorem coderTells (x0 x1 : Int) (a : Option Addr) (ls : List Bool) (lc : Nat) (x3 x4 x5 : Int) (w : World) (hls : Bools w a ls) (hll : ls.length ≤ 9223372036854775807) (h5 : -9223372036854775808 ≤ x5 ∧ x5 ≤ 9223372036854775807) :
    Calls Try.prog 4 #[.int .i64 x0, .int .i64 x1, .slice a ls.length lc, .int .i64 x3, .int .i64 x4, .int .i64 x5] w fun e w' => e = .returned (.bool true) ∧ Below w.heap.size w w' := by
  obtain ⟨p9, lp9, _, hp9⟩ := rpickN x3 9 (by omega) (by omega)
  obtain ⟨p40, lp40, _, hp40⟩ := rpickN x4 40 (by omega) (by omega)
  obtain ⟨p6, lp6, _, hp6⟩ := rpickN (x5.tdiv 17) 6 (by omega) (by omega)
  have P9 := Lib.hid hp9
  have P40 := Lib.hid hp40
  have P6 := Lib.hid hp6
  have HLS := Lib.hid hls
  clear hp9 hp40 hp6 hls
  obtain ⟨i0, hi0, hz0, hz1, hz2⟩ := info_parts infoRow
  obtain ⟨n, hn⟩ : ∃ n, ls.length = n := ⟨_, rfl⟩
  have HN := Lib.hid hn
  rw [hn] at hll ⊢
  clear hn
  go_enter Try.func4, Try.ntmps4
  go_wp2_with fail
  refine (cnew w).mono ?_
  rintro e w1 ⟨c, f, o, cap, rfl, hc, hb⟩
  have HB1 := Lib.hid hb
  have HC1 := Lib.hid hc
  clear hc hb
  go_wp2_with fail
  refine (lknown w1).mono ?_
  rintro e w2 ⟨rfl, hb⟩
  have HB2 : Hid (Below w.heap.size w w2) := Lib.hid (HB1.out.trans (hb.mono HB1.out.size))
  have HC2 := Lib.hid (HC1.out.keep hb)
  clear hb HC1 HB1
  go_wp2_with fail
  refine (rbytes x0 128 w2 (by omega)).mono ?_
  rintro e w3 ⟨g, F, rfl, hr, hF, hb, _⟩
  have HB3 : Hid (Below w.heap.size w w3) := Lib.hid (HB2.out.trans (hb.mono HB2.out.size))
  have HC3 := Lib.hid (HC2.out.keep hb)
  have HR3 := Lib.hid hr
  have HF := Lib.hid hF
  clear hb HC2 HB2 hr hF
  have HE := Lib.hid (cencode0 c f o cap g 128 F w3 HC3.out (by omega) HR3.out (fun j _ => HF.out j))
  go_wp2_with fail
  refine HE.out.mono ?_
  rintro e w4 ⟨b1, rfl, ho, _, hb⟩
  have HB4 : Hid (Below w.heap.size w w4) := Lib.hid (HB3.out.trans (hb.mono HB3.out.size))
  have HC4 := Lib.hid (HC3.out.keep hb)
  have HR4 := Lib.hid (HR3.out.on (by omega) hb)
  have HP4 := Lib.hid ho
  clear HE HB3 HC3 HR3 ho hb
  have HE4 := Lib.hid (rencode g 0 128 F w4 (fun j hj => by rw [Nat.zero_add]; exact HR4.out.cell j hj) (fun j _ => HF.out j))
  go_wp2_with fail
  refine HE4.out.mono ?_
  rintro e w5 ⟨v5, G5, rfl, hr5, hb⟩
  obtain ⟨o5, c5, rfl, hraw5⟩ := hr5.mat (by omega)
  have HB5 : Hid (Below w.heap.size w w5) := Lib.hid (HB4.out.trans (hb.mono HB4.out.size))
  have HC5 := Lib.hid (HC4.out.keep hb)
  have HP5 := Lib.hid (HP4.out.on (by omega) (by omega) hb)
  have HQ5 := Lib.hid hraw5
  have HPB := Lib.hid (enc_bd 6 32 (parts F))
  clear HE4 HB4 HC4 HR4 HP4 hr5 hraw5 hb
  have hs := lsame (some ⟨b1, 0, none⟩) (some ⟨o5, 0, none⟩) (rowsOf 6 32 (enc (parts F))) (rowsOf 6 32 (enc (parts F))) 6 c5 w5 HP5.out.raw HQ5.out (by rw [rowsOf_len]; omega) (fun i xs h => by rw [rowsOf_rowlen h]; omega) (fun i xs h => by rw [rowsOf_rowlen h]; omega) true
    ⟨fun _ => ⟨rfl, fun i xs ys h1 h2 => by rw [h1] at h2; cases h2; rfl⟩, fun _ => rfl⟩
  rw [rowsOf_len] at hs
  have HS := Lib.hid hs
  clear hs
  go_wp2_with fail
  refine HS.out.mono ?_
  rintro e w6 ⟨rfl, hb⟩
  have HB6 : Hid (Below w.heap.size w w6) := Lib.hid (HB5.out.trans (hb.mono HB5.out.size))
  have HC6 := Lib.hid (HC5.out.keep hb)
  have HQ6 := Lib.hid (HQ5.out.keep hb)
  have HL6 := Lib.hid (HLS.out.on HB6.out)
  clear HS hb HB5 HC5 HP5 HQ5 HLS
  obtain ⟨U, hU⟩ := row_vals (by omega) HQ6.out
  have HU := Lib.hid hU
  have ho5 : o5 < w6.heap.size := cell?_lt (hU 0 (by omega)).1
  clear hU
  obtain ⟨B, hB⟩ : ∃ B, w6.heap.size = B := ⟨_, rfl⟩
  have HBB := Lib.hid hB
  rw [hB] at ho5
  have H0 : Hid (∃ xss : List (List Nat), xss.length = 0 ∧ Have w6 B (.slice none 0 0) xss ∧ Below B w6 w6) := Lib.hid ⟨[], rfl, Have.start _ _, Below.refl _ _⟩
  clear hB
  go_wp2_with fail
  go_loopg [18, 54] 6 (fun q s18 s54 v => ∃ i : Nat, s54 = .int .i64 (i : Int) ∧ i ≤ 6 ∧ q = 6 - i ∧ Hid (∃ xss : List (List Nat), xss.length = i ∧ Have v B s18 xss ∧ Below B w6 v))
  case atStart => exact ⟨0, rfl, by omega, rfl, H0⟩
  case round =>
    obtain ⟨i, rfl, hi, rfl, HI⟩ := hrel
    clear H0
    by_cases hli : i < 6
    · have hli' : (i : Int) < 6 := by omega
      have hi0' : (0 : Int) ≤ (i : Int) := by omega
      obtain ⟨xss, hxl, hH, hbw⟩ := HI.out
      obtain ⟨pv, cv, hpv⟩ := have_shape hH
      rw [hxl] at hpv
      subst hpv
      have HXL := Lib.hid hxl
      have HH := Lib.hid hH
      have HBW := Lib.hid hbw
      have hBw : B ≤ wr.heap.size := by rw [← HBB.out]; exact hbw.size
      obtain ⟨hu, gu, qu, cu, eU, hgu, hxu⟩ := HU.out i hli
      rw [eU] at hu
      have d1 := (hbw.cell (p := ⟨o5, i, none⟩) ho5).trans hu
      have HCU : Hid (Chk wr (some ⟨gu, qu, none⟩) ((List.range 32).map (enc (parts F) i)) (Value.slice pv i cv).ownBlock) := Lib.hid (by
        have get : ∀ j x, ((List.range 32).map (enc (parts F) i))[j]? = some x → j < 32 ∧ x = enc (parts F) i j := fun j x hj => by
          have hjn : j < 32 := by have := (List.getElem?_eq_some_iff.1 hj).1; simpa using this
          simp [hjn] at hj
          exact ⟨hjn, hj.symm⟩
        refine ⟨fun j x hj => ?_, fun x hx => ?_⟩
        · obtain ⟨hjn, rfl⟩ := get j x hj
          refine ⟨gu, qu, rfl, by rw [← HBB.out] at hBw; omega, (hbw.cell (p := ⟨gu, qu + j, none⟩) (by rw [← HBB.out]; exact hgu)).trans (hxu j hjn), fun e => ?_⟩
          obtain ⟨us, ho, _⟩ := hH.own
          rw [hxl] at ho
          have := (ho.lt gu e).1
          have := HBB.out
          omega
        · simp at hx
          obtain ⟨j, hj, rfl⟩ := hx
          exact HPB.out i hli j hj)
      have HLB := Lib.hid (HL6.out.on (by rw [HBB.out]; exact hbw))
      clear hH hbw hxl hu hxu eU HI hgu
      by_cases hlt : i < n
      · have hlt' : (i : Int) < (n : Int) := by omega
        obtain ⟨lb, hlb⟩ : ∃ lb, ls[i]? = some lb := ⟨_, List.getElem?_eq_getElem (by have := HN.out; omega)⟩
        obtain ⟨ga, oa, ea, _, hca⟩ := HLB.out i lb hlb
        subst ea
        clear hlb
        cases lb with
        | true =>
          go_wp2_with fail
          refine (P9.out _).mono ?_
          rintro e wq ⟨rfl, hw⟩
          obtain rfl := hw
          by_cases h9 : i = p9
          · have t9 : ((i : Int) == (p9 : Int)) = true := by rw [beq_iff_eq]; omega
            have h9' : (i : Int) = (p9 : Int) := by omega
            clear h9
            go_wp2_with fail
            refine (rbytes x1 32 wr (by omega)).mono ?_
            rintro e wb ⟨gb, Fb, rfl, hr, hF, hb, hgb⟩
            have HRB := Lib.hid hr
            have HFB := Lib.hid hF
            have HHB := Lib.hid (HH.out.on hb)
            have HBB2 : Hid (Below B w6 wb) := Lib.hid (HBW.out.trans (hb.mono hBw))
            have HCB : Hid (Chk wb (some ⟨gb, 0, none⟩) ((List.range 32).map Fb) (Value.slice pv i cv).ownBlock) := Lib.hid (chk_row hr (fun j _ => hF j) (fun e => by
              obtain ⟨us, ho, _⟩ := HH.out.own
              rw [HXL.out] at ho
              have := (ho.lt gb e).2
              omega))
            have hwb : wr.heap.size ≤ wb.heap.size := hb.size
            clear hr hF hb hgb
            by_cases h4 : x4.tmod 5 = 4
            · have t4 : (x4.tmod 5 == 4) = true := by rw [beq_iff_eq]; exact h4
              clear h4
              go_wp2_with fail
              refine (P40.out _).mono ?_
              rintro e wq ⟨rfl, hw⟩
              obtain rfl := hw
              go_wp2_with fail
              refine (rbytes x1 p40 wb (by omega)).mono ?_
              rintro e wd ⟨gd, Fd, rfl, hr, hF, hb, hgd⟩
              have HHD := Lib.hid (HHB.out.on hb)
              have HBD : Hid (Below B w6 wd) := Lib.hid (HBB2.out.trans (hb.mono (Nat.le_trans hBw hwb)))
              have HCD : Hid (Chk wd (some ⟨gd, 0, none⟩) ((List.range p40).map Fd) (Value.slice pv i cv).ownBlock) := Lib.hid (chk_row hr (fun j _ => hF j) (fun e => by
                obtain ⟨us, ho, _⟩ := HHB.out.own
                rw [HXL.out] at ho
                have := (ho.lt gd e).2
                omega))
              clear hr hF hb hgd
              have HLEN : Hid (((List.range p40).map Fd).length = p40) := Lib.hid (by simp)
              obtain ⟨us, hown, hus⟩ := HHD.out.own
              rw [HXL.out] at hown
              have HOW := Lib.hid hown
              have HUS := Lib.hid hus
              have HAL : Hid (Below wd.heap.size wd (wd.alloc (.cells #[.slice (some ⟨gd, 0, none⟩) p40 p40] 29))) := Lib.hid ((Below.refl _ _).alloc (Nat.le_refl _) _)
              have HOA := Lib.hid (own_keep HOW.out HAL.out)
              have hBz : B ≤ wd.heap.size := by have := HBD.out.size; have := HBB.out; omega
              clear hown hus
              go_wp2_with (at_builtin; refine append_mine _ rfl (.tmp 84) (.tmp 86) 25 rfl B 29 i0 (.slice none 0 0) 1 24 Try.underlying25 hi0 hz0 hz1 hz2 rfl (by decide) _ i us rfl HOA.out ⟨wd.heap.size, 0, none⟩ 1 1 [.slice (some ⟨gd, 0, none⟩) p40 p40] rfl rfl (cell_one_new _ _ _) (by intro u hu; simp at hu; subst hu; rfl) (by unfold maxLen; omega) (by omega) (Nat.le_trans hBz HAL.out.size) (by decide) ?_; intro v' wz own gr hv; have HZ : Hid (wz.ownsRow B 29 1 v' (i + 1) (us ++ [.slice (some ⟨gd, 0, none⟩) p40 p40]) ∧ (wd.alloc (.cells #[.slice (some ⟨gd, 0, none⟩) p40 p40] 29)).grownBy wz (Value.slice pv i cv).ownBlock ∧ (v'.ownBlock = (Value.slice pv i cv).ownBlock ∨ wz.ownsRow (wd.alloc (.cells #[.slice (some ⟨gd, 0, none⟩) p40 p40] 29)).heap.size 29 1 v' (i + 1) (us ++ [.slice (some ⟨gd, 0, none⟩) p40 p40]))) := Lib.hid (And.intro own (And.intro gr hv)); clear own gr hv)
              have HNX : Hid (∃ yss : List (List Nat), yss.length = i + 1 ∧ Have wz B v' yss ∧ Below B w6 wz) := Lib.hid (by
                refine ⟨xss ++ [(List.range p40).map Fd], by rw [List.length_append, HXL.out]; rfl, ?_, Below.grown (HBD.out.trans (HAL.out.mono hBz)) HZ.out.2.1 (Nat.le_trans hBz HAL.out.size) (fun k hk => (HOA.out.lt k hk).1)⟩
                exact Have.add' HXL.out HLEN.out HOW.out HUS.out HHD.out.bytes HCD.out HZ.out.1 HZ.out.2.1 HZ.out.2.2)
              clear HZ HOA HAL HOW HUS
              go_roundg (6 - (i + 1))
              case measure => omega
              case rel => exact ⟨i + 1, by go_num, by omega, rfl, HNX⟩
            · have t4 : (x4.tmod 5 == 4) = false := by rw [beq_eq_false_iff_ne]; exact h4
              have HLEN : Hid (((List.range 32).map Fb).length = 32) := Lib.hid (by simp)
              obtain ⟨us, hown, hus⟩ := HHB.out.own
              rw [HXL.out] at hown
              have HOW := Lib.hid hown
              have HUS := Lib.hid hus
              have HAL : Hid (Below wb.heap.size wb (wb.alloc (.cells #[.slice (some ⟨gb, 0, none⟩) 32 32] 29))) := Lib.hid ((Below.refl _ _).alloc (Nat.le_refl _) _)
              have HOA := Lib.hid (own_keep HOW.out HAL.out)
              have hBz : B ≤ wb.heap.size := by have := HBB2.out.size; have := HBB.out; omega
              clear hown hus
              go_wp2_with (at_builtin; refine append_mine _ rfl (.tmp 84) (.tmp 86) 25 rfl B 29 i0 (.slice none 0 0) 1 24 Try.underlying25 hi0 hz0 hz1 hz2 rfl (by decide) _ i us rfl HOA.out ⟨wb.heap.size, 0, none⟩ 1 1 [.slice (some ⟨gb, 0, none⟩) 32 32] rfl rfl (cell_one_new _ _ _) (by intro u hu; simp at hu; subst hu; rfl) (by unfold maxLen; omega) (by omega) (Nat.le_trans hBz HAL.out.size) (by decide) ?_; intro v' wz own gr hv; have HZ : Hid (wz.ownsRow B 29 1 v' (i + 1) (us ++ [.slice (some ⟨gb, 0, none⟩) 32 32]) ∧ (wb.alloc (.cells #[.slice (some ⟨gb, 0, none⟩) 32 32] 29)).grownBy wz (Value.slice pv i cv).ownBlock ∧ (v'.ownBlock = (Value.slice pv i cv).ownBlock ∨ wz.ownsRow (wb.alloc (.cells #[.slice (some ⟨gb, 0, none⟩) 32 32] 29)).heap.size 29 1 v' (i + 1) (us ++ [.slice (some ⟨gb, 0, none⟩) 32 32]))) := Lib.hid (And.intro own (And.intro gr hv)); clear own gr hv)
              have HNX : Hid (∃ yss : List (List Nat), yss.length = i + 1 ∧ Have wz B v' yss ∧ Below B w6 wz) := Lib.hid (by
                refine ⟨xss ++ [(List.range 32).map Fb], by rw [List.length_append, HXL.out]; rfl, ?_, Below.grown (HBB2.out.trans (HAL.out.mono hBz)) HZ.out.2.1 (Nat.le_trans hBz HAL.out.size) (fun k hk => (HOA.out.lt k hk).1)⟩
                exact Have.add' HXL.out HLEN.out HOW.out HUS.out HHB.out.bytes HCB.out HZ.out.1 HZ.out.2.1 HZ.out.2.2)
              clear HZ HOA HAL HOW HUS
              go_roundg (6 - (i + 1))
              case measure => omega
              case rel => exact ⟨i + 1, by go_num, by omega, rfl, HNX⟩
          · have t9 : ((i : Int) == (p9 : Int)) = false := by rw [beq_eq_false_iff_ne]; omega
            have h9' : ¬ (i : Int) = (p9 : Int) := by omega
            clear h9
            have HLEN : Hid ((([] : List Nat)).length = 0) := Lib.hid (rfl)
            obtain ⟨us, hown, hus⟩ := HH.out.own
            rw [HXL.out] at hown
            have HOW := Lib.hid hown
            have HUS := Lib.hid hus
            have HAL : Hid (Below wr.heap.size wr (wr.alloc (.cells #[.slice none 0 0] 29))) := Lib.hid ((Below.refl _ _).alloc (Nat.le_refl _) _)
            have HOA := Lib.hid (own_keep HOW.out HAL.out)
            have hBz : B ≤ wr.heap.size := by have := HBW.out.size; have := HBB.out; omega
            clear hown hus
            go_wp2_with (at_builtin; refine append_mine _ rfl (.tmp 84) (.tmp 86) 25 rfl B 29 i0 (.slice none 0 0) 1 24 Try.underlying25 hi0 hz0 hz1 hz2 rfl (by decide) _ i us rfl HOA.out ⟨wr.heap.size, 0, none⟩ 1 1 [.slice none 0 0] rfl rfl (cell_one_new _ _ _) (by intro u hu; simp at hu; subst hu; rfl) (by unfold maxLen; omega) (by omega) (Nat.le_trans hBz HAL.out.size) (by decide) ?_; intro v' wz own gr hv; have HZ : Hid (wz.ownsRow B 29 1 v' (i + 1) (us ++ [.slice none 0 0]) ∧ (wr.alloc (.cells #[.slice none 0 0] 29)).grownBy wz (Value.slice pv i cv).ownBlock ∧ (v'.ownBlock = (Value.slice pv i cv).ownBlock ∨ wz.ownsRow (wr.alloc (.cells #[.slice none 0 0] 29)).heap.size 29 1 v' (i + 1) (us ++ [.slice none 0 0]))) := Lib.hid (And.intro own (And.intro gr hv)); clear own gr hv)
            have HNX : Hid (∃ yss : List (List Nat), yss.length = i + 1 ∧ Have wz B v' yss ∧ Below B w6 wz) := Lib.hid (by
              refine ⟨xss ++ [([] : List Nat)], by rw [List.length_append, HXL.out]; rfl, ?_, Below.grown (HBW.out.trans (HAL.out.mono hBz)) HZ.out.2.1 (Nat.le_trans hBz HAL.out.size) (fun k hk => (HOA.out.lt k hk).1)⟩
              exact Have.add' HXL.out HLEN.out HOW.out HUS.out HH.out.bytes (Lib.hid (chk_none wr (Value.slice pv i cv).ownBlock)).out HZ.out.1 HZ.out.2.1 HZ.out.2.2)
            clear HZ HOA HAL HOW HUS
            go_roundg (6 - (i + 1))
            case measure => omega
            case rel => exact ⟨i + 1, by go_num, by omega, rfl, HNX⟩
        | false =>
          go_wp2_with fail
          refine (P9.out _).mono ?_
          rintro e wq ⟨rfl, hw⟩
          obtain rfl := hw
          by_cases h9 : i = p9
          · have t9 : ((i : Int) == (p9 : Int)) = true := by rw [beq_iff_eq]; omega
            have h9' : (i : Int) = (p9 : Int) := by omega
            clear h9
            go_wp2_with fail
            refine (rbytes x1 32 wr (by omega)).mono ?_
            rintro e wb ⟨gb, Fb, rfl, hr, hF, hb, hgb⟩
            have HRB := Lib.hid hr
            have HFB := Lib.hid hF
            have HHB := Lib.hid (HH.out.on hb)
            have HBB2 : Hid (Below B w6 wb) := Lib.hid (HBW.out.trans (hb.mono hBw))
            have HCB : Hid (Chk wb (some ⟨gb, 0, none⟩) ((List.range 32).map Fb) (Value.slice pv i cv).ownBlock) := Lib.hid (chk_row hr (fun j _ => hF j) (fun e => by
              obtain ⟨us, ho, _⟩ := HH.out.own
              rw [HXL.out] at ho
              have := (ho.lt gb e).2
              omega))
            have hwb : wr.heap.size ≤ wb.heap.size := hb.size
            clear hr hF hb hgb
            by_cases h4 : x4.tmod 5 = 4
            · have t4 : (x4.tmod 5 == 4) = true := by rw [beq_iff_eq]; exact h4
              clear h4
              go_wp2_with fail
              refine (P40.out _).mono ?_
              rintro e wq ⟨rfl, hw⟩
              obtain rfl := hw
              go_wp2_with fail
              refine (rbytes x1 p40 wb (by omega)).mono ?_
              rintro e wd ⟨gd, Fd, rfl, hr, hF, hb, hgd⟩
              have HHD := Lib.hid (HHB.out.on hb)
              have HBD : Hid (Below B w6 wd) := Lib.hid (HBB2.out.trans (hb.mono (Nat.le_trans hBw hwb)))
              have HCD : Hid (Chk wd (some ⟨gd, 0, none⟩) ((List.range p40).map Fd) (Value.slice pv i cv).ownBlock) := Lib.hid (chk_row hr (fun j _ => hF j) (fun e => by
                obtain ⟨us, ho, _⟩ := HHB.out.own
                rw [HXL.out] at ho
                have := (ho.lt gd e).2
                omega))
              clear hr hF hb hgd
              have HLEN : Hid (((List.range p40).map Fd).length = p40) := Lib.hid (by simp)
              obtain ⟨us, hown, hus⟩ := HHD.out.own
              rw [HXL.out] at hown
              have HOW := Lib.hid hown
              have HUS := Lib.hid hus
              have HAL : Hid (Below wd.heap.size wd (wd.alloc (.cells #[.slice (some ⟨gd, 0, none⟩) p40 p40] 29))) := Lib.hid ((Below.refl _ _).alloc (Nat.le_refl _) _)
              have HOA := Lib.hid (own_keep HOW.out HAL.out)
              have hBz : B ≤ wd.heap.size := by have := HBD.out.size; have := HBB.out; omega
              clear hown hus
              go_wp2_with (at_builtin; refine append_mine _ rfl (.tmp 84) (.tmp 86) 25 rfl B 29 i0 (.slice none 0 0) 1 24 Try.underlying25 hi0 hz0 hz1 hz2 rfl (by decide) _ i us rfl HOA.out ⟨wd.heap.size, 0, none⟩ 1 1 [.slice (some ⟨gd, 0, none⟩) p40 p40] rfl rfl (cell_one_new _ _ _) (by intro u hu; simp at hu; subst hu; rfl) (by unfold maxLen; omega) (by omega) (Nat.le_trans hBz HAL.out.size) (by decide) ?_; intro v' wz own gr hv; have HZ : Hid (wz.ownsRow B 29 1 v' (i + 1) (us ++ [.slice (some ⟨gd, 0, none⟩) p40 p40]) ∧ (wd.alloc (.cells #[.slice (some ⟨gd, 0, none⟩) p40 p40] 29)).grownBy wz (Value.slice pv i cv).ownBlock ∧ (v'.ownBlock = (Value.slice pv i cv).ownBlock ∨ wz.ownsRow (wd.alloc (.cells #[.slice (some ⟨gd, 0, none⟩) p40 p40] 29)).heap.size 29 1 v' (i + 1) (us ++ [.slice (some ⟨gd, 0, none⟩) p40 p40]))) := Lib.hid (And.intro own (And.intro gr hv)); clear own gr hv)
              have HNX : Hid (∃ yss : List (List Nat), yss.length = i + 1 ∧ Have wz B v' yss ∧ Below B w6 wz) := Lib.hid (by
                refine ⟨xss ++ [(List.range p40).map Fd], by rw [List.length_append, HXL.out]; rfl, ?_, Below.grown (HBD.out.trans (HAL.out.mono hBz)) HZ.out.2.1 (Nat.le_trans hBz HAL.out.size) (fun k hk => (HOA.out.lt k hk).1)⟩
                exact Have.add' HXL.out HLEN.out HOW.out HUS.out HHD.out.bytes HCD.out HZ.out.1 HZ.out.2.1 HZ.out.2.2)
              clear HZ HOA HAL HOW HUS
              go_roundg (6 - (i + 1))
              case measure => omega
              case rel => exact ⟨i + 1, by go_num, by omega, rfl, HNX⟩
            · have t4 : (x4.tmod 5 == 4) = false := by rw [beq_eq_false_iff_ne]; exact h4
              have HLEN : Hid (((List.range 32).map Fb).length = 32) := Lib.hid (by simp)
              obtain ⟨us, hown, hus⟩ := HHB.out.own
              rw [HXL.out] at hown
              have HOW := Lib.hid hown
              have HUS := Lib.hid hus
              have HAL : Hid (Below wb.heap.size wb (wb.alloc (.cells #[.slice (some ⟨gb, 0, none⟩) 32 32] 29))) := Lib.hid ((Below.refl _ _).alloc (Nat.le_refl _) _)
              have HOA := Lib.hid (own_keep HOW.out HAL.out)
              have hBz : B ≤ wb.heap.size := by have := HBB2.out.size; have := HBB.out; omega
              clear hown hus
              go_wp2_with (at_builtin; refine append_mine _ rfl (.tmp 84) (.tmp 86) 25 rfl B 29 i0 (.slice none 0 0) 1 24 Try.underlying25 hi0 hz0 hz1 hz2 rfl (by decide) _ i us rfl HOA.out ⟨wb.heap.size, 0, none⟩ 1 1 [.slice (some ⟨gb, 0, none⟩) 32 32] rfl rfl (cell_one_new _ _ _) (by intro u hu; simp at hu; subst hu; rfl) (by unfold maxLen; omega) (by omega) (Nat.le_trans hBz HAL.out.size) (by decide) ?_; intro v' wz own gr hv; have HZ : Hid (wz.ownsRow B 29 1 v' (i + 1) (us ++ [.slice (some ⟨gb, 0, none⟩) 32 32]) ∧ (wb.alloc (.cells #[.slice (some ⟨gb, 0, none⟩) 32 32] 29)).grownBy wz (Value.slice pv i cv).ownBlock ∧ (v'.ownBlock = (Value.slice pv i cv).ownBlock ∨ wz.ownsRow (wb.alloc (.cells #[.slice (some ⟨gb, 0, none⟩) 32 32] 29)).heap.size 29 1 v' (i + 1) (us ++ [.slice (some ⟨gb, 0, none⟩) 32 32]))) := Lib.hid (And.intro own (And.intro gr hv)); clear own gr hv)
              have HNX : Hid (∃ yss : List (List Nat), yss.length = i + 1 ∧ Have wz B v' yss ∧ Below B w6 wz) := Lib.hid (by
                refine ⟨xss ++ [(List.range 32).map Fb], by rw [List.length_append, HXL.out]; rfl, ?_, Below.grown (HBB2.out.trans (HAL.out.mono hBz)) HZ.out.2.1 (Nat.le_trans hBz HAL.out.size) (fun k hk => (HOA.out.lt k hk).1)⟩
                exact Have.add' HXL.out HLEN.out HOW.out HUS.out HHB.out.bytes HCB.out HZ.out.1 HZ.out.2.1 HZ.out.2.2)
              clear HZ HOA HAL HOW HUS
              go_roundg (6 - (i + 1))
              case measure => omega
              case rel => exact ⟨i + 1, by go_num, by omega, rfl, HNX⟩
          · have t9 : ((i : Int) == (p9 : Int)) = false := by rw [beq_eq_false_iff_ne]; omega
            have h9' : ¬ (i : Int) = (p9 : Int) := by omega
            clear h9
            have HLEN : Hid (((List.range 32).map (enc (parts F) i)).length = 32) := Lib.hid (by simp)
            obtain ⟨us, hown, hus⟩ := HH.out.own
            rw [HXL.out] at hown
            have HOW := Lib.hid hown
            have HUS := Lib.hid hus
            have HAL : Hid (Below wr.heap.size wr (wr.alloc (.cells #[.slice (some ⟨gu, qu, none⟩) 32 cu] 29))) := Lib.hid ((Below.refl _ _).alloc (Nat.le_refl _) _)
            have HOA := Lib.hid (own_keep HOW.out HAL.out)
            have hBz : B ≤ wr.heap.size := by have := HBW.out.size; have := HBB.out; omega
            clear hown hus
            go_wp2_with (at_builtin; refine append_mine _ rfl (.tmp 84) (.tmp 86) 25 rfl B 29 i0 (.slice none 0 0) 1 24 Try.underlying25 hi0 hz0 hz1 hz2 rfl (by decide) _ i us rfl HOA.out ⟨wr.heap.size, 0, none⟩ 1 1 [.slice (some ⟨gu, qu, none⟩) 32 cu] rfl rfl (cell_one_new _ _ _) (by intro u hu; simp at hu; subst hu; rfl) (by unfold maxLen; omega) (by omega) (Nat.le_trans hBz HAL.out.size) (by decide) ?_; intro v' wz own gr hv; have HZ : Hid (wz.ownsRow B 29 1 v' (i + 1) (us ++ [.slice (some ⟨gu, qu, none⟩) 32 cu]) ∧ (wr.alloc (.cells #[.slice (some ⟨gu, qu, none⟩) 32 cu] 29)).grownBy wz (Value.slice pv i cv).ownBlock ∧ (v'.ownBlock = (Value.slice pv i cv).ownBlock ∨ wz.ownsRow (wr.alloc (.cells #[.slice (some ⟨gu, qu, none⟩) 32 cu] 29)).heap.size 29 1 v' (i + 1) (us ++ [.slice (some ⟨gu, qu, none⟩) 32 cu]))) := Lib.hid (And.intro own (And.intro gr hv)); clear own gr hv)
            have HNX : Hid (∃ yss : List (List Nat), yss.length = i + 1 ∧ Have wz B v' yss ∧ Below B w6 wz) := Lib.hid (by
              refine ⟨xss ++ [(List.range 32).map (enc (parts F) i)], by rw [List.length_append, HXL.out]; rfl, ?_, Below.grown (HBW.out.trans (HAL.out.mono hBz)) HZ.out.2.1 (Nat.le_trans hBz HAL.out.size) (fun k hk => (HOA.out.lt k hk).1)⟩
              exact Have.add' HXL.out HLEN.out HOW.out HUS.out HH.out.bytes HCU.out HZ.out.1 HZ.out.2.1 HZ.out.2.2)
            clear HZ HOA HAL HOW HUS
            go_roundg (6 - (i + 1))
            case measure => omega
            case rel => exact ⟨i + 1, by go_num, by omega, rfl, HNX⟩
      · have hlt' : ¬ (i : Int) < (n : Int) := by omega
        go_wp2_with fail
        refine (P9.out _).mono ?_
        rintro e wq ⟨rfl, hw⟩
        obtain rfl := hw
        by_cases h9 : i = p9
        · have t9 : ((i : Int) == (p9 : Int)) = true := by rw [beq_iff_eq]; omega
          have h9' : (i : Int) = (p9 : Int) := by omega
          clear h9
          go_wp2_with fail
          refine (rbytes x1 32 wr (by omega)).mono ?_
          rintro e wb ⟨gb, Fb, rfl, hr, hF, hb, hgb⟩
          have HRB := Lib.hid hr
          have HFB := Lib.hid hF
          have HHB := Lib.hid (HH.out.on hb)
          have HBB2 : Hid (Below B w6 wb) := Lib.hid (HBW.out.trans (hb.mono hBw))
          have HCB : Hid (Chk wb (some ⟨gb, 0, none⟩) ((List.range 32).map Fb) (Value.slice pv i cv).ownBlock) := Lib.hid (chk_row hr (fun j _ => hF j) (fun e => by
            obtain ⟨us, ho, _⟩ := HH.out.own
            rw [HXL.out] at ho
            have := (ho.lt gb e).2
            omega))
          have hwb : wr.heap.size ≤ wb.heap.size := hb.size
          clear hr hF hb hgb
          by_cases h4 : x4.tmod 5 = 4
          · have t4 : (x4.tmod 5 == 4) = true := by rw [beq_iff_eq]; exact h4
            clear h4
            go_wp2_with fail
            refine (P40.out _).mono ?_
            rintro e wq ⟨rfl, hw⟩
            obtain rfl := hw
            go_wp2_with fail
            refine (rbytes x1 p40 wb (by omega)).mono ?_
            rintro e wd ⟨gd, Fd, rfl, hr, hF, hb, hgd⟩
            have HHD := Lib.hid (HHB.out.on hb)
            have HBD : Hid (Below B w6 wd) := Lib.hid (HBB2.out.trans (hb.mono (Nat.le_trans hBw hwb)))
            have HCD : Hid (Chk wd (some ⟨gd, 0, none⟩) ((List.range p40).map Fd) (Value.slice pv i cv).ownBlock) := Lib.hid (chk_row hr (fun j _ => hF j) (fun e => by
              obtain ⟨us, ho, _⟩ := HHB.out.own
              rw [HXL.out] at ho
              have := (ho.lt gd e).2
              omega))
            clear hr hF hb hgd
            have HLEN : Hid (((List.range p40).map Fd).length = p40) := Lib.hid (by simp)
            obtain ⟨us, hown, hus⟩ := HHD.out.own
            rw [HXL.out] at hown
            have HOW := Lib.hid hown
            have HUS := Lib.hid hus
            have HAL : Hid (Below wd.heap.size wd (wd.alloc (.cells #[.slice (some ⟨gd, 0, none⟩) p40 p40] 29))) := Lib.hid ((Below.refl _ _).alloc (Nat.le_refl _) _)
            have HOA := Lib.hid (own_keep HOW.out HAL.out)
            have hBz : B ≤ wd.heap.size := by have := HBD.out.size; have := HBB.out; omega
            clear hown hus
            go_wp2_with (at_builtin; refine append_mine _ rfl (.tmp 84) (.tmp 86) 25 rfl B 29 i0 (.slice none 0 0) 1 24 Try.underlying25 hi0 hz0 hz1 hz2 rfl (by decide) _ i us rfl HOA.out ⟨wd.heap.size, 0, none⟩ 1 1 [.slice (some ⟨gd, 0, none⟩) p40 p40] rfl rfl (cell_one_new _ _ _) (by intro u hu; simp at hu; subst hu; rfl) (by unfold maxLen; omega) (by omega) (Nat.le_trans hBz HAL.out.size) (by decide) ?_; intro v' wz own gr hv; have HZ : Hid (wz.ownsRow B 29 1 v' (i + 1) (us ++ [.slice (some ⟨gd, 0, none⟩) p40 p40]) ∧ (wd.alloc (.cells #[.slice (some ⟨gd, 0, none⟩) p40 p40] 29)).grownBy wz (Value.slice pv i cv).ownBlock ∧ (v'.ownBlock = (Value.slice pv i cv).ownBlock ∨ wz.ownsRow (wd.alloc (.cells #[.slice (some ⟨gd, 0, none⟩) p40 p40] 29)).heap.size 29 1 v' (i + 1) (us ++ [.slice (some ⟨gd, 0, none⟩) p40 p40]))) := Lib.hid (And.intro own (And.intro gr hv)); clear own gr hv)
            have HNX : Hid (∃ yss : List (List Nat), yss.length = i + 1 ∧ Have wz B v' yss ∧ Below B w6 wz) := Lib.hid (by
              refine ⟨xss ++ [(List.range p40).map Fd], by rw [List.length_append, HXL.out]; rfl, ?_, Below.grown (HBD.out.trans (HAL.out.mono hBz)) HZ.out.2.1 (Nat.le_trans hBz HAL.out.size) (fun k hk => (HOA.out.lt k hk).1)⟩
              exact Have.add' HXL.out HLEN.out HOW.out HUS.out HHD.out.bytes HCD.out HZ.out.1 HZ.out.2.1 HZ.out.2.2)
            clear HZ HOA HAL HOW HUS
            go_roundg (6 - (i + 1))
            case measure => omega
            case rel => exact ⟨i + 1, by go_num, by omega, rfl, HNX⟩
          · have t4 : (x4.tmod 5 == 4) = false := by rw [beq_eq_false_iff_ne]; exact h4
            have HLEN : Hid (((List.range 32).map Fb).length = 32) := Lib.hid (by simp)
            obtain ⟨us, hown, hus⟩ := HHB.out.own
            rw [HXL.out] at hown
            have HOW := Lib.hid hown
            have HUS := Lib.hid hus
            have HAL : Hid (Below wb.heap.size wb (wb.alloc (.cells #[.slice (some ⟨gb, 0, none⟩) 32 32] 29))) := Lib.hid ((Below.refl _ _).alloc (Nat.le_refl _) _)
            have HOA := Lib.hid (own_keep HOW.out HAL.out)
            have hBz : B ≤ wb.heap.size := by have := HBB2.out.size; have := HBB.out; omega
            clear hown hus
            go_wp2_with (at_builtin; refine append_mine _ rfl (.tmp 84) (.tmp 86) 25 rfl B 29 i0 (.slice none 0 0) 1 24 Try.underlying25 hi0 hz0 hz1 hz2 rfl (by decide) _ i us rfl HOA.out ⟨wb.heap.size, 0, none⟩ 1 1 [.slice (some ⟨gb, 0, none⟩) 32 32] rfl rfl (cell_one_new _ _ _) (by intro u hu; simp at hu; subst hu; rfl) (by unfold maxLen; omega) (by omega) (Nat.le_trans hBz HAL.out.size) (by decide) ?_; intro v' wz own gr hv; have HZ : Hid (wz.ownsRow B 29 1 v' (i + 1) (us ++ [.slice (some ⟨gb, 0, none⟩) 32 32]) ∧ (wb.alloc (.cells #[.slice (some ⟨gb, 0, none⟩) 32 32] 29)).grownBy wz (Value.slice pv i cv).ownBlock ∧ (v'.ownBlock = (Value.slice pv i cv).ownBlock ∨ wz.ownsRow (wb.alloc (.cells #[.slice (some ⟨gb, 0, none⟩) 32 32] 29)).heap.size 29 1 v' (i + 1) (us ++ [.slice (some ⟨gb, 0, none⟩) 32 32]))) := Lib.hid (And.intro own (And.intro gr hv)); clear own gr hv)
            have HNX : Hid (∃ yss : List (List Nat), yss.length = i + 1 ∧ Have wz B v' yss ∧ Below B w6 wz) := Lib.hid (by
              refine ⟨xss ++ [(List.range 32).map Fb], by rw [List.length_append, HXL.out]; rfl, ?_, Below.grown (HBB2.out.trans (HAL.out.mono hBz)) HZ.out.2.1 (Nat.le_trans hBz HAL.out.size) (fun k hk => (HOA.out.lt k hk).1)⟩
              exact Have.add' HXL.out HLEN.out HOW.out HUS.out HHB.out.bytes HCB.out HZ.out.1 HZ.out.2.1 HZ.out.2.2)
            clear HZ HOA HAL HOW HUS
            go_roundg (6 - (i + 1))
            case measure => omega
            case rel => exact ⟨i + 1, by go_num, by omega, rfl, HNX⟩
        · have t9 : ((i : Int) == (p9 : Int)) = false := by rw [beq_eq_false_iff_ne]; omega
          have h9' : ¬ (i : Int) = (p9 : Int) := by omega
          clear h9
          have HLEN : Hid (((List.range 32).map (enc (parts F) i)).length = 32) := Lib.hid (by simp)
          obtain ⟨us, hown, hus⟩ := HH.out.own
          rw [HXL.out] at hown
          have HOW := Lib.hid hown
          have HUS := Lib.hid hus
          have HAL : Hid (Below wr.heap.size wr (wr.alloc (.cells #[.slice (some ⟨gu, qu, none⟩) 32 cu] 29))) := Lib.hid ((Below.refl _ _).alloc (Nat.le_refl _) _)
          have HOA := Lib.hid (own_keep HOW.out HAL.out)
          have hBz : B ≤ wr.heap.size := by have := HBW.out.size; have := HBB.out; omega
          clear hown hus
          go_wp2_with (at_builtin; refine append_mine _ rfl (.tmp 84) (.tmp 86) 25 rfl B 29 i0 (.slice none 0 0) 1 24 Try.underlying25 hi0 hz0 hz1 hz2 rfl (by decide) _ i us rfl HOA.out ⟨wr.heap.size, 0, none⟩ 1 1 [.slice (some ⟨gu, qu, none⟩) 32 cu] rfl rfl (cell_one_new _ _ _) (by intro u hu; simp at hu; subst hu; rfl) (by unfold maxLen; omega) (by omega) (Nat.le_trans hBz HAL.out.size) (by decide) ?_; intro v' wz own gr hv; have HZ : Hid (wz.ownsRow B 29 1 v' (i + 1) (us ++ [.slice (some ⟨gu, qu, none⟩) 32 cu]) ∧ (wr.alloc (.cells #[.slice (some ⟨gu, qu, none⟩) 32 cu] 29)).grownBy wz (Value.slice pv i cv).ownBlock ∧ (v'.ownBlock = (Value.slice pv i cv).ownBlock ∨ wz.ownsRow (wr.alloc (.cells #[.slice (some ⟨gu, qu, none⟩) 32 cu] 29)).heap.size 29 1 v' (i + 1) (us ++ [.slice (some ⟨gu, qu, none⟩) 32 cu]))) := Lib.hid (And.intro own (And.intro gr hv)); clear own gr hv)
          have HNX : Hid (∃ yss : List (List Nat), yss.length = i + 1 ∧ Have wz B v' yss ∧ Below B w6 wz) := Lib.hid (by
            refine ⟨xss ++ [(List.range 32).map (enc (parts F) i)], by rw [List.length_append, HXL.out]; rfl, ?_, Below.grown (HBW.out.trans (HAL.out.mono hBz)) HZ.out.2.1 (Nat.le_trans hBz HAL.out.size) (fun k hk => (HOA.out.lt k hk).1)⟩
            exact Have.add' HXL.out HLEN.out HOW.out HUS.out HH.out.bytes HCU.out HZ.out.1 HZ.out.2.1 HZ.out.2.2)
          clear HZ HOA HAL HOW HUS
          go_roundg (6 - (i + 1))
          case measure => omega
          case rel => exact ⟨i + 1, by go_num, by omega, rfl, HNX⟩
    · have hge : ¬ (i : Int) < 6 := by omega
      obtain rfl : i = 6 := by omega
      obtain ⟨xss, hxl, hH, hbw⟩ := HI.out
      obtain ⟨oh, ch, hpv, hcap⟩ := have_some hH (by omega)
      rw [hxl] at hpv hcap
      subst hpv
      have HXL := Lib.hid hxl
      have HRAW := Lib.hid (hH.raw hxl (by omega))
      have HBT := Lib.hid hH.bytes
      have hb6 : Below w6.heap.size w6 wr := by rw [HBB.out]; exact hbw
      have HC7 := Lib.hid (HC6.out.keep hb6)
      have HB7 : Hid (Below w.heap.size w wr) := Lib.hid (HB6.out.trans (hb6.mono HB6.out.size))
      clear hxl hH hbw hb6 HI HU HQ6 HL6 HC6 HB6 hli hi
      by_cases h17 : x5.tmod 17 = 16
      · have t17 : (x5.tmod 17 == 16) = true := by rw [beq_iff_eq]; exact h17
        have hq6 : ((p6 : Int) == 6) = false := by rw [beq_eq_false_iff_ne]; omega
        have np6 : (0 : Int) ≤ (p6 : Int) := by omega
        have gp6 : (p6 : Int) < 6 := by omega
        have gpc : (p6 : Int) ≤ (ch : Int) := by omega
        clear h17
        go_wp2_with fail
        refine (P6.out _).mono ?_
        rintro e wq ⟨rfl, hw⟩
        obtain rfl := hw
        obtain ⟨yss, hys⟩ : ∃ yss, yss = xss.take p6 := ⟨_, rfl⟩
        have HYL : Hid (yss.length = p6) := Lib.hid (by rw [hys, List.length_take, HXL.out]; omega)
        have HRY : Hid (RawIn wr (some ⟨oh, 0, none⟩) yss) := Lib.hid (by rw [hys]; exact HRAW.out.take _)
        have HBY : Hid (Bytes yss) := Lib.hid (by rw [hys]; exact HBT.out.take _)
        clear hys HRAW HBT HXL
        have hd := cdecodeR c f o cap (some ⟨oh, 0, none⟩) yss ch wr HC7.out HRY.out (by have := HYL.out; omega) HBY.out
        rw [HYL.out] at hd
        have HD := Lib.hid hd
        clear hd
        go_wp2_with fail
        refine HD.out.mono ?_
        rintro e wa (⟨rfl, hb, hw⟩ | ⟨g1, c1, rfl, hb, hw, hr, _⟩)
        · have HWN := Lib.hid hw
          have HC8 := Lib.hid (HC7.out.keep hb)
          have HRY8 := Lib.hid (HRY.out.keep hb)
          have HB8 : Hid (Below w.heap.size w wa) := Lib.hid (HB7.out.trans (hb.mono HB7.out.size))
          clear hb hw HC7 HRY HB7 HD
          have hd := rdecodeR (some ⟨oh, 0, none⟩) yss ch wa HRY8.out (by have := HYL.out; omega) HBY.out
          rw [HYL.out] at hd
          have HD := Lib.hid hd
          clear hd
          go_wp2_with fail
          refine HD.out.mono ?_
          rintro e wc (⟨rfl, HH2⟩ | ⟨g2, c2, rfl, HH2⟩)
          · have HC := Lib.hid (HC8.out.keep HH2.out.1)
            have HRY := Lib.hid (HRY8.out.keep HH2.out.1)
            have HB9 : Hid (Below w.heap.size w wc) := Lib.hid (HB8.out.trans (HH2.out.1.mono HB8.out.size))
            clear HC8 HRY8 HB8 HH2 HD
            go_wp2_with fail
            go_loopg [25, 113] p6 (fun q s25 s113 v => ∃ (k : Nat) (bl : Bool), s113 = .int .i64 (k : Int) ∧ k ≤ p6 ∧ q = p6 - k ∧ s25 = .bool bl ∧ Hid (bl = true ↔ (p6 = 6 ∧ ∀ l, l < k → lenOf yss l = 32)) ∧ wc = v)
            case atStart => first | exact ⟨0, true, rfl, by omega, rfl, rfl, Lib.hid ⟨fun _ => ⟨rfl, fun l hl => absurd hl (Nat.not_lt_zero _)⟩, fun _ => rfl⟩, rfl⟩ | exact ⟨0, false, rfl, by omega, rfl, rfl, Lib.hid ⟨fun h => (by cases h), fun h => absurd h.1 (by omega)⟩, rfl⟩
            case round =>
              obtain ⟨k, bl, rfl, hk, rfl, rfl, HBL, rfl⟩ := hrel
              by_cases hlk : k < p6
              · have hlk' : (k : Int) < (p6 : Int) := by omega
                have hk0 : (0 : Int) ≤ (k : Int) := by omega
                obtain ⟨ob', oo', gk, ck, ek, _, hck⟩ := HRY.out.len (i := k) (by have := HYL.out; omega)
                cases ek
                obtain ⟨lk, hlen⟩ : ∃ lk, lenOf yss k = lk := ⟨_, rfl⟩
                have HLK := Lib.hid hlen
                rw [hlen, Nat.zero_add] at hck
                clear hlen
                cases bl with
                | false =>
                  go_wp2_with fail
                  go_roundg (p6 - (k + 1))
                  case measure => omega
                  case rel => exact ⟨k + 1, false, by go_num, by omega, rfl, rfl, Lib.hid ⟨fun h => (by cases h), fun h => HBL.out.2 ⟨h.1, fun l hl => h.2 l (by omega)⟩⟩, rfl⟩
                | true =>
                  by_cases h32 : lk = 32
                  · have t32 : ((lk : Int) == 32) = true := by rw [beq_iff_eq]; omega
                    have H32 := Lib.hid h32
                    clear h32
                    go_wp2_with fail
                    go_roundg (p6 - (k + 1))
                    case measure => omega
                    case rel => exact ⟨k + 1, true, by go_num, by omega, rfl, rfl, Lib.hid ⟨fun _ => ⟨(HBL.out.1 (by simp)).1, fun l hl => by
                      by_cases e : l = k
                      · rw [e, HLK.out, H32.out]
                      · exact (HBL.out.1 (by simp)).2 l (by omega)⟩, fun _ => rfl⟩, rfl⟩
                  · have t32 : ((lk : Int) == 32) = false := by rw [beq_eq_false_iff_ne]; omega
                    have H32 := Lib.hid h32
                    clear h32
                    go_wp2_with fail
                    go_roundg (p6 - (k + 1))
                    case measure => omega
                    case rel => exact ⟨k + 1, false, by go_num, by omega, rfl, rfl, Lib.hid ⟨fun h => (by cases h), fun h => absurd (h.2 k (by omega)) (by rw [HLK.out]; exact H32.out)⟩, rfl⟩
              · have hge2 : ¬ (k : Int) < (p6 : Int) := by omega
                have s1 := conv_empty none 0 wc
                generalize strOf [] = str at s1
                have hck := ccheck c f o cap (some ⟨oh, 0, none⟩) yss ch wc HC.out HRY.out (by have := HYL.out; omega) HBY.out false ⟨fun h => (by cases h), fun h => absurd h.1 HWN.out⟩
                rw [HYL.out] at hck
                have HCK := Lib.hid hck
                clear hck hlk hk
                cases bl
                all_goals
                  go_wp2_with fail
                  refine HCK.out.mono ?_
                  rintro e we ⟨rfl, hb⟩
                  have HBE : Hid (Below w.heap.size w we) := Lib.hid (HB9.out.trans (hb.mono HB9.out.size))
                  clear hb
                  go_wp2_with fail
                  go_ret
                  exact ⟨by simp, HBE.out⟩
          · exact absurd HH2.out.2.1 HWN.out
        · exact absurd hw.1 (by rw [HYL.out]; omega)
      · have t17 : (x5.tmod 17 == 16) = false := by rw [beq_eq_false_iff_ne]; exact h17
        clear h17
        obtain ⟨yss, hys⟩ : ∃ yss, yss = xss.take 6 := ⟨_, rfl⟩
        have HYL : Hid (yss.length = 6) := Lib.hid (by rw [hys, List.length_take, HXL.out]; omega)
        have HRY : Hid (RawIn wr (some ⟨oh, 0, none⟩) yss) := Lib.hid (by rw [hys]; exact HRAW.out.take _)
        have HBY : Hid (Bytes yss) := Lib.hid (by rw [hys]; exact HBT.out.take _)
        clear hys HRAW HBT HXL
        have hd := cdecodeR c f o cap (some ⟨oh, 0, none⟩) yss ch wr HC7.out HRY.out (by have := HYL.out; omega) HBY.out
        rw [HYL.out] at hd
        have HD := Lib.hid hd
        clear hd
        go_wp2_with fail
        refine HD.out.mono ?_
        rintro e wa (⟨rfl, hb, hw⟩ | ⟨g1, c1, rfl, hb, hw, hr, _⟩)
        · have HWN := Lib.hid hw
          have HC8 := Lib.hid (HC7.out.keep hb)
          have HRY8 := Lib.hid (HRY.out.keep hb)
          have HB8 : Hid (Below w.heap.size w wa) := Lib.hid (HB7.out.trans (hb.mono HB7.out.size))
          clear hb hw HC7 HRY HB7 HD
          have hd := rdecodeR (some ⟨oh, 0, none⟩) yss ch wa HRY8.out (by have := HYL.out; omega) HBY.out
          rw [HYL.out] at hd
          have HD := Lib.hid hd
          clear hd
          go_wp2_with fail
          refine HD.out.mono ?_
          rintro e wc (⟨rfl, HH2⟩ | ⟨g2, c2, rfl, HH2⟩)
          · have HC := Lib.hid (HC8.out.keep HH2.out.1)
            have HRY := Lib.hid (HRY8.out.keep HH2.out.1)
            have HB9 : Hid (Below w.heap.size w wc) := Lib.hid (HB8.out.trans (HH2.out.1.mono HB8.out.size))
            clear HC8 HRY8 HB8 HH2 HD
            go_wp2_with fail
            go_loopg [25, 113] 6 (fun q s25 s113 v => ∃ (k : Nat) (bl : Bool), s113 = .int .i64 (k : Int) ∧ k ≤ 6 ∧ q = 6 - k ∧ s25 = .bool bl ∧ Hid (bl = true ↔ (6 = 6 ∧ ∀ l, l < k → lenOf yss l = 32)) ∧ wc = v)
            case atStart => first | exact ⟨0, true, rfl, by omega, rfl, rfl, Lib.hid ⟨fun _ => ⟨rfl, fun l hl => absurd hl (Nat.not_lt_zero _)⟩, fun _ => rfl⟩, rfl⟩ | exact ⟨0, false, rfl, by omega, rfl, rfl, Lib.hid ⟨fun h => (by cases h), fun h => absurd h.1 (by omega)⟩, rfl⟩
            case round =>
              obtain ⟨k, bl, rfl, hk, rfl, rfl, HBL, rfl⟩ := hrel
              by_cases hlk : k < 6
              · have hlk' : (k : Int) < (6 : Int) := by omega
                have hk0 : (0 : Int) ≤ (k : Int) := by omega
                obtain ⟨ob', oo', gk, ck, ek, _, hck⟩ := HRY.out.len (i := k) (by have := HYL.out; omega)
                cases ek
                obtain ⟨lk, hlen⟩ : ∃ lk, lenOf yss k = lk := ⟨_, rfl⟩
                have HLK := Lib.hid hlen
                rw [hlen, Nat.zero_add] at hck
                clear hlen
                cases bl with
                | false =>
                  go_wp2_with fail
                  go_roundg (6 - (k + 1))
                  case measure => omega
                  case rel => exact ⟨k + 1, false, by go_num, by omega, rfl, rfl, Lib.hid ⟨fun h => (by cases h), fun h => HBL.out.2 ⟨h.1, fun l hl => h.2 l (by omega)⟩⟩, rfl⟩
                | true =>
                  by_cases h32 : lk = 32
                  · have t32 : ((lk : Int) == 32) = true := by rw [beq_iff_eq]; omega
                    have H32 := Lib.hid h32
                    clear h32
                    go_wp2_with fail
                    go_roundg (6 - (k + 1))
                    case measure => omega
                    case rel => exact ⟨k + 1, true, by go_num, by omega, rfl, rfl, Lib.hid ⟨fun _ => ⟨(HBL.out.1 (by simp)).1, fun l hl => by
                      by_cases e : l = k
                      · rw [e, HLK.out, H32.out]
                      · exact (HBL.out.1 (by simp)).2 l (by omega)⟩, fun _ => rfl⟩, rfl⟩
                  · have t32 : ((lk : Int) == 32) = false := by rw [beq_eq_false_iff_ne]; omega
                    have H32 := Lib.hid h32
                    clear h32
                    go_wp2_with fail
                    go_roundg (6 - (k + 1))
                    case measure => omega
                    case rel => exact ⟨k + 1, false, by go_num, by omega, rfl, rfl, Lib.hid ⟨fun h => (by cases h), fun h => absurd (h.2 k (by omega)) (by rw [HLK.out]; exact H32.out)⟩, rfl⟩
              · have hge2 : ¬ (k : Int) < (6 : Int) := by omega
                have s1 := conv_empty none 0 wc
                generalize strOf [] = str at s1
                have hck := ccheck c f o cap (some ⟨oh, 0, none⟩) yss ch wc HC.out HRY.out (by have := HYL.out; omega) HBY.out false ⟨fun h => (by cases h), fun h => absurd h.1 HWN.out⟩
                rw [HYL.out] at hck
                have HCK := Lib.hid hck
                clear hck hlk hk
                cases bl
                all_goals
                  go_wp2_with fail
                  refine HCK.out.mono ?_
                  rintro e we ⟨rfl, hb⟩
                  have HBE : Hid (Below w.heap.size w we) := Lib.hid (HB9.out.trans (hb.mono HB9.out.size))
                  clear hb
                  go_wp2_with fail
                  go_ret
                  exact ⟨by simp, HBE.out⟩
          · exact absurd HH2.out.2.1 HWN.out
        · have HWY := Lib.hid hw
          have HR8 := Lib.hid hr
          have HC8 := Lib.hid (HC7.out.keep hb)
          have HRY8 := Lib.hid (HRY.out.keep hb)
          have HB8 : Hid (Below w.heap.size w wa) := Lib.hid (HB7.out.trans (hb.mono HB7.out.size))
          clear hb hw hr HC7 HRY HB7 HD
          have hd := rdecodeR (some ⟨oh, 0, none⟩) yss ch wa HRY8.out (by have := HYL.out; omega) HBY.out
          rw [HYL.out] at hd
          have HD := Lib.hid hd
          clear hd
          go_wp2_with fail
          refine HD.out.mono ?_
          rintro e wc (⟨rfl, HH2⟩ | ⟨g2, c2, rfl, HH2⟩)
          · exact absurd HWY.out HH2.out.2
          · have HC := Lib.hid (HC8.out.keep HH2.out.1)
            have HRY := Lib.hid (HRY8.out.keep HH2.out.1)
            have HR9 := Lib.hid (HR8.out.on (by omega) HH2.out.1)
            have HS9 := Lib.hid HH2.out.2.2
            have HB9 : Hid (Below w.heap.size w wc) := Lib.hid (HB8.out.trans (HH2.out.1.mono HB8.out.size))
            clear HC8 HRY8 HR8 HB8 HH2 HD
            go_wp2_with fail
            go_loopg [25, 113] 6 (fun q s25 s113 v => ∃ (k : Nat) (bl : Bool), s113 = .int .i64 (k : Int) ∧ k ≤ 6 ∧ q = 6 - k ∧ s25 = .bool bl ∧ Hid (bl = true ↔ (6 = 6 ∧ ∀ l, l < k → lenOf yss l = 32)) ∧ wc = v)
            case atStart => first | exact ⟨0, true, rfl, by omega, rfl, rfl, Lib.hid ⟨fun _ => ⟨rfl, fun l hl => absurd hl (Nat.not_lt_zero _)⟩, fun _ => rfl⟩, rfl⟩ | exact ⟨0, false, rfl, by omega, rfl, rfl, Lib.hid ⟨fun h => (by cases h), fun h => absurd h.1 (by omega)⟩, rfl⟩
            case round =>
              obtain ⟨k, bl, rfl, hk, rfl, rfl, HBL, rfl⟩ := hrel
              by_cases hlk : k < 6
              · have hlk' : (k : Int) < (6 : Int) := by omega
                have hk0 : (0 : Int) ≤ (k : Int) := by omega
                obtain ⟨ob', oo', gk, ck, ek, _, hck⟩ := HRY.out.len (i := k) (by have := HYL.out; omega)
                cases ek
                obtain ⟨lk, hlen⟩ : ∃ lk, lenOf yss k = lk := ⟨_, rfl⟩
                have HLK := Lib.hid hlen
                rw [hlen, Nat.zero_add] at hck
                clear hlen
                cases bl with
                | false =>
                  go_wp2_with fail
                  go_roundg (6 - (k + 1))
                  case measure => omega
                  case rel => exact ⟨k + 1, false, by go_num, by omega, rfl, rfl, Lib.hid ⟨fun h => (by cases h), fun h => HBL.out.2 ⟨h.1, fun l hl => h.2 l (by omega)⟩⟩, rfl⟩
                | true =>
                  by_cases h32 : lk = 32
                  · have t32 : ((lk : Int) == 32) = true := by rw [beq_iff_eq]; omega
                    have H32 := Lib.hid h32
                    clear h32
                    go_wp2_with fail
                    go_roundg (6 - (k + 1))
                    case measure => omega
                    case rel => exact ⟨k + 1, true, by go_num, by omega, rfl, rfl, Lib.hid ⟨fun _ => ⟨(HBL.out.1 (by simp)).1, fun l hl => by
                      by_cases e : l = k
                      · rw [e, HLK.out, H32.out]
                      · exact (HBL.out.1 (by simp)).2 l (by omega)⟩, fun _ => rfl⟩, rfl⟩
                  · have t32 : ((lk : Int) == 32) = false := by rw [beq_eq_false_iff_ne]; omega
                    have H32 := Lib.hid h32
                    clear h32
                    go_wp2_with fail
                    go_roundg (6 - (k + 1))
                    case measure => omega
                    case rel => exact ⟨k + 1, false, by go_num, by omega, rfl, rfl, Lib.hid ⟨fun h => (by cases h), fun h => absurd (h.2 k (by omega)) (by rw [HLK.out]; exact H32.out)⟩, rfl⟩
              · have hge2 : ¬ (k : Int) < (6 : Int) := by omega
                obtain rfl : k = 6 := by omega
                have s1 := conv_row (cap := c1) HR9.out (F' := outF yss) (fun _ _ => rfl)
                have s2 := conv_row (cap := c2) HS9.out (F' := outF yss) (fun _ _ => rfl)
                generalize strOf ((List.range 128).map (outF yss)) = str at s1 s2
                obtain ⟨t, htt⟩ : ∃ t : Bool, t = true ↔ Whole yss ∧ yss = rowsOf 6 32 (enc (parts (outF yss))) := by
                  by_cases hP : Whole yss ∧ yss = rowsOf 6 32 (enc (parts (outF yss)))
                  · exact ⟨true, fun _ => hP, fun _ => rfl⟩
                  · exact ⟨false, fun h => (by cases h), fun h => absurd h hP⟩
                have HT := Lib.hid htt
                have hck := ccheck c f o cap (some ⟨oh, 0, none⟩) yss ch wc HC.out HRY.out (by have := HYL.out; omega) HBY.out t htt
                rw [HYL.out] at hck
                have HCK := Lib.hid hck
                clear hck hlk hk htt
                cases bl with
                | false =>
                  obtain rfl : t = false := not_true HT.out (fun h => by
                    have := HBL.out.2 ⟨rfl, fun l hl => by
                      rw [h.2]
                      unfold lenOf
                      rw [rowsOf_get hl]
                      simp⟩
                    cases this)
                  go_wp2_with fail
                  refine HCK.out.mono ?_
                  rintro e we ⟨rfl, hb⟩
                  have HBE : Hid (Below w.heap.size w we) := Lib.hid (HB9.out.trans (hb.mono HB9.out.size))
                  clear hb
                  go_wp2_with fail
                  go_ret
                  exact ⟨by simp, HBE.out⟩
                | true =>
                  go_wp2_with fail
                  refine HCK.out.mono ?_
                  rintro e we ⟨rfl, hb⟩
                  have HBE : Hid (Below w.heap.size w we) := Lib.hid (HB9.out.trans (hb.mono HB9.out.size))
                  have HSE := Lib.hid (HS9.out.on (by omega) hb)
                  have HRE := Lib.hid (HRY.out.keep hb)
                  clear hb HB9 HR9 HS9 HRY HC
                  have HEN := Lib.hid (rencode g2 0 c2 (outF yss) we (fun j hj => by rw [Nat.zero_add]; exact HSE.out.cell j hj) (fun j _ => outF_lt yss j))
                  go_wp2_with fail
                  refine HEN.out.mono ?_
                  rintro e wf ⟨v9, G9, rfl, hr9, hb⟩
                  obtain ⟨o9, c9, rfl, hraw9⟩ := hr9.mat (by omega)
                  have HBF : Hid (Below w.heap.size w wf) := Lib.hid (HBE.out.trans (hb.mono HBE.out.size))
                  have hEB := enc_bd 6 32 (parts (outF yss))
                  have l32 : ∀ (i : Nat) (xs : List Nat), yss[i]? = some xs → xs.length = 32 := fun i xs hx => by
                    have hi6 : i < 6 := by have := (List.getElem?_eq_some_iff.1 hx).1; have := HYL.out; omega
                    have := (HBL.out.1 (by simp)).2 i hi6
                    unfold lenOf at this
                    rw [hx] at this
                    exact this
                  have hs := lsame (some ⟨o9, 0, none⟩) (some ⟨oh, 0, none⟩) (rowsOf 6 32 (enc (parts (outF yss)))) yss c9 ch wf hraw9 (HRE.out.keep hb) (by rw [rowsOf_len]; omega) (fun i xs h => by rw [rowsOf_rowlen h]; omega) (fun i xs h => by rw [l32 i xs h]; omega) t
                    (HT.out.trans ⟨fun h => ⟨by rw [rowsOf_len, HYL.out], fun i xs ys h1 h2 => by rw [h.2] at h2; rw [← h.2] at h2; rw [h.2, h1] at h2; cases h2; rfl⟩, fun h => ⟨HWY.out, by
                      apply List.ext_getElem?
                      intro i
                      by_cases hi : i < 6
                      · obtain ⟨ys, hy⟩ : ∃ ys, yss[i]? = some ys := ⟨_, List.getElem?_eq_getElem (by have := HYL.out; omega)⟩
                        have hx := rowsOf_get (c := 32) (M := enc (parts (outF yss))) hi
                        rw [hx, hy, strOf_inj (rowsOf_bytes hEB i _ hx) (HBY.out i ys hy) (h.2 i _ ys hx hy)]
                      · rw [List.getElem?_eq_none (by have := HYL.out; omega), List.getElem?_eq_none (by rw [rowsOf_len]; omega)]⟩⟩)
                  rw [rowsOf_len, HYL.out] at hs
                  have HS := Lib.hid hs
                  clear hr9 hraw9 hb hEB l32 hs HEN HT HCK HSE HRE HBE
                  go_wp2_with fail
                  refine HS.out.mono ?_
                  rintro e wg ⟨rfl, hb⟩
                  have HBG : Hid (Below w.heap.size w wg) := Lib.hid (HBF.out.trans (hb.mono HBF.out.size))
                  clear hb HS
                  go_wp2_with fail
                  go_ret
                  exact ⟨by simp, HBG.out⟩
end Go.Proofs.Ytajpnbmfeapmcaa
