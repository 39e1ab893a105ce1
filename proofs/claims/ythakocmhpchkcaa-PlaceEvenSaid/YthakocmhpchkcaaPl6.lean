import Derived.Test.YthakocmhpchkcaaPl3
namespace Go.Proofs.Ythakocmhpchkcaa
open Go.RowKit Go.Sort
set_option maxRecDepth 100000
set_option maxHeartbeats 2000000

/-- How many of a stripe's first chunks a node has; of so many stripes; how many stripes ask it first. -/
def cI (s : Nat) : Nat → Nat → Nat
  | 0, _ => 0
  | i + 1, n => cI s i n + if n = (s + i) % 8 then 1 else 0
def cS (p : Nat) : Nat → Nat → Nat
  | 0, _ => 0
  | k + 1, n => cS p k n + cI (p + k) 6 n
def fS (p : Nat) : Nat → Nat → Nat
  | 0, _ => 0
  | k + 1, n => fS p k n + if n = (p + k + 5) % 8 then 1 else 0
theorem cI_le (s n : Nat) : ∀ i, cI s i n ≤ i
  | 0 => Nat.le_refl _
  | i + 1 => by
    have := cI_le s n i
    unfold cI
    split <;> omega
theorem cS_le (p n : Nat) : ∀ k, cS p k n ≤ 6 * k
  | 0 => Nat.le_refl _
  | k + 1 => by
    have := cS_le p n k
    have := cI_le (p + k) n 6
    unfold cS
    omega
theorem fS_le (p n : Nat) : ∀ k, fS p k n ≤ k
  | 0 => Nat.le_refl _
  | k + 1 => by
    have := fS_le p n k
    unfold fS
    split <;> omega
theorem even : ∀ p < 33, ∀ n < 8, cS p 8 n = 6 ∧ fS p 8 n = 1 := by decide +kernel
theorem Nums.cell {w : World} {g o i : Nat} {xs : List Int} {x : Int} (h : Nums w (some ⟨g, o, none⟩) xs) (hi : xs[i]? = some x) : w.cell? ⟨g, o + i, none⟩ = some (.int .i64 x) := by
  obtain ⟨g', o', e, _, hc⟩ := h i x hi
  cases e
  exact hc
abbrev B8 (w : World) (g : Nat) (f : Nat → Nat) : Prop := BlkT w 31 g 8 (fun j => .int .i64 (f j : Nat))
theorem B8.inc {w : World} {g q : Nat} {f : Nat → Nat} (h : B8 w g f) (hq : q < 8) {c : Nat} (hc : f q = c) : B8 (w.setCell ⟨g, q, none⟩ (.int .i64 ((c : Int) + 1))) g (fun j => f j + if j = q then 1 else 0) := by
  refine (BlkT.put h hq).congr (fun j hj => ?_)
  dsimp only
  by_cases e : j = q
  · subst e
    rw [if_pos rfl, if_pos rfl, hc]
    rfl
  · rw [if_neg e, if_neg e]
    rfl
theorem zeros8i (w : World) : B8 (w.alloc (.cells #[.int .i64 0, .int .i64 0, .int .i64 0, .int .i64 0, .int .i64 0, .int .i64 0, .int .i64 0, .int .i64 0] 31)) w.heap.size (fun _ => 0) :=
  ⟨_, alloc_block _ _, Nat.le_refl _, fun j hj => by
    match j, hj with
    | 0, _ => rfl
    | 1, _ => rfl
    | 2, _ => rfl
    | 3, _ => rfl
    | 4, _ => rfl
    | 5, _ => rfl
    | 6, _ => rfl
    | 7, _ => rfl⟩
/-- Both tables, apart from what was there. -/
structure EvM (H : Nat) (w v : World) (fc ff : Nat → Nat) : Prop where
  bel : Below H w v
  lt : H + 1 < v.heap.size
  ch : B8 v H fc
  fi : B8 v (H + 1) ff
theorem EvM.more {H : Nat} {w v v' : World} {fc ff : Nat → Nat} (h : EvM H w v fc ff) (b : Below v.heap.size v v') : EvM H w v' fc ff :=
  ⟨h.bel.trans (b.mono (by have := h.lt; omega)), by have := h.lt; have := b.size; omega, h.ch.keep (b.block H (by have := h.lt; omega)), h.fi.keep (b.block (H + 1) h.lt)⟩
theorem EvM.congr {H : Nat} {w v : World} {fc ff fc' ff' : Nat → Nat} (h : EvM H w v fc ff) (e1 : ∀ j, fc j = fc' j) (e2 : ∀ j, ff j = ff' j) : EvM H w v fc' ff' := by
  obtain rfl : fc = fc' := funext e1
  obtain rfl : ff = ff' := funext e2
  exact h
theorem EvM.incC {H : Nat} {w v : World} {fc ff : Nat → Nat} (h : EvM H w v fc ff) {q c : Nat} (hq : q < 8) (hc : fc q = c) : EvM H w (v.setCell ⟨H, q, none⟩ (.int .i64 ((c : Int) + 1))) (fun j => fc j + if j = q then 1 else 0) ff :=
  ⟨h.bel.setCell (p := ⟨H, q, none⟩) (Nat.le_refl _) _, by have := h.lt; simpa using this, h.ch.inc hq hc, h.fi.keep (Below.heap_setCell _ _ _ _ (by show H + 1 ≠ H; omega))⟩
theorem EvM.incF {H : Nat} {w v : World} {fc ff : Nat → Nat} (h : EvM H w v fc ff) {q c : Nat} (hq : q < 8) (hc : ff q = c) : EvM H w (v.setCell ⟨H + 1, q, none⟩ (.int .i64 ((c : Int) + 1))) fc (fun j => ff j + if j = q then 1 else 0) :=
  ⟨h.bel.setCell (p := ⟨H + 1, q, none⟩) (Nat.le_succ _) _, by have := h.lt; simpa using this, h.ch.keep (Below.heap_setCell _ _ _ _ (by show H ≠ H + 1; omega)), h.fi.inc hq hc⟩
theorem Nums.far {w w' : World} {A : Option Addr} {xs : List Int} {g q : Nat} {u : Value} (h : Nums w A xs) (hA : ∀ k o, A = some ⟨k, o, none⟩ → k ≠ g) (e : w' = w.setCell ⟨g, q, none⟩ u) : Nums w' A xs := fun i x hi => by
  obtain ⟨k, o, ea, hl, hc⟩ := h i x hi
  subst e
  refine ⟨k, o, ea, by simpa using hl, ?_⟩
  exact (World.cell?_of_block (w := w) (Below.heap_setCell _ _ _ _ (hA k o ea))).trans hc
/-- PlaceEven. -/
theorem placeEven (s0 : Int) (W : World) : Calls Try.prog 6 #[.int .i64 s0] W fun e w' => e = .returned (.bool true) ∧ Below W.heap.size W w' := by
  obtain ⟨r, hr⟩ : ∃ r, s0.tmod 33 = r := ⟨_, rfl⟩
  have r0 : r < 33 := by rw [← hr]; exact Int.tmod_lt_of_pos _ (by omega)
  have r1 : -33 < r := by rw [← hr]; exact Int.lt_tmod_of_pos _ (by omega)
  obtain ⟨p, hp, hpr⟩ : ∃ p : Nat, p < 33 ∧ (r < 0 ∧ r + 33 = (p : Int) ∨ 0 ≤ r ∧ r = (p : Int)) := by
    by_cases h : r < 0
    · exact ⟨(r + 33).toNat, by omega, Or.inl (by omega)⟩
    · exact ⟨r.toNat, by omega, Or.inr (by omega)⟩
  have HPR := Lib.hid hpr
  have HK := Lib.hid (fun v => lknown13 v)
  have HEV := Lib.hid (even p hp)
  clear hpr
  go_enter Try.func6, Try.ntmps6
  go_wp2_with fail
  refine (HK.out W).mono ?_
  rintro e w2 ⟨rfl, b2⟩
  try dsimp only
  have HB2 := Lib.hid b2
  clear b2 HK
  go_upto_if 16 with fail
  go_cut [0] from 17 to 18 (fun s0 wx => s0 = .int .i64 (p : Int) ∧ wx = w2)
  case first =>
    rcases HPR.out with ⟨q0, q1⟩ | ⟨q0, q1⟩
    · go_wp2_with fail
      go_meet
      exact ⟨by rw [← q1], rfl⟩
    · obtain rfl := q1
      go_wp2_with fail
      go_meet
      exact ⟨rfl, rfl⟩
  case rest =>
    obtain ⟨rfl, hw⟩ := hcut
    obtain rfl := hw.symm
    clear hr r0 r1 HPR
    go_upto_region 8 with fail
    obtain ⟨w3, hw3⟩ : ∃ w3, w2.alloc (.cells #[.int .i64 0, .int .i64 0, .int .i64 0, .int .i64 0, .int .i64 0, .int .i64 0, .int .i64 0, .int .i64 0] 31) = w3 := ⟨_, rfl⟩
    have k3 : B8 w3 w2.heap.size (fun _ => 0) := by rw [← hw3]; exact zeros8i w2
    have z3 : w3.heap.size = w2.heap.size + 1 := by rw [← hw3]; exact alloc_size _ _
    have b3 : Below w2.heap.size w2 w3 := by rw [← hw3]; exact (Below.refl _ _).alloc (Nat.le_refl _) _
    try rw [hw3]
    clear hw3
    obtain ⟨w4, hw4⟩ : ∃ w4, w3.alloc (.cells #[.int .i64 0, .int .i64 0, .int .i64 0, .int .i64 0, .int .i64 0, .int .i64 0, .int .i64 0, .int .i64 0] 31) = w4 := ⟨_, rfl⟩
    have k4 : B8 w4 (w2.heap.size + 1) (fun _ => 0) := by rw [← hw4, ← z3]; exact zeros8i w3
    have k4' : B8 w4 w2.heap.size (fun _ => 0) := by rw [← hw4]; exact k3.keep (alloc_old _ _ (by omega))
    have b4 : Below w2.heap.size w2 w4 := by rw [← hw4]; exact b3.alloc (by omega) _
    have z4 : w4.heap.size = w2.heap.size + 2 := by rw [← hw4, alloc_size, z3]
    try rw [hw4]
    clear hw4 k3 b3 z3
    have HS0 : Hid (EvM w2.heap.size w2 w4 (fun n => cS p 0 n) (fun n => fS p 0 n)) := Lib.hid ⟨b4, by omega, k4', k4⟩
    clear k4 k4' b4 z4
    obtain ⟨H, hH⟩ : ∃ H, w2.heap.size = H := ⟨_, rfl⟩
    have HH := Lib.hid hH
    rw [hH] at HS0
    try rw [hH]
    clear hH
    go_loopg [5, 6, 7, 8, 9] 8 (fun q s5 s6 s7 s8 s9 v => ∃ k : Nat, s5 = .int .i64 ((p + k : Nat) : Int) ∧ k ≤ 8 ∧ q = 8 - k ∧ Hid (EvM H w2 v (fun n => cS p k n) (fun n => fS p k n)))
    case atStart => exact ⟨0, rfl, by omega, rfl, HS0⟩
    case round =>
      obtain ⟨k, rfl, hk, rfl, HS⟩ := hrel
      clear HS0
      generalize wr = v at *
      by_cases hlt : k < 8
      · obtain ⟨s, hs⟩ : ∃ s, p + k = s := ⟨_, rfl⟩
        have HSS := Lib.hid hs
        rw [hs]
        have s40 : s < 40 := by omega
        have t1 : (s : Int) < (p : Int) + 8 := by omega
        have HL := Lib.hid (llogs s v)
        have HR := Lib.hid (fun u => lright_yes (s := (s : Int)) (by omega) (by omega) u)
        have HLA := Lib.hid (fun j (hj : j < 8) => logsF_at s40 hj)
        unfold LogsRet at HL
        rw [logsF_len s40] at HL
        clear hs
        go_wp2_with fail
        refine HL.out.mono ?_
        rintro e v1 ⟨A, c, rfl, n1, b1, _, hA⟩
        try dsimp only
        obtain ⟨g, o, rfl, gl, _⟩ := n1 0 _ (HLA.out 0 (by omega))
        have hA2 := hA g o rfl
        have HN1 := Lib.hid n1
        have HS1 := Lib.hid (HS.out.more b1)
        have HGH : Hid (g ≠ H ∧ g ≠ H + 1) := Lib.hid (by have := HS.out.lt; omega)
        clear n1 b1 HL HS gl hA hA2
        go_wp2_with fail
        refine (HR.out v1).mono ?_
        rintro e w' ⟨rfl, hw⟩
        obtain rfl := hw.symm
        obtain ⟨y, hy⟩ : ∃ y : Nat, (s + 5 + 0) % 8 = y := ⟨_, rfl⟩
        have y8 : y < 8 := by omega
        have t2 : ¬ 8 ≤ (y : Int) := by omega
        have t3 : ¬ (y : Int) < 0 := by omega
        have c0 := HN1.out.cell (HLA.out 0 (by omega))
        rw [hy] at c0
        try rw [Nat.add_zero] at c0
        have HY := Lib.hid hy
        obtain ⟨fy, hfy⟩ : ∃ fy, fS p k y = fy := ⟨_, rfl⟩
        have fy8 : fy ≤ 8 := by rw [← hfy]; have := fS_le p y k; omega
        have c1 := HS1.out.fi.cell y8
        have f1 := HS1.out.fi.free y
        try dsimp only at c1
        rw [hfy] at c1
        have HFY := Lib.hid hfy
        clear hy hfy
        have HI0 : Hid (EvM H w2 (v1.setCell ⟨H + 1, y, none⟩ (.int .i64 ((fy : Int) + 1))) (fun n => cS p k n + cI s 0 n) (fun n => fS p (k + 1) n)) := Lib.hid ((HS1.out.incF y8 HFY.out).congr (fun j => rfl) (fun j => by
          show _ = fS p k j + if j = (p + k + 5) % 8 then 1 else 0
          rw [← HY.out, HSS.out, Nat.add_zero]))
        have HN2 : Hid (Nums (v1.setCell ⟨H + 1, y, none⟩ (.int .i64 ((fy : Int) + 1))) (some ⟨g, o, none⟩) (logsF s)) := Lib.hid (HN1.out.far (fun _ _ e => by cases e; exact HGH.out.2) rfl)
        clear HS1 HN1
        go_upto_region 15 with fail
        generalize v1.setCell ⟨H + 1, y, none⟩ (.int .i64 ((fy : Int) + 1)) = v2 at *
        clear c0 c1 f1 HFY HY t2 t3
        go_loopg [7, 8] 6 (fun q s7 s8 vi => ∃ i : Nat, s7 = .int .i64 (i : Int) ∧ i ≤ 6 ∧ q = 6 - i ∧ Hid (EvM H w2 vi (fun n => cS p k n + cI s i n) (fun n => fS p (k + 1) n) ∧ Nums vi (some ⟨g, o, none⟩) (logsF s)))
        case atStart => exact ⟨0, rfl, by omega, rfl, Lib.hid ⟨HI0.out, HN2.out⟩⟩
        case round =>
          obtain ⟨i, rfl, hi, rfl, HI⟩ := hrel
          clear HI0 HN2
          generalize wr = v3 at *
          by_cases hlt2 : i < 6
          · have t4 : (i : Int) < 6 := by omega
            obtain ⟨z, hz⟩ : ∃ z : Nat, (s + i) % 8 = z := ⟨_, rfl⟩
            have z8 : z < 8 := by omega
            have t2 : ¬ 8 ≤ (z : Int) := by omega
            have t3 : ¬ (z : Int) < 0 := by omega
            have HN := Lib.hid (lnode s i v3)
            rw [nodeF_nat s40 hlt2, hz] at HN
            have HZ := Lib.hid hz
            obtain ⟨fz, hfz⟩ : ∃ fz, cS p k z + cI s i z = fz := ⟨_, rfl⟩
            have fz8 : fz ≤ 100 := by rw [← hfz]; have := cS_le p z k; have := cI_le s z i; omega
            have HFZ := Lib.hid hfz
            have c1 := HI.out.1.ch.cell z8
            have f1 := HI.out.1.ch.free z
            try dsimp only at c1
            rw [hfz] at c1
            clear hz hfz
            go_wp2_with fail
            refine HN.out.mono ?_
            rintro e w' ⟨rfl, hw⟩
            obtain rfl := hw.symm
            go_wp2_with fail
            go_roundg (6 - (i + 1))
            case measure => omega
            case rel => exact ⟨i + 1, by go_num, by omega, rfl, Lib.hid ⟨(HI.out.1.incC z8 HFZ.out).congr (fun j => by
              show cS p k j + cI s i j + _ = cS p k j + (cI s i j + if j = (s + i) % 8 then 1 else 0)
              rw [HZ.out, Nat.add_assoc]) (fun j => rfl), HI.out.2.far (fun _ _ e => by cases e; exact HGH.out.1) rfl⟩⟩
          · obtain rfl : i = 6 := by omega
            have t4 : ¬ ((6 : Nat) : Int) < 6 := by omega
            have HE : Hid (EvM H w2 v3 (fun n => cS p (k + 1) n) (fun n => fS p (k + 1) n) ∧ Nums v3 (some ⟨g, o, none⟩) (logsF s)) := Lib.hid ⟨HI.out.1.congr (fun j => by show _ = cS p k j + cI (p + k) 6 j; rw [HSS.out]) (fun j => rfl), HI.out.2⟩
            clear hlt2 HI
            go_upto_region 22 with fail
            go_loopg [9] 7 (fun q s9 vu => ∃ u : Nat, s9 = .int .i64 (u : Int) ∧ 1 ≤ u ∧ u ≤ 8 ∧ q = 8 - u ∧ Hid (EvM H w2 vu (fun n => cS p (k + 1) n) (fun n => fS p (k + 1) n) ∧ Nums vu (some ⟨g, o, none⟩) (logsF s)))
            case atStart => exact ⟨1, rfl, by omega, by omega, rfl, HE⟩
            case round =>
              obtain ⟨u, rfl, hu1, hu, rfl, HU⟩ := hrel
              clear HE
              generalize wr = v4 at *
              by_cases hlt3 : u < 8
              · have t5 : (u : Int) < 8 := by omega
                obtain ⟨m, rfl⟩ : ∃ m, u = m + 1 := ⟨u - 1, by omega⟩
                obtain ⟨x, hx⟩ : ∃ x : Nat, (s + 5 + m) % 8 = x := ⟨_, rfl⟩
                obtain ⟨x2, hx2⟩ : ∃ x : Nat, (s + 5 + (m + 1)) % 8 = x := ⟨_, rfl⟩
                have a1 := HU.out.2.cell (HLA.out m (by omega))
                have a2 := HU.out.2.cell (HLA.out (m + 1) (by omega))
                rw [hx] at a1
                rw [hx2] at a2
                have x8 : x < 8 := by omega
                have hxx : ((x : Int) + 1) % 8 = (x2 : Int) := by omega
                have d1 : ∀ n, (v4.drewN n).cell? ⟨g, o + m, none⟩ = some (.int .i64 (x : Int)) := fun n => a1
                have d2 : ∀ n, (v4.drewN n).cell? ⟨g, o + (m + 1), none⟩ = some (.int .i64 (x2 : Int)) := fun n => a2
                have t6 : ((x2 : Int) != (x2 : Int)) = false := by simp
                clear hx hx2
                go_wp2_with fail
                go_big_quiet (fail)
                go_wp2_with fail
                go_roundg (8 - (m + 1 + 1))
                case measure => omega
                case rel => exact ⟨m + 1 + 1, by go_num, by omega, by omega, rfl, Lib.hid ⟨HU.out.1.more ((Below.refl _ _).trans (below_drewN _ _)), HU.out.2.keep (below_drewN _ _)⟩⟩
              · obtain rfl : u = 8 := by omega
                have t5 : ¬ ((8 : Nat) : Int) < 8 := by omega
                clear hlt3
                go_wp2_with fail
                go_roundg (8 - (k + 1))
                case measure => omega
                case rel => exact ⟨k + 1, by first | go_num | (rw [← HSS.out]; go_num), by omega, rfl, Lib.hid HU.out.1⟩
      · obtain rfl : k = 8 := by omega
        have t1 : ¬ ((p + 8 : Nat) : Int) < (p : Int) + 8 := by omega
        clear hlt
        go_wp2_with fail
        go_loopg [91, 10] 8 (fun q s91 s10 vb => ∃ i : Nat, s91 = .int .i64 (i : Int) ∧ i ≤ 8 ∧ q = 8 - i ∧ vb = v)
        case atStart => exact ⟨0, rfl, by omega, rfl, rfl⟩
        case round =>
          obtain ⟨i, rfl, hi, rfl, hv⟩ := hrel
          generalize wr = v2 at *
          obtain rfl := hv
          by_cases hlt : i < 8
          · have t2 : (i : Int) < 8 := by omega
            obtain ⟨e1, e2⟩ := HEV.out i hlt
            have c1 := HS.out.ch.cell hlt
            have c2 := HS.out.fi.cell hlt
            try dsimp only at c1 c2
            rw [e1] at c1
            rw [e2] at c2
            clear e1 e2
            go_wp2_with fail
            go_roundg (8 - (i + 1))
            case measure => omega
            case rel => exact ⟨i + 1, by go_num, by omega, rfl, rfl⟩
          · obtain rfl : i = 8 := by omega
            have t2 : ¬ ((8 : Nat) : Int) < 8 := by omega
            have HL := Lib.hid (llogs p v2)
            have HM := Lib.hid (fun v => rlogs p v)
            have HB3 : Hid (Below W.heap.size W v2) := Lib.hid (HB2.out.trans (HS.out.bel.mono (by rw [← HH.out]; exact HB2.out.size)))
            have HLE := Lib.hid (logsF_le p)
            unfold LogsRet at HL HM
            clear hlt HS
            go_wp2_with fail
            refine HL.out.mono ?_
            rintro e v5 ⟨A, c, rfl, n2, b2, _⟩
            try dsimp only
            have HN2 := Lib.hid n2
            have HB5 : Hid (Below W.heap.size W v5) := Lib.hid (HB3.out.trans (b2.mono HB3.out.size))
            clear b2 n2 HL
            go_wp2_with fail
            refine (HM.out v5).mono ?_
            rintro e v6 ⟨A3, c3, rfl, n3, b3, _⟩
            try dsimp only
            have HSA := Lib.hid (lsame A A3 (logsF p) (logsF p) c c3 v6 (HN2.out.keep b3) n3 (by have := HLE.out; omega) true ⟨fun _ => rfl, fun _ => rfl⟩)
            have HB6 : Hid (Below W.heap.size W v6) := Lib.hid (HB5.out.trans (b3.mono HB5.out.size))
            clear b3 n3 HM HN2
            go_wp2_with fail
            refine HSA.out.mono ?_
            rintro e v7 ⟨rfl, b4⟩
            try dsimp only
            have HB7 : Hid (Below W.heap.size W v7) := Lib.hid (HB6.out.trans (b4.mono HB6.out.size))
            clear b4 HSA
            go_wp2_with fail
            go_ret
            exact ⟨rfl, HB7.out⟩
end Go.Proofs.Ythakocmhpchkcaa
