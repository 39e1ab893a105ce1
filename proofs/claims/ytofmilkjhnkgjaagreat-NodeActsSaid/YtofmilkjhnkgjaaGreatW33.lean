import Derived.Test.YtofmilkjhnkgjaaGreatW24
import Derived.Test.YtofmilkjhnkgjaaGreatW32
import Derived.Test.YtofmilkjhnkgjaaGreatW08
namespace Go.Proofs.YtofmilkjhnkgjaaGreat
open Go.RowKit Go.Sort
set_option maxRecDepth 100000
set_option maxHeartbeats 1000000

/-- SamePiece. -/
theorem rsame (s g i s' g' i' : Int) (A A' : Option Addr) (n c n' c' : Nat) (D D' : Nat → Nat) (w : World) (h1 : Rd w A n D) (h2 : Rd w A' n' D') (b1 : ∀ j, j < n → D j < 256) (b2 : ∀ j, j < n' → D' j < 256)
    (t : Bool) (ht : t = true ↔ s = s' ∧ g = g' ∧ i = i' ∧ n = n' ∧ ∀ j, j < n → D j = D' j) :
    Calls Tryz.prog 55 #[pv s g i A n c, pv s' g' i' A' n' c'] w fun e w' => e = .returned (.bool t) ∧ Below w.heap.size w w' := by
  have HT := Lib.hid ht
  obtain ⟨w1, hw1⟩ : ∃ w1, (w.alloc (.cells #[.int .i64 s, .int .i64 g, .int .i64 i, .slice A n c] 74)).alloc (.cells #[.int .i64 s', .int .i64 g', .int .i64 i', .slice A' n' c'] 74) = w1 := ⟨_, rfl⟩
  have HB1 : Hid (Below w.heap.size w w1) := Lib.hid (by rw [← hw1]; exact ((Below.refl _ _).alloc (Nat.le_refl _) _).alloc (by simp) _)
  have HW1 := Lib.hid hw1
  have v1 := conv_rd (cap := c) (h1.keep HB1.out)
  have v2 := conv_rd (cap := c') (h2.keep HB1.out)
  have HST := Lib.hid (str_eq b1 b2)
  generalize strOf ((List.range n).map D) = s1 at *
  generalize strOf ((List.range n').map D') = s2 at *
  rw [← hw1] at v1 v2
  clear ht h1 h2 b1 b2 hw1
  unfold pv
  by_cases hs : s = s'
  · have e1 : (s == s') = true := beq_iff_eq.2 hs
    have HS := Lib.hid hs
    clear hs
    by_cases hg : g = g'
    · have e2 : (g == g') = true := beq_iff_eq.2 hg
      have HG := Lib.hid hg
      clear hg
      by_cases hi : i = i'
      · have e3 : (i == i') = true := beq_iff_eq.2 hi
        have HI := Lib.hid hi
        clear hi
        have e4 : (s1.toList == s2.toList) = t := by
          cases ht' : t with
          | true => exact beq_iff_eq.2 (HST.out.2 (HT.out.1 ht').2.2.2)
          | false => exact beq_eq_false_iff_ne.2 (fun e => by have := HT.out.2 ⟨HS.out, HG.out, HI.out, HST.out.1 e⟩; rw [ht'] at this; cases this)
        go_enter Tryz.func55, Tryz.ntmps55
        go_wp2_with fail
        go_ret
        rw [HW1.out]
        exact ⟨rfl, HB1.out⟩
      · have e3 : (i == i') = false := beq_eq_false_iff_ne.2 hi
        obtain rfl : t = false := not_true HT.out (fun h => hi h.2.2.1)
        clear hi
        go_enter Tryz.func55, Tryz.ntmps55
        go_wp2_with fail
        go_ret
        rw [HW1.out]
        exact ⟨rfl, HB1.out⟩
    · have e2 : (g == g') = false := beq_eq_false_iff_ne.2 hg
      obtain rfl : t = false := not_true HT.out (fun h => hg h.2.1)
      clear hg
      go_enter Tryz.func55, Tryz.ntmps55
      go_wp2_with fail
      go_ret
      rw [HW1.out]
      exact ⟨rfl, HB1.out⟩
  · have e1 : (s == s') = false := beq_eq_false_iff_ne.2 hs
    obtain rfl : t = false := not_true HT.out (fun h => hs h.1)
    clear hs
    go_enter Tryz.func55, Tryz.ntmps55
    go_wp2_with fail
    go_ret
    rw [HW1.out]
    exact ⟨rfl, HB1.out⟩

/-- SamePiece of pieces that are handed about. -/
theorem rsameV {w : World} {v v' : Value} {p q : Pc} (h : PcV w v p) (h' : PcV w v' q) (hp : ∀ j, j < 32 → p.D j < 256) (hq : ∀ j, j < 32 → q.D j < 256) (t : Bool) (ht : t = true ↔ p.Alike q) :
    Calls Tryz.prog 55 #[v, v'] w fun e w' => e = .returned (.bool t) ∧ Below w.heap.size w w' := by
  obtain ⟨A, c, rfl, d⟩ := h
  obtain ⟨A', c', rfl, d'⟩ := h'
  refine rsame _ _ _ _ _ _ A A' 32 c 32 c' p.D q.D w d.rd d'.rd hp hq t ?_
  rw [ht]
  unfold Pc.Alike
  constructor
  · rintro ⟨a, b, e, f⟩
    exact ⟨by omega, by omega, by omega, rfl, f⟩
  · rintro ⟨a, b, e, _, f⟩
    exact ⟨by omega, by omega, by omega, f⟩
end Go.Proofs.YtofmilkjhnkgjaaGreat
namespace Go.Proofs.YtofmilkjhnkgjaaGreat
open Go.RowKit Go.Sort
set_option maxRecDepth 100000
set_option maxHeartbeats 2000000

/-- ReadPiece of other than 160 bytes. -/
theorem rreadp_len (A : Option Addr) (n cap : Nat) (w : World) (hn : n ≠ 160) :
    Calls Tryz.prog 76 #[.slice A n cap] w fun e w' => e = .returned (.tuple #[pv 0 0 0 none 0 0, .bool false]) ∧ Below w.heap.size w w' := by
  have HO : Hid (∀ W, Calls Tryz.prog 83 #[.slice A n cap] W fun e w' => e = .returned (.tuple #[.int .i64 0, .slice none 0 0, .int .i64 2]) ∧ w' = W) := Lib.hid (fun W => ropen_len A n cap W hn)
  clear hn
  unfold pv
  go_enter Tryz.func76, Tryz.ntmps76
  go_wp2_with fail
  refine (HO.out _).mono ?_
  rintro e w' ⟨rfl, hw⟩
  obtain rfl := hw.symm
  go_wp2_with fail
  refine bodyPost_ret (v := .tuple #[.agg #[.int .i64 0, .int .i64 0, .int .i64 0, .slice none 0 0], .bool false]) ?_ rfl ?_
  · rw [results_cell_tmp rfl]
    simp [go_sem]
  exact ⟨rfl, (Below.refl _ _).alloc (Nat.le_refl _) _⟩

theorem rreadp_yes (g q cap : Nat) (F : Nat → Nat) (w : World) (h : Rd w (some ⟨g, q, none⟩) 160 F) (hc : 160 ≤ cap) (hF : ∀ j, j < 160 → F j < 256) (hP : IsPc F) :
    Calls Tryz.prog 76 #[.slice (some ⟨g, q, none⟩) 160 cap] w fun e w' => ∃ A c, e = .returned (.tuple #[pv ((rdP F).s : Int) ((rdP F).g : Int) ((rdP F).i : Int) A 32 c, .bool true]) ∧ Dat w' A (rdP F).D ∧ Below w.heap.size w w' :=
  rreadp g q cap F w _ h hc hF (fun n => absurd hP n) (fun _ A c _ hd hb => ⟨A, c, rfl, hd, hb⟩)
theorem rreadp_no (g q cap : Nat) (F : Nat → Nat) (w : World) (h : Rd w (some ⟨g, q, none⟩) 160 F) (hc : 160 ≤ cap) (hF : ∀ j, j < 160 → F j < 256) (hP : ¬ IsPc F) :
    Calls Tryz.prog 76 #[.slice (some ⟨g, q, none⟩) 160 cap] w fun e w' => e = .returned (.tuple #[pv 0 0 0 none 0 0, .bool false]) ∧ Below w.heap.size w w' :=
  rreadp g q cap F w _ h hc hF (fun _ _ hb => ⟨rfl, hb⟩) (fun n => absurd n hP)
end Go.Proofs.YtofmilkjhnkgjaaGreat
namespace Go.Proofs.YtofmilkjhnkgjaaGreat
open Go.RowKit Go.Sort
set_option maxRecDepth 100000
set_option maxHeartbeats 2000000

/-! The reference's intents. -/
/-- RightIntent. -/
theorem rrightI (s g : Int) (A : Option Addr) (n cap : Nat) (w : World) (t : Bool) (ht : t = true ↔ OkJ s g n) :
    Calls Tryz.prog 80 #[iv s g A n cap] w fun e w' => e = .returned (.bool t) ∧ Below w.heap.size w w' := by
  have HB : Hid (Below w.heap.size w (w.alloc (.cells #[.int .i64 s, .int .i64 g, .slice A n cap] 78))) := Lib.hid ((Below.refl _ _).alloc (Nat.le_refl _) _)
  unfold OkJ at ht
  unfold iv
  have walk : True := trivial
  by_cases h0 : 0 ≤ s
  · have p0 := h0
    by_cases h1 : s < 40
    · have p1 := h1
      by_cases h2 : 1 ≤ g
      · have p2 := h2
        by_cases h3 : g ≤ 1099511627776
        · have p3 := h3
          by_cases h4 : (n : Int) = 128
          · have p5 : ((n : Int) == 128) = true := beq_iff_eq.2 h4
            obtain rfl : t = true := ht.2 (by refine ⟨h0, h1, h2, h3, by omega⟩)
            clear ht h0 h1 h2 h3 h4
            go_enter Tryz.func80, Tryz.ntmps80
            go_wp2_with fail
            go_ret
            exact ⟨rfl, HB.out⟩
          · obtain rfl : t = false := not_true ht (fun h => by omega)
            have p5 : ((n : Int) == 128) = false := beq_eq_false_iff_ne.2 h4
            clear ht h0 h1 h2 h3 h4
            go_enter Tryz.func80, Tryz.ntmps80
            go_wp2_with fail
            go_ret
            exact ⟨rfl, HB.out⟩
        · obtain rfl : t = false := not_true ht (fun h => by omega)
          clear ht h0 h1 h2
          go_enter Tryz.func80, Tryz.ntmps80
          go_wp2_with fail
          go_ret
          exact ⟨rfl, HB.out⟩
      · obtain rfl : t = false := not_true ht (fun h => by omega)
        clear ht h0 h1
        go_enter Tryz.func80, Tryz.ntmps80
        go_wp2_with fail
        go_ret
        exact ⟨rfl, HB.out⟩
    · obtain rfl : t = false := not_true ht (fun h => by omega)
      clear ht h0
      go_enter Tryz.func80, Tryz.ntmps80
      go_wp2_with fail
      go_ret
      exact ⟨rfl, HB.out⟩
  · obtain rfl : t = false := not_true ht (fun h => by omega)
    clear ht 
    go_enter Tryz.func80, Tryz.ntmps80
    go_wp2_with fail
    go_ret
    exact ⟨rfl, HB.out⟩
/-- SameIntent. -/
theorem rsameI (s g s' g' : Int) (A A' : Option Addr) (n c n' c' : Nat) (D D' : Nat → Nat) (w : World) (h1 : Rd w A n D) (h2 : Rd w A' n' D') (b1 : ∀ j, j < n → D j < 256) (b2 : ∀ j, j < n' → D' j < 256)
    (t : Bool) (ht : t = true ↔ s = s' ∧ g = g' ∧ n = n' ∧ ∀ j, j < n → D j = D' j) :
    Calls Tryz.prog 56 #[iv s g A n c, iv s' g' A' n' c'] w fun e w' => e = .returned (.bool t) ∧ Below w.heap.size w w' := by
  have HT := Lib.hid ht
  obtain ⟨w1, hw1⟩ : ∃ w1, (w.alloc (.cells #[.int .i64 s, .int .i64 g, .slice A n c] 78)).alloc (.cells #[.int .i64 s', .int .i64 g', .slice A' n' c'] 78) = w1 := ⟨_, rfl⟩
  have HB1 : Hid (Below w.heap.size w w1) := Lib.hid (by rw [← hw1]; exact ((Below.refl _ _).alloc (Nat.le_refl _) _).alloc (by simp) _)
  have HW1 := Lib.hid hw1
  have v1 := conv_rd (cap := c) (h1.keep HB1.out)
  have v2 := conv_rd (cap := c') (h2.keep HB1.out)
  have HST := Lib.hid (str_eq b1 b2)
  generalize strOf ((List.range n).map D) = s1 at *
  generalize strOf ((List.range n').map D') = s2 at *
  rw [← hw1] at v1 v2
  clear ht h1 h2 b1 b2 hw1
  unfold iv
  by_cases hs : s = s'
  · have e1 : (s == s') = true := beq_iff_eq.2 hs
    have HS := Lib.hid hs
    clear hs
    by_cases hg : g = g'
    · have e2 : (g == g') = true := beq_iff_eq.2 hg
      have HG := Lib.hid hg
      clear hg
      have e4 : (s1.toList == s2.toList) = t := by
        cases ht' : t with
        | true => exact beq_iff_eq.2 (HST.out.2 (HT.out.1 ht').2.2)
        | false => exact beq_eq_false_iff_ne.2 (fun e => by have := HT.out.2 ⟨HS.out, HG.out, HST.out.1 e⟩; rw [ht'] at this; cases this)
      go_enter Tryz.func56, Tryz.ntmps56
      go_wp2_with fail
      go_ret
      rw [HW1.out]
      exact ⟨rfl, HB1.out⟩
    · have e2 : (g == g') = false := beq_eq_false_iff_ne.2 hg
      obtain rfl : t = false := not_true HT.out (fun h => hg h.2.1)
      clear hg
      go_enter Tryz.func56, Tryz.ntmps56
      go_wp2_with fail
      go_ret
      rw [HW1.out]
      exact ⟨rfl, HB1.out⟩
  · have e1 : (s == s') = false := beq_eq_false_iff_ne.2 hs
    obtain rfl : t = false := not_true HT.out (fun h => hs h.1)
    clear hs
    go_enter Tryz.func56, Tryz.ntmps56
    go_wp2_with fail
    go_ret
    rw [HW1.out]
    exact ⟨rfl, HB1.out⟩

theorem rsameIV {w : World} {v v' : Value} {x y : It} (h : ItV w v x) (h' : ItV w v' y) (hx : ∀ j, j < 128 → x.D j < 256) (hy : ∀ j, j < 128 → y.D j < 256) (t : Bool) (ht : t = true ↔ x.Alike y) :
    Calls Tryz.prog 56 #[v, v'] w fun e w' => e = .returned (.bool t) ∧ Below w.heap.size w w' := by
  obtain ⟨A, c, rfl, d⟩ := h
  obtain ⟨A', c', rfl, d'⟩ := h'
  refine rsameI _ _ _ _ A A' 128 c 128 c' x.D y.D w d.rd d'.rd hx hy t ⟨fun h => ?_, fun h => ht.2 ⟨by omega, by omega, h.2.2.2⟩⟩
  obtain ⟨a, b, e⟩ := ht.1 h
  exact ⟨by omega, by omega, rfl, e⟩
/-- LayIntent. -/
def RILay (no : Nat) (x : It) (w : World) (e : Ending) (w' : World) : Prop := ∃ g cap, e = .returned (.slice (some ⟨g, 0, none⟩) 160 cap) ∧ Blk8 w' g 160 (itS no x) ∧ Below w.heap.size w w' ∧ 160 ≤ cap ∧ w.heap.size ≤ g
theorem rlayI (no : Nat) (x : It) (A : Option Addr) (cap : Nat) (w : World) (hx : x.Ok) (h : Rd w A 128 x.D) :
    Calls Tryz.prog 81 #[.int .i64 (no : Int), iv (x.s : Int) (x.g : Int) A 128 cap] w (RILay no x w) := by
  obtain ⟨w1, hw1⟩ : ∃ w1, w.alloc (.cells #[.int .i64 (x.s : Int), .int .i64 (x.g : Int), .slice A 128 cap] 78) = w1 := ⟨_, rfl⟩
  obtain ⟨H, hH⟩ : ∃ H, w.heap.size = H := ⟨_, rfl⟩
  have HH := Lib.hid hH
  have HW1 := Lib.hid hw1
  have HK1 : Hid (IV w1 H (x.s : Int) (x.g : Int) A 128 cap) := Lib.hid (by rw [← hw1]; exact IV.of_new hH)
  have hb1 : Below H w w1 := by rw [← hw1, ← hH]; exact (Below.refl _ _).alloc (Nat.le_refl _) _
  have HB1 := Lib.hid hb1
  have HR1 : Hid (Rd w1 A 128 x.D) := Lib.hid (h.keep (by rw [hH]; exact hb1))
  have HLT := Lib.hid (itF_lt (no := no) hx)
  have HF : Hid (∀ j, j < 141 → itF no x j = if j < 6 + 1 + 6 then (if j < 6 + 1 then (if j < 6 then byteAt no 6 j else byteAt x.s 1 (j - 6)) else byteAt x.g 6 (j - (6 + 1))) else x.D (j - (6 + 1 + 6))) := Lib.hid (by
    obtain ⟨o1, o2, o3, o4⟩ := hx
    intro j hj
    unfold itF
    by_cases e0 : j < 6
    · rw [if_pos e0, if_pos (by omega), if_pos (by omega), if_pos e0]
    · rw [if_neg e0]
      by_cases e1 : j = 6
      · subst e1; rw [if_pos rfl, if_pos (by omega), if_pos (by omega), if_neg (by omega)]; exact (byte1 x.s (by omega)).symm
      · rw [if_neg e1]
        by_cases e2 : j < 13
        · rw [if_pos e2, if_pos (by omega), if_neg (by omega)]
        · rw [if_neg e2, if_neg (by omega)])
  obtain ⟨base, hbase⟩ : ∃ base, w1.heap.size = base := ⟨_, rfl⟩
  have HBS := Lib.hid hbase
  have HHB : Hid (H < base) := Lib.hid (by rw [← hbase]; exact HK1.out.lt)
  have BD : Hid (Below base w1 w1.drew) := Lib.hid (by rw [← hbase]; exact below_drewN 1 w1)
  have BZ : Hid (base ≤ w1.drew.heap.size) := Lib.hid (by rw [← hbase]; exact Nat.le_refl _)
  clear hw1 hH hb1 h hx hbase
  have c0 : w1.drew.cell? ⟨H, 0, none⟩ = some (.int .i64 (x.s : Int)) := HK1.out.c0
  unfold iv
  go_enter Tryz.func81, Tryz.ntmps81
  go_wp2_with fail
  rw [HW1.out, HH.out]
  go_region_law (first
    | (refine step_append_rd _ rfl (.tmp 9) (.tmp 12) 35 rfl Tryz.underlying35 base (.slice (some ⟨g2, 0, none⟩) 6 k2) 6 (byteAt no 6) rfl HO3'.out (some ⟨g3, 0, none⟩) 1 k3 (byteAt x.s 1) rfl (own_rd HO3.out) (by omega) HZ3.out ?_; intro v4 w4 own4 gr4 _ hne4; have HO4 := Lib.hid own4; have HB4 : Hid (Below base w1 w4) := Lib.hid (Below.grown HB3.out gr4 HZ3.out (fun k hk => by cases hk; exact HG2.out)); have HZ4 : Hid (base ≤ w4.heap.size) := Lib.hid (Nat.le_trans HZ3.out gr4.size); have HN4 : Hid (v4 ≠ .slice none 0 0) := Lib.hid (hne4 (by simp)); clear own4 gr4 hne4)
    | (go_simp; go_at_call 99; (with_reducible refine (rbigB no 6 6 rfl _ (by omega) (by omega) BD.out BZ.out).mono ?_); rintro e w2 ⟨g2, k2, rfl, ho2, hb2, hh2, hz2⟩; (try dsimp only); have HO2 := Lib.hid ho2; have HB2 := Lib.hid hb2; have HZ2 := Lib.hid hz2; have d1 := ((HK1.out.below (by rw [HBS.out]; exact hb2)).c0); clear ho2 hb2 hh2 hz2)
    | (go_simp; go_at_call 99; (with_reducible refine (rbigB x.s 1 1 rfl _ (by omega) (by omega) HB2.out HZ2.out).mono ?_); rintro e w3 ⟨g3, k3, rfl, ho3, hb3, hh3, hz3⟩; (try dsimp only); have HO3 := Lib.hid ho3; have HB3 := Lib.hid hb3; have HZ3 := Lib.hid hz3; have HO3' := Lib.hid (own_keep HO2.out hh3); have HG2 : Hid (base ≤ g2) := Lib.hid (own_ge' HO2.out g2 rfl); clear ho3 hb3 hh3 hz3))
  all_goals
    have HK4 : Hid (IV w4 H (x.s : Int) (x.g : Int) A 128 cap) := Lib.hid (HK1.out.below (by rw [HBS.out]; exact HB4.out))
    have e1 := HK4.out.c1
    have HBG := Lib.hid (rbigB x.g 6 6 rfl w4 (by omega) (by omega) HB4.out HZ4.out)
    go_wp2_with fail
    refine HBG.out.mono ?_
    rintro e w5 ⟨g5, k5, rfl, ho5, hb5, hh5, hz5⟩
    try dsimp only
    have HO5 := Lib.hid ho5
    have HB5 := Lib.hid hb5
    have HZ5 := Lib.hid hz5
    have HO5' := Lib.hid (own_keep HO4.out hh5)
    clear ho5 hb5 hh5 hz5 e1
    go_wp2_with (first
      | (at_builtin; refine append_rd _ rfl (.tmp 14) (.tmp 17) 35 rfl Tryz.underlying35 base v4 (6 + 1) _ rfl HO5'.out (some ⟨g5, 0, none⟩) 6 k5 (byteAt x.g 6) rfl (own_rd HO5.out) (by omega) HZ5.out ?_; intro v6 w6 own6 gr6 _ hne6; have HO6 := Lib.hid own6; have HB6 : Hid (Below base w1 w6) := Lib.hid (Below.grown HB5.out gr6 HZ5.out (own_ge' HO5'.out)); have HZ6 : Hid (base ≤ w6.heap.size) := Lib.hid (Nat.le_trans HZ5.out gr6.size); have HN6 := Lib.hid (hne6 HN4.out); have e2 := (HK1.out.below (by rw [HBS.out]; exact HB6.out)).c2; have HR6 : Hid (Rd w6 A 128 x.D) := Lib.hid (HR1.out.keep (by rw [HBS.out]; exact HB6.out)); clear own6 gr6 hne6)
      | (at_builtin; refine append_rd _ rfl (.tmp 20) (.tmp 22) 35 rfl Tryz.underlying35 base v6 (6 + 1 + 6) _ rfl HO6.out A 128 cap x.D rfl HR6.out (by omega) HZ6.out ?_; intro v7 w7 own7 gr7 _ hne7; have HB7 : Hid (Below base w1 w7) := Lib.hid (Below.grown HB6.out gr7 HZ6.out (own_ge' HO6.out)); have HZ7 : Hid (base ≤ w7.heap.size) := Lib.hid (Nat.le_trans HZ6.out gr7.size); obtain ⟨g7, k7, hv7, _, _, _⟩ := own_some own7 (hne7 HN6.out); subst hv7; have HSE := Lib.hid (rsealB 2 141 k7 (some ⟨g7, 0, none⟩) (itF no x) w7 (by omega) (by omega) (by omega) (own_rd (own_congr own7 (fun j hj => (HF.out j hj).symm))) HLT.out); clear own7 gr7 hne7))
    refine HSE.out.mono ?_
    rintro e w8 ⟨g8, k8, rfl, hr8, hb8, hc8, hg8⟩
    try dsimp only
    have HR8 := Lib.hid hr8
    have HB8 : Hid (Below base w1 w8) := Lib.hid (HB7.out.trans (hb8.mono HZ7.out))
    clear hr8 hb8
    go_wp2_with fail
    go_ret
    exact ⟨g8, k8, rfl, by unfold itS; exact HR8.out, by rw [HH.out]; exact HB1.out.trans (HB8.out.mono (Nat.le_of_lt HHB.out)), hc8, by rw [HH.out]; have := HZ7.out; have := HHB.out; omega⟩
end Go.Proofs.YtofmilkjhnkgjaaGreat
