import Derived.Test.YtoofgcdilgfclaaU27
import Derived.Test.YtoofgcdilgfclaaU31
namespace Go.Proofs.Ytoofgcdilgfclaa
open Go.RowKit Go.Sort
set_option maxRecDepth 100000
set_option maxHeartbeats 2000000

/-! Rows of bytes of one's own, as lists. -/
def OwnL (w : World) (B : Nat) (v : Value) (L : List Nat) : Prop := w.ownsRow B 5 1 v L.length (rowL L.length (gt L))
theorem OwnL.app {w : World} {B n m : Nat} {v : Value} {F G : Nat → Nat} {L M : List Nat} (hn : L.length = n) (hm : M.length = m) (hF : F = gt L) (hG : G = gt M) (h : w.ownsRow B 5 1 v (n + m) (rowL (n + m) (fun j => if j < n then F j else G (j - n)))) : OwnL w B v (L ++ M) := by
  subst hn hm hF hG
  unfold OwnL
  rw [List.length_append]
  exact own_congr h (fun j _ => (gt_app L M j).symm)
theorem OwnL.keep {w w' : World} {B : Nat} {v : Value} {L : List Nat} (h : OwnL w B v L) (b : Below w.heap.size w w') : OwnL w' B v L := own_keep h b
theorem OwnL.mono {w : World} {B B' : Nat} {v : Value} {L : List Nat} (h : OwnL w B v L) (hb : B' ≤ B) : OwnL w B' v L := by
  refine ⟨h.1, ?_⟩
  rcases h.2 with h0 | ⟨g', cap', cur, e1, hg, r⟩
  · exact Or.inl h0
  · exact Or.inr ⟨g', cap', cur, e1, Nat.le_trans hb hg, r⟩
theorem OwnL.some_ {w : World} {B : Nat} {v : Value} {L : List Nat} (h : OwnL w B v L) (hv : v ≠ .slice none 0 0) : ∃ g cap, v = .slice (some ⟨g, 0, none⟩) L.length cap ∧ Blk8 w g L.length (gt L) ∧ B ≤ g ∧ g < w.heap.size ∧ L.length ≤ cap := by
  obtain ⟨g, cap, rfl, h1, h2, h3⟩ := own_some h hv
  exact ⟨g, cap, rfl, own_blk h, h1, h2, h3⟩
theorem OwnL.of {w : World} {B n : Nat} {v : Value} {F : Nat → Nat} {L : List Nat} (h : w.ownsRow B 5 1 v n (rowL n F)) (hn : L.length = n) (hF : ∀ j, j < n → F j = gt L j) : OwnL w B v L := by
  subst hn
  exact own_congr h hF
theorem append_L {base : Nat} {w0 : World} (w : World) {ops : Array Oper} {rest : List Oper} {o : Oper} {a : Act} {Q : Exit → Act → World → Prop} (hgd : o.guard = none) (s x : Operand) (t : TypeId)
    (ho : o.op = .call { callee := .builtin .append, args := #[s, x], argTypes := #[t, t] }) (ht : Try.prog.underlying t = some (.slice 5))
    (v : Value) (L : List Nat) (hs : a.eval s = v) (hown : OwnL w base v L) (A : Option Addr) (m c : Nat) (M : List Nat) (hx : a.eval x = .slice A m c) (hm : M.length = m) (hr : BL w A M)
    (hbytes : L.length + m ≤ 1000000) (hb : Below base w0 w) (hbase : base ≤ w.heap.size)
    (h : ∀ v' w', OwnL w' base v' (L ++ M) → Below base w0 w' → base ≤ w'.heap.size → (v ≠ .slice none 0 0 → v' ≠ .slice none 0 0) → wpList Try.prog ops Q rest (a.put o.dst v') w') : wpList Try.prog ops Q (o :: rest) a w := by
  subst hm
  refine append_rd w hgd s x t ho ht base v L.length (gt L) hs hown A M.length c (gt M) hx hr.rd (by omega) hbase ?_
  intro v' w' own gr _ hne
  exact h v' w' (OwnL.app rfl rfl rfl rfl own) (Below.grown hb gr hbase (own_ge' hown)) (Nat.le_trans hbase gr.size) hne
theorem step_append_L {base : Nat} {w0 : World} (w : World) {ops : Array Oper} {o : Oper} {a : Act} {K : Act → World → Prop} {Q : Exit → Act → World → Prop} {E : Prop} (hgd : o.guard = none) (s x : Operand) (t : TypeId)
    (ho : o.op = .call { callee := .builtin .append, args := #[s, x], argTypes := #[t, t] }) (ht : Try.prog.underlying t = some (.slice 5))
    (v : Value) (L : List Nat) (hs : a.eval s = v) (hown : OwnL w base v L) (A : Option Addr) (m c : Nat) (M : List Nat) (hx : a.eval x = .slice A m c) (hm : M.length = m) (hr : BL w A M)
    (hbytes : L.length + m ≤ 1000000) (hb : Below base w0 w) (hbase : base ≤ w.heap.size)
    (h : ∀ v' w', OwnL w' base v' (L ++ M) → Below base w0 w' → base ≤ w'.heap.size → (v ≠ .slice none 0 0 → v' ≠ .slice none 0 0) → K (a.put o.dst v') w') : if Region.wanted o (yielded ops a.tmps) = true then Oper.wp Try.prog o a w K Q else E := by
  subst hm
  refine step_append_rd w hgd s x t ho ht base v L.length (gt L) hs hown A M.length c (gt M) hx hr.rd (by omega) hbase ?_
  intro v' w' own gr _ hne
  exact h v' w' (OwnL.app rfl rfl rfl rfl own) (Below.grown hb gr hbase (own_ge' hown)) (Nat.le_trans hbase gr.size) hne
/-- Big, behind a base. -/
theorem rbigL {B : Nat} {w0 : World} (x m : Nat) (s : Int) (hs : s = (m : Int)) (w : World) (h1 : 1 ≤ m) (hm : m ≤ 7) (hB : Below B w0 w) (hl : B ≤ w.heap.size) : Calls Try.prog 43 #[.int .i64 (x : Int), .int .i64 s] w fun e w' => ∃ g cap, e = .returned (.slice (some ⟨g, 0, none⟩) m cap) ∧ OwnL w' B (.slice (some ⟨g, 0, none⟩) m cap) (byteL x m) ∧ BL w' (some ⟨g, 0, none⟩) (byteL x m) ∧ Below B w0 w' ∧ Below w.heap.size w w' ∧ B ≤ w'.heap.size :=
  (rbigB x m s hs w h1 hm hB hl).mono (by
    rintro e w' ⟨g, cap, rfl, ho, hb, hb2, hz⟩
    exact ⟨g, cap, rfl, OwnL.of ho (byteL_len x m) (fun _ hj => (gt_byteL hj).symm), BL.own ho (byteL_len x m) (fun _ hj => (gt_byteL hj).symm), hb, hb2, hz⟩)
/-- The text that bytes are. -/
theorem conv_L {w : World} {A : Option Addr} {L : List Nat} (c : Nat) (h : BL w A L) : Sem.run Try.prog (convert 22 9 (.slice A L.length c)) w = .ok (.string (strOf L)) w := by
  have := conv_rd (cap := c) h.rd
  rwa [range_gt] at this
theorem str_eqL {L M : List Nat} (hL : By L) (hM : By M) : (strOf L).toList = (strOf M).toList ↔ L = M := ⟨fun e => strOf_inj hL hM e, fun e => by rw [e]⟩
/-- RightReq. -/
theorem rrightReq (k s g i : Int) (A : Option Addr) (n cap : Nat) (w : World) (t : Bool) (ht : t = true ↔ OkQ k s g i n) :
    Calls Try.prog 17 #[rqv k s g i A n cap] w fun e w' => e = .returned (.bool t) ∧ Below w.heap.size w w' := by
  have HB : Hid (Below w.heap.size w (w.alloc (.cells #[.int .i64 k, .int .i64 s, .int .i64 g, .int .i64 i, .slice A n cap] 27))) := Lib.hid ((Below.refl _ _).alloc (Nat.le_refl _) _)
  unfold OkQ at ht
  unfold rqv
  by_cases h0 : 1 ≤ k
  · by_cases h1 : k ≤ 6
    · by_cases h2 : 0 ≤ s
      · by_cases h3 : s ≤ 65535
        · by_cases h4 : 0 ≤ g
          · by_cases h5 : g ≤ 1099511627776
            · by_cases h6 : 0 ≤ i
              · by_cases h7 : i ≤ 255
                · have e5 : decide ((n : Int) ≤ 128) = t := by
                    cases t with
                    | true => exact decide_eq_true (by have := ht.1 rfl; omega)
                    | false => refine decide_eq_false (fun h => ?_); have := ht.2 (by omega); cases this
                  clear ht
                  go_enter Try.func17, Try.ntmps17
                  go_wp2_with fail
                  go_ret
                  exact ⟨rfl, HB.out⟩
                · obtain rfl : t = false := not_true ht (fun h => by omega)
                  clear ht
                  go_enter Try.func17, Try.ntmps17
                  go_wp2_with fail
                  go_ret
                  exact ⟨rfl, HB.out⟩
              · obtain rfl : t = false := not_true ht (fun h => by omega)
                clear ht
                go_enter Try.func17, Try.ntmps17
                go_wp2_with fail
                go_ret
                exact ⟨rfl, HB.out⟩
            · obtain rfl : t = false := not_true ht (fun h => by omega)
              clear ht
              go_enter Try.func17, Try.ntmps17
              go_wp2_with fail
              go_ret
              exact ⟨rfl, HB.out⟩
          · obtain rfl : t = false := not_true ht (fun h => by omega)
            clear ht
            go_enter Try.func17, Try.ntmps17
            go_wp2_with fail
            go_ret
            exact ⟨rfl, HB.out⟩
        · obtain rfl : t = false := not_true ht (fun h => by omega)
          clear ht
          go_enter Try.func17, Try.ntmps17
          go_wp2_with fail
          go_ret
          exact ⟨rfl, HB.out⟩
      · obtain rfl : t = false := not_true ht (fun h => by omega)
        clear ht
        go_enter Try.func17, Try.ntmps17
        go_wp2_with fail
        go_ret
        exact ⟨rfl, HB.out⟩
    · obtain rfl : t = false := not_true ht (fun h => by omega)
      clear ht
      go_enter Try.func17, Try.ntmps17
      go_wp2_with fail
      go_ret
      exact ⟨rfl, HB.out⟩
  · obtain rfl : t = false := not_true ht (fun h => by omega)
    clear ht
    go_enter Try.func17, Try.ntmps17
    go_wp2_with fail
    go_ret
    exact ⟨rfl, HB.out⟩
/-- SameReq. -/
theorem rsameReq {w : World} {v v' : Value} {q q' : Qx} (h : QVal w v q) (h' : QVal w v' q') (t : Bool) (ht : t = true ↔ q = q') :
    Calls Try.prog 22 #[v, v'] w fun e w' => e = .returned (.bool t) ∧ Below w.heap.size w w' := by
  obtain ⟨A, c, rfl, h1, b1⟩ := h
  obtain ⟨A', c', rfl, h2, b2⟩ := h'
  obtain ⟨k, s, g, i, D⟩ := q
  obtain ⟨k', s', g', i', D'⟩ := q'
  simp only [Qx.mk.injEq] at ht
  dsimp only at h1 h2 b1 b2 ⊢
  obtain ⟨w1, hw1⟩ : ∃ w1, (w.alloc (.cells #[.int .i64 k, .int .i64 s, .int .i64 g, .int .i64 i, .slice A D.length c] 27)).alloc (.cells #[.int .i64 k', .int .i64 s', .int .i64 g', .int .i64 i', .slice A' D'.length c'] 27) = w1 := ⟨_, rfl⟩
  have HB1 : Hid (Below w.heap.size w w1) := Lib.hid (by rw [← hw1]; exact ((Below.refl _ _).alloc (Nat.le_refl _) _).alloc (by simp) _)
  have HW1 := Lib.hid hw1
  have v1 := conv_L c (h1.below HB1.out)
  have v2 := conv_L c' (h2.below HB1.out)
  have HST := Lib.hid (str_eqL b1 b2)
  have HT := Lib.hid ht
  generalize strOf D = s1 at *
  generalize strOf D' = s2 at *
  generalize D.length = n at *
  generalize D'.length = n' at *
  rw [← hw1] at v1 v2
  clear ht h1 h2 b1 b2 hw1
  unfold rqv
  by_cases hk : k = k'
  · have ek : (k == k') = true := beq_iff_eq.2 hk
    have Hk := Lib.hid hk
    clear hk
    by_cases hs : s = s'
    · have es : (s == s') = true := beq_iff_eq.2 hs
      have Hs := Lib.hid hs
      clear hs
      by_cases hg : g = g'
      · have eg : (g == g') = true := beq_iff_eq.2 hg
        have Hg := Lib.hid hg
        clear hg
        by_cases hi : i = i'
        · have ei : (i == i') = true := beq_iff_eq.2 hi
          have Hi := Lib.hid hi
          clear hi
          have e9 : (s1.toList == s2.toList) = t := by
            cases t with
            | true => exact beq_iff_eq.2 (HST.out.2 (HT.out.1 rfl).2.2.2.2)
            | false => exact beq_eq_false_iff_ne.2 (fun e => by have := HT.out.2 ⟨Hk.out, Hs.out, Hg.out, Hi.out, HST.out.1 e⟩; cases this)
          go_enter Try.func22, Try.ntmps22
          go_wp2_with fail
          go_ret
          rw [HW1.out]
          exact ⟨rfl, HB1.out⟩
        · have ei : (i == i') = false := beq_eq_false_iff_ne.2 hi
          obtain rfl : t = false := not_true HT.out (fun h => hi h.2.2.2.1)
          clear hi
          go_enter Try.func22, Try.ntmps22
          go_wp2_with fail
          go_ret
          rw [HW1.out]
          exact ⟨rfl, HB1.out⟩
      · have eg : (g == g') = false := beq_eq_false_iff_ne.2 hg
        obtain rfl : t = false := not_true HT.out (fun h => hg h.2.2.1)
        clear hg
        go_enter Try.func22, Try.ntmps22
        go_wp2_with fail
        go_ret
        rw [HW1.out]
        exact ⟨rfl, HB1.out⟩
    · have es : (s == s') = false := beq_eq_false_iff_ne.2 hs
      obtain rfl : t = false := not_true HT.out (fun h => hs h.2.1)
      clear hs
      go_enter Try.func22, Try.ntmps22
      go_wp2_with fail
      go_ret
      rw [HW1.out]
      exact ⟨rfl, HB1.out⟩
  · have ek : (k == k') = false := beq_eq_false_iff_ne.2 hk
    obtain rfl : t = false := not_true HT.out (fun h => hk h.1)
    clear hk
    go_enter Try.func22, Try.ntmps22
    go_wp2_with fail
    go_ret
    rw [HW1.out]
    exact ⟨rfl, HB1.out⟩
/-- LayReq. -/
theorem rlayReq (k s g i : Nat) (D : List Nat) (A : Option Addr) (c : Nat) (w : World) (hn : D.length ≤ 128) (h : BL w A D) :
    Calls Try.prog 18 #[rqv (k : Int) (s : Int) (g : Int) (i : Int) A D.length c] w (CatRet (byteL k 1 ++ byteL s 2 ++ byteL g 6 ++ byteL i 1 ++ byteL D.length 2 ++ D) w) := by
  obtain ⟨w1, hw1⟩ : ∃ w1, w.alloc (.cells #[.int .i64 (k : Int), .int .i64 (s : Int), .int .i64 (g : Int), .int .i64 (i : Int), .slice A D.length c] 27) = w1 := ⟨_, rfl⟩
  obtain ⟨H, hH⟩ : ∃ H, w.heap.size = H := ⟨_, rfl⟩
  have HH := Lib.hid hH
  have HW1 := Lib.hid hw1
  have hv : QV w1 H (k : Int) (s : Int) (g : Int) (i : Int) A D.length c := by rw [← hw1]; exact QV.of_new hH
  have hb1 : Below H w w1 := by rw [← hw1, ← hH]; exact (Below.refl _ _).alloc (Nat.le_refl _) _
  have HK1 := Lib.hid hv
  have HB1 := Lib.hid hb1
  have HD1 : Hid (BL w1 A D) := Lib.hid (h.below (by rw [hH]; exact hb1))
  obtain ⟨base, hbase⟩ : ∃ base, w1.heap.size = base := ⟨_, rfl⟩
  have HBS := Lib.hid hbase
  have HHB : Hid (H < base) := Lib.hid (by rw [← hbase]; exact hv.lt)
  have BD : Hid (Below base w1 w1.drew) := Lib.hid (by rw [← hbase]; exact below_drewN 1 w1)
  have BZ : Hid (base ≤ w1.drew.heap.size) := Lib.hid (by rw [← hbase]; exact Nat.le_refl _)
  have HQ : Hid (∀ W, Below base w1 W → QV W H (k : Int) (s : Int) (g : Int) (i : Int) A D.length c ∧ BL W A D) := Lib.hid (fun W hW => ⟨HK1.out.below (by rw [HBS.out]; exact hW), HD1.out.below (by rw [HBS.out]; exact hW)⟩)
  obtain ⟨n, hn'⟩ : ∃ n, D.length = n := ⟨_, rfl⟩
  have HN := Lib.hid hn'
  rw [hn'] at HK1 HQ HW1 hn ⊢
  clear hw1 hH hb1 h hbase hv hn'
  have c0 : w1.drew.cell? ⟨H, 0, none⟩ = some (.int .i64 (k : Int)) := HK1.out.c0
  have c1 : w1.drew.cell? ⟨H, 1, none⟩ = some (.int .i64 (s : Int)) := HK1.out.c1
  unfold rqv
  go_enter Try.func18, Try.ntmps18
  go_wp2_with fail
  rw [HW1.out, HH.out]
  go_region_law (first
    | (refine step_append_L _ rfl (.tmp 6) (.tmp 9) 22 rfl Try.underlying22 (.slice (some ⟨g2, 0, none⟩) 1 k2) (byteL k 1) rfl HO2'.out (some ⟨g3, 0, none⟩) 2 k3 (byteL s 2) rfl (byteL_len s 2) HL3.out (by rw [byteL_len]; omega) HB3.out HZ3.out ?_; intro v4 w4 own4 hb4 hz4 hne4; have HO4 := Lib.hid own4; have HB4 := Lib.hid hb4; have HZ4 := Lib.hid hz4; have HN4 : Hid (v4 ≠ .slice none 0 0) := Lib.hid (hne4 (by simp)); clear own4 hb4 hz4 hne4)
    | (go_simp; go_at_call 43; (with_reducible refine (rbigL k 1 1 rfl _ (by omega) (by omega) BD.out BZ.out).mono ?_); rintro e w2 ⟨g2, k2, rfl, ho2, hl2, hb2, hh2, hz2⟩; (try dsimp only); have HO2 := Lib.hid ho2; have HB2 := Lib.hid hb2; have HZ2 := Lib.hid hz2; have d1 := (HQ.out _ hb2).1.c1; clear ho2 hl2 hb2 hh2 hz2)
    | (go_simp; go_at_call 43; (with_reducible refine (rbigL s 2 2 rfl _ (by omega) (by omega) HB2.out HZ2.out).mono ?_); rintro e w3 ⟨g3, k3, rfl, ho3, hl3, hb3, hh3, hz3⟩; (try dsimp only); have HL3 := Lib.hid hl3; have HB3 := Lib.hid hb3; have HZ3 := Lib.hid hz3; have HO2' := Lib.hid (HO2.out.keep hh3); clear ho3 hl3 hb3 hh3 hz3))
  all_goals
    clear c0 c1
    have q4 := HQ.out _ HB4.out
    have e2 := q4.1.c2
    have e3 := q4.1.c3
    have e4 := q4.1.c4
    clear q4
    go_wp2_with fail
    refine (rbigL g 6 6 rfl _ (by omega) (by omega) HB4.out HZ4.out).mono ?_
    rintro e w5 ⟨g5, k5, rfl, _, hl5, hb5, hh5, hz5⟩
    try dsimp only
    have HO5 := Lib.hid (HO4.out.keep hh5)
    have HL5 := Lib.hid hl5
    have HB5 := Lib.hid hb5
    have HZ5 := Lib.hid hz5
    clear e2 e3 e4 hl5 hb5 hh5 hz5
    go_wp2_with (at_builtin; refine append_L _ rfl (.tmp 11) (.tmp 14) 22 rfl Try.underlying22 v4 (byteL k 1 ++ byteL s 2) rfl HO5.out (some ⟨g5, 0, none⟩) 6 k5 (byteL g 6) rfl (byteL_len g 6) HL5.out (by simp only [List.length_append, byteL_len]; omega) HB5.out HZ5.out ?_; intro v6 w6 own6 hb6 hz6 hne6; have HO6 := Lib.hid own6; have HB6 := Lib.hid hb6; have HZ6 := Lib.hid hz6; have HN6 := Lib.hid (hne6 HN4.out); have q6 := HQ.out _ HB6.out; have e3 := q6.1.c3; have e4 := q6.1.c4; clear q6; clear own6 hb6 hz6 hne6)
    refine (rbigL i 1 1 rfl _ (by omega) (by omega) HB6.out HZ6.out).mono ?_
    rintro e w7 ⟨g7, k7, rfl, _, hl7, hb7, hh7, hz7⟩
    try dsimp only
    have HO7 := Lib.hid (HO6.out.keep hh7)
    have HL7 := Lib.hid hl7
    have HB7 := Lib.hid hb7
    have HZ7 := Lib.hid hz7
    clear e3 e4 hl7 hb7 hh7 hz7
    go_wp2_with (at_builtin; refine append_L _ rfl (.tmp 16) (.tmp 19) 22 rfl Try.underlying22 v6 (byteL k 1 ++ byteL s 2 ++ byteL g 6) rfl HO7.out (some ⟨g7, 0, none⟩) 1 k7 (byteL i 1) rfl (byteL_len i 1) HL7.out (by simp only [List.length_append, byteL_len]; omega) HB7.out HZ7.out ?_; intro v8 w8 own8 hb8 hz8 hne8; have HO8 := Lib.hid own8; have HB8 := Lib.hid hb8; have HZ8 := Lib.hid hz8; have HN8 := Lib.hid (hne8 HN6.out); have e4 := (HQ.out _ HB8.out).1.c4; clear own8 hb8 hz8 hne8)
    refine (rbigL n 2 2 rfl _ (by omega) (by omega) HB8.out HZ8.out).mono ?_
    rintro e w9 ⟨g9, k9, rfl, _, hl9, hb9, hh9, hz9⟩
    try dsimp only
    have HO9 := Lib.hid (HO8.out.keep hh9)
    have HL9 := Lib.hid hl9
    have HB9 := Lib.hid hb9
    have HZ9 := Lib.hid hz9
    clear e4 hl9 hb9 hh9 hz9
    go_wp2_with (first
      | (at_builtin; refine append_L _ rfl (.tmp 21) (.tmp 25) 22 rfl Try.underlying22 v8 (byteL k 1 ++ byteL s 2 ++ byteL g 6 ++ byteL i 1) rfl HO9.out (some ⟨g9, 0, none⟩) 2 k9 (byteL n 2) rfl (byteL_len n 2) HL9.out (by simp only [List.length_append, byteL_len]; omega) HB9.out HZ9.out ?_; intro va wa owna hba hza hnea; have HOa := Lib.hid owna; have HBa := Lib.hid hba; have HZa := Lib.hid hza; have HNa := Lib.hid (hnea HN8.out); have e4 := (HQ.out _ HBa.out).1.c4; have HDa := Lib.hid (HQ.out _ HBa.out).2; clear owna hba hza hnea)
      | (at_builtin; refine append_L _ rfl (.tmp 27) (.tmp 29) 22 rfl Try.underlying22 va (byteL k 1 ++ byteL s 2 ++ byteL g 6 ++ byteL i 1 ++ byteL n 2) rfl HOa.out A n c D rfl HN.out HDa.out (by simp only [List.length_append, byteL_len]; omega) HBa.out HZa.out ?_; intro vb wb ownb hbb hzb hneb; have HOb := Lib.hid ownb; have HBb := Lib.hid hbb; have HZb := Lib.hid hzb; have HNb := Lib.hid (hneb HNa.out); clear ownb hbb hzb hneb))
    go_ret
    obtain ⟨g0, c0, rfl, hk, hg, _, hcap⟩ := HOb.out.some_ HNb.out
    exact ⟨g0, c0, rfl, hk, by rw [HH.out]; exact HB1.out.trans (HBb.out.mono (Nat.le_of_lt HHB.out)), hcap, by rw [HH.out]; exact Nat.le_trans (Nat.le_of_lt HHB.out) hg⟩
end Go.Proofs.Ytoofgcdilgfclaa
