import Derived.Test.YtoofgcdilgfclaaU26
namespace Go.Proofs.Ytoofgcdilgfclaa
open Go.RowKit Go.Sort
set_option maxRecDepth 100000
set_option maxHeartbeats 2000000

/-- LayReq of one that may not be laid. -/
theorem clayReq_no (k s g i : Int) (A : Option Addr) (n c : Nat) (w : World) (h : ¬ OkQ k s g i n) :
    Calls Try.prog 8 #[rqv k s g i A n c] w fun e w' => e = .returned (.tuple #[.slice none 0 0, .int .i64 1]) ∧ Below w.heap.size w w' := by
  obtain ⟨w1, hw1⟩ : ∃ w1, w.alloc (.cells #[.int .i64 k, .int .i64 s, .int .i64 g, .int .i64 i, .slice A n c] 27) = w1 := ⟨_, rfl⟩
  have hb1 : Below w.heap.size w w1 := by rw [← hw1]; exact (Below.refl _ _).alloc (Nat.le_refl _) _
  have hq : QV w1 w.heap.size k s g i A n c := by rw [← hw1]; exact QV.of_new rfl
  have q0 := hq.c0
  have q1 := hq.c1
  have q2 := hq.c2
  have q3 := hq.c3
  have q4 := hq.c4
  have ql := hq.lt
  have HR := Lib.hid (crightReq k s g i A n c w1 false ⟨fun e => (by cases e), fun e => absurd e h⟩)
  have HW := Lib.hid hw1
  have HB1 := Lib.hid hb1
  clear hw1 hb1 h hq
  unfold rqv at HR ⊢
  go_enter Try.func8, Try.ntmps8
  go_wp2_with fail
  rw [HW.out]
  refine HR.out.mono ?_
  rintro e w2 ⟨rfl, hb2⟩
  try dsimp only
  go_wp2_with fail
  go_ret2
  exact ⟨rfl, HB1.out.trans (hb2.mono HB1.out.size)⟩

theorem bool_of (P : Prop) : ∃ z : Bool, z = true ↔ P := by
  by_cases h : P
  · exact ⟨true, iff_of_true rfl h⟩
  · exact ⟨false, iff_of_false (by simp) h⟩
/-! ReadReq: what is under way. -/
structure RQS (w0 : World) (H : Nat) (v : World) (k s g i : Int) (A : Option Addr) (n c : Nat) (D : List Nat) (st : St) : Prop where
  rd : RdS v (H + 1) st
  res : QV v H 0 0 0 0 none 0 0
  cur : QV v (H + 2) k s g i A n c
  dat : BL v A D
  len : n = D.length
  blw : Below H w0 v
section
variable {w0 v v' : World} {H n c : Nat} {k s g i : Int} {A : Option Addr} {D : List Nat} {st st' : St}
theorem RQS.ty (h : RQS w0 H v k s g i A n c D st) : ∃ cs, v.heap[H + 1]? = some (.cells cs 69 (0, 0)) := by
  obtain ⟨B, d, h1, _⟩ := h.rd
  exact ⟨_, h1⟩
theorem RQS.turn (h : RQS w0 H v k s g i A n c D st) (t : Turn [H + 1] v v') (hr : RdS v' (H + 1) st') : RQS w0 H v' k s g i A n c D st' := by
  obtain ⟨cs, hc⟩ := h.ty
  exact ⟨hr, h.res.keep (t.block H h.res.lt (by simp)), h.cur.keep (t.block (H + 2) h.cur.lt (by simp)), h.dat.turn hc (by decide) t, h.len, Below.of_turn h.blw t (by simp) (by have := h.res.lt; omega)⟩
theorem RQS.below (h : RQS w0 H v k s g i A n c D st) (b : Below v.heap.size v v') : RQS w0 H v' k s g i A n c D st :=
  ⟨h.rd.keep b, h.res.below b, h.cur.below b, h.dat.below b, h.len, h.blw.trans (b.mono (by have := h.res.lt; omega))⟩
theorem RQS.p0 (h : RQS w0 H v k s g i A n c D st) (y : Int) : RQS w0 H (v.setCell ⟨H + 2, 0, none⟩ (.int .i64 y)) y s g i A n c D st :=
  ⟨h.rd.set h.cur (by decide) (by decide), h.res.keep (set_other (by omega) _ _), h.cur.put0 y, h.dat.set h.cur (by decide), h.len, h.blw.setCell (by simp) _⟩
theorem RQS.p1 (h : RQS w0 H v k s g i A n c D st) (y : Int) : RQS w0 H (v.setCell ⟨H + 2, 1, none⟩ (.int .i64 y)) k y g i A n c D st :=
  ⟨h.rd.set h.cur (by decide) (by decide), h.res.keep (set_other (by omega) _ _), h.cur.put1 y, h.dat.set h.cur (by decide), h.len, h.blw.setCell (by simp) _⟩
theorem RQS.p2 (h : RQS w0 H v k s g i A n c D st) (y : Int) : RQS w0 H (v.setCell ⟨H + 2, 2, none⟩ (.int .i64 y)) k s y i A n c D st :=
  ⟨h.rd.set h.cur (by decide) (by decide), h.res.keep (set_other (by omega) _ _), h.cur.put2 y, h.dat.set h.cur (by decide), h.len, h.blw.setCell (by simp) _⟩
theorem RQS.p3 (h : RQS w0 H v k s g i A n c D st) (y : Int) : RQS w0 H (v.setCell ⟨H + 2, 3, none⟩ (.int .i64 y)) k s g y A n c D st :=
  ⟨h.rd.set h.cur (by decide) (by decide), h.res.keep (set_other (by omega) _ _), h.cur.put3 y, h.dat.set h.cur (by decide), h.len, h.blw.setCell (by simp) _⟩
theorem RQS.p4 (h : RQS w0 H v k s g i A n c D st) {B : Option Addr} {E : List Nat} (d : Nat) (hB : BL v B E) : RQS w0 H (v.setCell ⟨H + 2, 4, none⟩ (.slice B E.length d)) k s g i B E.length d E st :=
  ⟨h.rd.set h.cur (by decide) (by decide), h.res.keep (set_other (by omega) _ _), h.cur.put4 B E.length d, hB.set h.cur (by decide), rfl, h.blw.setCell (by simp) _⟩
end
/-- A request is told, or none. -/
def ReadQ (o : Option Qx) (w : World) (e : Ending) (w' : World) : Prop := ∃ v, e = .returned (.tuple #[v, .int .i64 (if o.isSome then 0 else 2)]) ∧ QVal w' v (o.getD Qx.no) ∧ Below w.heap.size w w'
theorem creadReq (A : Option Addr) (L : List Nat) (c : Nat) (w : World) (hL : BL w A L) (hc : L.length ≤ c) (hby : By L) (hl : L.length ≤ 140737488355328) :
    Calls Try.prog 9 #[.slice A L.length c] w (ReadQ (projQ L) w) := by
  obtain ⟨H, hH⟩ : ∃ H, w.heap.size = H := ⟨_, rfl⟩
  have HH := Lib.hid hH
  obtain ⟨w1, hw1⟩ : ∃ w1, ((w.alloc (.cells #[.int .i64 0, .int .i64 0, .int .i64 0, .int .i64 0, .slice none 0 0] 27)).alloc (.cells #[.slice A L.length c, .bool false] 69)).alloc (.cells #[.int .i64 0, .int .i64 0, .int .i64 0, .int .i64 0, .slice none 0 0] 27) = w1 := ⟨_, rfl⟩
  have HW1 := Lib.hid hw1
  have hb1 : Below H w w1 := by rw [← hw1, ← hH]; exact (((Below.refl _ _).alloc (Nat.le_refl _) _).alloc (by simp) _).alloc (by simp; omega) _
  have h1 : RQS w H w1 0 0 0 0 none 0 0 [] (L, false) := by
    refine ⟨⟨A, c, ?_, hc, hL.below (by rw [hH]; exact hb1), hby⟩, ?_, ?_, BL.nil, rfl, hb1⟩
    · rw [← hw1]
      unfold RdV
      rw [alloc_old _ _ (by simp; omega), ← hH]
      exact (by simpa using alloc_block (w.alloc (.cells #[.int .i64 0, .int .i64 0, .int .i64 0, .int .i64 0, .slice none 0 0] 27)) (.cells #[.slice A L.length c, .bool false] 69))
    · rw [← hw1]
      unfold QV
      rw [alloc_old _ _ (by simp; omega), alloc_old _ _ (by simp; omega)]
      exact QV.of_new hH
    · rw [← hw1]
      exact QV.of_new (by simp [hH])
  obtain ⟨a, ha⟩ : ∃ a, nx 1 (L, false) = a := ⟨_, rfl⟩
  obtain ⟨b, hb⟩ : ∃ b, nx 2 a.2 = b := ⟨_, rfl⟩
  obtain ⟨d, hd⟩ : ∃ d, nx 6 b.2 = d := ⟨_, rfl⟩
  obtain ⟨f, hf⟩ : ∃ f, nx 1 d.2 = f := ⟨_, rfl⟩
  obtain ⟨p, hp⟩ : ∃ p, nx 2 f.2 = p := ⟨_, rfl⟩
  obtain ⟨x, hx⟩ : ∃ x, nx (numL p.1) p.2 = x := ⟨_, rfl⟩
  have hA : a.2.1.length ≤ 140737488355328 := by rw [← ha]; exact Nat.le_trans (nx_len 1 (L, false)).2 hl
  have hB : b.2.1.length ≤ 140737488355328 := by rw [← hb]; exact Nat.le_trans (nx_len 2 a.2).2 hA
  have hD : d.2.1.length ≤ 140737488355328 := by rw [← hd]; exact Nat.le_trans (nx_len 6 b.2).2 hB
  have hF : f.2.1.length ≤ 140737488355328 := by rw [← hf]; exact Nat.le_trans (nx_len 1 d.2).2 hD
  have hP : p.2.1.length ≤ 140737488355328 := by rw [← hp]; exact Nat.le_trans (nx_len 2 f.2).2 hF
  have hPn : numL p.1 ≤ 1000000 := by
    have y : By p.1 := by
      rw [← hp]; refine (nx_by ?_).1
      rw [← hf]; refine (nx_by ?_).2
      rw [← hd]; refine (nx_by ?_).2
      rw [← hb]; refine (nx_by ?_).2
      rw [← ha]; exact (nx_by hby).2
    have y2 : p.1.length ≤ 2 := by rw [← hp]; exact (nx_len 2 f.2).1
    have y3 := numL_lt y
    have y4 : (256 : Nat) ^ p.1.length ≤ 256 ^ 2 := Nat.pow_le_pow_right (by decide) y2
    omega
  have hxby : By x.1 := by
    rw [← hx]; refine (nx_by ?_).1
    rw [← hp]; refine (nx_by ?_).2
    rw [← hf]; refine (nx_by ?_).2
    rw [← hd]; refine (nx_by ?_).2
    rw [← hb]; refine (nx_by ?_).2
    rw [← ha]; exact (nx_by hby).2
  have HR1 : Hid (∀ W, RdS W (H + 1) (L, false) → _) := Lib.hid (fun W hW => rnumber (w := W) hW 1 (by omega) (by dsimp only; omega))
  have HR2 : Hid (∀ W, RdS W (H + 1) a.2 → _) := Lib.hid (fun W hW => rnumber (w := W) hW 2 (by omega) (by omega))
  have HR3 : Hid (∀ W, RdS W (H + 1) b.2 → _) := Lib.hid (fun W hW => rnumber (w := W) hW 6 (by omega) (by omega))
  have HR4 : Hid (∀ W, RdS W (H + 1) d.2 → _) := Lib.hid (fun W hW => rnumber (w := W) hW 1 (by omega) (by omega))
  have HR5 : Hid (∀ W, RdS W (H + 1) f.2 → _) := Lib.hid (fun W hW => rnumber (w := W) hW 2 (by omega) (by omega))
  have HR6 : Hid (∀ W, RdS W (H + 1) p.2 → _) := Lib.hid (fun W hW => rdata (w := W) hW (numL p.1) hPn (by omega))
  rw [ha] at HR1
  rw [hb] at HR2
  rw [hd] at HR3
  rw [hf] at HR4
  rw [hp] at HR5
  rw [hx] at HR6
  have HE : Hid (rdQ L = (⟨(numL a.1 : Nat), (numL b.1 : Nat), (numL d.1 : Nat), (numL f.1 : Nat), x.1⟩, x.2)) := Lib.hid (by
    unfold rdQ
    dsimp only
    rw [ha, hb, hd, hf, hp, hx])
  obtain ⟨na, hna⟩ : ∃ n, numL a.1 = n := ⟨_, rfl⟩
  obtain ⟨nb, hnb⟩ : ∃ n, numL b.1 = n := ⟨_, rfl⟩
  obtain ⟨nd, hnd⟩ : ∃ n, numL d.1 = n := ⟨_, rfl⟩
  obtain ⟨nf, hnf⟩ : ∃ n, numL f.1 = n := ⟨_, rfl⟩
  obtain ⟨np, hnp⟩ : ∃ n, numL p.1 = n := ⟨_, rfl⟩
  rw [hna] at HR1 HE
  rw [hnb] at HR2 HE
  rw [hnd] at HR3 HE
  rw [hnf] at HR4 HE
  rw [hnp] at HR5 HR6
  have HX := Lib.hid hxby
  obtain ⟨u, hu⟩ : ∃ u : Bool, u = true ↔ x.2.2 = false ∧ x.2.1 = [] := ⟨decide (x.2.2 = false ∧ x.2.1 = []), by simp⟩
  obtain ⟨z, hz⟩ : ∃ z : Bool, z = true ↔ OkQ na nb nd nf x.1.length := bool_of _
  have HD : Hid (∀ W, RdS W (H + 1) x.2 → _) := Lib.hid (fun W hW => rdone (w := W) hW u hu)
  have HZ : Hid (∀ B c W, _) := Lib.hid (fun B c W => crightReq (na : Int) (nb : Int) (nd : Int) (nf : Int) B x.1.length c W z hz)
  have HPJ : Hid (projQ L = if u && z then some ⟨(na : Int), (nb : Int), (nd : Int), (nf : Int), x.1⟩ else none) := Lib.hid (by
    unfold projQ
    rw [HE.out]
    dsimp only
    cases u with
    | true =>
      obtain ⟨u1, u2⟩ := hu.1 rfl
      cases z with
      | true => rw [if_pos ⟨u1, u2, hz.1 rfl⟩]; rfl
      | false => rw [if_neg (fun h => by have := hz.2 h.2.2; cases this)]; rfl
    | false => rw [if_neg (fun h => by have := hu.2 ⟨h.1, h.2.1⟩; cases this)]; rfl)
  have H1 := Lib.hid h1
  clear hw1 hH hb1 h1 hA hB hD hF hP hPn hxby ha hb hd hf hp hx hna hnb hnd hnf hnp hu hz hL hc hby hl HE
  obtain ⟨n, hn⟩ : ∃ n, L.length = n := ⟨_, rfl⟩
  rw [hn] at HW1 ⊢
  clear hn
  obtain ⟨o, ho⟩ : ∃ o, projQ L = o := ⟨_, rfl⟩
  rw [ho] at HPJ ⊢
  clear ho
  go_enter Try.func9, Try.ntmps9
  go_wp2_with fail
  rw [HW1.out, HH.out, show H + 1 + 1 = H + 2 from rfl]
  refine (HR1.out _ H1.out.rd).mono ?_
  rintro e w2 ⟨rfl, hr, ht⟩
  try dsimp only
  have HS0 := Lib.hid (H1.out.turn ht hr)
  clear hr ht
  obtain ⟨m0, hm⟩ : ∃ m, w2.setCell ⟨H + 2, 0, none⟩ (.int .i64 (na : Int)) = m := ⟨_, rfl⟩
  have HQ0 := Lib.hid (HS0.out.p0 (na : Int))
  rw [hm] at HQ0
  have HM0 := Lib.hid hm
  clear hm
  have qf := HS0.out.cur.f
  have ql := HS0.out.cur.c0
  go_wp2_with fail
  clear qf ql
  rw [HM0.out]
  refine (HR2.out _ HQ0.out.rd).mono ?_
  rintro e w3 ⟨rfl, hr, ht⟩
  try dsimp only
  have HS1 := Lib.hid (HQ0.out.turn ht hr)
  clear hr ht
  obtain ⟨m1, hm⟩ : ∃ m, w3.setCell ⟨H + 2, 1, none⟩ (.int .i64 (nb : Int)) = m := ⟨_, rfl⟩
  have HQ1 := Lib.hid (HS1.out.p1 (nb : Int))
  rw [hm] at HQ1
  have HM1 := Lib.hid hm
  clear hm
  have qf := HS1.out.cur.f
  have ql := HS1.out.cur.c1
  go_wp2_with fail
  clear qf ql
  rw [HM1.out]
  refine (HR3.out _ HQ1.out.rd).mono ?_
  rintro e w4 ⟨rfl, hr, ht⟩
  try dsimp only
  have HS2 := Lib.hid (HQ1.out.turn ht hr)
  clear hr ht
  obtain ⟨m2, hm⟩ : ∃ m, w4.setCell ⟨H + 2, 2, none⟩ (.int .i64 (nd : Int)) = m := ⟨_, rfl⟩
  have HQ2 := Lib.hid (HS2.out.p2 (nd : Int))
  rw [hm] at HQ2
  have HM2 := Lib.hid hm
  clear hm
  have qf := HS2.out.cur.f
  have ql := HS2.out.cur.c2
  go_wp2_with fail
  clear qf ql
  rw [HM2.out]
  refine (HR4.out _ HQ2.out.rd).mono ?_
  rintro e w5 ⟨rfl, hr, ht⟩
  try dsimp only
  have HS3 := Lib.hid (HQ2.out.turn ht hr)
  clear hr ht
  obtain ⟨m3, hm⟩ : ∃ m, w5.setCell ⟨H + 2, 3, none⟩ (.int .i64 (nf : Int)) = m := ⟨_, rfl⟩
  have HQ3 := Lib.hid (HS3.out.p3 (nf : Int))
  rw [hm] at HQ3
  have HM3 := Lib.hid hm
  clear hm
  have qf := HS3.out.cur.f
  have ql := HS3.out.cur.c3
  go_wp2_with fail
  clear qf ql
  rw [HM3.out]
  refine (HR5.out _ HQ3.out.rd).mono ?_
  rintro e w6 ⟨rfl, hr, ht⟩
  try dsimp only
  have HS4 := Lib.hid (HQ3.out.turn ht hr)
  clear hr ht
  go_wp2_with fail
  refine (HR6.out _ HS4.out.rd).mono ?_
  rintro e w7 ⟨B, d7, rfl, hd7, hb7, hr, ht⟩
  try dsimp only
  have HS5 := Lib.hid (HS4.out.turn ht hr)
  have HB7 := Lib.hid hb7
  clear hr ht hb7 hd7
  obtain ⟨m4, hm⟩ : ∃ m, w7.setCell ⟨H + 2, 4, none⟩ (.slice B x.1.length d7) = m := ⟨_, rfl⟩
  have HQ4 := Lib.hid (HS5.out.p4 d7 HB7.out)
  have HB8 : Hid (BL (w7.setCell ⟨H + 2, 4, none⟩ (.slice B x.1.length d7)) B x.1) := Lib.hid (HB7.out.set HS5.out.cur (by decide))
  rw [hm] at HQ4 HB8
  have HM4 := Lib.hid hm
  clear hm
  have qf := HS5.out.cur.f
  have ql := HS5.out.cur.c4
  go_wp2_with fail
  clear qf ql
  rw [HM4.out]
  refine (HD.out _ HQ4.out.rd).mono ?_
  rintro e w8 ⟨rfl, hw⟩
  obtain rfl := hw.symm
  try dsimp only
  have q0 := HQ4.out.cur.c0
  have q1 := HQ4.out.cur.c1
  have q2 := HQ4.out.cur.c2
  have q3 := HQ4.out.cur.c3
  have q4 := HQ4.out.cur.c4
  have z0 := HQ4.out.res.c0
  have z1 := HQ4.out.res.c1
  have z2 := HQ4.out.res.c2
  have z3 := HQ4.out.res.c3
  have z4 := HQ4.out.res.c4
  have zf := HQ4.out.res.f
  cases u with
  | false =>
    go_wp2_with fail
    refine bodyPost_ret (v := .tuple #[rqv 0 0 0 0 none 0 0, .int .i64 2]) ?_ rfl ?_
    · rw [results_cell_tmp rfl]
      simp [(HQ4.out.res.put5 (k' := 0) (s' := 0) (g' := 0) (i' := 0) (A' := none) (m' := 0) (c' := 0)).load, Result.andThen, asAddr]
    obtain rfl : o = none := by have := HPJ.out; simpa using this
    exact ⟨_, rfl, ⟨none, 0, rfl, BL.nil, By.nil⟩, by rw [HH.out]; exact ((((HQ4.out.blw.setCell (by simp) _).setCell (by simp) _).setCell (by simp) _).setCell (by simp) _).setCell (by simp) _⟩
  | true =>
    go_wp2_with fail
    refine (HZ.out B d7 _).mono ?_
    rintro e w9 ⟨rfl, hw9⟩
    try dsimp only
    have HQ5 := Lib.hid (HQ4.out.below hw9)
    have HB9 := Lib.hid (HB8.out.below hw9)
    clear hw9 q0 q1 q2 q3 q4 z0 z1 z2 z3 z4 zf
    have q0 := HQ5.out.cur.c0
    have q1 := HQ5.out.cur.c1
    have q2 := HQ5.out.cur.c2
    have q3 := HQ5.out.cur.c3
    have q4 := HQ5.out.cur.c4
    have z0 := HQ5.out.res.c0
    have z1 := HQ5.out.res.c1
    have z2 := HQ5.out.res.c2
    have z3 := HQ5.out.res.c3
    have z4 := HQ5.out.res.c4
    have zf := HQ5.out.res.f
    cases z with
    | false =>
      go_wp2_with fail
      refine bodyPost_ret (v := .tuple #[rqv 0 0 0 0 none 0 0, .int .i64 2]) ?_ rfl ?_
      · rw [results_cell_tmp rfl]
        simp [(HQ5.out.res.put5 (k' := 0) (s' := 0) (g' := 0) (i' := 0) (A' := none) (m' := 0) (c' := 0)).load, Result.andThen, asAddr]
      obtain rfl : o = none := by have := HPJ.out; simpa using this
      exact ⟨_, rfl, ⟨none, 0, rfl, BL.nil, By.nil⟩, by rw [HH.out]; exact ((((HQ5.out.blw.setCell (by simp) _).setCell (by simp) _).setCell (by simp) _).setCell (by simp) _).setCell (by simp) _⟩
    | true =>
      have zne : ¬ H + 2 = H := by omega
      go_wp2_with fail
      refine bodyPost_ret (v := .tuple #[rqv na nb nd nf B x.1.length d7, .int .i64 0]) ?_ rfl ?_
      · rw [results_cell_tmp rfl]
        simp [(HQ5.out.res.put5 (k' := (na : Int)) (s' := (nb : Int)) (g' := (nd : Int)) (i' := (nf : Int)) (A' := B) (m' := x.1.length) (c' := d7)).load, Result.andThen, asAddr]
      obtain rfl : o = some ⟨(na : Int), (nb : Int), (nd : Int), (nf : Int), x.1⟩ := by have := HPJ.out; simpa using this
      have k0 := HQ5.out.res.put0 (na : Int)
      have k1 := k0.put1 (nb : Int)
      have k2 := k1.put2 (nd : Int)
      have k3 := k2.put3 (nf : Int)
      refine ⟨_, rfl, ⟨B, d7, rfl, ((((HB9.out.set HQ5.out.res (by decide)).set k0 (by decide)).set k1 (by decide)).set k2 (by decide)).set k3 (by decide), HX.out⟩, by rw [HH.out]; exact ((((HQ5.out.blw.setCell (by simp) _).setCell (by simp) _).setCell (by simp) _).setCell (by simp) _).setCell (by simp) _⟩
end Go.Proofs.Ytoofgcdilgfclaa
