import Derived.Test.YtoofgcdilgfclaaU33
import Derived.Test.YtoofgcdilgfclaaU34
namespace Go.Proofs.Ytoofgcdilgfclaa
open Go.RowKit Go.Sort
set_option maxRecDepth 100000
set_option maxHeartbeats 2000000

theorem clayRep_no {w : World} {v : Value} {p : Rx} (h : RVal w v p) (hn1 : p.ps.length ≤ 1000000) (hn2 : p.xs.length ≤ 1000000) (hp : ¬ p.Right) :
    Calls Try.prog 12 #[v] w fun e w' => e = .returned (.tuple #[.slice none 0 0, .int .i64 1]) ∧ Below w.heap.size w w' := by
  have HR := Lib.hid (fun W (hW : RVal W v p) => crightRep hW hn1 hn2 false ⟨fun e => (by cases e), fun e => absurd e hp⟩)
  have h0 := h
  obtain ⟨A1, c1, A2, c2, rfl, h1, h2⟩ := h
  obtain ⟨code, boot, l, m⟩ := p
  dsimp only at HR ⊢
  obtain ⟨w1, hw1⟩ : ∃ w1, w.alloc (.cells #[.int .i64 code, .int .i64 boot, .slice A1 l.length c1, .slice A2 m.length c2] 39) = w1 := ⟨_, rfl⟩
  have hb1 : Below w.heap.size w w1 := by rw [← hw1]; exact (Below.refl _ _).alloc (Nat.le_refl _) _
  have hv : RV w1 w.heap.size code boot (.slice A1 l.length c1) (.slice A2 m.length c2) := by rw [← hw1]; exact RV.of_new rfl
  have HR1 := Lib.hid (HR.out w1 (h0.below hb1))
  have z0 := hv.c0
  have z1 := hv.c1
  have z2 := hv.c2
  have z3 := hv.c3
  have ql := hv.lt
  have HW := Lib.hid hw1
  have HB1 := Lib.hid hb1
  obtain ⟨n1, hn1'⟩ : ∃ n, l.length = n := ⟨_, rfl⟩
  obtain ⟨n2, hn2'⟩ : ∃ n, m.length = n := ⟨_, rfl⟩
  rw [hn1', hn2'] at HR1 HW ⊢
  rw [hn1'] at z2
  rw [hn2'] at z3
  clear hw1 hb1 h1 h2 hv h0 HR hn1' hn2' hn1 hn2 hp
  unfold rpv at HR1 ⊢
  go_enter Try.func12, Try.ntmps12
  go_wp2_with fail
  rw [HW.out]
  refine HR1.out.mono ?_
  rintro e w2 ⟨rfl, hb2⟩
  try dsimp only
  go_wp2_with fail
  go_ret2
  exact ⟨rfl, HB1.out.trans (hb2.mono HB1.out.size)⟩
theorem IV.put_s {w : World} {b n c : Nat} {s g : Int} {A : Option Addr} (h : IV w b s g A n c) (s' : Int) : IV (w.setCell ⟨b, 0, none⟩ (.int .i64 s')) b s' g A n c := set_block h 0 _
theorem IV.put_g {w : World} {b n c : Nat} {s g : Int} {A : Option Addr} (h : IV w b s g A n c) (g' : Int) : IV (w.setCell ⟨b, 1, none⟩ (.int .i64 g')) b s g' A n c := set_block h 1 _
theorem IV.f' {w : World} {b n c : Nat} {s g : Int} {A : Option Addr} (h : IV w b s g A n c) (k : Nat) : w.frozen? ⟨b, k, none⟩ = false := free_of_block h
theorem PV.f' {w : World} {b n c : Nat} {s g i : Int} {A : Option Addr} (h : PV w b s g i A n c) (k : Nat) : w.frozen? ⟨b, k, none⟩ = false := free_of_block h

structure PxQ (w0 : World) (r H : Nat) (v : World) (s g i : Int) (A : Option Addr) (n c : Nat) (D : List Nat) (st : St) : Prop where
  rd : RdS v r st
  res : PV v H 0 0 0 none 0 0
  cur : PV v (H + 1) s g i A n c
  dat : BL v A D
  len : n = D.length
  tur : Turn [r] w0 v
  big : w0.heap.size ≤ H
section
variable {w0 v v' : World} {r H n c : Nat} {s g i : Int} {A : Option Addr} {D : List Nat} {st st' : St}
theorem PxQ.ty (h : PxQ w0 r H v s g i A n c D st) : ∃ cs, v.heap[r]? = some (.cells cs 69 (0, 0)) := by
  obtain ⟨B, d, h1, _⟩ := h.rd
  exact ⟨_, h1⟩
theorem PxQ.ne (h : PxQ w0 r H v s g i A n c D st) : r ≠ H ∧ r ≠ H + 1 := by
  obtain ⟨cs, hc⟩ := h.ty
  refine ⟨?_, ?_⟩
  · rintro rfl
    have h2 := h.res
    unfold PV at h2
    rw [h2] at hc
    injection hc with hc
    injection hc with _ hc
    exact absurd hc (by decide)
  · intro e
    have h2 := h.cur
    unfold PV at h2
    rw [← e, hc] at h2
    injection h2 with hc
    injection hc with _ hc
    exact absurd hc (by decide)
theorem PxQ.turn (h : PxQ w0 r H v s g i A n c D st) (t : Turn [r] v v') (hr : RdS v' r st') : PxQ w0 r H v' s g i A n c D st' := by
  obtain ⟨cs, hc⟩ := h.ty
  obtain ⟨n1, n2⟩ := h.ne
  exact ⟨hr, h.res.keep (t.block H h.res.lt (by simp; exact fun e => n1 e.symm)), h.cur.keep (t.block (H + 1) h.cur.lt (by simp; exact fun e => n2 e.symm)), h.dat.turn hc (by decide) t, h.len, h.tur.trans t, h.big⟩
theorem PxQ.p0 (h : PxQ w0 r H v s g i A n c D st) (y : Int) : PxQ w0 r H (v.setCell ⟨H + 1, 0, none⟩ (.int .i64 y)) y g i A n c D st :=
  ⟨h.rd.set h.cur (by decide) (by decide), h.res.keep (set_other (by omega) _ _), h.cur.put_s, h.dat.set h.cur (by decide), h.len, h.tur.then (Turn.set [H + 1] _ _ _ (by simp)) (fun i hi => Or.inr (by rw [List.mem_singleton] at hi; subst hi; have := h.big; omega)), h.big⟩
theorem PxQ.p1 (h : PxQ w0 r H v s g i A n c D st) (y : Int) : PxQ w0 r H (v.setCell ⟨H + 1, 1, none⟩ (.int .i64 y)) s y i A n c D st :=
  ⟨h.rd.set h.cur (by decide) (by decide), h.res.keep (set_other (by omega) _ _), h.cur.put_g, h.dat.set h.cur (by decide), h.len, h.tur.then (Turn.set [H + 1] _ _ _ (by simp)) (fun i hi => Or.inr (by rw [List.mem_singleton] at hi; subst hi; have := h.big; omega)), h.big⟩
theorem PxQ.p2 (h : PxQ w0 r H v s g i A n c D st) (y : Int) : PxQ w0 r H (v.setCell ⟨H + 1, 2, none⟩ (.int .i64 y)) s g y A n c D st :=
  ⟨h.rd.set h.cur (by decide) (by decide), h.res.keep (set_other (by omega) _ _), h.cur.put_i, h.dat.set h.cur (by decide), h.len, h.tur.then (Turn.set [H + 1] _ _ _ (by simp)) (fun i hi => Or.inr (by rw [List.mem_singleton] at hi; subst hi; have := h.big; omega)), h.big⟩
theorem PxQ.pd (h : PxQ w0 r H v s g i A n c D st) {B : Option Addr} {E : List Nat} (d : Nat) (hB : BL v B E) : PxQ w0 r H (v.setCell ⟨H + 1, 3, none⟩ (.slice B E.length d)) s g i B E.length d E st :=
  ⟨h.rd.set h.cur (by decide) (by decide), h.res.keep (set_other (by omega) _ _), h.cur.put_d, hB.set h.cur (by decide), rfl, h.tur.then (Turn.set [H + 1] _ _ _ (by simp)) (fun i hi => Or.inr (by rw [List.mem_singleton] at hi; subst hi; have := h.big; omega)), h.big⟩
end
/-- piece. -/
def PxRet (r : Nat) (s : St) (w : World) (e : Ending) (w' : World) : Prop := ∃ v, e = .returned v ∧ PxV w' v (rdX s).1 ∧ RdS w' r (rdX s).2 ∧ Turn [r] w w'
theorem cpiece {w : World} {r : Nat} {s : St} (h : RdS w r s) (hl : s.1.length ≤ 140737488355328) :
    Calls Try.prog 37 #[.pointer (some ⟨r, 0, none⟩)] w (PxRet r s w) := by
  have hby := h.by_
  obtain ⟨H, hH⟩ : ∃ H, w.heap.size = H := ⟨_, rfl⟩
  have HH := Lib.hid hH
  obtain ⟨w1, hw1⟩ : ∃ w1, (w.alloc (.cells #[.int .i64 0, .int .i64 0, .int .i64 0, .slice none 0 0] 31)).alloc (.cells #[.int .i64 0, .int .i64 0, .int .i64 0, .slice none 0 0] 31) = w1 := ⟨_, rfl⟩
  have HW1 := Lib.hid hw1
  have hb1 : Below w.heap.size w w1 := by rw [← hw1]; exact ((Below.refl _ _).alloc (Nat.le_refl _) _).alloc (by simp) _
  have h1 : PxQ w r H w1 0 0 0 none 0 0 [] s := by
    refine ⟨h.keep hb1, ?_, ?_, BL.nil, rfl, Turn.of hb1, Nat.le_of_eq hH⟩
    · rw [← hw1]
      exact (PV.of_new hH).below ((Below.refl _ _).alloc (Nat.le_refl _) _)
    · rw [← hw1]
      exact PV.of_new (by simp [hH])
  obtain ⟨a, ha⟩ : ∃ a, nx 1 s = a := ⟨_, rfl⟩
  obtain ⟨b, hb⟩ : ∃ b, nx 6 a.2 = b := ⟨_, rfl⟩
  obtain ⟨d, hd⟩ : ∃ d, nx 1 b.2 = d := ⟨_, rfl⟩
  obtain ⟨f, hf⟩ : ∃ f, nx 32 d.2 = f := ⟨_, rfl⟩
  have la : a.2.1.length ≤ 140737488355328 := by rw [← ha]; exact Nat.le_trans (nx_len 1 s).2 hl
  have lb : b.2.1.length ≤ 140737488355328 := by rw [← hb]; exact Nat.le_trans (nx_len 6 a.2).2 la
  have ld : d.2.1.length ≤ 140737488355328 := by rw [← hd]; exact Nat.le_trans (nx_len 1 b.2).2 lb
  have hlby : By f.1 := by
    rw [← hf]; refine (nx_by ?_).1
    rw [← hd]; refine (nx_by ?_).2
    rw [← hb]; refine (nx_by ?_).2
    rw [← ha]; exact (nx_by hby).2
  have HR0 : Hid (∀ W, RdS W r s → _) := Lib.hid (fun W hW => rnumber (w := W) hW 1 (by omega) (by omega))
  rw [ha] at HR0
  have HR1 : Hid (∀ W, RdS W r a.2 → _) := Lib.hid (fun W hW => rnumber (w := W) hW 6 (by omega) (by omega))
  rw [hb] at HR1
  have HR2 : Hid (∀ W, RdS W r b.2 → _) := Lib.hid (fun W hW => rnumber (w := W) hW 1 (by omega) (by omega))
  rw [hd] at HR2
  have HR3 : Hid (∀ W, RdS W r d.2 → _) := Lib.hid (fun W hW => rdata (w := W) hW 32 (by omega) (by omega))
  rw [hf] at HR3
  have HE : Hid (rdX s = (⟨(numL a.1 : Nat), (numL b.1 : Nat), (numL d.1 : Nat), f.1⟩, f.2)) := Lib.hid (by
    unfold rdX
    dsimp only
    rw [ha, hb, hd, hf])
  obtain ⟨na, hna⟩ : ∃ n, numL a.1 = n := ⟨_, rfl⟩
  obtain ⟨nb, hnb⟩ : ∃ n, numL b.1 = n := ⟨_, rfl⟩
  obtain ⟨nd, hnd⟩ : ∃ n, numL d.1 = n := ⟨_, rfl⟩
  rw [hna] at HR0 HE
  rw [hnb] at HR1 HE
  rw [hnd] at HR2 HE
  have HX := Lib.hid hlby
  have H1 := Lib.hid h1
  unfold PxRet
  rw [HE.out]
  clear hw1 hH hb1 h1 hlby h hby ha hb hd hf hna hnb hnd la lb ld HE
  go_enter Try.func37, Try.ntmps37
  go_wp2_with fail
  rw [HW1.out, HH.out]
  refine (HR0.out _ H1.out.rd).mono ?_
  rintro e w2 ⟨rfl, hr, ht⟩
  try dsimp only
  have HS0 := Lib.hid (H1.out.turn ht hr)
  clear hr ht
  obtain ⟨m0, hm⟩ : ∃ m, w2.setCell ⟨H + 1, 0, none⟩ (.int .i64 (na : Int)) = m := ⟨_, rfl⟩
  have HQ0 := Lib.hid (HS0.out.p0 (na : Int))
  rw [hm] at HQ0
  have HM0 := Lib.hid hm
  clear hm
  have qf := HS0.out.cur.f'
  have ql := HS0.out.cur.c0
  go_wp2_with fail
  clear qf ql
  rw [HM0.out]
  refine (HR1.out _ HQ0.out.rd).mono ?_
  rintro e w3 ⟨rfl, hr, ht⟩
  try dsimp only
  have HS1 := Lib.hid (HQ0.out.turn ht hr)
  clear hr ht
  obtain ⟨m1, hm⟩ : ∃ m, w3.setCell ⟨H + 1, 1, none⟩ (.int .i64 (nb : Int)) = m := ⟨_, rfl⟩
  have HQ1 := Lib.hid (HS1.out.p1 (nb : Int))
  rw [hm] at HQ1
  have HM1 := Lib.hid hm
  clear hm
  have qf := HS1.out.cur.f'
  have ql := HS1.out.cur.c1
  go_wp2_with fail
  clear qf ql
  rw [HM1.out]
  refine (HR2.out _ HQ1.out.rd).mono ?_
  rintro e w4 ⟨rfl, hr, ht⟩
  try dsimp only
  have HS2 := Lib.hid (HQ1.out.turn ht hr)
  clear hr ht
  obtain ⟨m2, hm⟩ : ∃ m, w4.setCell ⟨H + 1, 2, none⟩ (.int .i64 (nd : Int)) = m := ⟨_, rfl⟩
  have HQ2 := Lib.hid (HS2.out.p2 (nd : Int))
  rw [hm] at HQ2
  have HM2 := Lib.hid hm
  clear hm
  have qf := HS2.out.cur.f'
  have ql := HS2.out.cur.c2
  go_wp2_with fail
  clear qf ql
  rw [HM2.out]
  refine (HR3.out _ HQ2.out.rd).mono ?_
  rintro e w7 ⟨B, d7, rfl, hd7, hb7, hr, ht⟩
  try dsimp only
  have HS5 := Lib.hid (HQ2.out.turn ht hr)
  have HB7 := Lib.hid hb7
  clear hr ht hb7 hd7
  obtain ⟨m4, hm⟩ : ∃ m, w7.setCell ⟨H + 1, 3, none⟩ (.slice B f.1.length d7) = m := ⟨_, rfl⟩
  have HQ4 := Lib.hid (HS5.out.pd d7 HB7.out)
  rw [hm] at HQ4
  have HM4 := Lib.hid hm
  clear hm
  have qf := HS5.out.cur.f'
  have ql := HS5.out.cur.c3
  go_upto_region 6 with fail
  clear qf ql
  rw [HM4.out]
  have q0 := HQ4.out.cur.c0
  have q1 := HQ4.out.cur.c1
  have q2 := HQ4.out.cur.c2
  have q3 := HQ4.out.cur.c3
  have z0 := HQ4.out.res.c0
  have z1 := HQ4.out.res.c1
  have z2 := HQ4.out.res.c2
  have z3 := HQ4.out.res.c3
  have zf := HQ4.out.res.f'
  have zne : ¬ H + 1 = H := by omega
  go_wp2_with fail
  refine bodyPost_ret (v := pv (na : Int) (nb : Int) (nd : Int) B f.1.length d7) ?_ rfl ?_
  · rw [results_cell1 rfl]
    simp [(HQ4.out.res.put (s' := (na : Int)) (g' := (nb : Int)) (i' := (nd : Int)) (A' := B) (n' := f.1.length) (c' := d7)).load, Result.andThen, asAddr]
  have k0 := HQ4.out.res.put_s (s' := (na : Int))
  have k1 := k0.put_g (g' := (nb : Int))
  have k2 := k1.put_i (i' := (nd : Int))
  exact ⟨_, rfl, ⟨B, d7, rfl, (((HQ4.out.dat.set HQ4.out.res (by decide)).set k0 (by decide)).set k1 (by decide)).set k2 (by decide), HX.out⟩, (((HQ4.out.rd.set HQ4.out.res (by decide) (by decide)).set k0 (by decide) (by decide)).set k1 (by decide) (by decide)).set k2 (by decide) (by decide), HQ4.out.tur.then ((((Turn.set [H] _ _ _ (by simp)).trans (Turn.set [H] _ _ _ (by simp))).trans (Turn.set [H] _ _ _ (by simp))).trans (Turn.set [H] _ _ _ (by simp))) (fun i hi => Or.inr (by rw [List.mem_singleton] at hi; subst hi; exact HQ4.out.big))⟩

structure IxQ (w0 : World) (r H : Nat) (v : World) (s g : Int) (A : Option Addr) (n c : Nat) (D : List Nat) (st : St) : Prop where
  rd : RdS v r st
  res : IV v H 0 0 none 0 0
  cur : IV v (H + 1) s g A n c
  dat : BL v A D
  len : n = D.length
  tur : Turn [r] w0 v
  big : w0.heap.size ≤ H
section
variable {w0 v v' : World} {r H n c : Nat} {s g : Int} {A : Option Addr} {D : List Nat} {st st' : St}
theorem IxQ.ty (h : IxQ w0 r H v s g A n c D st) : ∃ cs, v.heap[r]? = some (.cells cs 69 (0, 0)) := by
  obtain ⟨B, d, h1, _⟩ := h.rd
  exact ⟨_, h1⟩
theorem IxQ.ne (h : IxQ w0 r H v s g A n c D st) : r ≠ H ∧ r ≠ H + 1 := by
  obtain ⟨cs, hc⟩ := h.ty
  refine ⟨?_, ?_⟩
  · rintro rfl
    have h2 := h.res
    unfold IV at h2
    rw [h2] at hc
    injection hc with hc
    injection hc with _ hc
    exact absurd hc (by decide)
  · intro e
    have h2 := h.cur
    unfold IV at h2
    rw [← e, hc] at h2
    injection h2 with hc
    injection hc with _ hc
    exact absurd hc (by decide)
theorem IxQ.turn (h : IxQ w0 r H v s g A n c D st) (t : Turn [r] v v') (hr : RdS v' r st') : IxQ w0 r H v' s g A n c D st' := by
  obtain ⟨cs, hc⟩ := h.ty
  obtain ⟨n1, n2⟩ := h.ne
  exact ⟨hr, h.res.keep (t.block H h.res.lt (by simp; exact fun e => n1 e.symm)), h.cur.keep (t.block (H + 1) h.cur.lt (by simp; exact fun e => n2 e.symm)), h.dat.turn hc (by decide) t, h.len, h.tur.trans t, h.big⟩
theorem IxQ.p0 (h : IxQ w0 r H v s g A n c D st) (y : Int) : IxQ w0 r H (v.setCell ⟨H + 1, 0, none⟩ (.int .i64 y)) y g A n c D st :=
  ⟨h.rd.set h.cur (by decide) (by decide), h.res.keep (set_other (by omega) _ _), h.cur.put_s y, h.dat.set h.cur (by decide), h.len, h.tur.then (Turn.set [H + 1] _ _ _ (by simp)) (fun i hi => Or.inr (by rw [List.mem_singleton] at hi; subst hi; have := h.big; omega)), h.big⟩
theorem IxQ.p1 (h : IxQ w0 r H v s g A n c D st) (y : Int) : IxQ w0 r H (v.setCell ⟨H + 1, 1, none⟩ (.int .i64 y)) s y A n c D st :=
  ⟨h.rd.set h.cur (by decide) (by decide), h.res.keep (set_other (by omega) _ _), h.cur.put_g y, h.dat.set h.cur (by decide), h.len, h.tur.then (Turn.set [H + 1] _ _ _ (by simp)) (fun i hi => Or.inr (by rw [List.mem_singleton] at hi; subst hi; have := h.big; omega)), h.big⟩
theorem IxQ.pd (h : IxQ w0 r H v s g A n c D st) {B : Option Addr} {E : List Nat} (d : Nat) (hB : BL v B E) : IxQ w0 r H (v.setCell ⟨H + 1, 2, none⟩ (.slice B E.length d)) s g B E.length d E st :=
  ⟨h.rd.set h.cur (by decide) (by decide), h.res.keep (set_other (by omega) _ _), h.cur.put_d, hB.set h.cur (by decide), rfl, h.tur.then (Turn.set [H + 1] _ _ _ (by simp)) (fun i hi => Or.inr (by rw [List.mem_singleton] at hi; subst hi; have := h.big; omega)), h.big⟩
end
/-- intent. -/
def IxRet (r : Nat) (s : St) (w : World) (e : Ending) (w' : World) : Prop := ∃ v, e = .returned v ∧ IxV w' v (rdY s).1 ∧ RdS w' r (rdY s).2 ∧ Turn [r] w w'
theorem cintent {w : World} {r : Nat} {s : St} (h : RdS w r s) (hl : s.1.length ≤ 140737488355328) :
    Calls Try.prog 38 #[.pointer (some ⟨r, 0, none⟩)] w (IxRet r s w) := by
  have hby := h.by_
  obtain ⟨H, hH⟩ : ∃ H, w.heap.size = H := ⟨_, rfl⟩
  have HH := Lib.hid hH
  obtain ⟨w1, hw1⟩ : ∃ w1, (w.alloc (.cells #[.int .i64 0, .int .i64 0, .slice none 0 0] 35)).alloc (.cells #[.int .i64 0, .int .i64 0, .slice none 0 0] 35) = w1 := ⟨_, rfl⟩
  have HW1 := Lib.hid hw1
  have hb1 : Below w.heap.size w w1 := by rw [← hw1]; exact ((Below.refl _ _).alloc (Nat.le_refl _) _).alloc (by simp) _
  have h1 : IxQ w r H w1 0 0 none 0 0 [] s := by
    refine ⟨h.keep hb1, ?_, ?_, BL.nil, rfl, Turn.of hb1, Nat.le_of_eq hH⟩
    · rw [← hw1]
      exact (IV.of_new hH).below ((Below.refl _ _).alloc (Nat.le_refl _) _)
    · rw [← hw1]
      exact IV.of_new (by simp [hH])
  obtain ⟨a, ha⟩ : ∃ a, nx 1 s = a := ⟨_, rfl⟩
  obtain ⟨b, hb⟩ : ∃ b, nx 6 a.2 = b := ⟨_, rfl⟩
  obtain ⟨d, hd⟩ : ∃ d, nx 128 b.2 = d := ⟨_, rfl⟩
  have la : a.2.1.length ≤ 140737488355328 := by rw [← ha]; exact Nat.le_trans (nx_len 1 s).2 hl
  have lb : b.2.1.length ≤ 140737488355328 := by rw [← hb]; exact Nat.le_trans (nx_len 6 a.2).2 la
  have hlby : By d.1 := by
    rw [← hd]; refine (nx_by ?_).1
    rw [← hb]; refine (nx_by ?_).2
    rw [← ha]; exact (nx_by hby).2
  have HR0 : Hid (∀ W, RdS W r s → _) := Lib.hid (fun W hW => rnumber (w := W) hW 1 (by omega) (by omega))
  rw [ha] at HR0
  have HR1 : Hid (∀ W, RdS W r a.2 → _) := Lib.hid (fun W hW => rnumber (w := W) hW 6 (by omega) (by omega))
  rw [hb] at HR1
  have HR2 : Hid (∀ W, RdS W r b.2 → _) := Lib.hid (fun W hW => rdata (w := W) hW 128 (by omega) (by omega))
  rw [hd] at HR2
  have HE : Hid (rdY s = (⟨(numL a.1 : Nat), (numL b.1 : Nat), d.1⟩, d.2)) := Lib.hid (by
    unfold rdY
    dsimp only
    rw [ha, hb, hd])
  obtain ⟨na, hna⟩ : ∃ n, numL a.1 = n := ⟨_, rfl⟩
  obtain ⟨nb, hnb⟩ : ∃ n, numL b.1 = n := ⟨_, rfl⟩
  rw [hna] at HR0 HE
  rw [hnb] at HR1 HE
  have HX := Lib.hid hlby
  have H1 := Lib.hid h1
  unfold IxRet
  rw [HE.out]
  clear hw1 hH hb1 h1 hlby h hby ha hb hd hna hnb la lb HE
  go_enter Try.func38, Try.ntmps38
  go_wp2_with fail
  rw [HW1.out, HH.out]
  refine (HR0.out _ H1.out.rd).mono ?_
  rintro e w2 ⟨rfl, hr, ht⟩
  try dsimp only
  have HS0 := Lib.hid (H1.out.turn ht hr)
  clear hr ht
  obtain ⟨m0, hm⟩ : ∃ m, w2.setCell ⟨H + 1, 0, none⟩ (.int .i64 (na : Int)) = m := ⟨_, rfl⟩
  have HQ0 := Lib.hid (HS0.out.p0 (na : Int))
  rw [hm] at HQ0
  have HM0 := Lib.hid hm
  clear hm
  have qf := HS0.out.cur.f'
  have ql := HS0.out.cur.c0
  go_wp2_with fail
  clear qf ql
  rw [HM0.out]
  refine (HR1.out _ HQ0.out.rd).mono ?_
  rintro e w3 ⟨rfl, hr, ht⟩
  try dsimp only
  have HS1 := Lib.hid (HQ0.out.turn ht hr)
  clear hr ht
  obtain ⟨m1, hm⟩ : ∃ m, w3.setCell ⟨H + 1, 1, none⟩ (.int .i64 (nb : Int)) = m := ⟨_, rfl⟩
  have HQ1 := Lib.hid (HS1.out.p1 (nb : Int))
  rw [hm] at HQ1
  have HM1 := Lib.hid hm
  clear hm
  have qf := HS1.out.cur.f'
  have ql := HS1.out.cur.c1
  go_wp2_with fail
  clear qf ql
  rw [HM1.out]
  refine (HR2.out _ HQ1.out.rd).mono ?_
  rintro e w7 ⟨B, d7, rfl, hd7, hb7, hr, ht⟩
  try dsimp only
  have HS5 := Lib.hid (HQ1.out.turn ht hr)
  have HB7 := Lib.hid hb7
  clear hr ht hb7 hd7
  obtain ⟨m4, hm⟩ : ∃ m, w7.setCell ⟨H + 1, 2, none⟩ (.slice B d.1.length d7) = m := ⟨_, rfl⟩
  have HQ4 := Lib.hid (HS5.out.pd d7 HB7.out)
  rw [hm] at HQ4
  have HM4 := Lib.hid hm
  clear hm
  have qf := HS5.out.cur.f'
  have ql := HS5.out.cur.c2
  go_upto_region 5 with fail
  clear qf ql
  rw [HM4.out]
  have q0 := HQ4.out.cur.c0
  have q1 := HQ4.out.cur.c1
  have q2 := HQ4.out.cur.c2
  have z0 := HQ4.out.res.c0
  have z1 := HQ4.out.res.c1
  have z2 := HQ4.out.res.c2
  have zf := HQ4.out.res.f'
  have zne : ¬ H + 1 = H := by omega
  go_wp2_with fail
  refine bodyPost_ret (v := iv (na : Int) (nb : Int) B d.1.length d7) ?_ rfl ?_
  · rw [results_cell1 rfl]
    simp [(HQ4.out.res.put (s' := (na : Int)) (g' := (nb : Int)) (A' := B) (n' := d.1.length) (c' := d7)).load, Result.andThen, asAddr]
  have k0 := HQ4.out.res.put_s (na : Int)
  have k1 := k0.put_g (nb : Int)
  exact ⟨_, rfl, ⟨B, d7, rfl, ((HQ4.out.dat.set HQ4.out.res (by decide)).set k0 (by decide)).set k1 (by decide), HX.out⟩, ((HQ4.out.rd.set HQ4.out.res (by decide) (by decide)).set k0 (by decide) (by decide)).set k1 (by decide) (by decide), HQ4.out.tur.then (((Turn.set [H] _ _ _ (by simp)).trans (Turn.set [H] _ _ _ (by simp))).trans (Turn.set [H] _ _ _ (by simp))) (fun i hi => Or.inr (by rw [List.mem_singleton] at hi; subst hi; exact HQ4.out.big))⟩
end Go.Proofs.Ytoofgcdilgfclaa
