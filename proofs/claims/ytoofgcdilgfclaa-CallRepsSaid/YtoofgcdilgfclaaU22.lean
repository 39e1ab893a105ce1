import Derived.Test.YtoofgcdilgfclaaU21
import Derived.Test.YtoofgcdilgfclaaU10
import Derived.Deep.RegionHeld
namespace Go.Proofs.Ytoofgcdilgfclaa
open Go.RowKit Go.Sort
set_option maxRecDepth 100000
set_option maxHeartbeats 2000000

/-! corbelhand.Req. -/
abbrev rawv (x0 x1 x2 x3 x4 x5 : Int) : Value := .agg #[.int .i64 x0, .int .i64 x1, .int .i64 x2, .int .i64 x3, .int .i64 x4, .int .i64 x5]
def XV (w : World) (b : Nat) (x0 x1 x2 x3 x4 x5 : Int) : Prop := w.heap[b]? = some (.cells #[.int .i64 x0, .int .i64 x1, .int .i64 x2, .int .i64 x3, .int .i64 x4, .int .i64 x5] 46 (0, 0))
section
variable {w w' : World} {b : Nat} {x0 x1 x2 x3 x4 x5 : Int}
theorem XV.cells (h : XV w b x0 x1 x2 x3 x4 x5) : w.cell? ⟨b, 0, none⟩ = some (.int .i64 x0) ∧ w.cell? ⟨b, 1, none⟩ = some (.int .i64 x1) ∧ w.cell? ⟨b, 2, none⟩ = some (.int .i64 x2) ∧ w.cell? ⟨b, 3, none⟩ = some (.int .i64 x3) ∧ w.cell? ⟨b, 4, none⟩ = some (.int .i64 x4) ∧ w.cell? ⟨b, 5, none⟩ = some (.int .i64 x5) := ⟨cell_of_block h, cell_of_block h, cell_of_block h, cell_of_block h, cell_of_block h, cell_of_block h⟩
theorem XV.lt (h : XV w b x0 x1 x2 x3 x4 x5) : b < w.heap.size := heap_lt h
theorem XV.keep (h : XV w b x0 x1 x2 x3 x4 x5) (e : w'.heap[b]? = w.heap[b]?) : XV w' b x0 x1 x2 x3 x4 x5 := e.trans h
theorem XV.below (h : XV w b x0 x1 x2 x3 x4 x5) (e : Below w.heap.size w w') : XV w' b x0 x1 x2 x3 x4 x5 := h.keep (e.block b h.lt)
theorem XV.of_new {H : Nat} (hH : w.heap.size = H) : XV (w.alloc (.cells #[.int .i64 x0, .int .i64 x1, .int .i64 x2, .int .i64 x3, .int .i64 x4, .int .i64 x5] 46)) H x0 x1 x2 x3 x4 x5 := by
  subst hH
  exact alloc_block w _
end
section
variable {w : World} {b m c : Nat} {k s g i : Int} {A : Option Addr}
theorem QV.f (h : QV w b k s g i A m c) (j : Nat) : w.frozen? ⟨b, j, none⟩ = false := free_of_block h
theorem QV.put0 (h : QV w b k s g i A m c) (v : Int) : QV (w.setCell ⟨b, 0, none⟩ (.int .i64 v)) b v s g i A m c := set_block h 0 _
theorem QV.put1 (h : QV w b k s g i A m c) (v : Int) : QV (w.setCell ⟨b, 1, none⟩ (.int .i64 v)) b k v g i A m c := set_block h 1 _
theorem QV.put2 (h : QV w b k s g i A m c) (v : Int) : QV (w.setCell ⟨b, 2, none⟩ (.int .i64 v)) b k s v i A m c := set_block h 2 _
theorem QV.put3 (h : QV w b k s g i A m c) (v : Int) : QV (w.setCell ⟨b, 3, none⟩ (.int .i64 v)) b k s g v A m c := set_block h 3 _
theorem QV.put4 (h : QV w b k s g i A m c) (B : Option Addr) (n d : Nat) : QV (w.setCell ⟨b, 4, none⟩ (.slice B n d)) b k s g i B n d := set_block h 4 _
theorem QV.put5 (h : QV w b k s g i A m c) {k' s' g' i' : Int} {A' : Option Addr} {m' c' : Nat} : QV (((((w.setCell ⟨b, 0, none⟩ (.int .i64 k')).setCell ⟨b, 1, none⟩ (.int .i64 s')).setCell ⟨b, 2, none⟩ (.int .i64 g')).setCell ⟨b, 3, none⟩ (.int .i64 i')).setCell ⟨b, 4, none⟩ (.slice A' m' c')) b k' s' g' i' A' m' c' := ((((h.put0 k').put1 s').put2 g').put3 i').put4 A' m' c'
end
theorem DatN.set {w : World} {A : Option Addr} {n b j : Nat} {D : Nat → Nat} {cs : Array Value} {t : TypeId} {fr : Nat × Nat} {v : Value} (h : DatN w A n D) (hb : w.heap[b]? = some (.cells cs t fr)) (ht : t ≠ 5) : DatN (w.setCell ⟨b, j, none⟩ v) A n D :=
  h.keep (fun g cs' hg => set_other (by
    rintro rfl
    rw [hb] at hg
    cases hg
    exact ht rfl) _ _)
/-- What Req answers: some request. -/
def RqRet (w : World) (e : Ending) (w' : World) : Prop := ∃ (q : Rq) (A : Option Addr) (c : Nat), e = .returned (rqv q.k q.s q.g q.i A q.n c) ∧ DatN w' A q.n q.D ∧ (∀ j, j < q.n → q.D j < 256) ∧ Below w.heap.size w w'
/-- The request under way. -/
structure QS (w0 : World) (H : Nat) (x0 x1 x2 x3 x4 x5 : Int) (v : World) (k s g i : Int) (A : Option Addr) (n c : Nat) (D : Nat → Nat) : Prop where
  raw : XV v H x0 x1 x2 x3 x4 x5
  res : QV v (H + 1) 0 0 0 0 none 0 0
  cur : QV v (H + 2) k s g i A n c
  dat : DatN v A n D
  byt : ∀ j, j < n → D j < 256
  blw : Below H w0 v
section
variable {w0 v v' : World} {H n c : Nat} {x0 x1 x2 x3 x4 x5 k s g i : Int} {A : Option Addr} {D : Nat → Nat}
theorem QS.below (h : QS w0 H x0 x1 x2 x3 x4 x5 v k s g i A n c D) (b : Below v.heap.size v v') : QS w0 H x0 x1 x2 x3 x4 x5 v' k s g i A n c D := ⟨h.raw.below b, h.res.below b, h.cur.below b, h.dat.below b, h.byt, h.blw.trans (b.mono (Nat.le_of_lt h.raw.lt))⟩
theorem QS.p0 (h : QS w0 H x0 x1 x2 x3 x4 x5 v k s g i A n c D) (y : Int) : QS w0 H x0 x1 x2 x3 x4 x5 (v.setCell ⟨H + 2, 0, none⟩ (.int .i64 y)) y s g i A n c D := ⟨h.raw.keep (set_other (by omega) _ _), h.res.keep (set_other (by omega) _ _), h.cur.put0 y, h.dat.set h.cur (by decide), h.byt, h.blw.setCell (by simp) _⟩
theorem QS.p1 (h : QS w0 H x0 x1 x2 x3 x4 x5 v k s g i A n c D) (y : Int) : QS w0 H x0 x1 x2 x3 x4 x5 (v.setCell ⟨H + 2, 1, none⟩ (.int .i64 y)) k y g i A n c D := ⟨h.raw.keep (set_other (by omega) _ _), h.res.keep (set_other (by omega) _ _), h.cur.put1 y, h.dat.set h.cur (by decide), h.byt, h.blw.setCell (by simp) _⟩
theorem QS.p2 (h : QS w0 H x0 x1 x2 x3 x4 x5 v k s g i A n c D) (y : Int) : QS w0 H x0 x1 x2 x3 x4 x5 (v.setCell ⟨H + 2, 2, none⟩ (.int .i64 y)) k s y i A n c D := ⟨h.raw.keep (set_other (by omega) _ _), h.res.keep (set_other (by omega) _ _), h.cur.put2 y, h.dat.set h.cur (by decide), h.byt, h.blw.setCell (by simp) _⟩
theorem QS.p3 (h : QS w0 H x0 x1 x2 x3 x4 x5 v k s g i A n c D) (y : Int) : QS w0 H x0 x1 x2 x3 x4 x5 (v.setCell ⟨H + 2, 3, none⟩ (.int .i64 y)) k s g y A n c D := ⟨h.raw.keep (set_other (by omega) _ _), h.res.keep (set_other (by omega) _ _), h.cur.put3 y, h.dat.set h.cur (by decide), h.byt, h.blw.setCell (by simp) _⟩
theorem QS.p4 (h : QS w0 H x0 x1 x2 x3 x4 x5 v k s g i A n c D) {gb m d : Nat} {E : Nat → Nat} (hd : Blk8 v gb m E) (he : ∀ j, j < m → E j < 256) : QS w0 H x0 x1 x2 x3 x4 x5 (v.setCell ⟨H + 2, 4, none⟩ (.slice (some ⟨gb, 0, none⟩) m d)) k s g i (some ⟨gb, 0, none⟩) m d E := ⟨h.raw.keep (set_other (by omega) _ _), h.res.keep (set_other (by omega) _ _), h.cur.put4 _ m d, (DatN.blk hd).set h.cur (by decide), he, h.blw.setCell (by simp) _⟩
theorem QS.fin (h : QS w0 H x0 x1 x2 x3 x4 x5 v k s g i A n c D) (hH : w0.heap.size = H) : RqRet w0 (.returned (rqv k s g i A n c)) (((((v.setCell ⟨H + 1, 0, none⟩ (.int .i64 k)).setCell ⟨H + 1, 1, none⟩ (.int .i64 s)).setCell ⟨H + 1, 2, none⟩ (.int .i64 g)).setCell ⟨H + 1, 3, none⟩ (.int .i64 i)).setCell ⟨H + 1, 4, none⟩ (.slice A n c)) := by
  subst hH
  refine ⟨⟨k, s, g, i, n, D⟩, A, c, rfl, ?_, h.byt, ?_⟩
  · have h1 := h.res.put0 k
    have h2 := h1.put1 s
    have h3 := h2.put2 g
    have h4 := h3.put3 i
    exact ((((h.dat.set h.res (by decide)).set h1 (by decide)).set h2 (by decide)).set h3 (by decide)).set h4 (by decide)
  · exact ((((h.blw.setCell (by simp) _).setCell (by simp) _).setCell (by simp) _).setCell (by simp) _).setCell (by simp) _
end
theorem rreq (x0 x1 x2 x3 x4 x5 : Int) (w : World) : Calls Try.prog 16 #[rawv x0 x1 x2 x3 x4 x5] w (RqRet w) := by
  obtain ⟨H, hH⟩ : ∃ H, w.heap.size = H := ⟨_, rfl⟩
  have HH := Lib.hid hH
  have HPK : Hid (∀ (a m : Int), 1 ≤ m → m ≤ 1000 → ∀ W : World, Calls Try.prog 20 #[.int .i64 a, .int .i64 m] W fun e w' => e = .returned (.int .i64 (a % m)) ∧ w' = W) := Lib.hid (fun a m h1 h2 W => rpick a m h1 (by omega) W)
  obtain ⟨w1, hw1⟩ : ∃ w1, (w.alloc (.cells #[.int .i64 x0, .int .i64 x1, .int .i64 x2, .int .i64 x3, .int .i64 x4, .int .i64 x5] 46)).alloc (.cells #[.int .i64 0, .int .i64 0, .int .i64 0, .int .i64 0, .slice none 0 0] 27) = w1 := ⟨_, rfl⟩
  have HW1 := Lib.hid hw1
  have HB1 : Hid (Below H w w1) := Lib.hid (by rw [← hw1, ← hH]; exact ((Below.refl _ _).alloc (Nat.le_refl _) _).alloc (by simp) _)
  have HX1 : Hid (XV w1 H x0 x1 x2 x3 x4 x5) := Lib.hid (by rw [← hw1]; exact (XV.of_new hH).below ((Below.refl _ _).alloc (Nat.le_refl _) _))
  have HZ1 : Hid (QV w1 (H + 1) 0 0 0 0 none 0 0) := Lib.hid (by rw [← hw1]; exact QV.of_new (by simp [hH]))
  have HS1 : Hid (w1.heap.size = H + 2) := Lib.hid (by rw [← hw1]; simp [hH])
  have HKS : Hid (∀ W, Below w1.heap.size w1 W → W.cell? ⟨H, 0, none⟩ = some (.int .i64 x0) ∧ W.cell? ⟨H, 1, none⟩ = some (.int .i64 x1) ∧ W.cell? ⟨H, 2, none⟩ = some (.int .i64 x2) ∧ W.cell? ⟨H, 3, none⟩ = some (.int .i64 x3)) := Lib.hid (fun W hW => by
    obtain ⟨a, b, c, d, _, _⟩ := (HX1.out.below hW).cells
    exact ⟨a, b, c, d⟩)
  obtain ⟨p0, hp0⟩ : ∃ p0, x0 % 6 = p0 := ⟨_, rfl⟩
  obtain ⟨p1, hp1⟩ : ∃ p1, x1 % 5 = p1 := ⟨_, rfl⟩
  obtain ⟨p2, hp2⟩ : ∃ p2, x2 % 6 = p2 := ⟨_, rfl⟩
  obtain ⟨p3, hp3⟩ : ∃ p3, x3 % 6 = p3 := ⟨_, rfl⟩
  have HP0 := Lib.hid (fun W => HPK.out x0 6 (by omega) (by omega) W)
  have HP1 := Lib.hid (fun W => HPK.out x1 5 (by omega) (by omega) W)
  have HP2 := Lib.hid (fun W => HPK.out x2 6 (by omega) (by omega) W)
  have HP3 := Lib.hid (fun W => HPK.out x3 6 (by omega) (by omega) W)
  rw [hp0] at HP0
  rw [hp1] at HP1
  rw [hp2] at HP2
  rw [hp3] at HP3
  obtain ⟨k0, hk0⟩ : ∃ k0, 1 + p0 = k0 := ⟨_, rfl⟩
  obtain ⟨g0, hg0⟩ : ∃ g0, 1 + p2 = g0 := ⟨_, rfl⟩
  have wk0 : IntKind.i64.wrap (1 + p0) = k0 := by rw [IntWalk.i64_in _ (by omega)]; exact hk0
  have wg0 : IntKind.i64.wrap (1 + p2) = g0 := by rw [IntWalk.i64_in _ (by omega)]; exact hg0
  have hb0 : Below w1.heap.size w1 w1.drew := below_drewN 1 w1
  have HBA : Hid (∀ o, Below w1.heap.size w1 (w1.alloc o).drew) := Lib.hid (fun o => ((Below.refl _ _).alloc (Nat.le_refl _) o).drew)
  clear hw1 hH hp0 hp1 hp2 hp3 hk0 hg0
  unfold rawv
  go_enter Try.func16, Try.ntmps16
  go_upto_region 1 with fail
  rw [HW1.out, HH.out]
  go_cut [3] from 4 to 18 (fun s3 wx => s3 = .pointer (some ⟨H + 2, 0, none⟩) ∧ Hid (∃ k s g i : Int, QS w H x0 x1 x2 x3 x4 x5 wx k s g i none 0 0 (fun _ => 0)))
  case first =>
    go_wp2_with fail
    go_region_held (fun W => W.cell? ⟨H, 0, none⟩ = some (.int .i64 x0) ∧ W.cell? ⟨H, 1, none⟩ = some (.int .i64 x1) ∧ W.cell? ⟨H, 2, none⟩ = some (.int .i64 x2) ∧ W.cell? ⟨H, 3, none⟩ = some (.int .i64 x3))
      (first | (with_reducible assumption) | (with_reducible exact HKS.out _ hb0) | (with_reducible exact HKS.out _ (HBA.out _)))
      (first
        | (go_at_call 20; (first | (with_reducible refine (HP0.out _).mono ?_) | (with_reducible refine (HP1.out _).mono ?_) | (with_reducible refine (HP2.out _).mono ?_) | (with_reducible refine (HP3.out _).mono ?_)); rintro e wn ⟨rfl, rfl⟩; (try dsimp only))
        | fail)
    all_goals
      go_wp2_with fail
      go_meet
      refine ⟨by rw [HS1.out], Lib.hid ⟨k0, p1, g0, p3, HX1.out.below (HBA.out _), HZ1.out.below (HBA.out _), ?_, DatN.none_, fun j hj => absurd hj (Nat.not_lt_zero j), HB1.out.trans ((HBA.out _).mono (by have := HS1.out; omega))⟩⟩
      exact (QV.of_new HS1.out).below (below_drewN 1 _)
  case rest =>
    obtain ⟨rfl, HJ⟩ := hcut
    obtain ⟨k, s, g, i, hq⟩ := HJ.out
    have HQ := Lib.hid hq
    clear HJ hq HP0 HP1 HP2 HP3 HKS HBA hb0 wk0 wg0 HW1 HB1 HX1 HZ1 HS1
    obtain ⟨y, wq⟩ : ∃ y, IntKind.i64.wrap (x5.tdiv 30) = y := ⟨_, rfl⟩
    have wq2 : ¬ (30 : Int) = 0 := by decide
    obtain ⟨k4, wk4⟩ : ∃ k4, IntKind.i64.wrap (y % 9 - 1) = k4 := ⟨_, rfl⟩
    obtain ⟨g3, wg3⟩ : ∃ g3, IntKind.i64.wrap (1 + x2 % 30) = g3 := ⟨_, rfl⟩
    obtain ⟨p, hp⟩ : ∃ p, x5 % 30 = p := ⟨_, rfl⟩
    have HPB := Lib.hid (fun W => HPK.out x5 30 (by omega) (by omega) W)
    rw [hp] at HPB
    clear hp
    obtain ⟨m, hm⟩ : ∃ m : Nat, y % 140 = (m : Int) := ⟨(y % 140).toNat, by omega⟩
    have hm140 : m < 140 := by omega
    have HPM := Lib.hid (fun W => HPK.out y 140 (by omega) (by omega) W)
    rw [hm] at HPM
    have HBM := Lib.hid (fun W => cbytes x4 m (m : Int) rfl W (by omega))
    have HB32 := Lib.hid (fun W => cbytes x4 32 32 rfl W (by omega))
    have HB128 := Lib.hid (fun W => cbytes x4 128 128 rfl W (by omega))
    clear hm hm140
    by_cases h2 : k = 2
    · subst h2
      have q0 := HQ.out.cur.c0
      have q1 := HQ.out.cur.c1
      have q2 := HQ.out.cur.c2
      have q3 := HQ.out.cur.c3
      have q4 := HQ.out.cur.c4
      have qf := HQ.out.cur.f
      obtain ⟨r0, r1, r2, r3, r4, r5⟩ := HQ.out.raw.cells
      go_wp2_with fail
      refine (HB32.out _).mono ?_
      rintro e w2 ⟨gb, rfl, hk2, hb2, _⟩
      try dsimp only
      have HQ2 := Lib.hid (HQ.out.below hb2)
      have HK2 := Lib.hid hk2
      clear q0 q1 q2 q3 q4 qf r0 r1 r2 r3 r4 r5
      clear hk2 hb2
      have q0 := HQ2.out.cur.c0
      have q1 := HQ2.out.cur.c1
      have q2 := HQ2.out.cur.c2
      have q3 := HQ2.out.cur.c3
      have q4 := HQ2.out.cur.c4
      have qf := HQ2.out.cur.f
      obtain ⟨r0, r1, r2, r3, r4, r5⟩ := HQ2.out.raw.cells
      obtain ⟨u3, hn⟩ : ∃ wn, w2.setCell ⟨H + 2, 4, none⟩ (.slice (some ⟨gb, 0, none⟩) 32 32) = wn := ⟨_, rfl⟩
      have HQu3 := Lib.hid (HQ2.out.p4 (d := 32) HK2.out (fun j _ => bytesF_lt x4 j))
      rw [hn] at HQu3
      have HNu3 := Lib.hid hn
      clear hn
      go_upto_region 8 with fail
      rw [HNu3.out]
      clear q0 q1 q2 q3 q4 qf r0 r1 r2 r3 r4 r5
      have q0 := HQu3.out.cur.c0
      have q1 := HQu3.out.cur.c1
      have q2 := HQu3.out.cur.c2
      have q3 := HQu3.out.cur.c3
      have q4 := HQu3.out.cur.c4
      have qf := HQu3.out.cur.f
      obtain ⟨r0, r1, r2, r3, r4, r5⟩ := HQu3.out.raw.cells
      go_wp2_with fail
      refine (HPB.out _).mono ?_
      rintro e w' ⟨rfl, hw⟩
      obtain rfl := hw.symm
      try dsimp only
      by_cases h24 : p = 24
      · subst h24
        go_wp2_with fail
        refine (HPK.out y 9 (by omega) (by omega) _).mono ?_
        rintro e w' ⟨rfl, hw⟩
        obtain rfl := hw.symm
        try dsimp only
        obtain ⟨u4, hn⟩ : ∃ wn, u3.setCell ⟨H + 2, 0, none⟩ (.int .i64 k4) = wn := ⟨_, rfl⟩
        have HQu4 := Lib.hid (HQu3.out.p0 k4)
        rw [hn] at HQu4
        have HNu4 := Lib.hid hn
        clear hn
        go_upto_region 21 with fail
        rw [HNu4.out]
        clear q0 q1 q2 q3 q4 qf r0 r1 r2 r3 r4 r5
        have q0 := HQu4.out.cur.c0
        have q1 := HQu4.out.cur.c1
        have q2 := HQu4.out.cur.c2
        have q3 := HQu4.out.cur.c3
        have q4 := HQu4.out.cur.c4
        have z0 := HQu4.out.res.c0
        have z1 := HQu4.out.res.c1
        have z2 := HQu4.out.res.c2
        have z3 := HQu4.out.res.c3
        have z4 := HQu4.out.res.c4
        have zf := HQu4.out.res.f
        have zne : ¬ H + 1 = H + 2 := by omega
        go_wp2_with fail
        refine bodyPost_ret (v := rqv k4 s g i (some ⟨gb, 0, none⟩) 32 32) ?_ rfl ?_
        · rw [results_cell1 rfl]
          simp [(HQu4.out.res.put5 (k' := k4) (s' := s) (g' := g) (i' := i) (A' := (some ⟨gb, 0, none⟩)) (m' := 32) (c' := 32)).load, Result.andThen, asAddr]
        exact HQu4.out.fin HH.out
      have b24 : (p == 24) = false := beq_eq_false_iff_ne.2 h24
      by_cases h25 : p = 25
      · subst h25
        obtain ⟨u4, hn⟩ : ∃ wn, u3.setCell ⟨H + 2, 1, none⟩ (.int .i64 x1) = wn := ⟨_, rfl⟩
        have HQu4 := Lib.hid (HQu3.out.p1 x1)
        rw [hn] at HQu4
        have HNu4 := Lib.hid hn
        clear hn
        go_upto_region 21 with fail
        rw [HNu4.out]
        clear q0 q1 q2 q3 q4 qf r0 r1 r2 r3 r4 r5
        have q0 := HQu4.out.cur.c0
        have q1 := HQu4.out.cur.c1
        have q2 := HQu4.out.cur.c2
        have q3 := HQu4.out.cur.c3
        have q4 := HQu4.out.cur.c4
        have z0 := HQu4.out.res.c0
        have z1 := HQu4.out.res.c1
        have z2 := HQu4.out.res.c2
        have z3 := HQu4.out.res.c3
        have z4 := HQu4.out.res.c4
        have zf := HQu4.out.res.f
        have zne : ¬ H + 1 = H + 2 := by omega
        go_wp2_with fail
        refine bodyPost_ret (v := rqv 2 x1 g i (some ⟨gb, 0, none⟩) 32 32) ?_ rfl ?_
        · rw [results_cell1 rfl]
          simp [(HQu4.out.res.put5 (k' := 2) (s' := x1) (g' := g) (i' := i) (A' := (some ⟨gb, 0, none⟩)) (m' := 32) (c' := 32)).load, Result.andThen, asAddr]
        exact HQu4.out.fin HH.out
      have b25 : (p == 25) = false := beq_eq_false_iff_ne.2 h25
      by_cases h26 : p = 26
      · subst h26
        obtain ⟨u4, hn⟩ : ∃ wn, u3.setCell ⟨H + 2, 2, none⟩ (.int .i64 x2) = wn := ⟨_, rfl⟩
        have HQu4 := Lib.hid (HQu3.out.p2 x2)
        rw [hn] at HQu4
        have HNu4 := Lib.hid hn
        clear hn
        go_upto_region 21 with fail
        rw [HNu4.out]
        clear q0 q1 q2 q3 q4 qf r0 r1 r2 r3 r4 r5
        have q0 := HQu4.out.cur.c0
        have q1 := HQu4.out.cur.c1
        have q2 := HQu4.out.cur.c2
        have q3 := HQu4.out.cur.c3
        have q4 := HQu4.out.cur.c4
        have z0 := HQu4.out.res.c0
        have z1 := HQu4.out.res.c1
        have z2 := HQu4.out.res.c2
        have z3 := HQu4.out.res.c3
        have z4 := HQu4.out.res.c4
        have zf := HQu4.out.res.f
        have zne : ¬ H + 1 = H + 2 := by omega
        go_wp2_with fail
        refine bodyPost_ret (v := rqv 2 s x2 i (some ⟨gb, 0, none⟩) 32 32) ?_ rfl ?_
        · rw [results_cell1 rfl]
          simp [(HQu4.out.res.put5 (k' := 2) (s' := s) (g' := x2) (i' := i) (A' := (some ⟨gb, 0, none⟩)) (m' := 32) (c' := 32)).load, Result.andThen, asAddr]
        exact HQu4.out.fin HH.out
      have b26 : (p == 26) = false := beq_eq_false_iff_ne.2 h26
      by_cases h27 : p = 27
      · subst h27
        obtain ⟨u4, hn⟩ : ∃ wn, u3.setCell ⟨H + 2, 3, none⟩ (.int .i64 x3) = wn := ⟨_, rfl⟩
        have HQu4 := Lib.hid (HQu3.out.p3 x3)
        rw [hn] at HQu4
        have HNu4 := Lib.hid hn
        clear hn
        go_upto_region 21 with fail
        rw [HNu4.out]
        clear q0 q1 q2 q3 q4 qf r0 r1 r2 r3 r4 r5
        have q0 := HQu4.out.cur.c0
        have q1 := HQu4.out.cur.c1
        have q2 := HQu4.out.cur.c2
        have q3 := HQu4.out.cur.c3
        have q4 := HQu4.out.cur.c4
        have z0 := HQu4.out.res.c0
        have z1 := HQu4.out.res.c1
        have z2 := HQu4.out.res.c2
        have z3 := HQu4.out.res.c3
        have z4 := HQu4.out.res.c4
        have zf := HQu4.out.res.f
        have zne : ¬ H + 1 = H + 2 := by omega
        go_wp2_with fail
        refine bodyPost_ret (v := rqv 2 s g x3 (some ⟨gb, 0, none⟩) 32 32) ?_ rfl ?_
        · rw [results_cell1 rfl]
          simp [(HQu4.out.res.put5 (k' := 2) (s' := s) (g' := g) (i' := x3) (A' := (some ⟨gb, 0, none⟩)) (m' := 32) (c' := 32)).load, Result.andThen, asAddr]
        exact HQu4.out.fin HH.out
      have b27 : (p == 27) = false := beq_eq_false_iff_ne.2 h27
      by_cases h28 : p = 28
      · subst h28
        have HKT : Hid (∀ W, Below u3.heap.size u3 W → W.cell? ⟨H, 4, none⟩ = some (.int .i64 x4) ∧ W.cell? ⟨H, 5, none⟩ = some (.int .i64 x5)) := Lib.hid (fun W hW => by
          obtain ⟨_, _, _, _, a, b⟩ := (HQu3.out.below hW).raw.cells
          exact ⟨a, b⟩)
        have hb0 : Below u3.heap.size u3 u3.drew := below_drewN 1 u3
        clear q0 q1 q2 q3 q4 qf r0 r1 r2 r3 r4 r5
        go_upto_region 18 with fail
        go_region_held (fun W => W.cell? ⟨H, 4, none⟩ = some (.int .i64 x4) ∧ W.cell? ⟨H, 5, none⟩ = some (.int .i64 x5))
          (first | (with_reducible assumption) | (with_reducible exact HKT.out _ hb0) | (with_reducible exact HKT.out _ HB5.out) | (with_reducible exact HK6.out))
          (first
            | (go_at_call 20; (with_reducible refine (HPM.out _).mono ?_); rintro e wn ⟨rfl, rfl⟩; (try dsimp only))
            | (go_at_call 33; (with_reducible refine (HBM.out _).mono ?_); rintro e w5 ⟨g5, rfl, hk5, hb5, _⟩; (try dsimp only); have HB5 := Lib.hid (hb0.trans (hb5.mono hb0.size)); have HQ5 := Lib.hid (HQu3.out.below HB5.out); have HQ6 := Lib.hid (HQ5.out.p4 (d := m) hk5 (fun j _ => bytesF_lt x4 j)); have HK6 : Hid ((fun W : World => W.cell? ⟨H, 4, none⟩ = some (.int .i64 x4) ∧ W.cell? ⟨H, 5, none⟩ = some (.int .i64 x5)) (w5.setCell ⟨H + 2, 4, none⟩ (.slice (some ⟨g5, 0, none⟩) m m))) := Lib.hid ⟨HQ6.out.raw.cells.2.2.2.2.1, HQ6.out.raw.cells.2.2.2.2.2⟩; (try dsimp only at HK6); have q4 := HQ5.out.cur.c4; have qf := HQ5.out.cur.f; clear hk5 hb5)
            | fail)
        clear HKT HK6 q4 qf
        obtain ⟨u4, hn⟩ : ∃ wn, w5.setCell ⟨H + 2, 4, none⟩ (.slice (some ⟨g5, 0, none⟩) m m) = wn := ⟨_, rfl⟩
        rw [hn] at HQ6 ⊢
        clear hn
        have q0 := HQ6.out.cur.c0
        have q1 := HQ6.out.cur.c1
        have q2 := HQ6.out.cur.c2
        have q3 := HQ6.out.cur.c3
        have q4 := HQ6.out.cur.c4
        have z0 := HQ6.out.res.c0
        have z1 := HQ6.out.res.c1
        have z2 := HQ6.out.res.c2
        have z3 := HQ6.out.res.c3
        have z4 := HQ6.out.res.c4
        have zf := HQ6.out.res.f
        have zne : ¬ H + 1 = H + 2 := by omega
        go_wp2_with fail
        refine bodyPost_ret (v := rqv 2 s g i (some ⟨g5, 0, none⟩) m m) ?_ rfl ?_
        · rw [results_cell1 rfl]
          simp [(HQ6.out.res.put5 (k' := 2) (s' := s) (g' := g) (i' := i) (A' := (some ⟨g5, 0, none⟩)) (m' := m) (c' := m)).load, Result.andThen, asAddr]
        exact HQ6.out.fin HH.out
      have b28 : (p == 28) = false := beq_eq_false_iff_ne.2 h28
      by_cases h29 : p = 29
      · subst h29
        go_wp2_with fail
        refine (HPK.out x1 43 (by omega) (by omega) _).mono ?_
        rintro e w' ⟨rfl, hw⟩
        obtain rfl := hw.symm
        try dsimp only
        obtain ⟨u4, hn⟩ : ∃ wn, u3.setCell ⟨H + 2, 1, none⟩ (.int .i64 (x1 % 43)) = wn := ⟨_, rfl⟩
        have HQu4 := Lib.hid (HQu3.out.p1 (x1 % 43))
        rw [hn] at HQu4
        have HNu4 := Lib.hid hn
        clear hn
        go_upto_region 21 with fail
        rw [HNu4.out]
        clear q0 q1 q2 q3 q4 qf r0 r1 r2 r3 r4 r5
        have q0 := HQu4.out.cur.c0
        have q1 := HQu4.out.cur.c1
        have q2 := HQu4.out.cur.c2
        have q3 := HQu4.out.cur.c3
        have q4 := HQu4.out.cur.c4
        have z0 := HQu4.out.res.c0
        have z1 := HQu4.out.res.c1
        have z2 := HQu4.out.res.c2
        have z3 := HQu4.out.res.c3
        have z4 := HQu4.out.res.c4
        have zf := HQu4.out.res.f
        have zne : ¬ H + 1 = H + 2 := by omega
        go_wp2_with fail
        refine bodyPost_ret (v := rqv 2 (x1 % 43) g i (some ⟨gb, 0, none⟩) 32 32) ?_ rfl ?_
        · rw [results_cell1 rfl]
          simp [(HQu4.out.res.put5 (k' := 2) (s' := (x1 % 43)) (g' := g) (i' := i) (A' := (some ⟨gb, 0, none⟩)) (m' := 32) (c' := 32)).load, Result.andThen, asAddr]
        exact HQu4.out.fin HH.out
      have b29 : (p == 29) = false := beq_eq_false_iff_ne.2 h29
      clear q0 q1 q2 q3 q4 qf r0 r1 r2 r3 r4 r5
      have q0 := HQu3.out.cur.c0
      have q1 := HQu3.out.cur.c1
      have q2 := HQu3.out.cur.c2
      have q3 := HQu3.out.cur.c3
      have q4 := HQu3.out.cur.c4
      have z0 := HQu3.out.res.c0
      have z1 := HQu3.out.res.c1
      have z2 := HQu3.out.res.c2
      have z3 := HQu3.out.res.c3
      have z4 := HQu3.out.res.c4
      have zf := HQu3.out.res.f
      have zne : ¬ H + 1 = H + 2 := by omega
      go_wp2_with fail
      refine bodyPost_ret (v := rqv 2 s g i (some ⟨gb, 0, none⟩) 32 32) ?_ rfl ?_
      · rw [results_cell1 rfl]
        simp [(HQu3.out.res.put5 (k' := 2) (s' := s) (g' := g) (i' := i) (A' := (some ⟨gb, 0, none⟩)) (m' := 32) (c' := 32)).load, Result.andThen, asAddr]
      exact HQu3.out.fin HH.out
    by_cases h3 : k = 3
    · subst h3
      have q0 := HQ.out.cur.c0
      have q1 := HQ.out.cur.c1
      have q2 := HQ.out.cur.c2
      have q3 := HQ.out.cur.c3
      have q4 := HQ.out.cur.c4
      have qf := HQ.out.cur.f
      obtain ⟨r0, r1, r2, r3, r4, r5⟩ := HQ.out.raw.cells
      go_wp2_with fail
      refine (HB128.out _).mono ?_
      rintro e w2 ⟨gb, rfl, hk2, hb2, _⟩
      try dsimp only
      have HQ2 := Lib.hid (HQ.out.below hb2)
      have HK2 := Lib.hid hk2
      clear q0 q1 q2 q3 q4 qf r0 r1 r2 r3 r4 r5
      clear hk2 hb2
      have q0 := HQ2.out.cur.c0
      have q1 := HQ2.out.cur.c1
      have q2 := HQ2.out.cur.c2
      have q3 := HQ2.out.cur.c3
      have q4 := HQ2.out.cur.c4
      have qf := HQ2.out.cur.f
      obtain ⟨r0, r1, r2, r3, r4, r5⟩ := HQ2.out.raw.cells
      obtain ⟨u2, hn⟩ : ∃ wn, w2.setCell ⟨H + 2, 4, none⟩ (.slice (some ⟨gb, 0, none⟩) 128 128) = wn := ⟨_, rfl⟩
      have HQu2 := Lib.hid (HQ2.out.p4 (d := 128) HK2.out (fun j _ => bytesF_lt x4 j))
      rw [hn] at HQu2
      have HNu2 := Lib.hid hn
      clear hn
      go_upto_region 7 with fail
      rw [HNu2.out]
      clear q0 q1 q2 q3 q4 qf r0 r1 r2 r3 r4 r5
      have q0 := HQu2.out.cur.c0
      have q1 := HQu2.out.cur.c1
      have q2 := HQu2.out.cur.c2
      have q3 := HQu2.out.cur.c3
      have q4 := HQu2.out.cur.c4
      have qf := HQu2.out.cur.f
      obtain ⟨r0, r1, r2, r3, r4, r5⟩ := HQu2.out.raw.cells
      go_wp2_with fail
      refine (HPK.out x2 30 (by omega) (by omega) _).mono ?_
      rintro e w' ⟨rfl, hw⟩
      obtain rfl := hw.symm
      try dsimp only
      obtain ⟨u3, hn⟩ : ∃ wn, u2.setCell ⟨H + 2, 2, none⟩ (.int .i64 g3) = wn := ⟨_, rfl⟩
      have HQu3 := Lib.hid (HQu2.out.p2 g3)
      rw [hn] at HQu3
      have HNu3 := Lib.hid hn
      clear hn
      go_upto_region 8 with fail
      rw [HNu3.out]
      clear q0 q1 q2 q3 q4 qf r0 r1 r2 r3 r4 r5
      have q0 := HQu3.out.cur.c0
      have q1 := HQu3.out.cur.c1
      have q2 := HQu3.out.cur.c2
      have q3 := HQu3.out.cur.c3
      have q4 := HQu3.out.cur.c4
      have qf := HQu3.out.cur.f
      obtain ⟨r0, r1, r2, r3, r4, r5⟩ := HQu3.out.raw.cells
      go_wp2_with fail
      refine (HPB.out _).mono ?_
      rintro e w' ⟨rfl, hw⟩
      obtain rfl := hw.symm
      try dsimp only
      by_cases h24 : p = 24
      · subst h24
        go_wp2_with fail
        refine (HPK.out y 9 (by omega) (by omega) _).mono ?_
        rintro e w' ⟨rfl, hw⟩
        obtain rfl := hw.symm
        try dsimp only
        obtain ⟨u4, hn⟩ : ∃ wn, u3.setCell ⟨H + 2, 0, none⟩ (.int .i64 k4) = wn := ⟨_, rfl⟩
        have HQu4 := Lib.hid (HQu3.out.p0 k4)
        rw [hn] at HQu4
        have HNu4 := Lib.hid hn
        clear hn
        go_upto_region 21 with fail
        rw [HNu4.out]
        clear q0 q1 q2 q3 q4 qf r0 r1 r2 r3 r4 r5
        have q0 := HQu4.out.cur.c0
        have q1 := HQu4.out.cur.c1
        have q2 := HQu4.out.cur.c2
        have q3 := HQu4.out.cur.c3
        have q4 := HQu4.out.cur.c4
        have z0 := HQu4.out.res.c0
        have z1 := HQu4.out.res.c1
        have z2 := HQu4.out.res.c2
        have z3 := HQu4.out.res.c3
        have z4 := HQu4.out.res.c4
        have zf := HQu4.out.res.f
        have zne : ¬ H + 1 = H + 2 := by omega
        go_wp2_with fail
        refine bodyPost_ret (v := rqv k4 s g3 i (some ⟨gb, 0, none⟩) 128 128) ?_ rfl ?_
        · rw [results_cell1 rfl]
          simp [(HQu4.out.res.put5 (k' := k4) (s' := s) (g' := g3) (i' := i) (A' := (some ⟨gb, 0, none⟩)) (m' := 128) (c' := 128)).load, Result.andThen, asAddr]
        exact HQu4.out.fin HH.out
      have b24 : (p == 24) = false := beq_eq_false_iff_ne.2 h24
      by_cases h25 : p = 25
      · subst h25
        obtain ⟨u4, hn⟩ : ∃ wn, u3.setCell ⟨H + 2, 1, none⟩ (.int .i64 x1) = wn := ⟨_, rfl⟩
        have HQu4 := Lib.hid (HQu3.out.p1 x1)
        rw [hn] at HQu4
        have HNu4 := Lib.hid hn
        clear hn
        go_upto_region 21 with fail
        rw [HNu4.out]
        clear q0 q1 q2 q3 q4 qf r0 r1 r2 r3 r4 r5
        have q0 := HQu4.out.cur.c0
        have q1 := HQu4.out.cur.c1
        have q2 := HQu4.out.cur.c2
        have q3 := HQu4.out.cur.c3
        have q4 := HQu4.out.cur.c4
        have z0 := HQu4.out.res.c0
        have z1 := HQu4.out.res.c1
        have z2 := HQu4.out.res.c2
        have z3 := HQu4.out.res.c3
        have z4 := HQu4.out.res.c4
        have zf := HQu4.out.res.f
        have zne : ¬ H + 1 = H + 2 := by omega
        go_wp2_with fail
        refine bodyPost_ret (v := rqv 3 x1 g3 i (some ⟨gb, 0, none⟩) 128 128) ?_ rfl ?_
        · rw [results_cell1 rfl]
          simp [(HQu4.out.res.put5 (k' := 3) (s' := x1) (g' := g3) (i' := i) (A' := (some ⟨gb, 0, none⟩)) (m' := 128) (c' := 128)).load, Result.andThen, asAddr]
        exact HQu4.out.fin HH.out
      have b25 : (p == 25) = false := beq_eq_false_iff_ne.2 h25
      by_cases h26 : p = 26
      · subst h26
        obtain ⟨u4, hn⟩ : ∃ wn, u3.setCell ⟨H + 2, 2, none⟩ (.int .i64 x2) = wn := ⟨_, rfl⟩
        have HQu4 := Lib.hid (HQu3.out.p2 x2)
        rw [hn] at HQu4
        have HNu4 := Lib.hid hn
        clear hn
        go_upto_region 21 with fail
        rw [HNu4.out]
        clear q0 q1 q2 q3 q4 qf r0 r1 r2 r3 r4 r5
        have q0 := HQu4.out.cur.c0
        have q1 := HQu4.out.cur.c1
        have q2 := HQu4.out.cur.c2
        have q3 := HQu4.out.cur.c3
        have q4 := HQu4.out.cur.c4
        have z0 := HQu4.out.res.c0
        have z1 := HQu4.out.res.c1
        have z2 := HQu4.out.res.c2
        have z3 := HQu4.out.res.c3
        have z4 := HQu4.out.res.c4
        have zf := HQu4.out.res.f
        have zne : ¬ H + 1 = H + 2 := by omega
        go_wp2_with fail
        refine bodyPost_ret (v := rqv 3 s x2 i (some ⟨gb, 0, none⟩) 128 128) ?_ rfl ?_
        · rw [results_cell1 rfl]
          simp [(HQu4.out.res.put5 (k' := 3) (s' := s) (g' := x2) (i' := i) (A' := (some ⟨gb, 0, none⟩)) (m' := 128) (c' := 128)).load, Result.andThen, asAddr]
        exact HQu4.out.fin HH.out
      have b26 : (p == 26) = false := beq_eq_false_iff_ne.2 h26
      by_cases h27 : p = 27
      · subst h27
        obtain ⟨u4, hn⟩ : ∃ wn, u3.setCell ⟨H + 2, 3, none⟩ (.int .i64 x3) = wn := ⟨_, rfl⟩
        have HQu4 := Lib.hid (HQu3.out.p3 x3)
        rw [hn] at HQu4
        have HNu4 := Lib.hid hn
        clear hn
        go_upto_region 21 with fail
        rw [HNu4.out]
        clear q0 q1 q2 q3 q4 qf r0 r1 r2 r3 r4 r5
        have q0 := HQu4.out.cur.c0
        have q1 := HQu4.out.cur.c1
        have q2 := HQu4.out.cur.c2
        have q3 := HQu4.out.cur.c3
        have q4 := HQu4.out.cur.c4
        have z0 := HQu4.out.res.c0
        have z1 := HQu4.out.res.c1
        have z2 := HQu4.out.res.c2
        have z3 := HQu4.out.res.c3
        have z4 := HQu4.out.res.c4
        have zf := HQu4.out.res.f
        have zne : ¬ H + 1 = H + 2 := by omega
        go_wp2_with fail
        refine bodyPost_ret (v := rqv 3 s g3 x3 (some ⟨gb, 0, none⟩) 128 128) ?_ rfl ?_
        · rw [results_cell1 rfl]
          simp [(HQu4.out.res.put5 (k' := 3) (s' := s) (g' := g3) (i' := x3) (A' := (some ⟨gb, 0, none⟩)) (m' := 128) (c' := 128)).load, Result.andThen, asAddr]
        exact HQu4.out.fin HH.out
      have b27 : (p == 27) = false := beq_eq_false_iff_ne.2 h27
      by_cases h28 : p = 28
      · subst h28
        have HKT : Hid (∀ W, Below u3.heap.size u3 W → W.cell? ⟨H, 4, none⟩ = some (.int .i64 x4) ∧ W.cell? ⟨H, 5, none⟩ = some (.int .i64 x5)) := Lib.hid (fun W hW => by
          obtain ⟨_, _, _, _, a, b⟩ := (HQu3.out.below hW).raw.cells
          exact ⟨a, b⟩)
        have hb0 : Below u3.heap.size u3 u3.drew := below_drewN 1 u3
        clear q0 q1 q2 q3 q4 qf r0 r1 r2 r3 r4 r5
        go_upto_region 18 with fail
        go_region_held (fun W => W.cell? ⟨H, 4, none⟩ = some (.int .i64 x4) ∧ W.cell? ⟨H, 5, none⟩ = some (.int .i64 x5))
          (first | (with_reducible assumption) | (with_reducible exact HKT.out _ hb0) | (with_reducible exact HKT.out _ HB5.out) | (with_reducible exact HK6.out))
          (first
            | (go_at_call 20; (with_reducible refine (HPM.out _).mono ?_); rintro e wn ⟨rfl, rfl⟩; (try dsimp only))
            | (go_at_call 33; (with_reducible refine (HBM.out _).mono ?_); rintro e w5 ⟨g5, rfl, hk5, hb5, _⟩; (try dsimp only); have HB5 := Lib.hid (hb0.trans (hb5.mono hb0.size)); have HQ5 := Lib.hid (HQu3.out.below HB5.out); have HQ6 := Lib.hid (HQ5.out.p4 (d := m) hk5 (fun j _ => bytesF_lt x4 j)); have HK6 : Hid ((fun W : World => W.cell? ⟨H, 4, none⟩ = some (.int .i64 x4) ∧ W.cell? ⟨H, 5, none⟩ = some (.int .i64 x5)) (w5.setCell ⟨H + 2, 4, none⟩ (.slice (some ⟨g5, 0, none⟩) m m))) := Lib.hid ⟨HQ6.out.raw.cells.2.2.2.2.1, HQ6.out.raw.cells.2.2.2.2.2⟩; (try dsimp only at HK6); have q4 := HQ5.out.cur.c4; have qf := HQ5.out.cur.f; clear hk5 hb5)
            | fail)
        clear HKT HK6 q4 qf
        obtain ⟨u4, hn⟩ : ∃ wn, w5.setCell ⟨H + 2, 4, none⟩ (.slice (some ⟨g5, 0, none⟩) m m) = wn := ⟨_, rfl⟩
        rw [hn] at HQ6 ⊢
        clear hn
        have q0 := HQ6.out.cur.c0
        have q1 := HQ6.out.cur.c1
        have q2 := HQ6.out.cur.c2
        have q3 := HQ6.out.cur.c3
        have q4 := HQ6.out.cur.c4
        have z0 := HQ6.out.res.c0
        have z1 := HQ6.out.res.c1
        have z2 := HQ6.out.res.c2
        have z3 := HQ6.out.res.c3
        have z4 := HQ6.out.res.c4
        have zf := HQ6.out.res.f
        have zne : ¬ H + 1 = H + 2 := by omega
        go_wp2_with fail
        refine bodyPost_ret (v := rqv 3 s g3 i (some ⟨g5, 0, none⟩) m m) ?_ rfl ?_
        · rw [results_cell1 rfl]
          simp [(HQ6.out.res.put5 (k' := 3) (s' := s) (g' := g3) (i' := i) (A' := (some ⟨g5, 0, none⟩)) (m' := m) (c' := m)).load, Result.andThen, asAddr]
        exact HQ6.out.fin HH.out
      have b28 : (p == 28) = false := beq_eq_false_iff_ne.2 h28
      by_cases h29 : p = 29
      · subst h29
        go_wp2_with fail
        refine (HPK.out x1 43 (by omega) (by omega) _).mono ?_
        rintro e w' ⟨rfl, hw⟩
        obtain rfl := hw.symm
        try dsimp only
        obtain ⟨u4, hn⟩ : ∃ wn, u3.setCell ⟨H + 2, 1, none⟩ (.int .i64 (x1 % 43)) = wn := ⟨_, rfl⟩
        have HQu4 := Lib.hid (HQu3.out.p1 (x1 % 43))
        rw [hn] at HQu4
        have HNu4 := Lib.hid hn
        clear hn
        go_upto_region 21 with fail
        rw [HNu4.out]
        clear q0 q1 q2 q3 q4 qf r0 r1 r2 r3 r4 r5
        have q0 := HQu4.out.cur.c0
        have q1 := HQu4.out.cur.c1
        have q2 := HQu4.out.cur.c2
        have q3 := HQu4.out.cur.c3
        have q4 := HQu4.out.cur.c4
        have z0 := HQu4.out.res.c0
        have z1 := HQu4.out.res.c1
        have z2 := HQu4.out.res.c2
        have z3 := HQu4.out.res.c3
        have z4 := HQu4.out.res.c4
        have zf := HQu4.out.res.f
        have zne : ¬ H + 1 = H + 2 := by omega
        go_wp2_with fail
        refine bodyPost_ret (v := rqv 3 (x1 % 43) g3 i (some ⟨gb, 0, none⟩) 128 128) ?_ rfl ?_
        · rw [results_cell1 rfl]
          simp [(HQu4.out.res.put5 (k' := 3) (s' := (x1 % 43)) (g' := g3) (i' := i) (A' := (some ⟨gb, 0, none⟩)) (m' := 128) (c' := 128)).load, Result.andThen, asAddr]
        exact HQu4.out.fin HH.out
      have b29 : (p == 29) = false := beq_eq_false_iff_ne.2 h29
      clear q0 q1 q2 q3 q4 qf r0 r1 r2 r3 r4 r5
      have q0 := HQu3.out.cur.c0
      have q1 := HQu3.out.cur.c1
      have q2 := HQu3.out.cur.c2
      have q3 := HQu3.out.cur.c3
      have q4 := HQu3.out.cur.c4
      have z0 := HQu3.out.res.c0
      have z1 := HQu3.out.res.c1
      have z2 := HQu3.out.res.c2
      have z3 := HQu3.out.res.c3
      have z4 := HQu3.out.res.c4
      have zf := HQu3.out.res.f
      have zne : ¬ H + 1 = H + 2 := by omega
      go_wp2_with fail
      refine bodyPost_ret (v := rqv 3 s g3 i (some ⟨gb, 0, none⟩) 128 128) ?_ rfl ?_
      · rw [results_cell1 rfl]
        simp [(HQu3.out.res.put5 (k' := 3) (s' := s) (g' := g3) (i' := i) (A' := (some ⟨gb, 0, none⟩)) (m' := 128) (c' := 128)).load, Result.andThen, asAddr]
      exact HQu3.out.fin HH.out
    have b2 : (k == 2) = false := beq_eq_false_iff_ne.2 h2
    have b3 : (k == 3) = false := beq_eq_false_iff_ne.2 h3
    have q0 := HQ.out.cur.c0
    have q1 := HQ.out.cur.c1
    have q2 := HQ.out.cur.c2
    have q3 := HQ.out.cur.c3
    have q4 := HQ.out.cur.c4
    have qf := HQ.out.cur.f
    obtain ⟨r0, r1, r2, r3, r4, r5⟩ := HQ.out.raw.cells
    go_upto_region 8 with fail
    clear q0 q1 q2 q3 q4 qf r0 r1 r2 r3 r4 r5
    have q0 := HQ.out.cur.c0
    have q1 := HQ.out.cur.c1
    have q2 := HQ.out.cur.c2
    have q3 := HQ.out.cur.c3
    have q4 := HQ.out.cur.c4
    have qf := HQ.out.cur.f
    obtain ⟨r0, r1, r2, r3, r4, r5⟩ := HQ.out.raw.cells
    go_wp2_with fail
    refine (HPB.out _).mono ?_
    rintro e w' ⟨rfl, hw⟩
    obtain rfl := hw.symm
    try dsimp only
    by_cases h24 : p = 24
    · subst h24
      go_wp2_with fail
      refine (HPK.out y 9 (by omega) (by omega) _).mono ?_
      rintro e w' ⟨rfl, hw⟩
      obtain rfl := hw.symm
      try dsimp only
      obtain ⟨u4, hn⟩ : ∃ wn, wc.setCell ⟨H + 2, 0, none⟩ (.int .i64 k4) = wn := ⟨_, rfl⟩
      have HQu4 := Lib.hid (HQ.out.p0 k4)
      rw [hn] at HQu4
      have HNu4 := Lib.hid hn
      clear hn
      go_upto_region 21 with fail
      rw [HNu4.out]
      clear q0 q1 q2 q3 q4 qf r0 r1 r2 r3 r4 r5
      have q0 := HQu4.out.cur.c0
      have q1 := HQu4.out.cur.c1
      have q2 := HQu4.out.cur.c2
      have q3 := HQu4.out.cur.c3
      have q4 := HQu4.out.cur.c4
      have z0 := HQu4.out.res.c0
      have z1 := HQu4.out.res.c1
      have z2 := HQu4.out.res.c2
      have z3 := HQu4.out.res.c3
      have z4 := HQu4.out.res.c4
      have zf := HQu4.out.res.f
      have zne : ¬ H + 1 = H + 2 := by omega
      go_wp2_with fail
      refine bodyPost_ret (v := rqv k4 s g i none 0 0) ?_ rfl ?_
      · rw [results_cell1 rfl]
        simp [(HQu4.out.res.put5 (k' := k4) (s' := s) (g' := g) (i' := i) (A' := none) (m' := 0) (c' := 0)).load, Result.andThen, asAddr]
      exact HQu4.out.fin HH.out
    have b24 : (p == 24) = false := beq_eq_false_iff_ne.2 h24
    by_cases h25 : p = 25
    · subst h25
      obtain ⟨u4, hn⟩ : ∃ wn, wc.setCell ⟨H + 2, 1, none⟩ (.int .i64 x1) = wn := ⟨_, rfl⟩
      have HQu4 := Lib.hid (HQ.out.p1 x1)
      rw [hn] at HQu4
      have HNu4 := Lib.hid hn
      clear hn
      go_upto_region 21 with fail
      rw [HNu4.out]
      clear q0 q1 q2 q3 q4 qf r0 r1 r2 r3 r4 r5
      have q0 := HQu4.out.cur.c0
      have q1 := HQu4.out.cur.c1
      have q2 := HQu4.out.cur.c2
      have q3 := HQu4.out.cur.c3
      have q4 := HQu4.out.cur.c4
      have z0 := HQu4.out.res.c0
      have z1 := HQu4.out.res.c1
      have z2 := HQu4.out.res.c2
      have z3 := HQu4.out.res.c3
      have z4 := HQu4.out.res.c4
      have zf := HQu4.out.res.f
      have zne : ¬ H + 1 = H + 2 := by omega
      go_wp2_with fail
      refine bodyPost_ret (v := rqv k x1 g i none 0 0) ?_ rfl ?_
      · rw [results_cell1 rfl]
        simp [(HQu4.out.res.put5 (k' := k) (s' := x1) (g' := g) (i' := i) (A' := none) (m' := 0) (c' := 0)).load, Result.andThen, asAddr]
      exact HQu4.out.fin HH.out
    have b25 : (p == 25) = false := beq_eq_false_iff_ne.2 h25
    by_cases h26 : p = 26
    · subst h26
      obtain ⟨u4, hn⟩ : ∃ wn, wc.setCell ⟨H + 2, 2, none⟩ (.int .i64 x2) = wn := ⟨_, rfl⟩
      have HQu4 := Lib.hid (HQ.out.p2 x2)
      rw [hn] at HQu4
      have HNu4 := Lib.hid hn
      clear hn
      go_upto_region 21 with fail
      rw [HNu4.out]
      clear q0 q1 q2 q3 q4 qf r0 r1 r2 r3 r4 r5
      have q0 := HQu4.out.cur.c0
      have q1 := HQu4.out.cur.c1
      have q2 := HQu4.out.cur.c2
      have q3 := HQu4.out.cur.c3
      have q4 := HQu4.out.cur.c4
      have z0 := HQu4.out.res.c0
      have z1 := HQu4.out.res.c1
      have z2 := HQu4.out.res.c2
      have z3 := HQu4.out.res.c3
      have z4 := HQu4.out.res.c4
      have zf := HQu4.out.res.f
      have zne : ¬ H + 1 = H + 2 := by omega
      go_wp2_with fail
      refine bodyPost_ret (v := rqv k s x2 i none 0 0) ?_ rfl ?_
      · rw [results_cell1 rfl]
        simp [(HQu4.out.res.put5 (k' := k) (s' := s) (g' := x2) (i' := i) (A' := none) (m' := 0) (c' := 0)).load, Result.andThen, asAddr]
      exact HQu4.out.fin HH.out
    have b26 : (p == 26) = false := beq_eq_false_iff_ne.2 h26
    by_cases h27 : p = 27
    · subst h27
      obtain ⟨u4, hn⟩ : ∃ wn, wc.setCell ⟨H + 2, 3, none⟩ (.int .i64 x3) = wn := ⟨_, rfl⟩
      have HQu4 := Lib.hid (HQ.out.p3 x3)
      rw [hn] at HQu4
      have HNu4 := Lib.hid hn
      clear hn
      go_upto_region 21 with fail
      rw [HNu4.out]
      clear q0 q1 q2 q3 q4 qf r0 r1 r2 r3 r4 r5
      have q0 := HQu4.out.cur.c0
      have q1 := HQu4.out.cur.c1
      have q2 := HQu4.out.cur.c2
      have q3 := HQu4.out.cur.c3
      have q4 := HQu4.out.cur.c4
      have z0 := HQu4.out.res.c0
      have z1 := HQu4.out.res.c1
      have z2 := HQu4.out.res.c2
      have z3 := HQu4.out.res.c3
      have z4 := HQu4.out.res.c4
      have zf := HQu4.out.res.f
      have zne : ¬ H + 1 = H + 2 := by omega
      go_wp2_with fail
      refine bodyPost_ret (v := rqv k s g x3 none 0 0) ?_ rfl ?_
      · rw [results_cell1 rfl]
        simp [(HQu4.out.res.put5 (k' := k) (s' := s) (g' := g) (i' := x3) (A' := none) (m' := 0) (c' := 0)).load, Result.andThen, asAddr]
      exact HQu4.out.fin HH.out
    have b27 : (p == 27) = false := beq_eq_false_iff_ne.2 h27
    by_cases h28 : p = 28
    · subst h28
      have HKT : Hid (∀ W, Below wc.heap.size wc W → W.cell? ⟨H, 4, none⟩ = some (.int .i64 x4) ∧ W.cell? ⟨H, 5, none⟩ = some (.int .i64 x5)) := Lib.hid (fun W hW => by
        obtain ⟨_, _, _, _, a, b⟩ := (HQ.out.below hW).raw.cells
        exact ⟨a, b⟩)
      have hb0 : Below wc.heap.size wc wc.drew := below_drewN 1 wc
      clear q0 q1 q2 q3 q4 qf r0 r1 r2 r3 r4 r5
      go_upto_region 18 with fail
      go_region_held (fun W => W.cell? ⟨H, 4, none⟩ = some (.int .i64 x4) ∧ W.cell? ⟨H, 5, none⟩ = some (.int .i64 x5))
        (first | (with_reducible assumption) | (with_reducible exact HKT.out _ hb0) | (with_reducible exact HKT.out _ HB5.out) | (with_reducible exact HK6.out))
        (first
          | (go_at_call 20; (with_reducible refine (HPM.out _).mono ?_); rintro e wn ⟨rfl, rfl⟩; (try dsimp only))
          | (go_at_call 33; (with_reducible refine (HBM.out _).mono ?_); rintro e w5 ⟨g5, rfl, hk5, hb5, _⟩; (try dsimp only); have HB5 := Lib.hid (hb0.trans (hb5.mono hb0.size)); have HQ5 := Lib.hid (HQ.out.below HB5.out); have HQ6 := Lib.hid (HQ5.out.p4 (d := m) hk5 (fun j _ => bytesF_lt x4 j)); have HK6 : Hid ((fun W : World => W.cell? ⟨H, 4, none⟩ = some (.int .i64 x4) ∧ W.cell? ⟨H, 5, none⟩ = some (.int .i64 x5)) (w5.setCell ⟨H + 2, 4, none⟩ (.slice (some ⟨g5, 0, none⟩) m m))) := Lib.hid ⟨HQ6.out.raw.cells.2.2.2.2.1, HQ6.out.raw.cells.2.2.2.2.2⟩; (try dsimp only at HK6); have q4 := HQ5.out.cur.c4; have qf := HQ5.out.cur.f; clear hk5 hb5)
          | fail)
      clear HKT HK6 q4 qf
      obtain ⟨u4, hn⟩ : ∃ wn, w5.setCell ⟨H + 2, 4, none⟩ (.slice (some ⟨g5, 0, none⟩) m m) = wn := ⟨_, rfl⟩
      rw [hn] at HQ6 ⊢
      clear hn
      have q0 := HQ6.out.cur.c0
      have q1 := HQ6.out.cur.c1
      have q2 := HQ6.out.cur.c2
      have q3 := HQ6.out.cur.c3
      have q4 := HQ6.out.cur.c4
      have z0 := HQ6.out.res.c0
      have z1 := HQ6.out.res.c1
      have z2 := HQ6.out.res.c2
      have z3 := HQ6.out.res.c3
      have z4 := HQ6.out.res.c4
      have zf := HQ6.out.res.f
      have zne : ¬ H + 1 = H + 2 := by omega
      go_wp2_with fail
      refine bodyPost_ret (v := rqv k s g i (some ⟨g5, 0, none⟩) m m) ?_ rfl ?_
      · rw [results_cell1 rfl]
        simp [(HQ6.out.res.put5 (k' := k) (s' := s) (g' := g) (i' := i) (A' := (some ⟨g5, 0, none⟩)) (m' := m) (c' := m)).load, Result.andThen, asAddr]
      exact HQ6.out.fin HH.out
    have b28 : (p == 28) = false := beq_eq_false_iff_ne.2 h28
    by_cases h29 : p = 29
    · subst h29
      go_wp2_with fail
      refine (HPK.out x1 43 (by omega) (by omega) _).mono ?_
      rintro e w' ⟨rfl, hw⟩
      obtain rfl := hw.symm
      try dsimp only
      obtain ⟨u4, hn⟩ : ∃ wn, wc.setCell ⟨H + 2, 1, none⟩ (.int .i64 (x1 % 43)) = wn := ⟨_, rfl⟩
      have HQu4 := Lib.hid (HQ.out.p1 (x1 % 43))
      rw [hn] at HQu4
      have HNu4 := Lib.hid hn
      clear hn
      go_upto_region 21 with fail
      rw [HNu4.out]
      clear q0 q1 q2 q3 q4 qf r0 r1 r2 r3 r4 r5
      have q0 := HQu4.out.cur.c0
      have q1 := HQu4.out.cur.c1
      have q2 := HQu4.out.cur.c2
      have q3 := HQu4.out.cur.c3
      have q4 := HQu4.out.cur.c4
      have z0 := HQu4.out.res.c0
      have z1 := HQu4.out.res.c1
      have z2 := HQu4.out.res.c2
      have z3 := HQu4.out.res.c3
      have z4 := HQu4.out.res.c4
      have zf := HQu4.out.res.f
      have zne : ¬ H + 1 = H + 2 := by omega
      go_wp2_with fail
      refine bodyPost_ret (v := rqv k (x1 % 43) g i none 0 0) ?_ rfl ?_
      · rw [results_cell1 rfl]
        simp [(HQu4.out.res.put5 (k' := k) (s' := (x1 % 43)) (g' := g) (i' := i) (A' := none) (m' := 0) (c' := 0)).load, Result.andThen, asAddr]
      exact HQu4.out.fin HH.out
    have b29 : (p == 29) = false := beq_eq_false_iff_ne.2 h29
    clear q0 q1 q2 q3 q4 qf r0 r1 r2 r3 r4 r5
    have q0 := HQ.out.cur.c0
    have q1 := HQ.out.cur.c1
    have q2 := HQ.out.cur.c2
    have q3 := HQ.out.cur.c3
    have q4 := HQ.out.cur.c4
    have z0 := HQ.out.res.c0
    have z1 := HQ.out.res.c1
    have z2 := HQ.out.res.c2
    have z3 := HQ.out.res.c3
    have z4 := HQ.out.res.c4
    have zf := HQ.out.res.f
    have zne : ¬ H + 1 = H + 2 := by omega
    go_wp2_with fail
    refine bodyPost_ret (v := rqv k s g i none 0 0) ?_ rfl ?_
    · rw [results_cell1 rfl]
      simp [(HQ.out.res.put5 (k' := k) (s' := s) (g' := g) (i' := i) (A' := none) (m' := 0) (c' := 0)).load, Result.andThen, asAddr]
    exact HQ.out.fin HH.out
end Go.Proofs.Ytoofgcdilgfclaa
