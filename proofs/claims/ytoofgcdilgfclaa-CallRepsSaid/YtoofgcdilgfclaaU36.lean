import Derived.Test.YtoofgcdilgfclaaU35
import Derived.Deep.RegionHeldLaw
namespace Go.Proofs.Ytoofgcdilgfclaa
open Go.RowKit Go.Sort
set_option maxRecDepth 100000
set_option maxHeartbeats 4000000

theorem RV.put1 {w : World} {b : Nat} {code boot : Int} {u v : Value} (h : RV w b code boot u v) (y : Int) : RV (w.setCell ⟨b, 1, none⟩ (.int .i64 y)) b code y u v := set_block h 1 _
/-- ReadRep: what is under way. -/
structure RRS (w0 : World) (H : Nat) (v : World) (code boot : Int) (u1 u2 : Value) (l : List Px) (m : List Ix) (st : St) : Prop where
  rd : RdS v (H + 1) st
  res : RV v H 0 0 (.slice none 0 0) (.slice none 0 0)
  cur : RV v (H + 2) code boot u1 u2
  ps : PL1 v H u1 l
  xs : IL1 v H u2 m
  blw : Below H w0 v
section
variable {w0 v v' : World} {H : Nat} {code boot : Int} {u1 u2 : Value} {l : List Px} {m : List Ix} {st st' : St}
theorem RRS.ty (h : RRS w0 H v code boot u1 u2 l m st) : ∃ cs, v.heap[H + 1]? = some (.cells cs 69 (0, 0)) := by
  obtain ⟨B, d, h1, _⟩ := h.rd
  exact ⟨_, h1⟩
theorem RRS.turn (h : RRS w0 H v code boot u1 u2 l m st) (t : Turn [H + 1] v v') (hr : RdS v' (H + 1) st') : RRS w0 H v' code boot u1 u2 l m st' := by
  obtain ⟨cs, hc⟩ := h.ty
  exact ⟨hr, h.res.keep (t.block H h.res.lt (by simp)), h.cur.keep (t.block (H + 2) h.cur.lt (by simp)), h.ps.turn hc (by decide) (by decide) t, h.xs.turn hc (by decide) (by decide) t, Below.of_turn h.blw t (by simp) (by have := h.res.lt; omega)⟩
theorem RRS.below (h : RRS w0 H v code boot u1 u2 l m st) (b : Below v.heap.size v v') : RRS w0 H v' code boot u1 u2 l m st :=
  ⟨h.rd.keep b, h.res.below b, h.cur.below b, h.ps.below b, h.xs.below b, h.blw.trans (b.mono (by have := h.res.lt; omega))⟩
theorem RRS.p0 (h : RRS w0 H v code boot u1 u2 l m st) (y : Int) : RRS w0 H (v.setCell ⟨H + 2, 0, none⟩ (.int .i64 y)) y boot u1 u2 l m st :=
  ⟨h.rd.set h.cur (by decide) (by decide), h.res.keep (set_other (by omega) _ _), h.cur.put0, h.ps.set h.cur (by decide) (by decide), h.xs.set h.cur (by decide) (by decide), h.blw.setCell (by simp) _⟩
theorem RRS.p1 (h : RRS w0 H v code boot u1 u2 l m st) (y : Int) : RRS w0 H (v.setCell ⟨H + 2, 1, none⟩ (.int .i64 y)) code y u1 u2 l m st :=
  ⟨h.rd.set h.cur (by decide) (by decide), h.res.keep (set_other (by omega) _ _), h.cur.put1 y, h.ps.set h.cur (by decide) (by decide), h.xs.set h.cur (by decide) (by decide), h.blw.setCell (by simp) _⟩
theorem RRS.p2 (h : RRS w0 H v code boot u1 u2 l m st) {u : Value} {k : List Px} (hk : PL1 v H u k) : RRS w0 H (v.setCell ⟨H + 2, 2, none⟩ u) code boot u u2 k m st :=
  ⟨h.rd.set h.cur (by decide) (by decide), h.res.keep (set_other (by omega) _ _), h.cur.put2, hk.set h.cur (by decide) (by decide), h.xs.set h.cur (by decide) (by decide), h.blw.setCell (by simp) _⟩
theorem RRS.p3 (h : RRS w0 H v code boot u1 u2 l m st) {u : Value} {k : List Ix} (hk : IL1 v H u k) : RRS w0 H (v.setCell ⟨H + 2, 3, none⟩ u) code boot u1 u l k st :=
  ⟨h.rd.set h.cur (by decide) (by decide), h.res.keep (set_other (by omega) _ _), h.cur.put3, h.ps.set h.cur (by decide) (by decide), hk.set h.cur (by decide) (by decide), h.blw.setCell (by simp) _⟩
/-- behind an append to the pieces, of blocks of pieces alone. -/
theorem RRS.appP (h : RRS w0 H v code boot u1 u2 l m st) (hb : ∀ w0, Below H w0 v → Below H w0 v') (ht : ∃ S0, Turn S0 v v' ∧ ∀ k ∈ S0, H ≤ k ∧ ∃ cs, v.heap[k]? = some (Obj.cells cs 31 (0, 0))) : RdS v' (H + 1) st ∧ RV v' H 0 0 (.slice none 0 0) (.slice none 0 0) ∧ RV v' (H + 2) code boot u1 u2 ∧ IL1 v' H u2 m ∧ Below H w0 v' := by
  obtain ⟨S0, t, hS⟩ := ht
  have keep : ∀ (g : Nat) (cs : Array Value) (ty : TypeId), v.heap[g]? = some (Obj.cells cs ty (0, 0)) → ty ≠ 31 → v'.heap[g]? = v.heap[g]? := fun g cs ty hg hne => t.block g (heap_lt hg) (fun hm => by
    obtain ⟨_, cs', h'⟩ := hS g hm
    rw [hg] at h'
    injection h' with h'
    injection h' with _ h'
    exact hne h')
  refine ⟨?_, h.res.keep (keep _ _ _ h.res (by decide)), h.cur.keep (keep _ _ _ h.cur (by decide)), h.xs.keep (fun g cs ty hg ho => keep g cs ty hg (by rcases ho with rfl | rfl <;> decide)), hb _ h.blw⟩
  obtain ⟨A, c, k1, k2, k3, k4⟩ := h.rd
  exact ⟨A, c, k1.keep (keep _ _ _ k1 (by decide)), k2, k3.keep (fun g cs hg => keep g cs _ hg (by decide)), k4⟩
theorem RRS.appI (h : RRS w0 H v code boot u1 u2 l m st) (hb : ∀ w0, Below H w0 v → Below H w0 v') (ht : ∃ S0, Turn S0 v v' ∧ ∀ k ∈ S0, H ≤ k ∧ ∃ cs, v.heap[k]? = some (Obj.cells cs 35 (0, 0))) : RdS v' (H + 1) st ∧ RV v' H 0 0 (.slice none 0 0) (.slice none 0 0) ∧ RV v' (H + 2) code boot u1 u2 ∧ PL1 v' H u1 l ∧ Below H w0 v' := by
  obtain ⟨S0, t, hS⟩ := ht
  have keep : ∀ (g : Nat) (cs : Array Value) (ty : TypeId), v.heap[g]? = some (Obj.cells cs ty (0, 0)) → ty ≠ 35 → v'.heap[g]? = v.heap[g]? := fun g cs ty hg hne => t.block g (heap_lt hg) (fun hm => by
    obtain ⟨_, cs', h'⟩ := hS g hm
    rw [hg] at h'
    injection h' with h'
    injection h' with _ h'
    exact hne h')
  refine ⟨?_, h.res.keep (keep _ _ _ h.res (by decide)), h.cur.keep (keep _ _ _ h.cur (by decide)), h.ps.keep (fun g cs ty hg ho => keep g cs ty hg (by rcases ho with rfl | rfl <;> decide)), hb _ h.blw⟩
  obtain ⟨A, c, k1, k2, k3, k4⟩ := h.rd
  exact ⟨A, c, k1.keep (keep _ _ _ k1 (by decide)), k2, k3.keep (fun g cs hg => keep g cs _ hg (by decide)), k4⟩
end
theorem numL_byte {k : Nat} {s : St} (hb : By s.1) (hk : k ≤ 1) : numL (nx k s).1 ≤ 255 := by
  have h1 := numL_lt (nx_by (k := k) hb).1
  have h2 : (256 : Nat) ^ (nx k s).1.length ≤ 256 ^ 1 := Nat.pow_le_pow_right (by decide) (by have := (nx_len k s).1; omega)
  omega
/-- A reply is told, or none. -/
def ReadR (o : Option Rx) (w : World) (e : Ending) (w' : World) : Prop := ∃ v, e = .returned (.tuple #[v, .int .i64 (if o.isSome then 0 else 2)]) ∧ RVal w' v (o.getD Rx.no) ∧ Below w.heap.size w w'
theorem creadRep (A : Option Addr) (L : List Nat) (c : Nat) (w : World) (hL : BL w A L) (hc : L.length ≤ c) (hby : By L) (hl : L.length ≤ 140737488355328) :
    Calls Try.prog 13 #[.slice A L.length c] w (ReadR (projR L) w) := by
  obtain ⟨H, hH⟩ : ∃ H, w.heap.size = H := ⟨_, rfl⟩
  have HH := Lib.hid hH
  obtain ⟨w1, hw1⟩ : ∃ w1, ((w.alloc (.cells #[.int .i64 0, .int .i64 0, .slice none 0 0, .slice none 0 0] 39)).alloc (.cells #[.slice A L.length c, .bool false] 69)).alloc (.cells #[.int .i64 0, .int .i64 0, .slice none 0 0, .slice none 0 0] 39) = w1 := ⟨_, rfl⟩
  have HW1 := Lib.hid hw1
  have hb1 : Below H w w1 := by rw [← hw1, ← hH]; exact (((Below.refl _ _).alloc (Nat.le_refl _) _).alloc (by simp) _).alloc (by simp; omega) _
  have h1 : RRS w H w1 0 0 (.slice none 0 0) (.slice none 0 0) [] [] (L, false) := by
    refine ⟨⟨A, c, ?_, hc, hL.below (by rw [hH]; exact hb1), hby⟩, ?_, ?_, PL1.nil, IL1.nil, hb1⟩
    · rw [← hw1]
      unfold RdV
      rw [alloc_old _ _ (by simp; omega), ← hH]
      exact (by simpa using alloc_block (w.alloc (.cells #[.int .i64 0, .int .i64 0, .slice none 0 0, .slice none 0 0] 39)) (.cells #[.slice A L.length c, .bool false] 69))
    · rw [← hw1]
      unfold RV
      rw [alloc_old _ _ (by simp; omega), alloc_old _ _ (by simp; omega)]
      exact RV.of_new hH
    · rw [← hw1]
      exact RV.of_new (by simp [hH])
  obtain ⟨a, ha⟩ : ∃ a, nx 1 (L, false) = a := ⟨_, rfl⟩
  obtain ⟨b, hb⟩ : ∃ b, nx 4 a.2 = b := ⟨_, rfl⟩
  obtain ⟨d, hd⟩ : ∃ d, nx 1 b.2 = d := ⟨_, rfl⟩
  obtain ⟨na, hna⟩ : ∃ n, numL a.1 = n := ⟨_, rfl⟩
  obtain ⟨nb, hnb⟩ : ∃ n, numL b.1 = n := ⟨_, rfl⟩
  obtain ⟨nd, hnd⟩ : ∃ n, numL d.1 = n := ⟨_, rfl⟩
  obtain ⟨f, hf⟩ : ∃ f, nx 1 (rdPs nd d.2).2 = f := ⟨_, rfl⟩
  obtain ⟨nf, hnf⟩ : ∃ n, numL f.1 = n := ⟨_, rfl⟩
  have ya : By a.2.1 := by rw [← ha]; exact (nx_by hby).2
  have yb : By b.2.1 := by rw [← hb]; exact (nx_by ya).2
  have yd : By d.2.1 := by rw [← hd]; exact (nx_by yb).2
  have la : a.2.1.length ≤ 140737488355328 := by rw [← ha]; exact Nat.le_trans (nx_len 1 (L, false)).2 hl
  have lb : b.2.1.length ≤ 140737488355328 := by rw [← hb]; exact Nat.le_trans (nx_len 4 a.2).2 la
  have ld : d.2.1.length ≤ 140737488355328 := by rw [← hd]; exact Nat.le_trans (nx_len 1 b.2).2 lb
  have yp := rdPs_by yd
  have yf : By f.2.1 := by rw [← hf]; exact (nx_by (yp nd).1).2
  have lf : f.2.1.length ≤ 140737488355328 := by rw [← hf]; exact Nat.le_trans (nx_len 1 (rdPs nd d.2).2).2 (Nat.le_trans (yp nd).2.1 ld)
  have yx := rdIs_by yf
  have lnd : nd ≤ 255 := by rw [← hnd, ← hd]; exact numL_byte yb (by omega)
  have lnf : nf ≤ 255 := by rw [← hnf, ← hf]; exact numL_byte (yp nd).1 (by omega)
  have HYP := Lib.hid yp
  have HYX := Lib.hid yx
  have HLD := Lib.hid ld
  have HLF := Lib.hid lf
  have HR1 : Hid (∀ W, RdS W (H + 1) (L, false) → _) := Lib.hid (fun W hW => rnumber (w := W) hW 1 (by omega) (by dsimp only; omega))
  have HR2 : Hid (∀ W, RdS W (H + 1) a.2 → _) := Lib.hid (fun W hW => rnumber (w := W) hW 4 (by omega) (by omega))
  have HR3 : Hid (∀ W, RdS W (H + 1) b.2 → _) := Lib.hid (fun W hW => rnumber (w := W) hW 1 (by omega) (by omega))
  have HR4 : Hid (∀ W, RdS W (H + 1) (rdPs nd d.2).2 → _) := Lib.hid (fun W hW => rnumber (w := W) hW 1 (by omega) (by have := (yp nd).2.1; omega))
  rw [ha, hna] at HR1
  rw [hb, hnb] at HR2
  rw [hd, hnd] at HR3
  rw [hf, hnf] at HR4
  have HE : Hid (rdR L = (⟨(na : Nat), (nb : Nat), (rdPs nd d.2).1, (rdIs nf f.2).1⟩, (rdIs nf f.2).2)) := Lib.hid (by
    unfold rdR
    dsimp only
    rw [ha, hna, hb, hnb, hd, hnd, hf, hnf])
  obtain ⟨o, ho⟩ : ∃ o, projR L = o := ⟨_, rfl⟩
  have HPJ : Hid (o = if (rdIs nf f.2).2.2 = false ∧ (rdIs nf f.2).2.1 = [] ∧ (⟨(na : Nat), (nb : Nat), (rdPs nd d.2).1, (rdIs nf f.2).1⟩ : Rx).Right then some ⟨(na : Nat), (nb : Nat), (rdPs nd d.2).1, (rdIs nf f.2).1⟩ else none) := Lib.hid (by
    rw [← ho]
    unfold projR
    rw [HE.out])
  rw [ho]
  have H1 := Lib.hid h1
  clear hw1 hH hb1 h1 ha hb hd hna hnb hnd hf hnf ya yb yd la lb ld yp yf lf yx hL hc hby hl HE ho
  obtain ⟨n, hn⟩ : ∃ n, L.length = n := ⟨_, rfl⟩
  rw [hn] at HW1 ⊢
  clear hn
  go_enter Try.func13, Try.ntmps13
  go_wp2_with fail
  rw [HW1.out, HH.out, show H + 1 + 1 = H + 2 from rfl]
  refine (HR1.out _ H1.out.rd).mono ?_
  rintro e w2 ⟨rfl, hr, ht⟩
  try dsimp only
  have HS0 := Lib.hid (H1.out.turn ht hr)
  clear hr ht
  obtain ⟨m0, hm⟩ : ∃ m, w2.setCell ⟨H + 2, 0, none⟩ (.int .i64 (na : Int)) = m := ⟨_, rfl⟩
  have HQ0 := Lib.hid (HS0.out.p0 (na : Int))
  rw [hm] at HQ0
  have HM0 := Lib.hid hm
  clear hm
  have qf := HS0.out.cur.f
  have ql := HS0.out.cur.c0
  go_wp2_with fail
  clear qf ql
  rw [HM0.out]
  refine (HR2.out _ HQ0.out.rd).mono ?_
  rintro e w3 ⟨rfl, hr, ht⟩
  try dsimp only
  have HS1 := Lib.hid (HQ0.out.turn ht hr)
  clear hr ht
  obtain ⟨m1, hm⟩ : ∃ m, w3.setCell ⟨H + 2, 1, none⟩ (.int .i64 (nb : Int)) = m := ⟨_, rfl⟩
  have HQ1 := Lib.hid (HS1.out.p1 (nb : Int))
  rw [hm] at HQ1
  have HM1 := Lib.hid hm
  clear hm
  have qf := HS1.out.cur.f
  have ql := HS1.out.cur.c1
  go_wp2_with fail
  clear qf ql
  rw [HM1.out]
  refine (HR3.out _ HQ1.out.rd).mono ?_
  rintro e w4 ⟨rfl, hr, ht⟩
  try dsimp only
  have HS2 := Lib.hid (HQ1.out.turn ht hr)
  clear hr ht
  go_wp2_with fail
  go_loopg [17] nd (fun q s17 v => ∃ (k : Nat) (u1 : Value), s17 = .int .i64 (k : Int) ∧ k ≤ nd ∧ q = nd - k ∧ Hid (RRS w H v (na : Int) (nb : Int) u1 (.slice none 0 0) (rdPs k d.2).1 [] (rdPs k d.2).2))
  case atStart => exact ⟨0, _, rfl, by omega, rfl, HS2⟩
  case round =>
    obtain ⟨k, u1, rfl, hk, rfl, HV⟩ := hrel
    by_cases hlt : k < nd
    · have hlt' : (k : Int) < (nd : Int) := by omega
      obtain ⟨st, hst⟩ : ∃ st, rdPs k d.2 = st := ⟨_, rfl⟩
      have HST := Lib.hid hst
      have hlen : st.2.1.length ≤ 140737488355328 := by rw [← hst]; exact Nat.le_trans (HYP.out k).2.1 HLD.out
      have hlk : st.1.length ≤ 1000000 := by rw [← hst, (HYP.out k).2.2.1]; omega
      rw [hst] at HV
      have HVd : Hid (RRS w H wr.drew (na : Int) (nb : Int) u1 (.slice none 0 0) st.1 [] st.2) := Lib.hid (HV.out.below (below_drewN 1 wr))
      have HPC := Lib.hid (cpiece HVd.out.rd hlen)
      have HLK := Lib.hid hlk
      have c2 : wr.drew.cell? ⟨H + 2, 2, none⟩ = some u1 := HVd.out.cur.c2
      clear hst hlen hlk
      go_wp2_with fail
      go_region_law
        (first
          | (refine step_append_P _ rfl (.tmp 20) (.tmp 23) rfl u1 st.1 (rdX st.2).1 rfl (HT6.out _).ps w5.heap.size rfl ⟨A5, d5, PV.new w5 _ _ _ _ _ _, HD5.out.below ((Below.refl _ _).alloc (Nat.le_refl _) _), HY5.out⟩ HLK.out (by have := (HT6.out (.cells #[.int .i64 (rdX st.2).1.s, .int .i64 (rdX st.2).1.g, .int .i64 (rdX st.2).1.i, .slice A5 (rdX st.2).1.D.length d5] 31)).res.lt; omega) ?_; intro v9 w9 hl9 hb9 hz9 ht9; obtain ⟨A9, c9, hv9⟩ := hl9.form; subst hv9; obtain ⟨q1, q2, q3, q4, q5⟩ := (HT6.out _).appP hb9 ht9; have HT9 : Hid (RRS w H (w9.setCell ⟨H + 2, 2, none⟩ (.slice A9 (st.1 ++ [(rdX st.2).1]).length c9)) (na : Int) (nb : Int) (.slice A9 (st.1 ++ [(rdX st.2).1]).length c9) (.slice none 0 0) (st.1 ++ [(rdX st.2).1]) [] (rdX st.2).2) := Lib.hid (⟨q1.set q3 (by decide) (by decide), q2.keep (set_other (by omega) _ _), q3.put2, hl9.set q3 (by decide) (by decide), q4.set q3 (by decide) (by decide), q5.setCell (by simp) _⟩); have HT7 : Hid (w9.cell? ⟨H + 2, 2, none⟩ = some u1) := Lib.hid q3.c2; have qf := q3.f; have q3c := q3.c2; clear q1 q2 q3 q4 q5 hl9 hb9 hz9 ht9)
          | (go_simp; go_at_call 37; (with_reducible refine HPC.out.mono ?_); rintro e w5 ⟨v5, rfl, ⟨A5, d5, rfl, hd5, hy5⟩, hr5, ht5⟩; (try dsimp only); have HT5 := Lib.hid (HVd.out.turn ht5 hr5); have y2 := HT5.out.cur.c2; have y2' : ∀ o, (w5.alloc o).cell? ⟨H + 2, 2, none⟩ = some u1 := fun o => (HT5.out.below ((Below.refl _ _).alloc (Nat.le_refl _) o)).cur.c2; have HT6 := Lib.hid (fun o => HT5.out.below ((Below.refl _ _).alloc (Nat.le_refl _) o)); have HD5 := Lib.hid hd5; have HY5 := Lib.hid hy5; clear hd5 hy5 hr5 ht5)
          )
      all_goals
        go_wp2_with fail
        go_roundg (nd - (k + 1))
        case measure => omega
        case rel => exact ⟨k + 1, _, by go_num, by omega, rfl, Lib.hid (by
          have h := HT9.out
          rw [List.length_append] at h
          show RRS w H _ (na : Int) (nb : Int) _ _ ((rdPs k d.2).1 ++ [(rdX (rdPs k d.2).2).1]) [] (rdX (rdPs k d.2).2).2
          rw [HST.out]
          exact h)⟩
    · obtain rfl : k = nd := by omega
      have HVk := Lib.hid HV.out
      have HR4' := Lib.hid (HR4.out wr HV.out.rd)
      clear HV
      obtain ⟨ww, rfl⟩ : ∃ ww : World, ww = wr := ⟨wr, rfl⟩
      go_wp2_with fail
      refine HR4'.out.mono ?_
      rintro e w6 ⟨rfl, hr, ht⟩
      try dsimp only
      have HS6 := Lib.hid (HVk.out.turn ht hr)
      clear hr ht HR4' HR4
      go_wp2_with fail
      go_loopg [29] nf (fun q s29 v => ∃ (j : Nat) (u2 : Value), s29 = .int .i64 (j : Int) ∧ j ≤ nf ∧ q = nf - j ∧ Hid (RRS w H v (na : Int) (nb : Int) u1 u2 (rdPs k d.2).1 (rdIs j f.2).1 (rdIs j f.2).2))
      case atStart => exact ⟨0, _, rfl, by omega, rfl, HS6⟩
      case round =>
        obtain ⟨j, u2, rfl, hj, rfl, HV⟩ := hrel
        by_cases hlt2 : j < nf
        · have hlt' : (j : Int) < (nf : Int) := by omega
          obtain ⟨st, hst⟩ : ∃ st, rdIs j f.2 = st := ⟨_, rfl⟩
          have HST := Lib.hid hst
          have hlen : st.2.1.length ≤ 140737488355328 := by rw [← hst]; exact Nat.le_trans (HYX.out j).2.1 HLF.out
          have hlk : st.1.length ≤ 1000000 := by rw [← hst, (HYX.out j).2.2.1]; omega
          rw [hst] at HV
          have HVd : Hid (RRS w H wr.drew (na : Int) (nb : Int) u1 u2 (rdPs k d.2).1 st.1 st.2) := Lib.hid (HV.out.below (below_drewN 1 wr))
          have HPC := Lib.hid (cintent HVd.out.rd hlen)
          have HLK := Lib.hid hlk
          have c2 : wr.drew.cell? ⟨H + 2, 3, none⟩ = some u2 := HVd.out.cur.c3
          clear hst hlen hlk
          go_wp2_with fail
          go_region_law
            (first
              | (refine step_append_I _ rfl (.tmp 32) (.tmp 35) rfl u2 st.1 (rdY st.2).1 rfl (HT6.out _).xs w5.heap.size rfl ⟨A5, d5, IV.new w5 _ _ _ _ _, HD5.out.below ((Below.refl _ _).alloc (Nat.le_refl _) _), HY5.out⟩ HLK.out (by have := (HT6.out (.cells #[.int .i64 (rdY st.2).1.s, .int .i64 (rdY st.2).1.g, .slice A5 (rdY st.2).1.D.length d5] 35)).res.lt; omega) ?_; intro v9 w9 hl9 hb9 hz9 ht9; obtain ⟨A9, c9, hv9⟩ := hl9.form; subst hv9; obtain ⟨q1, q2, q3, q4, q5⟩ := (HT6.out _).appI hb9 ht9; have HT9 : Hid (RRS w H (w9.setCell ⟨H + 2, 3, none⟩ (.slice A9 (st.1 ++ [(rdY st.2).1]).length c9)) (na : Int) (nb : Int) u1 (.slice A9 (st.1 ++ [(rdY st.2).1]).length c9) (rdPs k d.2).1 (st.1 ++ [(rdY st.2).1]) (rdY st.2).2) := Lib.hid (⟨q1.set q3 (by decide) (by decide), q2.keep (set_other (by omega) _ _), q3.put3, q4.set q3 (by decide) (by decide), hl9.set q3 (by decide) (by decide), q5.setCell (by simp) _⟩); have qf := q3.f; have q3c := q3.c3; clear q1 q2 q3 q4 q5 hl9 hb9 hz9 ht9)
              | (go_simp; go_at_call 38; (with_reducible refine HPC.out.mono ?_); rintro e w5 ⟨v5, rfl, ⟨A5, d5, rfl, hd5, hy5⟩, hr5, ht5⟩; (try dsimp only); have HT5 := Lib.hid (HVd.out.turn ht5 hr5); have y2 := HT5.out.cur.c3; have y2' : ∀ o, (w5.alloc o).cell? ⟨H + 2, 3, none⟩ = some u2 := fun o => (HT5.out.below ((Below.refl _ _).alloc (Nat.le_refl _) o)).cur.c3; have HT6 := Lib.hid (fun o => HT5.out.below ((Below.refl _ _).alloc (Nat.le_refl _) o)); have HD5 := Lib.hid hd5; have HY5 := Lib.hid hy5; clear hd5 hy5 hr5 ht5)
              )
          all_goals
            go_wp2_with fail
            go_roundg (nf - (j + 1))
            case measure => omega
            case rel => exact ⟨j + 1, _, by go_num, by omega, rfl, Lib.hid (by
              have h := HT9.out
              rw [List.length_append] at h
              show RRS w H _ (na : Int) (nb : Int) _ _ _ ((rdIs j f.2).1 ++ [(rdY (rdIs j f.2).2).1]) (rdY (rdIs j f.2).2).2
              rw [HST.out]
              exact h)⟩
        · obtain rfl : j = nf := by omega
          have HT := Lib.hid HV.out
          clear HV
          obtain ⟨wt, rfl⟩ : ∃ wt : World, wt = wr := ⟨wr, rfl⟩
          have hlp : (rdPs k d.2).1.length = k := (HYP.out k).2.2.1
          have hlx : (rdIs j f.2).1.length = j := (HYX.out j).2.2.1
          obtain ⟨PS, hPS⟩ : ∃ x, (rdPs k d.2).1 = x := ⟨_, rfl⟩
          obtain ⟨XS, hXS⟩ : ∃ x, (rdIs j f.2).1 = x := ⟨_, rfl⟩
          obtain ⟨st, hst⟩ : ∃ x, (rdIs j f.2).2 = x := ⟨_, rfl⟩
          rw [hPS] at HT HPJ hlp
          rw [hXS, hst] at HT
          rw [hXS, hst] at HPJ
          rw [hXS] at hlx
          obtain ⟨B1, d1, rfl⟩ := HT.out.ps.form
          obtain ⟨B2, d2, rfl⟩ := HT.out.xs.form
          obtain ⟨t, hht⟩ := bool_of (st.2 = false ∧ st.1 = [])
          obtain ⟨z, hz⟩ := bool_of ((⟨(na : Int), (nb : Int), PS, XS⟩ : Rx).Right)
          have HRD := Lib.hid (rdone HT.out.rd t hht)
          have HTT := Lib.hid hht
          have HZZ := Lib.hid hz
          have HRR : Hid (∀ W, Below wt.heap.size wt W → RVal W (rpv (na : Int) (nb : Int) (.slice B1 PS.length d1) (.slice B2 XS.length d2)) ⟨(na : Int), (nb : Int), PS, XS⟩) := Lib.hid (fun W hW => ⟨B1, d1, B2, d2, rfl, (HT.out.ps.below hW).read, (HT.out.xs.below hW).read⟩)
          have HRG : Hid (∀ W, Below wt.heap.size wt W → Calls Try.prog 34 #[rpv (na : Int) (nb : Int) (.slice B1 PS.length d1) (.slice B2 XS.length d2)] W fun e w' => e = .returned (.bool z) ∧ Below W.heap.size W w') := Lib.hid (fun W hW => crightRep (HRR.out W hW) (by dsimp only; omega) (by dsimp only; omega) z hz)
          have HO : Hid (o = if t && z then some ⟨(na : Int), (nb : Int), PS, XS⟩ else none) := Lib.hid (by
            rw [HPJ.out]
            cases t with
            | true =>
              obtain ⟨u1, u2⟩ := hht.1 rfl
              cases z with
              | true => rw [if_pos ⟨u1, u2, hz.1 rfl⟩]; rfl
              | false => rw [if_neg (fun h => by have := hz.2 h.2.2; cases this)]; rfl
            | false => rw [if_neg (fun h => by have := hht.2 ⟨h.1, h.2.1⟩; cases this)]; rfl)
          have HNO : Hid (o = none → ∀ W, Below wt.heap.size wt W → ∀ e, e = Ending.returned (.tuple #[rpv 0 0 (.slice none 0 0) (.slice none 0 0), .int .i64 2]) → ReadR o w e ((((W.setCell ⟨H, 0, none⟩ (.int .i64 0)).setCell ⟨H, 1, none⟩ (.int .i64 0)).setCell ⟨H, 2, none⟩ (.slice none 0 0)).setCell ⟨H, 3, none⟩ (.slice none 0 0))) := Lib.hid (fun ho W hW e he => by
            subst ho he
            exact ⟨_, rfl, RVal.no, by rw [HH.out]; exact ((((HT.out.below hW).blw.setCell (by simp) _).setCell (by simp) _).setCell (by simp) _).setCell (by simp) _⟩)
          clear hPS hXS hst hht hz HPJ hlp hlx
          unfold rpv at HRG
          have z0 := HT.out.res.c0
          have z1 := HT.out.res.c1
          have z2 := HT.out.res.c2
          have z3 := HT.out.res.c3
          have zf := HT.out.res.f
          have q0 := HT.out.cur.c0
          have q1 := HT.out.cur.c1
          have q2 := HT.out.cur.c2
          have q3 := HT.out.cur.c3
          go_wp2_with fail
          refine HRD.out.mono ?_
          rintro e wu ⟨rfl, hw⟩
          obtain rfl := hw.symm
          try dsimp only
          cases t with
          | false =>
            obtain rfl : o = none := by have := HO.out; simpa using this
            go_wp2_with fail
            refine bodyPost_ret (v := .tuple #[rpv 0 0 (.slice none 0 0) (.slice none 0 0), .int .i64 2]) ?_ rfl ?_
            · rw [results_cell_tmp rfl]
              simp [(HT.out.res.put4 (code' := 0) (boot' := 0) (u' := .slice none 0 0) (v' := .slice none 0 0)).load, Result.andThen, asAddr]
            exact HNO.out (by simp) _ (Below.refl _ _) _ rfl
          | true =>
            go_wp2_with fail
            refine (HRG.out _ (Below.refl _ _)).mono ?_
            rintro e wv ⟨rfl, hbv⟩
            try dsimp only
            have HBV := Lib.hid hbv
            have HTv := Lib.hid (HT.out.below hbv)
            clear hbv z0 z1 z2 z3 zf q0 q1 q2 q3
            have z0 := HTv.out.res.c0
            have z1 := HTv.out.res.c1
            have z2 := HTv.out.res.c2
            have z3 := HTv.out.res.c3
            have zf := HTv.out.res.f
            have q0 := HTv.out.cur.c0
            have q1 := HTv.out.cur.c1
            have q2 := HTv.out.cur.c2
            have q3 := HTv.out.cur.c3
            have zne : ¬ H + 2 = H := by omega
            cases z with
            | false =>
              obtain rfl : o = none := by have := HO.out; simpa using this
              go_wp2_with fail
              refine bodyPost_ret (v := .tuple #[rpv 0 0 (.slice none 0 0) (.slice none 0 0), .int .i64 2]) ?_ rfl ?_
              · rw [results_cell_tmp rfl]
                simp [(HTv.out.res.put4 (code' := 0) (boot' := 0) (u' := .slice none 0 0) (v' := .slice none 0 0)).load, Result.andThen, asAddr]
              exact HNO.out (by simp) _ HBV.out _ rfl
            | true =>
              obtain rfl : o = some ⟨(na : Int), (nb : Int), PS, XS⟩ := by have := HO.out; simpa using this
              go_wp2_with fail
              refine bodyPost_ret (v := .tuple #[rpv (na : Int) (nb : Int) (.slice B1 PS.length d1) (.slice B2 XS.length d2), .int .i64 0]) ?_ rfl ?_
              · rw [results_cell_tmp rfl]
                simp [(HTv.out.res.put4 (code' := (na : Int)) (boot' := (nb : Int)) (u' := .slice B1 PS.length d1) (v' := .slice B2 XS.length d2)).load, Result.andThen, asAddr]
              have k0 := HTv.out.res.put0 (code' := (na : Int))
              have k1 := k0.put1 (nb : Int)
              have k2 := k1.put2 (u' := .slice B1 PS.length d1)
              refine ⟨_, rfl, ⟨B1, d1, B2, d2, rfl, ((((HTv.out.ps.set HTv.out.res (by decide) (by decide)).set k0 (by decide) (by decide)).set k1 (by decide) (by decide)).set k2 (by decide) (by decide)).read, ((((HTv.out.xs.set HTv.out.res (by decide) (by decide)).set k0 (by decide) (by decide)).set k1 (by decide) (by decide)).set k2 (by decide) (by decide)).read⟩, by rw [HH.out]; exact (((HTv.out.blw.setCell (by simp) _).setCell (by simp) _).setCell (by simp) _).setCell (by simp) _⟩
end Go.Proofs.Ytoofgcdilgfclaa
