import Derived.Test.YtjgbfghkiahfaaaGreatDoorV36
namespace Go.Proofs.YtjgbfghkiahfaaaGreatDoor
open Go.RowKit Go.Sort
set_option maxRecDepth 100000
set_option maxHeartbeats 2000000

/-- A call that is refused: nothing is done. -/
theorem wl_call_no {w0 v : World} {g : Nat} {nd : Nat → Nat} {s : Wp} (h : WL w0 v g nd s) (n : Int) (q : Rq) (A : Option Addr) (c : Nat) (hd : DatN v A q.n q.D) (hq : ¬ OkQ q.k q.s q.g q.i q.n ∨ n < 0 ∨ 8 ≤ n) :
    Calls Tryz.prog 9 #[.pointer (some ⟨g, 0, none⟩), .int .i64 n, rqv q.k q.s q.g q.i A q.n c] v (CallRet w0 v g nd n (s, .err 1)) := by
  obtain ⟨H, hH⟩ : ∃ H, v.heap.size = H := ⟨_, rfl⟩
  have HH := Lib.hid hH
  obtain ⟨v1, hv1⟩ : ∃ v1, (v.alloc (.cells #[.int .i64 q.k, .int .i64 q.s, .int .i64 q.g, .int .i64 q.i, .slice A q.n c] 38)).alloc (.cells #[.int .i64 0, .int .i64 0, .slice none 0 0, .slice none 0 0] 31) = v1 := ⟨_, rfl⟩
  have HV1 := Lib.hid hv1
  have B1 : Below v.heap.size v v1 := by rw [← hv1]; exact ((Below.refl _ _).alloc (Nat.le_refl _) _).alloc (by simp) _
  have q1 : QV v1 H q.k q.s q.g q.i A q.n c := by rw [← hv1]; exact (QV.of_new hH).below ((Below.refl _ _).alloc (Nat.le_refl _) _)
  have r1 : RV v1 (H + 1) 0 0 (.slice none 0 0) (.slice none 0 0) := by rw [← hv1]; exact RV.of_new (by simp [hH])
  have y0 := q1.c0
  have y1 := q1.c1
  have y2 := q1.c2
  have y3 := q1.c3
  have y4 := q1.c4
  obtain ⟨t, ht⟩ := bool_of (OkQ q.k q.s q.g q.i q.n)
  have HL := Lib.hid (layReqW q A c (hd.below B1) t ht)
  unfold rqv at HL
  have HW1 := Lib.hid (h.below B1)
  have HK1 := Lib.hid (KeepW.of B1)
  have HR1 := Lib.hid r1
  have HN : Hid (w0.heap.size ≤ H) := Lib.hid (by rw [← hH]; exact h.blw.size)
  have HQ : Hid (t = false ∨ n < 0 ∨ 8 ≤ n) := Lib.hid (by rcases hq with h | h; exact Or.inl (not_true ht h); exact Or.inr h)
  obtain ⟨er, her⟩ : ∃ er : Int, (if t = true then (0 : Int) else 1) = er := ⟨_, rfl⟩
  have HER : Hid (t = true → er = 0) := Lib.hid (fun h => by rw [← her, if_pos h])
  have HEF : Hid (t = false → er = 1) := Lib.hid (fun h => by rw [← her, h]; rfl)
  rw [her] at HL
  have HVV : Hid (v.heap.size = H) := HH
  clear h hd hH hv1 B1 q1 r1 hq ht her
  go_enter Tryz.func9, Tryz.ntmps9
  go_upto_region 1 with fail
  rw [HV1.out, HH.out]
  go_wp2_with fail
  refine HL.out.mono ?_
  rintro e w2 ⟨⟨B, mm, cc, rfl⟩, hb2⟩
  try dsimp only
  have HW2 := Lib.hid (HW1.out.below hb2)
  have HK2 := Lib.hid (HK1.out.trans (KeepW.of hb2))
  have HR2 := Lib.hid (HR1.out.below hb2)
  clear hb2 y0 y1 y2 y3 y4 HL
  cases t with
  | false =>
    obtain rfl := HEF.out rfl
    go_wp2_with fail
    refine (wl_fail n 1 _).mono ?_
    rintro e w5 ⟨b, rfl, hb, hb5, ho5⟩
    try dsimp only
    have r5 := HR2.out.below hb5
    have HR5 := Lib.hid r5
    have rf : ∀ k, w5.frozen? ⟨H + 1, k, none⟩ = false := r5.f
    have x0 := r5.c0
    have x1 := r5.c1
    have x2 := r5.c2
    have x3 := r5.c3
    have HZ := Lib.hid (And.intro (HW2.out.below hb5) (And.intro (HK2.out.trans (KeepW.of hb5)) (And.intro hb ho5)))
    clear r5 hb5 hb ho5
    go_wp2_with fail
    refine bodyPost_ret (v := .tuple #[rpv 0 0 (.slice none 0 0) (.slice none 0 0), onv b]) ?_ rfl ?_
    · rw [results_cell_tmp rfl]
      simp [(HR5.out.put4 (code' := 0) (boot' := 0) (u' := .slice none 0 0) (v' := .slice none 0 0)).load, Result.andThen, asAddr]
    obtain ⟨z1, z2, z3, z4⟩ := HZ.out
    have hlt := HR2.out.lt
    exact ⟨_, _, rfl, z1.set4 HR5.out (by have := HN.out; omega) _ _ _ _, z2.set4 (by have := HVV.out; omega) _ _ _ _, Or.inl ⟨1, rfl, rfl, b, rfl, by have := HVV.out; omega, z4.set4 (by omega) _ _ _ _⟩⟩
  | true =>
    obtain rfl := HER.out rfl
    have hn : n < 0 ∨ 8 ≤ n := by
      rcases HQ.out with h | h
      · cases h
      · exact h
    have HHN := Lib.hid (wl_has_no HW2.out hn)
    clear hn
    go_wp2_with fail
    refine HHN.out.mono ?_
    rintro e w3 ⟨rfl, hw⟩
    obtain rfl := hw.symm
    go_wp2_with fail
    refine (wl_fail n 1 _).mono ?_
    rintro e w5 ⟨b, rfl, hb, hb5, ho5⟩
    try dsimp only
    have r5 := HR2.out.below hb5
    have HR5 := Lib.hid r5
    have rf : ∀ k, w5.frozen? ⟨H + 1, k, none⟩ = false := r5.f
    have x0 := r5.c0
    have x1 := r5.c1
    have x2 := r5.c2
    have x3 := r5.c3
    have HZ := Lib.hid (And.intro (HW2.out.below hb5) (And.intro (HK2.out.trans (KeepW.of hb5)) (And.intro hb ho5)))
    clear r5 hb5 hb ho5
    go_wp2_with fail
    refine bodyPost_ret (v := .tuple #[rpv 0 0 (.slice none 0 0) (.slice none 0 0), onv b]) ?_ rfl ?_
    · rw [results_cell_tmp rfl]
      simp [(HR5.out.put4 (code' := 0) (boot' := 0) (u' := .slice none 0 0) (v' := .slice none 0 0)).load, Result.andThen, asAddr]
    obtain ⟨z1, z2, z3, z4⟩ := HZ.out
    have hlt := HR2.out.lt
    exact ⟨_, _, rfl, z1.set4 HR5.out (by have := HN.out; omega) _ _ _ _, z2.set4 (by have := HVV.out; omega) _ _ _ _, Or.inl ⟨1, rfl, rfl, b, rfl, by have := HVV.out; omega, z4.set4 (by omega) _ _ _ _⟩⟩
/-- One more node. -/
theorem WM.add {v v' : World} {g m : Nat} {nd : Nat → Nat} {T : Nat → List Nat} {fv : Value} {s : Wp} (h : WM v g m nd T fv s) (hm : m < 8) (b : Below v.heap.size v v') {n r p sb : Nat} {S : List Nat} (hn : NdM v' n r p sb S (s.N m)) (ho : (s.N m).Ok) (hge : ∀ k ∈ n :: r :: p :: sb :: S, v.heap.size ≤ k) :
    WM (v'.setCell ⟨g, m, none⟩ (.pointer (some ⟨n, 0, none⟩))) g (m + 1) (fun j => if j = m then n else nd j) (fun j => if j = m then n :: r :: p :: sb :: S else T j) fv s := by
  have h' := h.below b
  refine ⟨?_, h'.fat.keep (fun j hj => set_other (fun e => ?_) _ _), fun i hi => ?_, fun i j hi hj hij k hki hkj => ?_⟩
  · rw [set_block h'.hd]
    rcases (by omega : m = 0 ∨ m = 1 ∨ m = 2 ∨ m = 3 ∨ m = 4 ∨ m = 5 ∨ m = 6 ∨ m = 7) with rfl | rfl | rfl | rfl | rfl | rfl | rfl | rfl <;> simp [whead, nptr]
  · subst e
    obtain ⟨row, hr⟩ := h'.fat.type j hj
    rw [h'.hd] at hr
    injection hr with hr
    injection hr with _ hr
    exact absurd hr (by decide)
  · by_cases e : i = m
    · subst e
      simp only [if_true]
      exact ⟨r, p, sb, S, hn.set h'.hd (by decide) (by decide) (by decide) (by decide) (by decide) (by decide) (by decide), ho, rfl⟩
    · obtain ⟨ri, pi, sbi, Si, q1, q2, q3⟩ := h'.node i (by omega)
      simp only [if_neg e]
      exact ⟨ri, pi, sbi, Si, q1.set h'.hd (by decide) (by decide) (by decide) (by decide) (by decide) (by decide) (by decide), q2, q3⟩
  · by_cases e : i = m
    · rw [if_pos e] at hki
      rw [if_neg (fun e2 => hij (e.trans e2.symm))] at hkj
      have := h.Tlt (i := j) (by omega) hkj
      have := hge k hki
      omega
    · rw [if_neg e] at hki
      by_cases e2 : j = m
      · rw [if_pos e2] at hkj
        have := h.Tlt (i := i) (by omega) hki
        have := hge k hkj
        omega
      · rw [if_neg e2] at hkj
        exact h.sep i j (by omega) (by omega) hij k hki hkj
theorem wl_new {w0 : World} (w : World) (hb0 : Below w0.heap.size w0 w) : Calls Tryz.prog 6 #[] w fun e w' => ∃ g nd, e = .returned (.pointer (some ⟨g, 0, none⟩)) ∧ WL w0 w' g nd Wp.new ∧ Below w.heap.size w w' := by
  obtain ⟨H, hH⟩ : ∃ H, w.heap.size = H := ⟨_, rfl⟩
  have HH := Lib.hid hH
  have HB0 := Lib.hid hb0
  clear hH hb0
  go_enter Tryz.func6, Tryz.ntmps6
  go_upto_region 2 with fail
  rw [HH.out]
  go_wp2_with fail
  go_loopg [5] 8 (fun k s5 wr => ∃ (i : Nat) (nd : Nat → Nat) (T : Nat → List Nat), s5 = .int .i64 (i : Int) ∧ i ≤ 8 ∧ k = 8 - i ∧ Hid (WM wr H i nd T (.slice none 0 0) Wp.new ∧ Below H w wr ∧ ∀ j, j < i → ∀ k ∈ T j, H ≤ k))
  case atStart =>
    refine ⟨0, fun _ => 0, fun _ => [], rfl, by omega, rfl, Lib.hid ⟨⟨?_, FatV.nil _, fun i hi => absurd hi (by omega), fun i j hi => absurd hi (by omega)⟩, by rw [← HH.out]; exact (Below.refl _ _).alloc (Nat.le_refl _) _, fun j hj => absurd hj (by omega)⟩⟩
    rw [← HH.out, alloc_block]
    rfl
  case round =>
    obtain ⟨i, nd, T, rfl, hi, rfl, HS⟩ := hrel
    obtain ⟨wo, rfl⟩ : ∃ wo : World, wo = wr := ⟨wr, rfl⟩
    by_cases h8 : i < 8
    · have h8' : (i : Int) < 8 := by omega
      have HN := Lib.hid (nnew wo.drew)
      have BD := Lib.hid (below_drewN 1 wo)
      go_upto_region 5 with fail
      go_region_with (first | (go_at_call 30; (with_reducible refine HN.out.mono ?_); rintro e w2 ⟨n, r, p, sb, S, rfl, hn, hb2, hge⟩; (try dsimp only); have HZ := Lib.hid (HS.out.1.add h8 (BD.out.trans (hb2.mono BD.out.size)) hn Ns.new_ok.1 (fun k hk => Nat.le_trans BD.out.size (hge k hk))); have HB2 : Hid (Below H w w2) := Lib.hid (HS.out.2.1.trans ((BD.out.trans (hb2.mono BD.out.size)).mono (Nat.le_of_lt HS.out.1.lt))); have HG : Hid (∀ k ∈ n :: r :: p :: sb :: S, H ≤ k) := Lib.hid (fun k hk => Nat.le_trans (Nat.le_trans (Nat.le_of_lt HS.out.1.lt) BD.out.size) (hge k hk)); have cp := (HS.out.1.below (BD.out.trans (hb2.mono BD.out.size))).cp h8; have fp := (HS.out.1.below (BD.out.trans (hb2.mono BD.out.size))).f i; clear hn hb2 hge))
      all_goals
        go_wp2_with fail
        go_roundg (8 - (i + 1))
        case measure => omega
        case rel =>
          refine ⟨i + 1, _, _, by go_num, by omega, rfl, Lib.hid ⟨HZ.out, ?_, ?_⟩⟩
          · exact HB2.out.setCell (p := ⟨H, i, none⟩) (Nat.le_refl _) _
          · intro j hj k hk
            by_cases e : j = i
            · rw [if_pos e] at hk
              exact HG.out k hk
            · rw [if_neg e] at hk
              exact HS.out.2.2 j (by omega) k hk
    · obtain rfl : i = 8 := by omega
      go_wp2_with fail
      go_ret
      refine ⟨H, nd, rfl, ⟨T, _, HS.out.1, HB0.out.trans (HS.out.2.1.mono (by rw [← HH.out]; exact HB0.out.size)), by rw [← HH.out]; exact HB0.out.size, fun k hk => by simp [fatB] at hk, fun j hj k hk => Nat.le_trans (by rw [← HH.out]; exact HB0.out.size) (HS.out.2.2 j hj k hk)⟩, by rw [HH.out]; exact HS.out.2.1⟩
end Go.Proofs.YtjgbfghkiahfaaaGreatDoor
