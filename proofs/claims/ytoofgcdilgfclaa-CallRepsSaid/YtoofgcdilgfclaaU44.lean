import Derived.Test.YtoofgcdilgfclaaU43
namespace Go.Proofs.Ytoofgcdilgfclaa
open Go.RowKit Go.Sort
set_option maxRecDepth 100000
set_option maxHeartbeats 4000000

theorem QVal.block {w w3 : World} {A : Option Addr} {c : Nat} {q : Qx} (h : BL w A q.D ∧ By q.D) (e : w.alloc (.cells #[.int .i64 q.k, .int .i64 q.s, .int .i64 q.g, .int .i64 q.i, .slice A q.D.length c] 27) = w3) :
    QV w3 w.heap.size q.k q.s q.g q.i A q.D.length c ∧ QVal w3 (rqv q.k q.s q.g q.i A q.D.length c) q ∧ Below w.heap.size w w3 := by
  subst e
  have hb : Below w.heap.size w (w.alloc (.cells #[.int .i64 q.k, .int .i64 q.s, .int .i64 q.g, .int .i64 q.i, .slice A q.D.length c] 27)) := (Below.refl _ _).alloc (Nat.le_refl _) _
  exact ⟨QV.of_new rfl, ⟨A, c, rfl, h.1.below hb, h.2⟩, hb⟩
theorem callBack (x0 x1 x2 x3 x4 x5 y0 y1 y2 y3 y4 y5 : Int) (w : World) :
    Calls Try.prog 6 #[rawv x0 x1 x2 x3 x4 x5, rawv y0 y1 y2 y3 y4 y5] w fun e w' => e = .returned (.bool true) ∧ Below w.heap.size w w' := by
  obtain ⟨H, hH⟩ : ∃ H, w.heap.size = H := ⟨_, rfl⟩
  have HH := Lib.hid hH
  obtain ⟨w1, hw1⟩ : ∃ w1, (w.alloc (.cells #[.int .i64 x0, .int .i64 x1, .int .i64 x2, .int .i64 x3, .int .i64 x4, .int .i64 x5] 46)).alloc (.cells #[.int .i64 y0, .int .i64 y1, .int .i64 y2, .int .i64 y3, .int .i64 y4, .int .i64 y5] 46) = w1 := ⟨_, rfl⟩
  have HW1 := Lib.hid hw1
  have HB1 : Hid (Below H w w1) := Lib.hid (by rw [← hw1, ← hH]; exact ((Below.refl _ _).alloc (Nat.le_refl _) _).alloc (by simp) _)
  have HX1 : Hid (XV w1 H x0 x1 x2 x3 x4 x5) := Lib.hid (by rw [← hw1]; exact (XV.of_new hH).below ((Below.refl _ _).alloc (Nat.le_refl _) _))
  have HY1 : Hid (XV w1 (H + 1) y0 y1 y2 y3 y4 y5) := Lib.hid (by rw [← hw1]; exact XV.of_new (by simp [hH]))
  have HZ1 : Hid (H ≤ w1.heap.size) := Lib.hid (Nat.le_of_lt HX1.out.lt)
  clear hw1 hH
  obtain ⟨r0, r1, r2, r3, r4, r5⟩ := HX1.out.cells
  have HRX := Lib.hid (hreq x0 x1 x2 x3 x4 x5 w1)
  unfold rawv at HRX ⊢
  go_enter Try.func6, Try.ntmps6
  go_wp2_with fail
  rw [HW1.out, HH.out]
  refine HRX.out.mono ?_
  rintro e w2 ⟨v, p, rfl, ⟨A1, c1, rfl, hp, hpb⟩, hb2⟩
  try dsimp only
  clear r0 r1 r2 r3 r4 r5
  unfold rqv
  obtain ⟨w3, hw3⟩ : ∃ w3, w2.alloc (.cells #[.int .i64 p.k, .int .i64 p.s, .int .i64 p.g, .int .i64 p.i, .slice A1 p.D.length c1] 27) = w3 := ⟨_, rfl⟩
  have HP := Lib.hid (QVal.block ⟨hp, hpb⟩ hw3)
  have HB3 : Hid (Below w1.heap.size w1 w3) := Lib.hid (hb2.trans (HP.out.2.2.mono hb2.size))
  obtain ⟨p0, hp0⟩ : ∃ p0, w2.heap.size = p0 := ⟨_, rfl⟩
  have HW3 := Lib.hid hw3
  have HP0 := Lib.hid hp0
  rw [hp0] at HP
  clear hp hpb hb2 hw3 hp0
  obtain ⟨r0, r1, r2, r3, r4, r5⟩ := (HY1.out.below HB3.out).cells
  have HRY := Lib.hid (hreq y0 y1 y2 y3 y4 y5 w3)
  unfold rawv at HRY
  go_upto_region 2 with fail
  rw [HW3.out, HP0.out]
  go_wp2_with fail
  refine HRY.out.mono ?_
  rintro e w4 ⟨v, q, rfl, ⟨A2, c2, rfl, hq, hqb⟩, hb4⟩
  try dsimp only
  clear r0 r1 r2 r3 r4 r5
  unfold rqv
  obtain ⟨w5, hw5⟩ : ∃ w5, w4.alloc (.cells #[.int .i64 q.k, .int .i64 q.s, .int .i64 q.g, .int .i64 q.i, .slice A2 q.D.length c2] 27) = w5 := ⟨_, rfl⟩
  have HQ := Lib.hid (QVal.block ⟨hq, hqb⟩ hw5)
  have HB35 : Hid (Below w3.heap.size w3 w5) := Lib.hid (hb4.trans (HQ.out.2.2.mono hb4.size))
  obtain ⟨q0, hq0⟩ : ∃ q0, w4.heap.size = q0 := ⟨_, rfl⟩
  have HW5 := Lib.hid hw5
  have HQ0 := Lib.hid hq0
  rw [hq0] at HQ
  clear hq hqb hb4 hw5 hq0
  have HB5 : Hid (Below w1.heap.size w1 w5) := Lib.hid (HB3.out.trans (HB35.out.mono HB3.out.size))
  have HP5 := Lib.hid (HP.out.1.below HB35.out)
  have HPV := Lib.hid (HP.out.2.1.below HB35.out)
  have HLP := Lib.hid (layQ HPV.out)
  have k0 := HP5.out.c0
  have k1 := HP5.out.c1
  have k2 := HP5.out.c2
  have k3 := HP5.out.c3
  have k4 := HP5.out.c4
  unfold rqv at HLP
  go_upto_region 3 with fail
  rw [HW5.out, HQ0.out]
  go_wp2_with fail
  refine HLP.out.mono ?_
  clear k0 k1 k2 k3 k4 HLP
  have HKN := Lib.hid lknown11
  rintro e w6 (⟨hpr, ga, ca, rfl, hka, hca, hb6⟩ | ⟨hpr, rfl, hb6⟩)
  · try dsimp only
    have HPR := Lib.hid hpr
    have HKA := Lib.hid hka
    have HCA := Lib.hid hca
    have HB6 := Lib.hid hb6
    have HQV := Lib.hid (HQ.out.2.1.below hb6)
    have HQ6 := Lib.hid (HQ.out.1.below hb6)
    have HLQ := Lib.hid (layQ HQV.out)
    have k0 := HQ6.out.c0
    have k1 := HQ6.out.c1
    have k2 := HQ6.out.c2
    have k3 := HQ6.out.c3
    have k4 := HQ6.out.c4
    unfold rqv at HLQ
    obtain ⟨la, hla⟩ : ∃ la, p.lay.length = la := ⟨_, rfl⟩
    have HLA := Lib.hid hla
    rw [hla] at HCA ⊢
    clear hpr hka hca hb6 hla
    go_wp2_with fail
    refine HLQ.out.mono ?_
    clear k0 k1 k2 k3 k4 HLQ
    rintro e w7 (⟨hqr, gb, cb, rfl, hkb, hcb, hb7⟩ | ⟨hqr, rfl, hb7⟩)
    · try dsimp only
      have HQR := Lib.hid hqr
      have HKB := Lib.hid hkb
      have HB7 := Lib.hid hb7
      obtain ⟨lb, hlb⟩ : ∃ lb, q.lay.length = lb := ⟨_, rfl⟩
      have HLB := Lib.hid hlb
      rw [hlb]
      clear hqr hkb hcb hb7 hlb
      go_wp2_with fail
      refine (HKN.out _).mono ?_
      rintro e w8 ⟨rfl, hb8⟩
      try dsimp only
      have HB8 := Lib.hid hb8
      clear hb8
      have HB68 : Hid (Below w6.heap.size w6 w8) := Lib.hid (HB7.out.trans (HB8.out.mono HB7.out.size))
      have HB58 : Hid (Below w5.heap.size w5 w8) := Lib.hid (HB6.out.trans (HB68.out.mono HB6.out.size))
      have HKA8 := Lib.hid (HKA.out.below HB68.out)
      have HKB8 := Lib.hid (HKB.out.below HB8.out)
      have hby : By p.lay := Qx.lay_by (by obtain ⟨_, _, _, _, h⟩ := HPV.out; exact h)
      have hbyq : By q.lay := Qx.lay_by (by obtain ⟨_, _, _, _, h⟩ := HQV.out; exact h)
      have HSE := Lib.hid (str_eqL hby hbyq)
      have hlen : p.lay.length ≤ 140737488355328 := by
        rw [Qx.lay_len]
        have := HPR.out.2.2.2.2.2.2.2.2
        omega
      have HRD := Lib.hid (creadReq (some ⟨ga, 0, none⟩) p.lay ca w8 HKA8.out (by rw [HLA.out]; exact HCA.out) hby hlen)
      rw [projQ_lay HPR.out, HLA.out] at HRD
      clear hby hbyq hlen
      go_wp2_with fail
      refine HRD.out.mono ?_
      rintro e w9 ⟨v, rfl, hv, hb9⟩
      rw [show (some p).getD Qx.no = p from rfl] at hv
      obtain ⟨A5, c5, rfl, hd5, hdb5⟩ := hv
      try dsimp only
      simp only [Option.isSome_some, if_true]
      unfold rqv
      obtain ⟨wa, hwa⟩ : ∃ wa, w9.alloc (.cells #[.int .i64 p.k, .int .i64 p.s, .int .i64 p.g, .int .i64 p.i, .slice A5 p.D.length c5] 27) = wa := ⟨_, rfl⟩
      have HR := Lib.hid (QVal.block ⟨hd5, hdb5⟩ hwa)
      obtain ⟨r0, hr0⟩ : ∃ r0, w9.heap.size = r0 := ⟨_, rfl⟩
      have HWA := Lib.hid hwa
      have HR0 := Lib.hid hr0
      rw [hr0] at HR
      have HB8a : Hid (Below w8.heap.size w8 wa) := Lib.hid (hb9.trans (HR.out.2.2.mono (by rw [← hr0]; exact hb9.size)))
      have HB6a : Hid (Below w6.heap.size w6 wa) := Lib.hid (HB68.out.trans (HB8a.out.mono HB68.out.size))
      have HB5a : Hid (Below w5.heap.size w5 wa) := Lib.hid (HB58.out.trans (HB8a.out.mono HB58.out.size))
      have HPa := Lib.hid (HP5.out.below HB5a.out)
      have HQa := Lib.hid (HQ.out.1.below HB5a.out)
      have HPVa := Lib.hid (HPV.out.below HB5a.out)
      have HQVa := Lib.hid (HQ.out.2.1.below HB5a.out)
      have HKAa := Lib.hid (HKA8.out.below HB8a.out)
      have HKBa := Lib.hid (HKB8.out.below HB8a.out)
      clear hb9 hd5 hdb5 hwa hr0
      obtain ⟨s1, hs1⟩ : ∃ s1, strOf p.lay = s1 := ⟨_, rfl⟩
      obtain ⟨s2, hs2⟩ : ∃ s2, strOf q.lay = s2 := ⟨_, rfl⟩
      obtain ⟨u, hu⟩ : ∃ u : Bool, (s1.toList == s2.toList) = u := ⟨_, rfl⟩
      have HUE : Hid (u = true ↔ p = q) := Lib.hid (by
        rw [← hu, beq_iff_eq, ← hs1, ← hs2, HSE.out]
        exact ⟨fun e => Qx.lay_inj HPR.out HQR.out e, fun e => by rw [e]⟩)
      have HS1 : Hid (∀ W, Below wa.heap.size wa W → Calls Try.prog 22 #[rqv p.k p.s p.g p.i A1 p.D.length c1, rqv p.k p.s p.g p.i A5 p.D.length c5] W fun e w' => e = .returned (.bool true) ∧ Below W.heap.size W w') := Lib.hid (fun W hW => rsameReq (HPVa.out.below hW) (HR.out.2.1.below hW) true ⟨fun _ => rfl, fun _ => rfl⟩)
      have HS2 : Hid (∀ W, Below wa.heap.size wa W → Calls Try.prog 22 #[rqv p.k p.s p.g p.i A1 p.D.length c1, rqv q.k q.s q.g q.i A2 q.D.length c2] W fun e w' => e = .returned (.bool u) ∧ Below W.heap.size W w') := Lib.hid (fun W hW => rsameReq (HPVa.out.below hW) (HQVa.out.below hW) u HUE.out)
      have HSY : Hid (∀ W, Below wa.heap.size wa W → ((W.cell? ⟨p0, 0, none⟩ = some (.int .i64 p.k) ∧ W.cell? ⟨p0, 1, none⟩ = some (.int .i64 p.s) ∧ W.cell? ⟨p0, 2, none⟩ = some (.int .i64 p.g) ∧ W.cell? ⟨p0, 3, none⟩ = some (.int .i64 p.i) ∧ W.cell? ⟨p0, 4, none⟩ = some (.slice A1 p.D.length c1)) ∧ (W.cell? ⟨q0, 0, none⟩ = some (.int .i64 q.k) ∧ W.cell? ⟨q0, 1, none⟩ = some (.int .i64 q.s) ∧ W.cell? ⟨q0, 2, none⟩ = some (.int .i64 q.g) ∧ W.cell? ⟨q0, 3, none⟩ = some (.int .i64 q.i) ∧ W.cell? ⟨q0, 4, none⟩ = some (.slice A2 q.D.length c2)) ∧ (W.cell? ⟨r0, 0, none⟩ = some (.int .i64 p.k) ∧ W.cell? ⟨r0, 1, none⟩ = some (.int .i64 p.s) ∧ W.cell? ⟨r0, 2, none⟩ = some (.int .i64 p.g) ∧ W.cell? ⟨r0, 3, none⟩ = some (.int .i64 p.i) ∧ W.cell? ⟨r0, 4, none⟩ = some (.slice A5 p.D.length c5)) ∧ Sem.run Try.prog (convert 22 9 (.slice (some ⟨ga, 0, none⟩) la ca)) W = .ok (.string s1) W ∧ Sem.run Try.prog (convert 22 9 (.slice (some ⟨gb, 0, none⟩) lb cb)) W = .ok (.string s2) W)) := Lib.hid (fun W hW => by
        have e1 := HPa.out.below hW
        have e2 := HQa.out.below hW
        have e3 := HR.out.1.below hW
        have e4 := conv_L ca (HKAa.out.below hW)
        have e5 := conv_L cb (HKBa.out.below hW)
        rw [HLA.out, hs1] at e4
        rw [HLB.out, hs2] at e5
        exact ⟨⟨e1.c0, e1.c1, e1.c2, e1.c3, e1.c4⟩, ⟨e2.c0, e2.c1, e2.c2, e2.c3, e2.c4⟩, ⟨e3.c0, e3.c1, e3.c2, e3.c3, e3.c4⟩, e4, e5⟩)
      unfold rqv at HS1 HS2
      have hbW : Below wa.heap.size wa wa.drew := below_drewN 1 wa
      clear hs1 hs2
      go_upto_region 8 with fail
      rw [HWA.out, HR0.out]
      go_wp2_with fail
      try simp only [List.append_eq, List.cons_append, List.nil_append]
      refine wp_region_held_drew (S := fun W => (W.cell? ⟨p0, 0, none⟩ = some (.int .i64 p.k) ∧ W.cell? ⟨p0, 1, none⟩ = some (.int .i64 p.s) ∧ W.cell? ⟨p0, 2, none⟩ = some (.int .i64 p.g) ∧ W.cell? ⟨p0, 3, none⟩ = some (.int .i64 p.i) ∧ W.cell? ⟨p0, 4, none⟩ = some (.slice A1 p.D.length c1)) ∧ (W.cell? ⟨q0, 0, none⟩ = some (.int .i64 q.k) ∧ W.cell? ⟨q0, 1, none⟩ = some (.int .i64 q.s) ∧ W.cell? ⟨q0, 2, none⟩ = some (.int .i64 q.g) ∧ W.cell? ⟨q0, 3, none⟩ = some (.int .i64 q.i) ∧ W.cell? ⟨q0, 4, none⟩ = some (.slice A2 q.D.length c2)) ∧ (W.cell? ⟨r0, 0, none⟩ = some (.int .i64 p.k) ∧ W.cell? ⟨r0, 1, none⟩ = some (.int .i64 p.s) ∧ W.cell? ⟨r0, 2, none⟩ = some (.int .i64 p.g) ∧ W.cell? ⟨r0, 3, none⟩ = some (.int .i64 p.i) ∧ W.cell? ⟨r0, 4, none⟩ = some (.slice A5 p.D.length c5)) ∧ Sem.run Try.prog (convert 22 9 (.slice (some ⟨ga, 0, none⟩) la ca)) W = .ok (.string s1) W ∧ Sem.run Try.prog (convert 22 9 (.slice (some ⟨gb, 0, none⟩) lb cb)) W = .ok (.string s2) W) (by as_aux_lemma => kernel_rfl) ?_ (fun hHeld => ?_)
      · exact HSY.out _ hbW
      refine wpAnyH_take (i := 0) (v := ?_) rfl (by as_aux_lemma => kernel_rfl) (by as_aux_lemma => kernel_rfl) (by as_aux_lemma => kernel_rfl) (fun _ _ _ h => h) (Or.inl ⟨by rfl, ?_⟩) (by assumption) ?_
      rotate_left
      · intro w hSw; (try dsimp only at hSw); go_simp; (try with_reducible rfl)
      simp only [Act.put, List.getElem_toArray, List.getElem_cons_zero, List.setIfInBounds_toArray, List.set_cons_zero, List.set_cons_succ]
      refine wpAnyH_take (i := 1) (v := ?_) rfl (by as_aux_lemma => kernel_rfl) (by as_aux_lemma => kernel_rfl) (by as_aux_lemma => kernel_rfl) (fun _ _ _ h => h) (Or.inl ⟨by rfl, ?_⟩) (by assumption) ?_
      rotate_left
      · intro w hSw; (try dsimp only at hSw); go_simp; (try with_reducible rfl)
      simp only [Act.put, List.getElem_toArray, List.getElem_cons_zero, List.getElem_cons_succ, List.setIfInBounds_toArray, List.set_cons_zero, List.set_cons_succ]
      refine wpAnyH_take (i := 2) (v := ?_) rfl (by as_aux_lemma => kernel_rfl) (by as_aux_lemma => kernel_rfl) (by as_aux_lemma => kernel_rfl) (fun _ _ _ h => h) (Or.inl ⟨by rfl, ?_⟩) (by assumption) ?_
      rotate_left
      · intro w hSw; (try dsimp only at hSw); go_simp; (try with_reducible rfl)
      simp only [Act.put, List.getElem_toArray, List.getElem_cons_zero, List.getElem_cons_succ, List.setIfInBounds_toArray, List.set_cons_zero, List.set_cons_succ]
      refine wpAnyH_take (i := 3) (v := ?_) rfl (by as_aux_lemma => kernel_rfl) (by as_aux_lemma => kernel_rfl) (by as_aux_lemma => kernel_rfl) (fun _ _ _ h => h) (Or.inl ⟨by rfl, ?_⟩) (by assumption) ?_
      rotate_left
      · intro w hSw; (try dsimp only at hSw); go_simp; (try with_reducible rfl)
      simp only [Act.put, List.getElem_toArray, List.getElem_cons_zero, List.getElem_cons_succ, List.setIfInBounds_toArray, List.set_cons_zero, List.set_cons_succ]
      refine wpAnyH_take (i := 4) (v := ?_) rfl (by as_aux_lemma => kernel_rfl) (by as_aux_lemma => kernel_rfl) (by as_aux_lemma => kernel_rfl) (fun _ _ _ h => h) (Or.inl ⟨by rfl, ?_⟩) (by assumption) ?_
      rotate_left
      · intro w hSw; (try dsimp only at hSw); go_simp; (try with_reducible rfl)
      simp only [Act.put, List.getElem_toArray, List.getElem_cons_zero, List.getElem_cons_succ, List.setIfInBounds_toArray, List.set_cons_zero, List.set_cons_succ]
      refine wpAnyH_ready (rs := [5]) (by as_aux_lemma => kernel_rfl) (by simp) ?_
      refine AllReadyH.cons rfl (fun K hK => ?_) AllReadyH.nil
      go_simp
      go_wp2_with fail
      refine (HS1.out _ hbW).mono ?_
      rintro e wn5 ⟨rfl, hb⟩
      try dsimp only
      have hbW' := hbW.trans (hb.mono hbW.size)
      clear hb hbW
      have hbW := hbW'
      clear hbW'
      refine hK.out _ _ ?_ (fun hHeld2 => ?_)
      · (try dsimp only); exact HSY.out _ hbW
      clear hK K hHeld
      have hHeld := hHeld2
      clear hHeld2
      refine wpAnyH_take (i := 6) (v := ?_) rfl (by as_aux_lemma => kernel_rfl) (by as_aux_lemma => kernel_rfl) (by as_aux_lemma => kernel_rfl) (fun _ _ _ h => h) (Or.inl ⟨by rfl, ?_⟩) (by assumption) ?_
      rotate_left
      · intro w hSw; (try dsimp only at hSw); go_simp; (try with_reducible rfl)
      simp only [Act.put, List.getElem_toArray, List.getElem_cons_zero, List.getElem_cons_succ, List.setIfInBounds_toArray, List.set_cons_zero, List.set_cons_succ]
      refine wpAnyH_take (i := 7) (v := ?_) rfl (by as_aux_lemma => kernel_rfl) (by as_aux_lemma => kernel_rfl) (by as_aux_lemma => kernel_rfl) (fun _ _ _ h => h) (Or.inl ⟨by rfl, ?_⟩) (by assumption) ?_
      rotate_left
      · intro w hSw; (try dsimp only at hSw); go_simp; (try with_reducible rfl)
      simp only [Act.put, List.getElem_toArray, List.getElem_cons_zero, List.getElem_cons_succ, List.setIfInBounds_toArray, List.set_cons_zero, List.set_cons_succ]
      refine wpAnyH_take (i := 8) (v := ?_) rfl (by as_aux_lemma => kernel_rfl) (by as_aux_lemma => kernel_rfl) (by as_aux_lemma => kernel_rfl) (fun _ _ _ h => h) (Or.inl ⟨by rfl, ?_⟩) (by assumption) ?_
      rotate_left
      · intro w hSw; (try dsimp only at hSw); go_simp; (try with_reducible rfl)
      simp only [Act.put, List.getElem_toArray, List.getElem_cons_zero, List.getElem_cons_succ, List.setIfInBounds_toArray, List.set_cons_zero, List.set_cons_succ]
      refine wpAnyH_take (i := 9) (v := ?_) rfl (by as_aux_lemma => kernel_rfl) (by as_aux_lemma => kernel_rfl) (by as_aux_lemma => kernel_rfl) (fun _ _ _ h => h) (Or.inl ⟨by rfl, ?_⟩) (by assumption) ?_
      rotate_left
      · intro w hSw; (try dsimp only at hSw); go_simp; (try with_reducible rfl)
      simp only [Act.put, List.getElem_toArray, List.getElem_cons_zero, List.getElem_cons_succ, List.setIfInBounds_toArray, List.set_cons_zero, List.set_cons_succ]
      refine wpAnyH_take (i := 10) (v := ?_) rfl (by as_aux_lemma => kernel_rfl) (by as_aux_lemma => kernel_rfl) (by as_aux_lemma => kernel_rfl) (fun _ _ _ h => h) (Or.inl ⟨by rfl, ?_⟩) (by assumption) ?_
      rotate_left
      · intro w hSw; (try dsimp only at hSw); go_simp; (try with_reducible rfl)
      simp only [Act.put, List.getElem_toArray, List.getElem_cons_zero, List.getElem_cons_succ, List.setIfInBounds_toArray, List.set_cons_zero, List.set_cons_succ]
      refine wpAnyH_take (i := 11) (v := ?_) rfl (by as_aux_lemma => kernel_rfl) (by as_aux_lemma => kernel_rfl) (by as_aux_lemma => kernel_rfl) (fun _ _ _ h => h) (Or.inl ⟨by rfl, ?_⟩) (by assumption) ?_
      rotate_left
      · intro w hSw; (try dsimp only at hSw); go_simp; (try with_reducible rfl)
      simp only [Act.put, List.getElem_toArray, List.getElem_cons_zero, List.getElem_cons_succ, List.setIfInBounds_toArray, List.set_cons_zero, List.set_cons_succ]
      refine wpAnyH_take (i := 12) (v := ?_) rfl (by as_aux_lemma => kernel_rfl) (by as_aux_lemma => kernel_rfl) (by as_aux_lemma => kernel_rfl) (fun _ _ _ h => h) (Or.inl ⟨by rfl, ?_⟩) (by assumption) ?_
      rotate_left
      · intro w hSw; (try dsimp only at hSw); go_simp; (try with_reducible rfl)
      simp only [Act.put, List.getElem_toArray, List.getElem_cons_zero, List.getElem_cons_succ, List.setIfInBounds_toArray, List.set_cons_zero, List.set_cons_succ]
      refine wpAnyH_take (i := 13) (v := ?_) rfl (by as_aux_lemma => kernel_rfl) (by as_aux_lemma => kernel_rfl) (by as_aux_lemma => kernel_rfl) (fun _ _ _ h => h) (Or.inl ⟨by rfl, ?_⟩) (by assumption) ?_
      rotate_left
      · intro w hSw; (try dsimp only at hSw); go_simp; (try with_reducible rfl)
      simp only [Act.put, List.getElem_toArray, List.getElem_cons_zero, List.getElem_cons_succ, List.setIfInBounds_toArray, List.set_cons_zero, List.set_cons_succ]
      refine wpAnyH_take (i := 14) (v := ?_) rfl (by as_aux_lemma => kernel_rfl) (by as_aux_lemma => kernel_rfl) (by as_aux_lemma => kernel_rfl) (fun _ _ _ h => h) (Or.inl ⟨by rfl, ?_⟩) (by assumption) ?_
      rotate_left
      · intro w hSw; (try dsimp only at hSw); go_simp; (try with_reducible rfl)
      simp only [Act.put, List.getElem_toArray, List.getElem_cons_zero, List.getElem_cons_succ, List.setIfInBounds_toArray, List.set_cons_zero, List.set_cons_succ]
      refine wpAnyH_ready (rs := [15]) (by as_aux_lemma => kernel_rfl) (by simp) ?_
      refine AllReadyH.cons rfl (fun K hK => ?_) AllReadyH.nil
      go_simp
      go_wp2_with fail
      refine (HS2.out _ hbW).mono ?_
      rintro e wn15 ⟨rfl, hb⟩
      try dsimp only
      have hbW' := hbW.trans (hb.mono hbW.size)
      clear hb hbW
      have hbW := hbW'
      clear hbW'
      refine hK.out _ _ ?_ (fun hHeld2 => ?_)
      · (try dsimp only); exact HSY.out _ hbW
      clear hK K hHeld
      have hHeld := hHeld2
      clear hHeld2
      refine wpAnyH_take (i := 16) (v := ?_) rfl (by as_aux_lemma => kernel_rfl) (by as_aux_lemma => kernel_rfl) (by as_aux_lemma => kernel_rfl) (fun _ _ _ h => h) (Or.inl ⟨by rfl, ?_⟩) (by assumption) ?_
      rotate_left
      · intro w hSw; (try dsimp only at hSw); go_simp; (try with_reducible rfl)
      simp only [Act.put, List.getElem_toArray, List.getElem_cons_zero, List.getElem_cons_succ, List.setIfInBounds_toArray, List.set_cons_zero, List.set_cons_succ]
      refine wpAnyH_take (i := 17) (v := ?_) rfl (by as_aux_lemma => kernel_rfl) (by as_aux_lemma => kernel_rfl) (by as_aux_lemma => kernel_rfl) (fun _ _ _ h => h) (Or.inl ⟨by rfl, ?_⟩) (by assumption) ?_
      rotate_left
      · intro w hSw; (try dsimp only at hSw); go_simp; (try with_reducible rfl)
      simp only [Act.put, List.getElem_toArray, List.getElem_cons_zero, List.getElem_cons_succ, List.setIfInBounds_toArray, List.set_cons_zero, List.set_cons_succ]
      refine wpAnyH_take (i := 18) (v := ?_) rfl (by as_aux_lemma => kernel_rfl) (by as_aux_lemma => kernel_rfl) (by as_aux_lemma => kernel_rfl) (fun _ _ _ h => h) (Or.inl ⟨by rfl, ?_⟩) (by assumption) ?_
      rotate_left
      · intro w hSw; (try dsimp only at hSw); go_simp; (try with_reducible rfl)
      simp only [Act.put, List.getElem_toArray, List.getElem_cons_zero, List.getElem_cons_succ, List.setIfInBounds_toArray, List.set_cons_zero, List.set_cons_succ]
      refine wpAnyH_done (by as_aux_lemma => kernel_rfl) ?_ _
      go_wp2_with fail
      go_ret
      have hz5 := HB5.out.size
      refine ⟨rfl, by rw [HH.out]; exact HB1.out.trans ((HB5.out.trans ((HB5a.out.trans (hbW.mono HB5a.out.size)).mono hz5)).mono HZ1.out)⟩
    · try dsimp only
      have HB7 := Lib.hid hb7
      clear hqr hb7
      go_wp2_with fail
      refine (HKN.out _).mono ?_
      rintro e w8 ⟨rfl, hb8⟩
      try dsimp only
      have HB8 := Lib.hid hb8
      clear hb8
      go_wp2_with fail
      refine (HKN.out _).mono ?_
      rintro e w9 ⟨rfl, hb9⟩
      try dsimp only
      have HB9 := Lib.hid hb9
      clear hb9
      go_wp2_with fail
      go_ret
      have e1 := HB7.out.trans (HB8.out.mono HB7.out.size)
      have e2 := e1.trans (HB9.out.mono e1.size)
      have e3 := HB6.out.trans (e2.mono HB6.out.size)
      exact ⟨rfl, by rw [HH.out]; exact HB1.out.trans ((HB5.out.trans (e3.mono HB5.out.size)).mono HZ1.out)⟩
  · try dsimp only
    have HB6 := Lib.hid hb6
    have HQV := Lib.hid (HQ.out.2.1.below hb6)
    have HQ6 := Lib.hid (HQ.out.1.below hb6)
    have HLQ := Lib.hid (layQ HQV.out)
    have k0 := HQ6.out.c0
    have k1 := HQ6.out.c1
    have k2 := HQ6.out.c2
    have k3 := HQ6.out.c3
    have k4 := HQ6.out.c4
    unfold rqv at HLQ
    clear hpr hb6
    go_wp2_with fail
    refine HLQ.out.mono ?_
    clear k0 k1 k2 k3 k4 HLQ
    rintro e w7 hl
    obtain ⟨A7, n7, c7, e7, rfl, hb7⟩ : ∃ (A7 : Option Addr) (n7 c7 : Nat) (e7 : Int), e = .returned (.tuple #[.slice A7 n7 c7, .int .i64 e7]) ∧ Below w6.heap.size w6 w7 := by
      rcases hl with ⟨_, gb, cb, h1, _, _, h2⟩ | ⟨_, h1, h2⟩
      · exact ⟨_, _, _, _, h1, h2⟩
      · exact ⟨_, _, _, _, h1, h2⟩
    try dsimp only
    have HB7 := Lib.hid hb7
    clear hl hb7
    go_wp2_with fail
    refine (HKN.out _).mono ?_
    rintro e w8 ⟨rfl, hb8⟩
    try dsimp only
    have HB8 := Lib.hid hb8
    clear hb8
    go_wp2_with fail
    refine (HKN.out _).mono ?_
    rintro e w9 ⟨rfl, hb9⟩
    try dsimp only
    have HB9 := Lib.hid hb9
    clear hb9
    go_wp2_with fail
    go_ret
    have e1 := HB7.out.trans (HB8.out.mono HB7.out.size)
    have e2 := e1.trans (HB9.out.mono e1.size)
    have e3 := HB6.out.trans (e2.mono HB6.out.size)
    exact ⟨rfl, by rw [HH.out]; exact HB1.out.trans ((HB5.out.trans (e3.mono HB5.out.size)).mono HZ1.out)⟩
end Go.Proofs.Ytoofgcdilgfclaa
