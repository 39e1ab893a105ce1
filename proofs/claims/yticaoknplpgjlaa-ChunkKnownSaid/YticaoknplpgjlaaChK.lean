import Derived.Test.YticaoknplpgjlaaChT
import Derived.Test.YticaoknplpgjlaaChG
namespace Go.Proofs.Yticaoknplpgjlaa
open Go.RowKit Go.Sort
set_option maxRecDepth 100000
set_option maxHeartbeats 4000000

theorem CD.far {d : Disk} {M : Nat → Option Pc} (h : CD d M) {x : Pc} (hx : x.Ok) (k : Nat) (hne : ¬ (x.s = k / 2 ∧ x.g % 2 = k % 2)) : CD (d.write k (pcS x)) (updM M k none) := by
  refine ⟨fun i j hj => ?_, fun i hi => ?_⟩
  · rw [now_write]
    unfold upd
    split
    · exact pcS_lt hx j
    · exact h.bd i j hj
  · rw [now_write]
    unfold upd updM
    dsimp only
    by_cases e : i = k
    · rw [if_pos e, if_pos e]
      subst e
      exact Slot.of_far hx (fun _ _ => rfl) hne
    · rw [if_neg e, if_neg e]
      exact h.slot i hi
theorem CPutRet.no {w : World} {p : Nat} {S : List Nat} {N : Nat} {d : Disk} {wr : Nat} (h : Plt w p S N d wr) (hN : 80 ≤ N) (x : Pc) (v : Value) (hA : PcV w v x) (hx : ¬ OkI (x.s : Int) (x.g : Int) (x.i : Int) 32) :
    Calls Try.prog 11 #[.pointer (some ⟨p, 0, none⟩), v] w fun e w' => e = .returned (.int .i64 1) ∧ Below w.heap.size w w' := by
  obtain ⟨A, c, rfl, hd⟩ := hA
  exact cput_no h hN _ _ _ A 32 c hx
theorem CPutRet.nil {w : World} (x : Pc) (v : Value) (hA : PcV w v x) :
    Calls Try.prog 11 #[.pointer none, v] w fun e w' => e = .returned (.int .i64 1) ∧ Below w.heap.size w w' := by
  obtain ⟨A, c, rfl, hd⟩ := hA
  exact cput_nil _ _ _ A 32 c w
theorem CPutRet.small {w : World} {p : Nat} {S : List Nat} {N : Nat} {d : Disk} {wr : Nat} (h : Plt w p S N d wr) (hN : N < 80) (x : Pc) (v : Value) (hA : PcV w v x) :
    Calls Try.prog 11 #[.pointer (some ⟨p, 0, none⟩), v] w fun e w' => e = .returned (.int .i64 1) ∧ Below w.heap.size w w' := by
  obtain ⟨A, c, rfl, hd⟩ := hA
  exact cput_small h hN _ _ _ A 32 c
theorem clayV (p : Pc) (v : Value) (w : World) (hp : p.Ok) (h : PcV w v p) : Calls Try.prog 13 #[v] w (CLayRet p w) := by
  obtain ⟨A, c, rfl, hd⟩ := h
  exact clay p A c w hp hd.rd
/-- A piece that was laid, read. -/
def ReadV (p : Pc) (w : World) (e : Ending) (w' : World) : Prop := ∃ A c, e = .returned (.tuple #[pv (p.s : Int) (p.g : Int) (p.i : Int) A 32 c, .bool true]) ∧ Dat w' A p.D ∧ Below w.heap.size w w'
theorem creadV {w : World} {g : Nat} {p : Pc} (h : Blk8 w g 160 (pcS p)) (hp : p.Ok) : Calls Try.prog 14 #[.slice (some ⟨g, 0, none⟩) 160 160] w (ReadV p w) := by
  obtain ⟨h1, e1, e2, e3, e4⟩ := rdP_pcS (F := pcS p) hp (fun _ _ => rfl)
  refine (cread_yes g 0 160 (pcS p) w h.rd (by omega) (fun j _ => pcS_lt hp j) h1).mono ?_
  rintro e w' ⟨A, c, rfl, d, b⟩
  exact ⟨A, c, by rw [e1, e2, e3], d.congr e4, b⟩
theorem CGetRet.len {w : World} {n : Nat} {l : List Pc} {p : Nat} {s : Int} (h : Calls Try.prog 18 #[.pointer (some ⟨p, 0, none⟩), .int .i64 s] w (CGetRet l w)) (hn : l.length = n) : Calls Try.prog 18 #[.pointer (some ⟨p, 0, none⟩), .int .i64 s] w fun e w' => ∃ A c, e = .returned (.slice A n c) ∧ Below w.heap.size w w' := h.mono (by
  rintro e w' ⟨v, rfl, hp, hb⟩
  obtain ⟨A, c, rfl⟩ := hp.form
  exact ⟨A, c, by rw [hn], hb⟩)
def kP1 : Pc := oneP 39 1099511627776 5 1
def kP2 : Pc := oneP 3 7 1 9
theorem kP1_ok : kP1.Ok := oneP_ok (by omega) (by omega) (by omega) (by omega)
theorem kP2_ok : kP2.Ok := oneP_ok (by omega) (by omega) (by omega) (by omega)
def kM : Nat → Option Pc := updM (updM (fun _ => none) 78 (some kP1)) 8 none
theorem kM_cd : CD ((Disk.blank.write (atP kP1) (pcS kP1)).write 8 (pcS kP2)) kM := (CD.blank.put kP1_ok).far kP2_ok 8 (by decide)
theorem chunkKnown (w : World) : Calls Try.prog 3 #[] w fun e w' => e = .returned (.bool true) ∧ Below w.heap.size w w' := by
  obtain ⟨H, hH⟩ : ∃ H, w.heap.size = H := ⟨_, rfl⟩
  have HH := Lib.hid hH
  have HNW := Lib.hid (dnew_of w 96 96 (by omega) rfl)
  have HO1 := Lib.hid (fun W => loneI 0 1 0 1 0 1 0 rfl rfl rfl W)
  have HO2 := Lib.hid (fun W => loneI 0 0 0 1 0 0 0 rfl rfl rfl W)
  have HO3 := Lib.hid (fun W => loneI 39 1099511627776 5 1 39 1099511627776 5 rfl rfl rfl W)
  have HO4 := Lib.hid (fun W => loneI 3 7 1 9 3 7 1 rfl rfl rfl W)
  have HO5 := Lib.hid (fun W => loneI 1 1 1 1 1 1 1 rfl rfl rfl W)
  have HO6 := Lib.hid (fun W => loneI 1 1 1 2 1 1 1 rfl rfl rfl W)
  rw [hH]
  clear hH
  go_enter Try.func3, Try.ntmps3
  go_wp2_with fail
  refine HNW.out.mono ?_
  rintro e w1 ⟨p, S1, rfl, hp1, hb1, hS1⟩
  try dsimp only
  have HP1 := Lib.hid hp1
  have HB1 : Hid (Below H w w1) := Lib.hid (by rw [← HH.out]; exact hb1)
  have HS1 : Hid (∀ k ∈ S1, H ≤ k) := Lib.hid (by rw [← HH.out]; exact hS1)
  have HZ1 : Hid (H ≤ w1.heap.size) := Lib.hid (by rw [← HH.out]; exact hb1.size)
  clear hp1 hb1 hS1 HNW
  go_wp2_with fail
  refine (lknown8 w1).mono ?_
  rintro e w2 ⟨rfl, hb⟩
  try dsimp only
  have HP2 := Lib.hid (HP1.out.below hb)
  have HB2 : Hid (Below H w w2) := Lib.hid (HB1.out.trans (hb.mono HZ1.out))
  have HZ2 : Hid (H ≤ w2.heap.size) := Lib.hid (Nat.le_trans HZ1.out hb.size)
  clear hb HP1 HB1 HZ1
  go_wp2_with fail
  refine (HO1.out w2).mono ?_
  rintro e w3 ⟨v3, rfl, hv, hb⟩
  try dsimp only
  have HP3 := Lib.hid (HP2.out.below hb)
  have HB3 : Hid (Below H w w3) := Lib.hid (HB2.out.trans (hb.mono HZ2.out))
  have HZ3 : Hid (H ≤ w3.heap.size) := Lib.hid (Nat.le_trans HZ2.out hb.size)
  have HV3 := Lib.hid hv
  clear hb HP2 HB2 HZ2  hv
  go_wp2_with fail
  refine (CPutRet.nil _ v3 HV3.out).mono ?_
  rintro e w4 ⟨rfl, hb⟩
  try dsimp only
  have HP4 := Lib.hid (HP3.out.below hb)
  have HB4 : Hid (Below H w w4) := Lib.hid (HB3.out.trans (hb.mono HZ3.out))
  have HZ4 : Hid (H ≤ w4.heap.size) := Lib.hid (Nat.le_trans HZ3.out hb.size)
  clear hb HP3 HB3 HZ3  HV3
  go_wp2_with fail
  refine (dnew_of w4 5 5 (by omega) rfl).mono ?_
  rintro e w5 ⟨p5, S5, rfl, hq, hb, _⟩
  try dsimp only
  have HP5 := Lib.hid (HP4.out.below hb)
  have HB5 : Hid (Below H w w5) := Lib.hid (HB4.out.trans (hb.mono HZ4.out))
  have HZ5 : Hid (H ≤ w5.heap.size) := Lib.hid (Nat.le_trans HZ4.out hb.size)
  have HQ5 := Lib.hid hq
  clear hb HP4 HB4 HZ4  hq
  go_wp2_with fail
  refine (HO1.out w5).mono ?_
  rintro e w6 ⟨v6, rfl, hv, hb⟩
  try dsimp only
  have HP6 := Lib.hid (HP5.out.below hb)
  have HB6 : Hid (Below H w w6) := Lib.hid (HB5.out.trans (hb.mono HZ5.out))
  have HZ6 : Hid (H ≤ w6.heap.size) := Lib.hid (Nat.le_trans HZ5.out hb.size)
  have HQ6 := Lib.hid (HQ5.out.below hb)
  have HV6 := Lib.hid hv
  clear hb HP5 HB5 HZ5 HQ5 hv
  go_wp2_with fail
  refine (CPutRet.small HQ6.out (by omega) _ v6 HV6.out).mono ?_
  rintro e w7 ⟨rfl, hb⟩
  try dsimp only
  have HP7 := Lib.hid (HP6.out.below hb)
  have HB7 : Hid (Below H w w7) := Lib.hid (HB6.out.trans (hb.mono HZ6.out))
  have HZ7 : Hid (H ≤ w7.heap.size) := Lib.hid (Nat.le_trans HZ6.out hb.size)
  clear hb HP6 HB6 HZ6  HV6 HQ6
  go_wp2_with fail
  refine (HO2.out w7).mono ?_
  rintro e w8 ⟨v8, rfl, hv, hb⟩
  try dsimp only
  have HP8 := Lib.hid (HP7.out.below hb)
  have HB8 : Hid (Below H w w8) := Lib.hid (HB7.out.trans (hb.mono HZ7.out))
  have HZ8 : Hid (H ≤ w8.heap.size) := Lib.hid (Nat.le_trans HZ7.out hb.size)
  have HV8 := Lib.hid hv
  clear hb HP7 HB7 HZ7  hv
  go_wp2_with fail
  refine (CPutRet.no HP8.out (by omega) _ v8 HV8.out (by rintro ⟨_, _, h, _⟩; revert h; decide)).mono ?_
  rintro e w9 ⟨rfl, hb⟩
  try dsimp only
  have HP9 := Lib.hid (HP8.out.below hb)
  have HB9 : Hid (Below H w w9) := Lib.hid (HB8.out.trans (hb.mono HZ8.out))
  have HZ9 : Hid (H ≤ w9.heap.size) := Lib.hid (Nat.le_trans HZ8.out hb.size)
  clear hb HP8 HB8 HZ8  HV8
  go_wp2_with fail
  refine (HO3.out w9).mono ?_
  rintro e w10 ⟨v10, rfl, hv, hb⟩
  try dsimp only
  have HP10 := Lib.hid (HP9.out.below hb)
  have HB10 : Hid (Below H w w10) := Lib.hid (HB9.out.trans (hb.mono HZ9.out))
  have HZ10 : Hid (H ≤ w10.heap.size) := Lib.hid (Nat.le_trans HZ9.out hb.size)
  have HV10 : Hid (PcV w10 v10 kP1) := Lib.hid hv
  clear hb HP9 HB9 HZ9  hv
  go_wp2_with fail
  refine (CPutRet.put HP10.out (by omega) kP1 kP1_ok v10 HV10.out (by omega)).mono ?_
  rintro e w11 ⟨S11, rfl, hp11, hs11⟩
  try dsimp only
  have HP11 := Lib.hid hp11
  have HX := Below.step HB10.out hs11 HS1.out HZ10.out
  have HB11 := Lib.hid HX.1
  have HS11 := Lib.hid HX.2
  have HZ11 : Hid (H ≤ w11.heap.size) := Lib.hid (Nat.le_trans HZ10.out hs11.turn.size)
  clear hp11 hs11 HX HP10 HB10 HZ10 HV10 HS1
  go_wp2_with fail
  refine (HO4.out w11).mono ?_
  rintro e w12 ⟨v12, rfl, hv, hb⟩
  try dsimp only
  have HP12 := Lib.hid (HP11.out.below hb)
  have HB12 : Hid (Below H w w12) := Lib.hid (HB11.out.trans (hb.mono HZ11.out))
  have HZ12 : Hid (H ≤ w12.heap.size) := Lib.hid (Nat.le_trans HZ11.out hb.size)
  have HV12 : Hid (PcV w12 v12 kP2) := Lib.hid hv
  clear hb HP11 HB11 HZ11  hv
  go_wp2_with fail
  refine (clayV kP2 v12 w12 kP2_ok HV12.out).mono ?_
  rintro e w13 ⟨gx, rfl, hk, hb, _⟩
  try dsimp only
  have HP13 := Lib.hid (HP12.out.below hb)
  have HB13 : Hid (Below H w w13) := Lib.hid (HB12.out.trans (hb.mono HZ12.out))
  have HZ13 : Hid (H ≤ w13.heap.size) := Lib.hid (Nat.le_trans HZ12.out hb.size)
  have HKX13 := Lib.hid hk
  clear hb HP12 HB12 HZ12  hk HV12
  go_wp2_with fail
  refine (creadV HKX13.out kP2_ok).mono ?_
  rintro e w14 ⟨Ay, cy, rfl, hd, hb⟩
  try dsimp only
  have HP14 := Lib.hid (HP13.out.below hb)
  have HB14 : Hid (Below H w w14) := Lib.hid (HB13.out.trans (hb.mono HZ13.out))
  have HZ14 : Hid (H ≤ w14.heap.size) := Lib.hid (Nat.le_trans HZ13.out hb.size)
  have HKX14 := Lib.hid (HKX13.out.below hb)
  have HDY14 := Lib.hid hd
  clear hb HP13 HB13 HZ13 HKX13 hd
  go_wp2_with fail
  obtain ⟨w15, hw15⟩ : ∃ w15, w14.alloc (.cells #[.int .i64 (kP2.s : Int), .int .i64 (kP2.g : Int), .int .i64 (kP2.i : Int), .slice Ay 32 cy] 29) = w15 := ⟨_, rfl⟩
  have hb : Below w14.heap.size w14 w15 := by rw [← hw15]; exact (Below.refl _ _).alloc (Nat.le_refl _) _
  have HPV15 : Hid (PV w15 w14.heap.size (kP2.s : Int) (kP2.g : Int) (kP2.i : Int) Ay 32 cy) := Lib.hid (by rw [← hw15]; exact PV.new w14 _ _ _ _ _ _)
  have HP15 := Lib.hid (HP14.out.below hb)
  have HB15 : Hid (Below H w w15) := Lib.hid (HB14.out.trans (hb.mono HZ14.out))
  have HZ15 : Hid (H ≤ w15.heap.size) := Lib.hid (Nat.le_trans HZ14.out hb.size)
  have HKX15 := Lib.hid (HKX14.out.below hb)
  have HDY15 := Lib.hid (HDY14.out.below hb)
  rw [hw15]
  obtain ⟨yb, hyb⟩ : ∃ yb, w14.heap.size = yb := ⟨_, rfl⟩
  rw [hyb] at HPV15 ⊢
  clear hw15 hyb hb HP14 HB14 HZ14 HKX14 HDY14
  refine (cread_len none 0 0 w15 (by omega)).mono ?_
  rintro e w16 ⟨rfl, hb⟩
  try dsimp only
  have HP16 := Lib.hid (HP15.out.below hb)
  have HB16 : Hid (Below H w w16) := Lib.hid (HB15.out.trans (hb.mono HZ15.out))
  have HZ16 : Hid (H ≤ w16.heap.size) := Lib.hid (Nat.le_trans HZ15.out hb.size)
  have HKX16 := Lib.hid (HKX15.out.below hb)
  have HDY16 := Lib.hid (HDY15.out.below hb)
  have HPV16 := Lib.hid (HPV15.out.below hb)
  clear hb HP15 HB15 HZ15 HKX15 HDY15 HPV15
  go_wp2_with fail
  obtain ⟨w17, hw17⟩ : ∃ w17, w16.alloc (.cells #[.int .i64 0, .int .i64 0, .int .i64 0, .slice none 0 0] 29) = w17 := ⟨_, rfl⟩
  have hb : Below w16.heap.size w16 w17 := by rw [← hw17]; exact (Below.refl _ _).alloc (Nat.le_refl _) _
  have HP17 := Lib.hid (HP16.out.below hb)
  have HB17 : Hid (Below H w w17) := Lib.hid (HB16.out.trans (hb.mono HZ16.out))
  have HZ17 : Hid (H ≤ w17.heap.size) := Lib.hid (Nat.le_trans HZ16.out hb.size)
  have HKX17 := Lib.hid (HKX16.out.below hb)
  have HDY17 := Lib.hid (HDY16.out.below hb)
  have HPV17 := Lib.hid (HPV16.out.below hb)
  rw [hw17]
  clear hw17 hb HP16 HB16 HZ16 HKX16 HDY16 HPV16
  refine (cplace 4 6 w17 (by omega) (by omega) (by omega) (by omega)).mono ?_
  rintro e w' ⟨rfl, hw⟩
  obtain rfl := hw.symm
  go_wp2_with fail
  refine (dwrite 8 (some ⟨gx, 0, none⟩) 160 (pcS kP2) HP17.out (by omega) HKX17.out.rd (by omega)).mono ?_
  rintro e w18 ⟨S18, rfl, hp18, hs18⟩
  try dsimp only
  have HP18 := Lib.hid hp18
  have HX := Below.step HB17.out hs18 HS11.out HZ17.out
  have HB18 := Lib.hid HX.1
  have HZ18 : Hid (H ≤ w18.heap.size) := Lib.hid (Nat.le_trans HZ17.out hs18.turn.size)
  have HDY18 : Hid (Dat w18 Ay kP2.D) := Lib.hid (HDY17.out.keep (fun g cs hg => hs18.turn.block g (heap_lt hg) (HP17.out.notMem hg (by decide) (by decide) (by decide))))
  have HPV18 : Hid (PV w18 yb (kP2.s : Int) (kP2.g : Int) (kP2.i : Int) Ay 32 cy) := Lib.hid (HPV17.out.keep (hs18.turn.block yb HPV17.out.lt (HP17.out.notMem HPV17.out (by decide) (by decide) (by decide))))
  clear hp18 hs18 HX HP17 HB17 HZ17 HKX17 HDY17 HPV17 HS11
  have y0 := HPV18.out.c0
  have y1 := HPV18.out.c1
  have y2 := HPV18.out.c2
  have y3 := HPV18.out.c3
  have HCD := Lib.hid kM_cd
  go_wp2_with fail
  have hbW := below_drewN 1 w18
  have HSY : Hid (∀ W, Below w18.heap.size w18 W → W.cell? ⟨yb, 0, none⟩ = some (.int .i64 (kP2.s : Int)) ∧ W.cell? ⟨yb, 1, none⟩ = some (.int .i64 (kP2.g : Int)) ∧ W.cell? ⟨yb, 2, none⟩ = some (.int .i64 (kP2.i : Int)) ∧ W.cell? ⟨yb, 3, none⟩ = some (.slice Ay 32 cy)) := Lib.hid (fun W hW => ⟨(HPV18.out.below hW).c0, (HPV18.out.below hW).c1, (HPV18.out.below hW).c2, (HPV18.out.below hW).c3⟩)
  have HR0 := Lib.hid (fun W => cright 0 0 0 none 0 0 W false ⟨fun h => (by cases h), fun h => by unfold OkI at h; omega⟩)
  unfold pv at HR0
  clear y0 y1 y2 y3
  simp only [List.append_eq, List.cons_append, List.nil_append]
  refine wp_region_held_drew (S := (fun W => W.cell? ⟨yb, 0, none⟩ = some (.int .i64 (kP2.s : Int)) ∧ W.cell? ⟨yb, 1, none⟩ = some (.int .i64 (kP2.g : Int)) ∧ W.cell? ⟨yb, 2, none⟩ = some (.int .i64 (kP2.i : Int)) ∧ W.cell? ⟨yb, 3, none⟩ = some (.slice Ay 32 cy))) (by as_aux_lemma => kernel_rfl) ?_ (fun hHeld => ?_)
  · exact HSY.out _ hbW
  refine wpAnyH_take (i := 0) (v := ?_) rfl (by as_aux_lemma => kernel_rfl) (by as_aux_lemma => kernel_rfl) (by as_aux_lemma => kernel_rfl) (fun _ _ _ h => h) (Or.inl ⟨by rfl, ?_⟩) (by assumption) ?_
  rotate_left
  · intro w hSw; (try dsimp only at hSw); go_simp; (try with_reducible rfl)
  simp only [Act.put, List.getElem_toArray, List.getElem_cons_zero, List.setIfInBounds_toArray, List.set_cons_zero, List.set_cons_succ]
  refine wpAnyH_take (i := 1) (v := ?_) rfl (by as_aux_lemma => kernel_rfl) (by as_aux_lemma => kernel_rfl) (by as_aux_lemma => kernel_rfl) (fun _ _ _ h => h) (Or.inl ⟨by rfl, ?_⟩) (by assumption) ?_
  rotate_left
  · intro w hSw; (try dsimp only at hSw); go_simp; (try with_reducible rfl)
  simp only [Act.put, List.getElem_toArray, List.getElem_cons_zero, List.getElem_cons_succ, List.setIfInBounds_toArray, List.set_cons_zero, List.set_cons_succ]
  refine wpAnyH_take (i := 2) (v := ?_) rfl (by as_aux_lemma => kernel_rfl) (by as_aux_lemma => kernel_rfl) (by as_aux_lemma => kernel_rfl) (fun _ _ _ h => h) (Or.inl ⟨by rfl, ?_⟩) (by assumption) ?_
  rotate_left
  · intro w hSw; (try dsimp only at hSw); go_simp; (try with_reducible rfl)
  simp only [Act.put, List.getElem_toArray, List.getElem_cons_zero, List.getElem_cons_succ, List.setIfInBounds_toArray, List.set_cons_zero, List.set_cons_succ]
  refine wpAnyH_take (i := 3) (v := ?_) rfl (by as_aux_lemma => kernel_rfl) (by as_aux_lemma => kernel_rfl) (by as_aux_lemma => kernel_rfl) (fun _ _ _ h => h) (Or.inl ⟨by rfl, ?_⟩) (by assumption) ?_
  rotate_left
  · intro w hSw; (try dsimp only at hSw); go_simp; (try with_reducible rfl)
  simp only [Act.put, List.getElem_toArray, List.getElem_cons_zero, List.getElem_cons_succ, List.setIfInBounds_toArray, List.set_cons_zero, List.set_cons_succ]
  refine wpAnyH_take (i := 4) (v := ?_) rfl (by as_aux_lemma => kernel_rfl) (by as_aux_lemma => kernel_rfl) (by as_aux_lemma => kernel_rfl) (fun _ _ _ h => h) (Or.inl ⟨by rfl, ?_⟩) (by assumption) ?_
  rotate_left
  · intro w hSw; (try dsimp only at hSw); go_simp; (try with_reducible rfl)
  simp only [Act.put, List.getElem_toArray, List.getElem_cons_zero, List.getElem_cons_succ, List.setIfInBounds_toArray, List.set_cons_zero, List.set_cons_succ]
  refine wpAnyH_take (i := 5) (v := ?_) rfl (by as_aux_lemma => kernel_rfl) (by as_aux_lemma => kernel_rfl) (by as_aux_lemma => kernel_rfl) (fun _ _ _ h => h) (Or.inl ⟨by rfl, ?_⟩) (by assumption) ?_
  rotate_left
  · intro w hSw; (try dsimp only at hSw); go_simp; (try with_reducible rfl)
  simp only [Act.put, List.getElem_toArray, List.getElem_cons_zero, List.getElem_cons_succ, List.setIfInBounds_toArray, List.set_cons_zero, List.set_cons_succ]
  refine wpAnyH_take (i := 6) (v := ?_) rfl (by as_aux_lemma => kernel_rfl) (by as_aux_lemma => kernel_rfl) (by as_aux_lemma => kernel_rfl) (fun _ _ _ h => h) (Or.inl ⟨by rfl, ?_⟩) (by assumption) ?_
  rotate_left
  · intro w hSw; (try dsimp only at hSw); go_simp; (try with_reducible rfl)
  simp only [Act.put, List.getElem_toArray, List.getElem_cons_zero, List.getElem_cons_succ, List.setIfInBounds_toArray, List.set_cons_zero, List.set_cons_succ]
  refine wpAnyH_take (i := 7) (v := ?_) rfl (by as_aux_lemma => kernel_rfl) (by as_aux_lemma => kernel_rfl) (by as_aux_lemma => kernel_rfl) (fun _ _ _ h => h) (Or.inl ⟨by rfl, ?_⟩) (by assumption) ?_
  rotate_left
  · intro w hSw; (try dsimp only at hSw); go_simp; (try with_reducible rfl)
  simp only [Act.put, List.getElem_toArray, List.getElem_cons_zero, List.getElem_cons_succ, List.setIfInBounds_toArray, List.set_cons_zero, List.set_cons_succ]
  refine wpAnyH_take (i := 8) (v := ?_) rfl (by as_aux_lemma => kernel_rfl) (by as_aux_lemma => kernel_rfl) (by as_aux_lemma => kernel_rfl) (fun _ _ _ h => h) (Or.inl ⟨by rfl, ?_⟩) (by assumption) ?_
  rotate_left
  · intro w hSw; (try dsimp only at hSw); go_simp; (try with_reducible rfl)
  simp only [Act.put, List.getElem_toArray, List.getElem_cons_zero, List.getElem_cons_succ, List.setIfInBounds_toArray, List.set_cons_zero, List.set_cons_succ]
  refine wpAnyH_take (i := 9) (v := ?_) rfl (by as_aux_lemma => kernel_rfl) (by as_aux_lemma => kernel_rfl) (by as_aux_lemma => kernel_rfl) (fun _ _ _ h => h) (Or.inl ⟨by rfl, ?_⟩) (by assumption) ?_
  rotate_left
  · intro w hSw; (try dsimp only at hSw); go_simp; (try with_reducible rfl)
  simp only [Act.put, List.getElem_toArray, List.getElem_cons_zero, List.getElem_cons_succ, List.setIfInBounds_toArray, List.set_cons_zero, List.set_cons_succ]
  refine wpAnyH_take (i := 10) (v := ?_) rfl (by as_aux_lemma => kernel_rfl) (by as_aux_lemma => kernel_rfl) (by as_aux_lemma => kernel_rfl) (fun _ _ _ h => h) (Or.inl ⟨by rfl, ?_⟩) (by assumption) ?_
  rotate_left
  · intro w hSw; (try dsimp only at hSw); go_simp; (try with_reducible rfl)
  simp only [Act.put, List.getElem_toArray, List.getElem_cons_zero, List.getElem_cons_succ, List.setIfInBounds_toArray, List.set_cons_zero, List.set_cons_succ]
  refine wpAnyH_take (i := 11) (v := ?_) rfl (by as_aux_lemma => kernel_rfl) (by as_aux_lemma => kernel_rfl) (by as_aux_lemma => kernel_rfl) (fun _ _ _ h => h) (Or.inl ⟨by rfl, ?_⟩) (by assumption) ?_
  rotate_left
  · intro w hSw; (try dsimp only at hSw); go_simp; (try with_reducible rfl)
  simp only [Act.put, List.getElem_toArray, List.getElem_cons_zero, List.getElem_cons_succ, List.setIfInBounds_toArray, List.set_cons_zero, List.set_cons_succ]
  refine wpAnyH_take (i := 12) (v := ?_) rfl (by as_aux_lemma => kernel_rfl) (by as_aux_lemma => kernel_rfl) (by as_aux_lemma => kernel_rfl) (fun _ _ _ h => h) (Or.inl ⟨by rfl, ?_⟩) (by assumption) ?_
  rotate_left
  · intro w hSw; (try dsimp only at hSw); go_simp; (try with_reducible rfl)
  simp only [Act.put, List.getElem_toArray, List.getElem_cons_zero, List.getElem_cons_succ, List.setIfInBounds_toArray, List.set_cons_zero, List.set_cons_succ]
  refine wpAnyH_take (i := 13) (v := ?_) rfl (by as_aux_lemma => kernel_rfl) (by as_aux_lemma => kernel_rfl) (by as_aux_lemma => kernel_rfl) (fun _ _ _ h => h) (Or.inl ⟨by rfl, ?_⟩) (by assumption) ?_
  rotate_left
  · intro w hSw; (try dsimp only at hSw); go_simp; (try with_reducible rfl)
  simp only [Act.put, List.getElem_toArray, List.getElem_cons_zero, List.getElem_cons_succ, List.setIfInBounds_toArray, List.set_cons_zero, List.set_cons_succ]
  refine wpAnyH_take (i := 14) (v := ?_) rfl (by as_aux_lemma => kernel_rfl) (by as_aux_lemma => kernel_rfl) (by as_aux_lemma => kernel_rfl) (fun _ _ _ h => h) (Or.inl ⟨by rfl, ?_⟩) (by assumption) ?_
  rotate_left
  · intro w hSw; (try dsimp only at hSw); go_simp; (try with_reducible rfl)
  simp only [Act.put, List.getElem_toArray, List.getElem_cons_zero, List.getElem_cons_succ, List.setIfInBounds_toArray, List.set_cons_zero, List.set_cons_succ]
  refine wpAnyH_take (i := 15) (v := ?_) rfl (by as_aux_lemma => kernel_rfl) (by as_aux_lemma => kernel_rfl) (by as_aux_lemma => kernel_rfl) (fun _ _ _ h => h) (Or.inl ⟨by rfl, ?_⟩) (by assumption) ?_
  rotate_left
  · intro w hSw; (try dsimp only at hSw); go_simp; (try with_reducible rfl)
  simp only [Act.put, List.getElem_toArray, List.getElem_cons_zero, List.getElem_cons_succ, List.setIfInBounds_toArray, List.set_cons_zero, List.set_cons_succ]
  refine wpAnyH_take (i := 16) (v := ?_) rfl (by as_aux_lemma => kernel_rfl) (by as_aux_lemma => kernel_rfl) (by as_aux_lemma => kernel_rfl) (fun _ _ _ h => h) (Or.inl ⟨by rfl, ?_⟩) (by assumption) ?_
  rotate_left
  · intro w hSw; (try dsimp only at hSw); go_simp; (try with_reducible rfl)
  simp only [Act.put, List.getElem_toArray, List.getElem_cons_zero, List.getElem_cons_succ, List.setIfInBounds_toArray, List.set_cons_zero, List.set_cons_succ]
  refine wpAnyH_take (i := 17) (v := ?_) rfl (by as_aux_lemma => kernel_rfl) (by as_aux_lemma => kernel_rfl) (by as_aux_lemma => kernel_rfl) (fun _ _ _ h => h) (Or.inl ⟨by rfl, ?_⟩) (by assumption) ?_
  rotate_left
  · intro w hSw; (try dsimp only at hSw); go_simp; (try with_reducible rfl)
  simp only [Act.put, List.getElem_toArray, List.getElem_cons_zero, List.getElem_cons_succ, List.setIfInBounds_toArray, List.set_cons_zero, List.set_cons_succ]
  refine wpAnyH_take (i := 18) (v := ?_) rfl (by as_aux_lemma => kernel_rfl) (by as_aux_lemma => kernel_rfl) (by as_aux_lemma => kernel_rfl) (fun _ _ _ h => h) (Or.inl ⟨by rfl, ?_⟩) (by assumption) ?_
  rotate_left
  · intro w hSw; (try dsimp only at hSw); go_simp; (try with_reducible rfl)
  simp only [Act.put, List.getElem_toArray, List.getElem_cons_zero, List.getElem_cons_succ, List.setIfInBounds_toArray, List.set_cons_zero, List.set_cons_succ]
  refine wpAnyH_take (i := 19) (v := ?_) rfl (by as_aux_lemma => kernel_rfl) (by as_aux_lemma => kernel_rfl) (by as_aux_lemma => kernel_rfl) (fun _ _ _ h => h) (Or.inl ⟨by rfl, ?_⟩) (by assumption) ?_
  rotate_left
  · intro w hSw; (try dsimp only at hSw); go_simp; (try with_reducible rfl)
  simp only [Act.put, List.getElem_toArray, List.getElem_cons_zero, List.getElem_cons_succ, List.setIfInBounds_toArray, List.set_cons_zero, List.set_cons_succ]
  refine wpAnyH_take (i := 20) (v := ?_) rfl (by as_aux_lemma => kernel_rfl) (by as_aux_lemma => kernel_rfl) (by as_aux_lemma => kernel_rfl) (fun _ _ _ h => h) (Or.inl ⟨by rfl, ?_⟩) (by assumption) ?_
  rotate_left
  · intro w hSw; (try dsimp only at hSw); go_simp; (try with_reducible rfl)
  simp only [Act.put, List.getElem_toArray, List.getElem_cons_zero, List.getElem_cons_succ, List.setIfInBounds_toArray, List.set_cons_zero, List.set_cons_succ]
  refine wpAnyH_take (i := 21) (v := ?_) rfl (by as_aux_lemma => kernel_rfl) (by as_aux_lemma => kernel_rfl) (by as_aux_lemma => kernel_rfl) (fun _ _ _ h => h) (Or.inl ⟨by rfl, ?_⟩) (by assumption) ?_
  rotate_left
  · intro w hSw; (try dsimp only at hSw); go_simp; (try with_reducible rfl)
  simp only [Act.put, List.getElem_toArray, List.getElem_cons_zero, List.getElem_cons_succ, List.setIfInBounds_toArray, List.set_cons_zero, List.set_cons_succ]
  refine wpAnyH_take (i := 22) (v := ?_) rfl (by as_aux_lemma => kernel_rfl) (by as_aux_lemma => kernel_rfl) (by as_aux_lemma => kernel_rfl) (fun _ _ _ h => h) (Or.inl ⟨by rfl, ?_⟩) (by assumption) ?_
  rotate_left
  · intro w hSw; (try dsimp only at hSw); go_simp; (try with_reducible rfl)
  simp only [Act.put, List.getElem_toArray, List.getElem_cons_zero, List.getElem_cons_succ, List.setIfInBounds_toArray, List.set_cons_zero, List.set_cons_succ]
  refine wpAnyH_ready (rs := [23]) (by as_aux_lemma => kernel_rfl) (by simp) ?_
  refine AllReadyH.cons rfl (fun K hK => ?_) AllReadyH.nil
  go_simp
  go_wp2_with fail
  refine (HO4.out _).mono ?_
  rintro e wn23 ⟨v19, rfl, hv, hb⟩
  try dsimp only
  have hbW' := hbW.trans (hb.mono hbW.size)
  have HV19 : Hid (PcV wn23 v19 kP2) := Lib.hid hv
  clear hv
  clear hb hbW
  have hbW := hbW'
  clear hbW'
  refine hK.out _ _ ?_ (fun hHeld2 => ?_)
  · (try dsimp only); exact HSY.out _ hbW
  clear hK K hHeld
  have hHeld := hHeld2
  clear hHeld2
  refine wpAnyH_ready (rs := [24]) (by as_aux_lemma => kernel_rfl) (by simp) ?_
  refine AllReadyH.cons rfl (fun K hK => ?_) AllReadyH.nil
  go_simp
  go_wp2_with fail
  refine (csameV (v := pv (kP2.s : Int) (kP2.g : Int) (kP2.i : Int) Ay 32 cy) (v' := v19) (p := kP2) (q := kP2) ⟨Ay, cy, rfl, HDY18.out.below hbW⟩ HV19.out (fun j _ => bytesF_lt _ j) (fun j _ => bytesF_lt _ j) true ⟨fun _ => Pc.Alike.refl _, fun _ => rfl⟩).mono ?_
  rintro e wn24 ⟨rfl, hb⟩
  try dsimp only
  have hbW' := hbW.trans (hb.mono hbW.size)
  clear hb hbW
  have hbW := hbW'
  clear hbW'
  refine hK.out _ _ ?_ (fun hHeld2 => ?_)
  · (try dsimp only); exact HSY.out _ hbW
  clear hK K hHeld
  have hHeld := hHeld2
  clear hHeld2
  refine wpAnyH_take (i := 25) (v := ?_) rfl (by as_aux_lemma => kernel_rfl) (by as_aux_lemma => kernel_rfl) (by as_aux_lemma => kernel_rfl) (fun _ _ _ h => h) (Or.inl ⟨by rfl, ?_⟩) (by assumption) ?_
  rotate_left
  · intro w hSw; (try dsimp only at hSw); go_simp; (try with_reducible rfl)
  simp only [Act.put, List.getElem_toArray, List.getElem_cons_zero, List.getElem_cons_succ, List.setIfInBounds_toArray, List.set_cons_zero, List.set_cons_succ]
  refine wpAnyH_take (i := 26) (v := ?_) rfl (by as_aux_lemma => kernel_rfl) (by as_aux_lemma => kernel_rfl) (by as_aux_lemma => kernel_rfl) (fun _ _ _ h => h) (Or.inl ⟨by rfl, ?_⟩) (by assumption) ?_
  rotate_left
  · intro w hSw; (try dsimp only at hSw); go_simp; (try with_reducible rfl)
  simp only [Act.put, List.getElem_toArray, List.getElem_cons_zero, List.getElem_cons_succ, List.setIfInBounds_toArray, List.set_cons_zero, List.set_cons_succ]
  refine wpAnyH_take (i := 27) (v := ?_) rfl (by as_aux_lemma => kernel_rfl) (by as_aux_lemma => kernel_rfl) (by as_aux_lemma => kernel_rfl) (fun _ _ _ h => h) (Or.inl ⟨by rfl, ?_⟩) (by assumption) ?_
  rotate_left
  · intro w hSw; (try dsimp only at hSw); go_simp; (try with_reducible rfl)
  simp only [Act.put, List.getElem_toArray, List.getElem_cons_zero, List.getElem_cons_succ, List.setIfInBounds_toArray, List.set_cons_zero, List.set_cons_succ]
  refine wpAnyH_take (i := 28) (v := ?_) rfl (by as_aux_lemma => kernel_rfl) (by as_aux_lemma => kernel_rfl) (by as_aux_lemma => kernel_rfl) (fun _ _ _ h => h) (Or.inl ⟨by rfl, ?_⟩) (by assumption) ?_
  rotate_left
  · intro w hSw; (try dsimp only at hSw); go_simp; (try with_reducible rfl)
  simp only [Act.put, List.getElem_toArray, List.getElem_cons_zero, List.getElem_cons_succ, List.setIfInBounds_toArray, List.set_cons_zero, List.set_cons_succ]
  refine wpAnyH_take (i := 29) (v := ?_) rfl (by as_aux_lemma => kernel_rfl) (by as_aux_lemma => kernel_rfl) (by as_aux_lemma => kernel_rfl) (fun _ _ _ h => h) (Or.inl ⟨by rfl, ?_⟩) (by assumption) ?_
  rotate_left
  · intro w hSw; (try dsimp only at hSw); go_simp; (try with_reducible rfl)
  simp only [Act.put, List.getElem_toArray, List.getElem_cons_zero, List.getElem_cons_succ, List.setIfInBounds_toArray, List.set_cons_zero, List.set_cons_succ]
  refine wpAnyH_take (i := 30) (v := ?_) rfl (by as_aux_lemma => kernel_rfl) (by as_aux_lemma => kernel_rfl) (by as_aux_lemma => kernel_rfl) (fun _ _ _ h => h) (Or.inl ⟨by rfl, ?_⟩) (by assumption) ?_
  rotate_left
  · intro w hSw; (try dsimp only at hSw); go_simp; (try with_reducible rfl)
  simp only [Act.put, List.getElem_toArray, List.getElem_cons_zero, List.getElem_cons_succ, List.setIfInBounds_toArray, List.set_cons_zero, List.set_cons_succ]
  refine wpAnyH_take (i := 31) (v := ?_) rfl (by as_aux_lemma => kernel_rfl) (by as_aux_lemma => kernel_rfl) (by as_aux_lemma => kernel_rfl) (fun _ _ _ h => h) (Or.inl ⟨by rfl, ?_⟩) (by assumption) ?_
  rotate_left
  · intro w hSw; (try dsimp only at hSw); go_simp; (try with_reducible rfl)
  simp only [Act.put, List.getElem_toArray, List.getElem_cons_zero, List.getElem_cons_succ, List.setIfInBounds_toArray, List.set_cons_zero, List.set_cons_succ]
  refine wpAnyH_ready (rs := [32]) (by as_aux_lemma => kernel_rfl) (by simp) ?_
  refine AllReadyH.cons rfl (fun K hK => ?_) AllReadyH.nil
  go_simp
  go_wp2_with fail
  refine (CGetRet.len (s := 4) (n := 0) (cgetD (HP18.out.below hbW) HCD.out (by omega) 4 (by omega)) rfl).mono ?_
  rintro e wn32 ⟨A4, c4, rfl, hb⟩
  try dsimp only
  have hbW' := hbW.trans (hb.mono hbW.size)
  clear hb hbW
  have hbW := hbW'
  clear hbW'
  refine hK.out _ _ ?_ (fun hHeld2 => ?_)
  · (try dsimp only); exact HSY.out _ hbW
  clear hK K hHeld
  have hHeld := hHeld2
  clear hHeld2
  refine wpAnyH_take (i := 33) (v := ?_) rfl (by as_aux_lemma => kernel_rfl) (by as_aux_lemma => kernel_rfl) (by as_aux_lemma => kernel_rfl) (fun _ _ _ h => h) (Or.inl ⟨by rfl, ?_⟩) (by assumption) ?_
  rotate_left
  · intro w hSw; (try dsimp only at hSw); go_simp; (try with_reducible rfl)
  simp only [Act.put, List.getElem_toArray, List.getElem_cons_zero, List.getElem_cons_succ, List.setIfInBounds_toArray, List.set_cons_zero, List.set_cons_succ]
  refine wpAnyH_take (i := 34) (v := ?_) rfl (by as_aux_lemma => kernel_rfl) (by as_aux_lemma => kernel_rfl) (by as_aux_lemma => kernel_rfl) (fun _ _ _ h => h) (Or.inl ⟨by rfl, ?_⟩) (by assumption) ?_
  rotate_left
  · intro w hSw; (try dsimp only at hSw); go_simp; (try with_reducible rfl)
  simp only [Act.put, List.getElem_toArray, List.getElem_cons_zero, List.getElem_cons_succ, List.setIfInBounds_toArray, List.set_cons_zero, List.set_cons_succ]
  refine wpAnyH_take (i := 35) (v := ?_) rfl (by as_aux_lemma => kernel_rfl) (by as_aux_lemma => kernel_rfl) (by as_aux_lemma => kernel_rfl) (fun _ _ _ h => h) (Or.inl ⟨by rfl, ?_⟩) (by assumption) ?_
  rotate_left
  · intro w hSw; (try dsimp only at hSw); go_simp; (try with_reducible rfl)
  simp only [Act.put, List.getElem_toArray, List.getElem_cons_zero, List.getElem_cons_succ, List.setIfInBounds_toArray, List.set_cons_zero, List.set_cons_succ]
  refine wpAnyH_take (i := 36) (v := ?_) rfl (by as_aux_lemma => kernel_rfl) (by as_aux_lemma => kernel_rfl) (by as_aux_lemma => kernel_rfl) (fun _ _ _ h => h) (Or.inl ⟨by rfl, ?_⟩) (by assumption) ?_
  rotate_left
  · intro w hSw; (try dsimp only at hSw); go_simp; (try with_reducible rfl)
  simp only [Act.put, List.getElem_toArray, List.getElem_cons_zero, List.getElem_cons_succ, List.setIfInBounds_toArray, List.set_cons_zero, List.set_cons_succ]
  refine wpAnyH_take (i := 37) (v := ?_) rfl (by as_aux_lemma => kernel_rfl) (by as_aux_lemma => kernel_rfl) (by as_aux_lemma => kernel_rfl) (fun _ _ _ h => h) (Or.inl ⟨by rfl, ?_⟩) (by assumption) ?_
  rotate_left
  · intro w hSw; (try dsimp only at hSw); go_simp; (try with_reducible rfl)
  simp only [Act.put, List.getElem_toArray, List.getElem_cons_zero, List.getElem_cons_succ, List.setIfInBounds_toArray, List.set_cons_zero, List.set_cons_succ]
  refine wpAnyH_ready (rs := [38]) (by as_aux_lemma => kernel_rfl) (by simp) ?_
  refine AllReadyH.cons rfl (fun K hK => ?_) AllReadyH.nil
  go_simp
  go_wp2_with fail
  refine (CGetRet.len (s := 3) (n := 0) (cgetD (HP18.out.below hbW) HCD.out (by omega) 3 (by omega)) rfl).mono ?_
  rintro e wn38 ⟨A3, c3, rfl, hb⟩
  try dsimp only
  have hbW' := hbW.trans (hb.mono hbW.size)
  clear hb hbW
  have hbW := hbW'
  clear hbW'
  refine hK.out _ _ ?_ (fun hHeld2 => ?_)
  · (try dsimp only); exact HSY.out _ hbW
  clear hK K hHeld
  have hHeld := hHeld2
  clear hHeld2
  refine wpAnyH_take (i := 39) (v := ?_) rfl (by as_aux_lemma => kernel_rfl) (by as_aux_lemma => kernel_rfl) (by as_aux_lemma => kernel_rfl) (fun _ _ _ h => h) (Or.inl ⟨by rfl, ?_⟩) (by assumption) ?_
  rotate_left
  · intro w hSw; (try dsimp only at hSw); go_simp; (try with_reducible rfl)
  simp only [Act.put, List.getElem_toArray, List.getElem_cons_zero, List.getElem_cons_succ, List.setIfInBounds_toArray, List.set_cons_zero, List.set_cons_succ]
  refine wpAnyH_take (i := 40) (v := ?_) rfl (by as_aux_lemma => kernel_rfl) (by as_aux_lemma => kernel_rfl) (by as_aux_lemma => kernel_rfl) (fun _ _ _ h => h) (Or.inl ⟨by rfl, ?_⟩) (by assumption) ?_
  rotate_left
  · intro w hSw; (try dsimp only at hSw); go_simp; (try with_reducible rfl)
  simp only [Act.put, List.getElem_toArray, List.getElem_cons_zero, List.getElem_cons_succ, List.setIfInBounds_toArray, List.set_cons_zero, List.set_cons_succ]
  refine wpAnyH_take (i := 41) (v := ?_) rfl (by as_aux_lemma => kernel_rfl) (by as_aux_lemma => kernel_rfl) (by as_aux_lemma => kernel_rfl) (fun _ _ _ h => h) (Or.inl ⟨by rfl, ?_⟩) (by assumption) ?_
  rotate_left
  · intro w hSw; (try dsimp only at hSw); go_simp; (try with_reducible rfl)
  simp only [Act.put, List.getElem_toArray, List.getElem_cons_zero, List.getElem_cons_succ, List.setIfInBounds_toArray, List.set_cons_zero, List.set_cons_succ]
  refine wpAnyH_take (i := 42) (v := ?_) rfl (by as_aux_lemma => kernel_rfl) (by as_aux_lemma => kernel_rfl) (by as_aux_lemma => kernel_rfl) (fun _ _ _ h => h) (Or.inl ⟨by rfl, ?_⟩) (by assumption) ?_
  rotate_left
  · intro w hSw; (try dsimp only at hSw); go_simp; (try with_reducible rfl)
  simp only [Act.put, List.getElem_toArray, List.getElem_cons_zero, List.getElem_cons_succ, List.setIfInBounds_toArray, List.set_cons_zero, List.set_cons_succ]
  refine wpAnyH_take (i := 43) (v := ?_) rfl (by as_aux_lemma => kernel_rfl) (by as_aux_lemma => kernel_rfl) (by as_aux_lemma => kernel_rfl) (fun _ _ _ h => h) (Or.inl ⟨by rfl, ?_⟩) (by assumption) ?_
  rotate_left
  · intro w hSw; (try dsimp only at hSw); go_simp; (try with_reducible rfl)
  simp only [Act.put, List.getElem_toArray, List.getElem_cons_zero, List.getElem_cons_succ, List.setIfInBounds_toArray, List.set_cons_zero, List.set_cons_succ]
  refine wpAnyH_ready (rs := [44]) (by as_aux_lemma => kernel_rfl) (by simp) ?_
  refine AllReadyH.cons rfl (fun K hK => ?_) AllReadyH.nil
  go_simp
  go_wp2_with fail
  refine (CGetRet.len (s := 39) (n := 1) (cgetD (HP18.out.below hbW) HCD.out (by omega) 39 (by omega)) rfl).mono ?_
  rintro e wn44 ⟨A39, c39, rfl, hb⟩
  try dsimp only
  have hbW' := hbW.trans (hb.mono hbW.size)
  clear hb hbW
  have hbW := hbW'
  clear hbW'
  refine hK.out _ _ ?_ (fun hHeld2 => ?_)
  · (try dsimp only); exact HSY.out _ hbW
  clear hK K hHeld
  have hHeld := hHeld2
  clear hHeld2
  refine wpAnyH_take (i := 45) (v := ?_) rfl (by as_aux_lemma => kernel_rfl) (by as_aux_lemma => kernel_rfl) (by as_aux_lemma => kernel_rfl) (fun _ _ _ h => h) (Or.inl ⟨by rfl, ?_⟩) (by assumption) ?_
  rotate_left
  · intro w hSw; (try dsimp only at hSw); go_simp; (try with_reducible rfl)
  simp only [Act.put, List.getElem_toArray, List.getElem_cons_zero, List.getElem_cons_succ, List.setIfInBounds_toArray, List.set_cons_zero, List.set_cons_succ]
  refine wpAnyH_take (i := 46) (v := ?_) rfl (by as_aux_lemma => kernel_rfl) (by as_aux_lemma => kernel_rfl) (by as_aux_lemma => kernel_rfl) (fun _ _ _ h => h) (Or.inl ⟨by rfl, ?_⟩) (by assumption) ?_
  rotate_left
  · intro w hSw; (try dsimp only at hSw); go_simp; (try with_reducible rfl)
  simp only [Act.put, List.getElem_toArray, List.getElem_cons_zero, List.getElem_cons_succ, List.setIfInBounds_toArray, List.set_cons_zero, List.set_cons_succ]
  refine wpAnyH_take (i := 47) (v := ?_) rfl (by as_aux_lemma => kernel_rfl) (by as_aux_lemma => kernel_rfl) (by as_aux_lemma => kernel_rfl) (fun _ _ _ h => h) (Or.inl ⟨by rfl, ?_⟩) (by assumption) ?_
  rotate_left
  · intro w hSw; (try dsimp only at hSw); go_simp; (try with_reducible rfl)
  simp only [Act.put, List.getElem_toArray, List.getElem_cons_zero, List.getElem_cons_succ, List.setIfInBounds_toArray, List.set_cons_zero, List.set_cons_succ]
  refine wpAnyH_take (i := 48) (v := ?_) rfl (by as_aux_lemma => kernel_rfl) (by as_aux_lemma => kernel_rfl) (by as_aux_lemma => kernel_rfl) (fun _ _ _ h => h) (Or.inl ⟨by rfl, ?_⟩) (by assumption) ?_
  rotate_left
  · intro w hSw; (try dsimp only at hSw); go_simp; (try with_reducible rfl)
  simp only [Act.put, List.getElem_toArray, List.getElem_cons_zero, List.getElem_cons_succ, List.setIfInBounds_toArray, List.set_cons_zero, List.set_cons_succ]
  refine wpAnyH_ready (rs := [49]) (by as_aux_lemma => kernel_rfl) (by simp) ?_
  refine AllReadyH.cons rfl (fun K hK => ?_) AllReadyH.nil
  go_simp
  go_wp2_with fail
  refine (cget_nil 3 _).mono ?_
  rintro e wn ⟨rfl, hw⟩
  obtain rfl := hw.symm
  try dsimp only
  refine hK.out _ _ ?_ (fun hHeld2 => ?_)
  · (try dsimp only); exact HSY.out _ hbW
  clear hK K hHeld
  have hHeld := hHeld2
  clear hHeld2
  refine wpAnyH_take (i := 50) (v := ?_) rfl (by as_aux_lemma => kernel_rfl) (by as_aux_lemma => kernel_rfl) (by as_aux_lemma => kernel_rfl) (fun _ _ _ h => h) (Or.inl ⟨by rfl, ?_⟩) (by assumption) ?_
  rotate_left
  · intro w hSw; (try dsimp only at hSw); go_simp; (try with_reducible rfl)
  simp only [Act.put, List.getElem_toArray, List.getElem_cons_zero, List.getElem_cons_succ, List.setIfInBounds_toArray, List.set_cons_zero, List.set_cons_succ]
  refine wpAnyH_take (i := 51) (v := ?_) rfl (by as_aux_lemma => kernel_rfl) (by as_aux_lemma => kernel_rfl) (by as_aux_lemma => kernel_rfl) (fun _ _ _ h => h) (Or.inl ⟨by rfl, ?_⟩) (by assumption) ?_
  rotate_left
  · intro w hSw; (try dsimp only at hSw); go_simp; (try with_reducible rfl)
  simp only [Act.put, List.getElem_toArray, List.getElem_cons_zero, List.getElem_cons_succ, List.setIfInBounds_toArray, List.set_cons_zero, List.set_cons_succ]
  refine wpAnyH_take (i := 52) (v := ?_) rfl (by as_aux_lemma => kernel_rfl) (by as_aux_lemma => kernel_rfl) (by as_aux_lemma => kernel_rfl) (fun _ _ _ h => h) (Or.inl ⟨by rfl, ?_⟩) (by assumption) ?_
  rotate_left
  · intro w hSw; (try dsimp only at hSw); go_simp; (try with_reducible rfl)
  simp only [Act.put, List.getElem_toArray, List.getElem_cons_zero, List.getElem_cons_succ, List.setIfInBounds_toArray, List.set_cons_zero, List.set_cons_succ]
  refine wpAnyH_take (i := 53) (v := ?_) rfl (by as_aux_lemma => kernel_rfl) (by as_aux_lemma => kernel_rfl) (by as_aux_lemma => kernel_rfl) (fun _ _ _ h => h) (Or.inl ⟨by rfl, ?_⟩) (by assumption) ?_
  rotate_left
  · intro w hSw; (try dsimp only at hSw); go_simp; (try with_reducible rfl)
  simp only [Act.put, List.getElem_toArray, List.getElem_cons_zero, List.getElem_cons_succ, List.setIfInBounds_toArray, List.set_cons_zero, List.set_cons_succ]
  refine wpAnyH_take (i := 54) (v := ?_) rfl (by as_aux_lemma => kernel_rfl) (by as_aux_lemma => kernel_rfl) (by as_aux_lemma => kernel_rfl) (fun _ _ _ h => h) (Or.inl ⟨by rfl, ?_⟩) (by assumption) ?_
  rotate_left
  · intro w hSw; (try dsimp only at hSw); go_simp; (try with_reducible rfl)
  simp only [Act.put, List.getElem_toArray, List.getElem_cons_zero, List.getElem_cons_succ, List.setIfInBounds_toArray, List.set_cons_zero, List.set_cons_succ]
  refine wpAnyH_ready (rs := [55]) (by as_aux_lemma => kernel_rfl) (by simp) ?_
  refine AllReadyH.cons rfl (fun K hK => ?_) AllReadyH.nil
  go_simp
  go_wp2_with fail
  refine (cget_out (HP18.out.below hbW) (-1) (by omega) (by omega) (fun i h1 h2 => by omega)).mono ?_
  rintro e wn55 ⟨rfl, hb⟩
  try dsimp only
  have hbW' := hbW.trans (hb.mono hbW.size)
  clear hb hbW
  have hbW := hbW'
  clear hbW'
  refine hK.out _ _ ?_ (fun hHeld2 => ?_)
  · (try dsimp only); exact HSY.out _ hbW
  clear hK K hHeld
  have hHeld := hHeld2
  clear hHeld2
  refine wpAnyH_take (i := 56) (v := ?_) rfl (by as_aux_lemma => kernel_rfl) (by as_aux_lemma => kernel_rfl) (by as_aux_lemma => kernel_rfl) (fun _ _ _ h => h) (Or.inl ⟨by rfl, ?_⟩) (by assumption) ?_
  rotate_left
  · intro w hSw; (try dsimp only at hSw); go_simp; (try with_reducible rfl)
  simp only [Act.put, List.getElem_toArray, List.getElem_cons_zero, List.getElem_cons_succ, List.setIfInBounds_toArray, List.set_cons_zero, List.set_cons_succ]
  refine wpAnyH_take (i := 57) (v := ?_) rfl (by as_aux_lemma => kernel_rfl) (by as_aux_lemma => kernel_rfl) (by as_aux_lemma => kernel_rfl) (fun _ _ _ h => h) (Or.inl ⟨by rfl, ?_⟩) (by assumption) ?_
  rotate_left
  · intro w hSw; (try dsimp only at hSw); go_simp; (try with_reducible rfl)
  simp only [Act.put, List.getElem_toArray, List.getElem_cons_zero, List.getElem_cons_succ, List.setIfInBounds_toArray, List.set_cons_zero, List.set_cons_succ]
  refine wpAnyH_take (i := 58) (v := ?_) rfl (by as_aux_lemma => kernel_rfl) (by as_aux_lemma => kernel_rfl) (by as_aux_lemma => kernel_rfl) (fun _ _ _ h => h) (Or.inl ⟨by rfl, ?_⟩) (by assumption) ?_
  rotate_left
  · intro w hSw; (try dsimp only at hSw); go_simp; (try with_reducible rfl)
  simp only [Act.put, List.getElem_toArray, List.getElem_cons_zero, List.getElem_cons_succ, List.setIfInBounds_toArray, List.set_cons_zero, List.set_cons_succ]
  refine wpAnyH_take (i := 59) (v := ?_) rfl (by as_aux_lemma => kernel_rfl) (by as_aux_lemma => kernel_rfl) (by as_aux_lemma => kernel_rfl) (fun _ _ _ h => h) (Or.inl ⟨by rfl, ?_⟩) (by assumption) ?_
  rotate_left
  · intro w hSw; (try dsimp only at hSw); go_simp; (try with_reducible rfl)
  simp only [Act.put, List.getElem_toArray, List.getElem_cons_zero, List.getElem_cons_succ, List.setIfInBounds_toArray, List.set_cons_zero, List.set_cons_succ]
  refine wpAnyH_ready (rs := [60]) (by as_aux_lemma => kernel_rfl) (by simp) ?_
  refine AllReadyH.cons rfl (fun K hK => ?_) AllReadyH.nil
  go_simp
  go_wp2_with fail
  refine (cplace 3 7 _ (by omega) (by omega) (by omega) (by omega)).mono ?_
  rintro e wn ⟨rfl, hw⟩
  obtain rfl := hw.symm
  try dsimp only
  refine hK.out _ _ ?_ (fun hHeld2 => ?_)
  · (try dsimp only); exact HSY.out _ hbW
  clear hK K hHeld
  have hHeld := hHeld2
  clear hHeld2
  refine wpAnyH_take (i := 61) (v := ?_) rfl (by as_aux_lemma => kernel_rfl) (by as_aux_lemma => kernel_rfl) (by as_aux_lemma => kernel_rfl) (fun _ _ _ h => h) (Or.inl ⟨by rfl, ?_⟩) (by assumption) ?_
  rotate_left
  · intro w hSw; (try dsimp only at hSw); go_simp; (try with_reducible rfl)
  simp only [Act.put, List.getElem_toArray, List.getElem_cons_zero, List.getElem_cons_succ, List.setIfInBounds_toArray, List.set_cons_zero, List.set_cons_succ]
  refine wpAnyH_take (i := 62) (v := ?_) rfl (by as_aux_lemma => kernel_rfl) (by as_aux_lemma => kernel_rfl) (by as_aux_lemma => kernel_rfl) (fun _ _ _ h => h) (Or.inl ⟨by rfl, ?_⟩) (by assumption) ?_
  rotate_left
  · intro w hSw; (try dsimp only at hSw); go_simp; (try with_reducible rfl)
  simp only [Act.put, List.getElem_toArray, List.getElem_cons_zero, List.getElem_cons_succ, List.setIfInBounds_toArray, List.set_cons_zero, List.set_cons_succ]
  refine wpAnyH_take (i := 63) (v := ?_) rfl (by as_aux_lemma => kernel_rfl) (by as_aux_lemma => kernel_rfl) (by as_aux_lemma => kernel_rfl) (fun _ _ _ h => h) (Or.inl ⟨by rfl, ?_⟩) (by assumption) ?_
  rotate_left
  · intro w hSw; (try dsimp only at hSw); go_simp; (try with_reducible rfl)
  simp only [Act.put, List.getElem_toArray, List.getElem_cons_zero, List.getElem_cons_succ, List.setIfInBounds_toArray, List.set_cons_zero, List.set_cons_succ]
  refine wpAnyH_ready (rs := [64]) (by as_aux_lemma => kernel_rfl) (by simp) ?_
  refine AllReadyH.cons rfl (fun K hK => ?_) AllReadyH.nil
  go_simp
  go_wp2_with fail
  refine (cplace 3 8 _ (by omega) (by omega) (by omega) (by omega)).mono ?_
  rintro e wn ⟨rfl, hw⟩
  obtain rfl := hw.symm
  try dsimp only
  refine hK.out _ _ ?_ (fun hHeld2 => ?_)
  · (try dsimp only); exact HSY.out _ hbW
  clear hK K hHeld
  have hHeld := hHeld2
  clear hHeld2
  refine wpAnyH_take (i := 65) (v := ?_) rfl (by as_aux_lemma => kernel_rfl) (by as_aux_lemma => kernel_rfl) (by as_aux_lemma => kernel_rfl) (fun _ _ _ h => h) (Or.inl ⟨by rfl, ?_⟩) (by assumption) ?_
  rotate_left
  · intro w hSw; (try dsimp only at hSw); go_simp; (try with_reducible rfl)
  simp only [Act.put, List.getElem_toArray, List.getElem_cons_zero, List.getElem_cons_succ, List.setIfInBounds_toArray, List.set_cons_zero, List.set_cons_succ]
  refine wpAnyH_take (i := 66) (v := ?_) rfl (by as_aux_lemma => kernel_rfl) (by as_aux_lemma => kernel_rfl) (by as_aux_lemma => kernel_rfl) (fun _ _ _ h => h) (Or.inl ⟨by rfl, ?_⟩) (by assumption) ?_
  rotate_left
  · intro w hSw; (try dsimp only at hSw); go_simp; (try with_reducible rfl)
  simp only [Act.put, List.getElem_toArray, List.getElem_cons_zero, List.getElem_cons_succ, List.setIfInBounds_toArray, List.set_cons_zero, List.set_cons_succ]
  refine wpAnyH_take (i := 67) (v := ?_) rfl (by as_aux_lemma => kernel_rfl) (by as_aux_lemma => kernel_rfl) (by as_aux_lemma => kernel_rfl) (fun _ _ _ h => h) (Or.inl ⟨by rfl, ?_⟩) (by assumption) ?_
  rotate_left
  · intro w hSw; (try dsimp only at hSw); go_simp; (try with_reducible rfl)
  simp only [Act.put, List.getElem_toArray, List.getElem_cons_zero, List.getElem_cons_succ, List.setIfInBounds_toArray, List.set_cons_zero, List.set_cons_succ]
  refine wpAnyH_take (i := 68) (v := ?_) rfl (by as_aux_lemma => kernel_rfl) (by as_aux_lemma => kernel_rfl) (by as_aux_lemma => kernel_rfl) (fun _ _ _ h => h) (Or.inl ⟨by rfl, ?_⟩) (by assumption) ?_
  rotate_left
  · intro w hSw; (try dsimp only at hSw); go_simp; (try with_reducible rfl)
  simp only [Act.put, List.getElem_toArray, List.getElem_cons_zero, List.getElem_cons_succ, List.setIfInBounds_toArray, List.set_cons_zero, List.set_cons_succ]
  refine wpAnyH_ready (rs := [69]) (by as_aux_lemma => kernel_rfl) (by simp) ?_
  refine AllReadyH.cons rfl (fun K hK => ?_) AllReadyH.nil
  go_simp
  go_wp2_with fail
  refine (HR0.out _).mono ?_
  rintro e wn69 ⟨rfl, hb⟩
  try dsimp only
  have hbW' := hbW.trans (hb.mono hbW.size)
  clear hb hbW
  have hbW := hbW'
  clear hbW'
  refine hK.out _ _ ?_ (fun hHeld2 => ?_)
  · (try dsimp only); exact HSY.out _ hbW
  clear hK K hHeld
  have hHeld := hHeld2
  clear hHeld2
  refine wpAnyH_take (i := 70) (v := ?_) rfl (by as_aux_lemma => kernel_rfl) (by as_aux_lemma => kernel_rfl) (by as_aux_lemma => kernel_rfl) (fun _ _ _ h => h) (Or.inl ⟨by rfl, ?_⟩) (by assumption) ?_
  rotate_left
  · intro w hSw; (try dsimp only at hSw); go_simp; (try with_reducible rfl)
  simp only [Act.put, List.getElem_toArray, List.getElem_cons_zero, List.getElem_cons_succ, List.setIfInBounds_toArray, List.set_cons_zero, List.set_cons_succ]
  refine wpAnyH_take (i := 71) (v := ?_) rfl (by as_aux_lemma => kernel_rfl) (by as_aux_lemma => kernel_rfl) (by as_aux_lemma => kernel_rfl) (fun _ _ _ h => h) (Or.inl ⟨by rfl, ?_⟩) (by assumption) ?_
  rotate_left
  · intro w hSw; (try dsimp only at hSw); go_simp; (try with_reducible rfl)
  simp only [Act.put, List.getElem_toArray, List.getElem_cons_zero, List.getElem_cons_succ, List.setIfInBounds_toArray, List.set_cons_zero, List.set_cons_succ]
  refine wpAnyH_take (i := 72) (v := ?_) rfl (by as_aux_lemma => kernel_rfl) (by as_aux_lemma => kernel_rfl) (by as_aux_lemma => kernel_rfl) (fun _ _ _ h => h) (Or.inl ⟨by rfl, ?_⟩) (by assumption) ?_
  rotate_left
  · intro w hSw; (try dsimp only at hSw); go_simp; (try with_reducible rfl)
  simp only [Act.put, List.getElem_toArray, List.getElem_cons_zero, List.getElem_cons_succ, List.setIfInBounds_toArray, List.set_cons_zero, List.set_cons_succ]
  refine wpAnyH_ready (rs := [73]) (by as_aux_lemma => kernel_rfl) (by simp) ?_
  refine AllReadyH.cons rfl (fun K hK => ?_) AllReadyH.nil
  go_simp
  go_wp2_with fail
  refine (HO5.out _).mono ?_
  rintro e wn73 ⟨v26, rfl, hv, hb⟩
  try dsimp only
  have hbW' := hbW.trans (hb.mono hbW.size)
  have HV26 := Lib.hid hv
  clear hv
  clear hb hbW
  have hbW := hbW'
  clear hbW'
  refine hK.out _ _ ?_ (fun hHeld2 => ?_)
  · (try dsimp only); exact HSY.out _ hbW
  clear hK K hHeld
  have hHeld := hHeld2
  clear hHeld2
  refine wpAnyH_ready (rs := [74]) (by as_aux_lemma => kernel_rfl) (by simp) ?_
  refine AllReadyH.cons rfl (fun K hK => ?_) AllReadyH.nil
  go_simp
  go_wp2_with fail
  refine (HO6.out _).mono ?_
  rintro e wn74 ⟨v27, rfl, hv, hb⟩
  try dsimp only
  have hbW' := hbW.trans (hb.mono hbW.size)
  have HV27 := Lib.hid hv
  have HW27 := Lib.hid (HV26.out.below hb)
  clear hv
  clear hb hbW
  have hbW := hbW'
  clear hbW'
  refine hK.out _ _ ?_ (fun hHeld2 => ?_)
  · (try dsimp only); exact HSY.out _ hbW
  clear hK K hHeld
  have hHeld := hHeld2
  clear hHeld2
  refine wpAnyH_ready (rs := [75]) (by as_aux_lemma => kernel_rfl) (by simp) ?_
  refine AllReadyH.cons rfl (fun K hK => ?_) AllReadyH.nil
  go_simp
  go_wp2_with fail
  refine (csameV HW27.out HV27.out (fun j _ => bytesF_lt _ j) (fun j _ => bytesF_lt _ j) false ⟨fun h => (by cases h), fun h => absurd (h.2.2.2 0 (by omega)) bytes_12⟩).mono ?_
  rintro e wn75 ⟨rfl, hb⟩
  try dsimp only
  have hbW' := hbW.trans (hb.mono hbW.size)
  clear hb hbW
  have hbW := hbW'
  clear hbW'
  refine hK.out _ _ ?_ (fun hHeld2 => ?_)
  · (try dsimp only); exact HSY.out _ hbW
  clear hK K hHeld
  have hHeld := hHeld2
  clear hHeld2
  refine wpAnyH_take (i := 76) (v := ?_) rfl (by as_aux_lemma => kernel_rfl) (by as_aux_lemma => kernel_rfl) (by as_aux_lemma => kernel_rfl) (fun _ _ _ h => h) (Or.inl ⟨by rfl, ?_⟩) (by assumption) ?_
  rotate_left
  · intro w hSw; (try dsimp only at hSw); go_simp; (try with_reducible rfl)
  simp only [Act.put, List.getElem_toArray, List.getElem_cons_zero, List.getElem_cons_succ, List.setIfInBounds_toArray, List.set_cons_zero, List.set_cons_succ]
  refine wpAnyH_take (i := 77) (v := ?_) rfl (by as_aux_lemma => kernel_rfl) (by as_aux_lemma => kernel_rfl) (by as_aux_lemma => kernel_rfl) (fun _ _ _ h => h) (Or.inl ⟨by rfl, ?_⟩) (by assumption) ?_
  rotate_left
  · intro w hSw; (try dsimp only at hSw); go_simp; (try with_reducible rfl)
  simp only [Act.put, List.getElem_toArray, List.getElem_cons_zero, List.getElem_cons_succ, List.setIfInBounds_toArray, List.set_cons_zero, List.set_cons_succ]
  refine wpAnyH_take (i := 78) (v := ?_) rfl (by as_aux_lemma => kernel_rfl) (by as_aux_lemma => kernel_rfl) (by as_aux_lemma => kernel_rfl) (fun _ _ _ h => h) (Or.inl ⟨by rfl, ?_⟩) (by assumption) ?_
  rotate_left
  · intro w hSw; (try dsimp only at hSw); go_simp; (try with_reducible rfl)
  simp only [Act.put, List.getElem_toArray, List.getElem_cons_zero, List.getElem_cons_succ, List.setIfInBounds_toArray, List.set_cons_zero]
  refine wpAnyH_done (by as_aux_lemma => kernel_rfl) ?_ _
  go_wp2_with fail
  go_ret
  exact ⟨rfl, HB18.out.trans (hbW.mono HZ18.out)⟩
end Go.Proofs.Yticaoknplpgjlaa
