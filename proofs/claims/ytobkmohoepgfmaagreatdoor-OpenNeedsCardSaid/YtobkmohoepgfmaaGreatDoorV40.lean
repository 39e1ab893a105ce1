import Derived.Test.YtobkmohoepgfmaaGreatDoorV39
namespace Go.Proofs.YtobkmohoepgfmaaGreatDoor
open Go.RowKit Go.Sort
set_option maxRecDepth 100000
set_option maxHeartbeats 20000000

theorem infoFnd : (Tryz.prog.info? 65).map (fun i => (i.zero, i.size, i.bytes)) = some (some (.agg #[.slice none 0 0, .slice none 0 0]), 2, 48) := by kernel_rfl
theorem makeFnd : ∃ zs : Array Value, (∀ W : World, Sem.run Tryz.prog (Instr.makeSlice 57 (.int .i64 40) (.int .i64 40)) W = .ok (.slice (some ⟨W.heap.size, 0, none⟩) 40 40) (W.alloc (.cells zs 65))) ∧
  ∀ W : World, AS W.heap.size (W.alloc (.cells zs 65)) W.heap.size (fun _ => .slice none 0 0) (fun _ => .slice none 0 0) (intsF []) := by
 obtain ⟨i0, hi0, hz0, hz1, hz2⟩ := info_parts infoFnd
 refine ⟨madeCells (Value.agg #[.slice none 0 0, .slice none 0 0]).cells (40 * i0.size), fun W => ?_, fun W => ⟨⟨_, alloc_block W _, ?_, fun j hj => ?_⟩, fun k _ => LT.nil, fun k k' q _ _ _ hq => by cases hq⟩⟩
 ·have h := run_make W 57 65 i0 _ Tryz.underlying57 hi0 hz0 .i64 .i64 40 40 (by omega) (by omega) (by rw [hz2]; omega) (by omega)
  simpa using h
 ·rw [size_madeCells, hz1]; omega
 ·rw [hz1]
  have hf : fndF (fun _ => Value.slice none 0 0) (fun _ => .slice none 0 0) j = .slice none 0 0 := by unfold fndF; split <;> rfl
  rw [hf]
  have hj2 : j < 40 * 2 := by omega
  rcases (show j % 2 = 0 ∨ j % 2 = 1 by omega) with e | e <;> simp [madeCells, Value.cells, hj2, e]
def AskRet (w0 v : World) (g : Nat) (nd : ND) (s : Wp) (en : Ending) (w' : World) : Prop :=
 ∃ r u, en = .returned (.tuple #[r, u]) ∧ KeepW v w' ∧
  ((∃ s1 z L, askI s 8 = (s1, some z, L) ∧ WL w0 w' g nd s1 ∧ r = .slice none 0 0 ∧ ∃ b, u = onv b ∧ OnE w' b (z.1 : Int) (z.2 : Int)) ∨
   (∃ s1 L s2 z F, askI s 8 = (s1, none, L) ∧ gatS s1 40 = (s2, some z, F) ∧ WL w0 w' g nd s2 ∧ r = .slice none 0 0 ∧ ∃ b, u = onv b ∧ OnE w' b (z.1 : Int) (z.2 : Int)) ∨
   (∃ s1 L s2 F sb V U, askI s 8 = (s1, none, L) ∧ gatS s1 40 = (s2, none, F) ∧ WL w0 w' g nd s2 ∧ r = .slice (some ⟨sb, 0, none⟩) 40 40 ∧ u = .nilIface ∧ AS v.heap.size w' sb V U (intsF L) ∧ v.heap.size ≤ sb ∧ ∀ k, k < 40 → PL w' v.heap.size (U k) (F k)))
section
variable {w0 v : World} {g : Nat} {nd : ND} {s : Wp}
theorem o_ask (h : WL w0 v g nd s) {m : Nat} (hf : s.Fit m) (hm : m ≤ 999990000) :
  Calls Tryz.prog 25 #[.pointer (some ⟨g, 0, none⟩)] v (AskRet w0 v g nd s) := by
 have q1 := we_neqNil
 have q2 := we_neqNilNil
 have HF := Lib.hid hf
 have HH := Lib.hid h
 have HZB : Hid (nd.B ≤ v.heap.size ∧ w0.heap.size ≤ v.heap.size) := Lib.hid ⟨h.zB, h.blw.size⟩
 clear hf h
 obtain ⟨zs, z1, z2⟩ := makeFnd
 have HZS := Lib.hid z2
 obtain ⟨sb, hsb⟩ : ∃ sb, v.heap.size = sb := ⟨_, rfl⟩
 obtain ⟨w1, hw1⟩ : ∃ w1, v.alloc (.cells zs 65) = w1 := ⟨_, rfl⟩
 have B1 : Below v.heap.size v w1 := by rw [← hw1]; exact (Below.refl _ _).alloc (Nat.le_refl _) _
 have HS1 : Hid (WL w0 w1 g nd s ∧ KeepW v w1 ∧ AS sb w1 sb (fun _ => .slice none 0 0) (fun _ => .slice none 0 0) (intsF [])) := Lib.hid ⟨HH.out.below B1, KeepW.of B1, by rw [← hw1, ← hsb]; exact z2 v⟩
 have HV1 := Lib.hid hw1
 have HSB := Lib.hid hsb
 clear z2 hw1 hsb B1 HZS HH
 go_enter Tryz.func25, Tryz.ntmps25
 go_upto_region 2 with fail
 rw [HSB.out, HV1.out]
 clear z1 HV1
 go_wp2_with fail
 go_loopg [5, 15] 8 (fun q s5 s15 wr => ∃ (i : Nat) (sw : Wp) (L : List (Nat × It)) (V : Nat → Value), s15 = .int .i64 (i : Int) ∧ i ≤ 8 ∧ q = 8 - i ∧ Hid (askI s i = (sw, none, L)) ∧ Hid (WL w0 wr g nd sw ∧ KeepW v wr ∧ AS sb wr sb V (fun _ => .slice none 0 0) (intsF L)))
 case atStart => exact ⟨0, s, [], _, rfl, by omega, rfl, Lib.hid rfl, HS1⟩
 case round =>
  obtain ⟨i, sw, L, V, rfl, hi, rfl, HA, HS⟩ := hrel
  obtain ⟨wo, rfl⟩ : ∃ wo : World, wo = wr := ⟨wr, rfl⟩
  clear HS1
  by_cases hlt : i < 8
  ·have t1 : (i : Int) < 8 := by omega
   have HFS : Hid (sw.Fit (m + 3 * i)) := Lib.hid (by have := askI_fit HF.out i hi; rw [HA.out] at this; exact this)
   have HLL : Hid (L.length ≤ 128) := Lib.hid (by have := askI_few s i; rw [HA.out] at this; dsimp only at this; omega)
   have HC := Lib.hid (wl_call HS.out.1 HFS.out.1 HFS.out.2 (by omega) hlt qIn none 0 DatN.none_ (fun _ hj => absurd hj (by show ¬ _ < 0; omega)) (by unfold OkQ qIn; dsimp only; omega))
   unfold qIn at HC
   obtain ⟨s1, a, hc⟩ : ∃ s1 a, sw.call i qIn = (s1, a) := ⟨_, _, rfl⟩
   have hc' : sw.call i ⟨5, 0, 0, 0, 0, fun _ => 0⟩ = (s1, a) := hc
   rw [hc'] at HC
   have HCC := Lib.hid hc
   clear hc hc'
   go_wp2_with fail
   refine HC.out.mono ?_
   intro en w1 hr
   obtain ⟨P, hP⟩ : ∃ P, w1.heap.size = P := ⟨_, rfl⟩
   have HP := Lib.hid hP
   cases a with
   | err c =>
    obtain ⟨b, rfl, W1, K1, _, ho⟩ := hr.err rfl
    try dsimp only
    have B2 : Below w1.heap.size w1 (w1.alloc (.cells #[.int .i64 0, .int .i64 0, .slice none 0 0, .slice none 0 0] 103)) := (Below.refl _ _).alloc (Nat.le_refl _) _
    have HZ := Lib.hid (And.intro (W1.below B2) (And.intro ((HS.out.2.1.trans K1).trans (KeepW.of B2)) ((KeepW.of B2).on ho)))
    have HG : Hid (askI s 8 = (s1, some (i, c), L)) := Lib.hid (by
     have h7 := askI_err HA.out HCC.out
     have h8 := askI_stay h7 (8 - (i + 1))
     rw [show i + 1 + (8 - (i + 1)) = 8 by omega] at h8
     exact h8)
    clear hr W1 K1 ho B2 HC
    go_wp2_with fail
    go_ret2
    exact ⟨_, _, rfl, HZ.out.2.1, Or.inl ⟨s1, (i, c), L, HG.out, HZ.out.1, rfl, b, rfl, HZ.out.2.2⟩⟩
   | ok y =>
    obtain ⟨r, u, rfl, W1, K1, ⟨_, h, _⟩ | ⟨y', hy, rfl, A1, c1, A2, c2, rfl, hp, hi2⟩⟩ := hr
    ·cases h
    ·cases hy
     try dsimp only
     obtain ⟨k0, hk0⟩ : ∃ k0 : Nat, y.2.code = k0 := ⟨_, rfl⟩
     obtain ⟨k1, hk1⟩ : ∃ k1 : Nat, y.1.boot = k1 := ⟨_, rfl⟩
     obtain ⟨l1, hl1⟩ : ∃ l1, y.2.ps.length = l1 := ⟨_, rfl⟩
     obtain ⟨T, hT⟩ : ∃ T, y.2.its = T := ⟨_, rfl⟩
     obtain ⟨l2, hl2⟩ : ∃ l2, T.length = l2 := ⟨_, rfl⟩
     rw [hT] at hi2
     have HL2 := Lib.hid hl2
     rw [hl1, hT, hl2, hk0, hk1]
     rw [hl2] at hi2
     have hlen : l2 ≤ 16 := by rw [← hl2, ← hT]; exact Wp.its_le HCC.out
     have HOK : Hid (∀ x ∈ T, x.Ok) := Lib.hid (by rw [← hT]; exact Wp.its_ok HFS.out.1 hlt HCC.out)
     have HGN : Hid (askI s (i + 1) = (s1, none, L ++ T.map (fun x => (i, x)))) := Lib.hid (by rw [askI_ok HA.out HCC.out, hT])
     obtain ⟨w2, hw2, B2, p2⟩ := rep_laid (k0 := k0) (k1 := k1) (A1 := .slice A1 l1 c1) (A2 := .slice A2 l2 c2) hP
     have u3 := p2.c3
     have HV2 := Lib.hid hw2
     have HS2 : Hid (WL w0 w2 g nd s1 ∧ KeepW v w2 ∧ AS sb w2 sb V (fun _ => .slice none 0 0) (intsF L) ∧ IL w2 wo.heap.size (.slice A2 l2 c2) T) := Lib.hid ⟨W1.below B2, (HS.out.2.1.trans K1).trans (KeepW.of B2), (HS.out.2.2.keepW K1).below B2, hi2.pl.below B2⟩
     clear hk0 hk1 hl1 hT hl2 hp hi2 W1 K1 hP hw2 B2 p2 HC HA HS
     go_upto_region 8 with fail
     rw [HV2.out, HP.out]
     clear HV2 HP
     go_wp2_with fail
     go_loopg [31] l2 (fun q s31 wr => ∃ (j : Nat) (V : Nat → Value), s31 = .int .i64 (j : Int) ∧ j ≤ l2 ∧ q = l2 - j ∧ Hid (WL w0 wr g nd s1 ∧ KeepW v wr ∧ AS sb wr sb V (fun _ => .slice none 0 0) (intsF (L ++ (T.take j).map (fun x => (i, x)))) ∧ IL wr wo.heap.size (.slice A2 l2 c2) T))
     case atStart => exact ⟨0, V, rfl, by omega, rfl, by simpa using HS2⟩
     case round =>
      obtain ⟨j, V', rfl, hj, rfl, HS⟩ := hrel
      clear HS2 u3
      obtain ⟨wa, rfl⟩ : ∃ wa : World, wa = wr := ⟨wr, rfl⟩
      by_cases hjt : j < l2
      ·have t9 : (j : Int) < (l2 : Int) := by omega
       obtain ⟨z, hz⟩ : ∃ z, T[j]? = some z := ⟨_, List.getElem?_eq_getElem (by rw [HL2.out]; exact hjt)⟩
       obtain ⟨b, c', Ay, cy, hv, _, hbl, z0, z1, z2, hdz⟩ := HS.out.2.2.2.at hz
       rw [HL2.out] at hv
       cases hv
       have hk : z.s < 40 := (HOK.out z (List.mem_of_getElem? hz)).1
       have HFX : Hid (L ++ (T.take (j + 1)).map (fun x => (i, x)) = (L ++ (T.take j).map (fun x => (i, x))) ++ [(i, z)]) := Lib.hid (by rw [List.take_add_one, hz, List.map_append, List.append_assoc]; rfl)
       have HFN : Hid ((intsF (L ++ (T.take j).map (fun x => (i, x))) z.s).length ≤ 1000000) := Lib.hid (by
        unfold intsF
        have h1 := List.length_filter_le (fun x : Nat × It => decide (x.2.s = z.s)) (L ++ (T.take j).map (fun x => (i, x)))
        rw [List.length_append, List.length_map, List.length_take] at h1
        have := HLL.out
        omega)
       obtain ⟨M, hM⟩ : ∃ M, L ++ (T.take j).map (fun x => (i, x)) = M := ⟨_, rfl⟩
       rw [hM] at HS HFN HFX
       obtain ⟨Q, hQ⟩ : ∃ Q, wa.heap.size = Q := ⟨_, rfl⟩
       obtain ⟨w4, hw4⟩ : ∃ w4, wa.alloc (.cells #[.int .i64 (z.s : Int), .int .i64 (z.g : Int), .slice Ay 128 cy] 109) = w4 := ⟨_, rfl⟩
       have B4 : Below wa.heap.size wa w4 := by rw [← hw4]; exact (Below.refl _ _).alloc (Nat.le_refl _) _
       have hb4 : w4.heap[Q]? = some (.cells #[.int .i64 (z.s : Int), .int .i64 (z.g : Int), .slice Ay 128 cy] 109 (0, 0)) := by rw [← hw4, ← hQ]; exact alloc_block _ _
       have y0 : w4.cell? ⟨Q, 0, none⟩ = some (.int .i64 (z.s : Int)) := cell_of_block hb4
       have y1 : w4.cell? ⟨Q, 1, none⟩ = some (.int .i64 (z.g : Int)) := cell_of_block hb4
       have y2 : w4.cell? ⟨Q, 2, none⟩ = some (.slice Ay 128 cy) := cell_of_block hb4
       have HS4 : Hid (WL w0 w4 g nd s1 ∧ KeepW v w4 ∧ AS sb w4 sb V' (fun _ => .slice none 0 0) (intsF M) ∧ IL w4 wo.heap.size (.slice (some ⟨b, 0, none⟩) l2 c2) T) := Lib.hid ⟨HS.out.1.below B4, HS.out.2.1.trans (KeepW.of B4), HS.out.2.2.1.below B4, HS.out.2.2.2.below B4⟩
       have HD4 := Lib.hid (hdz.keep (fun g _ hg => B4.block g (heap_lt hg)))
       have HQ := Lib.hid hQ
       have HV4 := Lib.hid hw4
       clear hz hdz hQ hw4 B4 hb4 HS hM
       obtain ⟨w5, hw5⟩ : ∃ w5, w4.drew.alloc (.cells #[.int .i64 (i : Int), .int .i64 (z.s : Int), .int .i64 (z.g : Int), .slice Ay 128 cy] 112) = w5 := ⟨_, rfl⟩
       have B5 : Below w4.heap.size w4 w5 := by rw [← hw5]; exact (below_drewN 1 w4).trans (((Below.refl _ _).alloc (Nat.le_refl _) _).mono (Nat.le_refl _))
       have HS5 : Hid (WL w0 w5 g nd s1 ∧ KeepW v w5 ∧ AS sb w5 sb V' (fun _ => .slice none 0 0) (intsF M) ∧ IL w5 wo.heap.size (.slice (some ⟨b, 0, none⟩) l2 c2) T) := Lib.hid ⟨HS4.out.1.below B5, HS4.out.2.1.trans (KeepW.of B5), HS4.out.2.2.1.below B5, HS4.out.2.2.2.below B5⟩
       obtain ⟨v', w6, r', hv', hrun, hgr, hrr, has, hsb6⟩ := HS5.out.2.2.1.app (g := w4.heap.size) 62 hk (i, z) Ay cy (by rw [← hw5]; exact alloc_block w4.drew _) (HD4.out.keep (fun g _ hg => B5.block g (heap_lt hg))) HFN.out (by rw [← HSB.out]; exact HS5.out.2.1.1)
       obtain ⟨x4, _⟩ := HS4.out.2.2.1.cell hk
       obtain ⟨x5, _⟩ := HS5.out.2.2.1.cell hk
       have HS6 : Hid (WL w0 (w6.setCell ⟨sb, z.s * 2, none⟩ v') g nd s1 ∧ KeepW v (w6.setCell ⟨sb, z.s * 2, none⟩ v') ∧ AS sb (w6.setCell ⟨sb, z.s * 2, none⟩ v') sb (fun i => if i = z.s then v' else V' i) (fun _ => .slice none 0 0) (intsF (L ++ (T.take (j + 1)).map (fun x => (i, x)))) ∧ IL (w6.setCell ⟨sb, z.s * 2, none⟩ v') wo.heap.size (.slice (some ⟨b, 0, none⟩) l2 c2) T) := Lib.hid (by
        have hz2 : ∀ q, v.heap.size ≤ q → ¬ nd.Z q := fun q hq hz => by have := HS5.out.1.zlt hz; have := HZB.out.1; omega
        have hv5 : v.heap.size = sb := HSB.out
        obtain ⟨us, hu, _⟩ := HS5.out.2.2.1.blk
        have hW6 : WL w0 w6 g nd s1 := HS5.out.1.grown hgr (fun q hq => by
         obtain ⟨a1, cs, a2⟩ := hrr q hq
         exact ⟨Nat.le_trans HZB.out.2 (by rw [hv5]; exact a1), hz2 q (by rw [hv5]; exact a1), cs, _, a2, told_notW, by decide, by decide⟩)
        have hK6 : KeepW v w6 := HS5.out.2.1.grown hgr (fun q hq => by rw [hv5]; exact (hrr q hq).1)
        refine ⟨hW6.setO (hsb6.trans hu) found_notW (by decide) (by rw [← hv5]; exact HZB.out.2) (hz2 sb (Nat.le_of_eq hv5)) _ _, hK6.setNew (Nat.le_of_eq hv5) _ _, ?_, HS5.out.2.2.2.keep (fun q cs t hq ht => ?_)⟩
        ·rw [HFX.out, intsF_snoc]
         exact has
        ·refine (set_other (fun e => ?_) _ _).trans (hgr.block q (heap_lt hq) (fun e => ?_))
         ·rw [e, hu] at hq
          injection hq with hq
          injection hq with _ hq
          rcases ht with rfl | rfl <;> exact absurd hq (by decide)
         ·obtain ⟨_, cs', hc⟩ := hrr q e.symm
          rw [hq] at hc
          injection hc with hc
          injection hc with _ hc
          rcases ht with rfl | rfl <;> exact absurd hc (by decide))
       have hfz : w6.frozen? ⟨sb, z.s * 2, none⟩ = false := by
        obtain ⟨us, hu, _⟩ := HS5.out.2.2.1.blk
        exact free_of_block (hsb6.trans hu)
       have x6 : w6.cell? ⟨sb, z.s * 2, none⟩ = some (V' z.s) := (World.cell?_of_block (w := w5) hsb6).trans x5
       have xD : w4.drew.cell? ⟨sb, z.s * 2, none⟩ = some (V' z.s) := x4
       have yD0 : w4.drew.cell? ⟨Q, 0, none⟩ = some (.int .i64 (z.s : Int)) := y0
       have yD1 : w4.drew.cell? ⟨Q, 1, none⟩ = some (.int .i64 (z.g : Int)) := y1
       have yD2 : w4.drew.cell? ⟨Q, 2, none⟩ = some (.slice Ay 128 cy) := y2
       have HW5 := Lib.hid hw5
       rw [← hw5] at hrun x5
       have x7 : (w4.alloc (.cells #[.int .i64 (i : Int), .int .i64 (z.s : Int), .int .i64 (z.g : Int), .slice Ay 128 cy] 112)).drew.cell? ⟨sb, z.s * 2, none⟩ = some (V' z.s) := x5
       clear hgr hrr has hsb6 hw5 B5 HS4 HD4 HFX HFN x4
       obtain ⟨g6, n6, c6, rfl⟩ := hv'
       go_upto_region 11 with fail
       rw [HV4.out, HQ.out]
       clear HV4 HQ z0 z1 z2
       go_upto_region 12 with fail
       refine wp_region_held_drew (S := (fun _ => True)) (by as_aux_lemma => kernel_rfl) ?_ (fun hHeld => ?_)
       ·trivial
       refine wpAnyH_take (i := 0) (v := ?_) rfl (by as_aux_lemma => kernel_rfl) (by as_aux_lemma => kernel_rfl) (by as_aux_lemma => kernel_rfl) (fun _ _ _ h => h) (Or.inl ⟨by as_aux_lemma => kernel_rfl, ?_⟩) (by assumption) ?_
       rotate_left
       ·intro w hSw; (try dsimp only at hSw); go_simp; (try with_reducible rfl)
       simp only [Act.put, List.getElem_toArray, List.getElem_cons_zero, List.setIfInBounds_toArray, List.set_cons_zero, List.set_cons_succ]
       refine wpAnyH_take (i := 1) (v := ?_) rfl (by as_aux_lemma => kernel_rfl) (by as_aux_lemma => kernel_rfl) (by as_aux_lemma => kernel_rfl) (fun _ _ _ h => h) (Or.inl ⟨by as_aux_lemma => kernel_rfl, ?_⟩) (by assumption) ?_
       rotate_left
       ·intro w hSw; (try dsimp only at hSw); go_simp; (try with_reducible rfl)
       simp only [Act.put, List.getElem_toArray, List.getElem_cons_zero, List.getElem_cons_succ, List.setIfInBounds_toArray, List.set_cons_zero, List.set_cons_succ]
       refine wpAnyH_take (i := 2) (v := ?_) rfl (by as_aux_lemma => kernel_rfl) (by as_aux_lemma => kernel_rfl) (by as_aux_lemma => kernel_rfl) (fun _ _ _ h => h) (Or.inl ⟨by as_aux_lemma => kernel_rfl, ?_⟩) (by assumption) ?_
       rotate_left
       ·intro w hSw; (try dsimp only at hSw); go_simp; (try with_reducible rfl)
       simp only [Act.put, List.getElem_toArray, List.getElem_cons_zero, List.getElem_cons_succ, List.setIfInBounds_toArray, List.set_cons_zero, List.set_cons_succ]
       refine wpAnyH_take (i := 3) (v := ?_) rfl (by as_aux_lemma => kernel_rfl) (by as_aux_lemma => kernel_rfl) (by as_aux_lemma => kernel_rfl) (fun _ _ _ h => h) (Or.inl ⟨by as_aux_lemma => kernel_rfl, ?_⟩) (by assumption) ?_
       rotate_left
       ·intro w hSw; (try dsimp only at hSw); go_simp; (try with_reducible rfl)
       simp only [Act.put, List.getElem_toArray, List.getElem_cons_zero, List.getElem_cons_succ, List.setIfInBounds_toArray, List.set_cons_zero, List.set_cons_succ]
       refine wpAnyH_take (i := 5) (v := ?_) rfl (by as_aux_lemma => kernel_rfl) (by as_aux_lemma => kernel_rfl) (by as_aux_lemma => kernel_rfl) (fun _ _ _ h => h) (Or.inl ⟨by as_aux_lemma => kernel_rfl, ?_⟩) (by assumption) ?_
       rotate_left
       ·intro w hSw; (try dsimp only at hSw); go_simp; (try with_reducible rfl)
       simp only [Act.put, List.getElem_toArray, List.getElem_cons_zero, List.getElem_cons_succ, List.setIfInBounds_toArray, List.set_cons_zero, List.set_cons_succ]
       refine wpAnyH_ready (rs := [4, 6]) (by as_aux_lemma => kernel_rfl) (by simp) ?_
       refine AllReadyH.cons rfl (fun K hK => ?_) (AllReadyH.cons rfl (fun K hK => ?_) AllReadyH.nil)
       go_simp
       refine hK.out _ _ ?_ (fun hHeld2 => ?_)
       ·(try dsimp only); all_goals trivial
       clear hK K hHeld
       have hHeld := hHeld2
       clear hHeld2
       refine wpAnyH_ready (rs := [6]) (by as_aux_lemma => kernel_rfl) (by simp) ?_
       refine AllReadyH.cons rfl (fun K hK => ?_) AllReadyH.nil
       go_simp
       refine hK.out _ _ ?_ (fun hHeld2 => ?_)
       ·(try dsimp only); all_goals trivial
       clear hK K hHeld
       have hHeld := hHeld2
       clear hHeld2
       refine wpAnyH_take (i := 7) (v := ?_) rfl (by as_aux_lemma => kernel_rfl) (by as_aux_lemma => kernel_rfl) (by as_aux_lemma => kernel_rfl) (fun _ _ _ h => h) (Or.inl ⟨by as_aux_lemma => kernel_rfl, ?_⟩) (by assumption) ?_
       rotate_left
       ·intro w hSw; (try dsimp only at hSw); go_simp; (try with_reducible rfl)
       simp only [Act.put, List.getElem_toArray, List.getElem_cons_zero, List.getElem_cons_succ, List.setIfInBounds_toArray, List.set_cons_zero, List.set_cons_succ]
       refine wpAnyH_ready (rs := [8]) (by as_aux_lemma => kernel_rfl) (by simp) ?_
       refine AllReadyH.cons rfl (fun K hK => ?_) AllReadyH.nil
       go_simp
       refine hK.out _ _ ?_ (fun hHeld2 => ?_)
       ·(try dsimp only); all_goals trivial
       clear hK K hHeld
       have hHeld := hHeld2
       clear hHeld2
       refine wpAnyH_ready (rs := [9]) (by as_aux_lemma => kernel_rfl) (by simp) ?_
       refine AllReadyH.cons rfl (fun K hK => ?_) AllReadyH.nil
       refine step_append_eq _ _ w6 rfl (.tmp 43) (.tmp 47) 62 rfl _ _ rfl rfl hrun ?_
       refine hK.out _ _ ?_ (fun hHeld2 => ?_)
       ·(try dsimp only); all_goals trivial
       clear hK K hHeld
       have hHeld := hHeld2
       clear hHeld2
       refine wpAnyH_take (i := 10) (v := ?_) rfl (by as_aux_lemma => kernel_rfl) (by as_aux_lemma => kernel_rfl) (by as_aux_lemma => kernel_rfl) (fun _ _ _ h => h) (Or.inl ⟨by as_aux_lemma => kernel_rfl, ?_⟩) (by assumption) ?_
       rotate_left
       ·intro w hSw; (try dsimp only at hSw); go_simp; (try with_reducible rfl)
       simp only [Act.put, List.getElem_toArray, List.getElem_cons_zero, List.getElem_cons_succ, List.setIfInBounds_toArray, List.set_cons_zero, List.set_cons_succ]
       refine wpAnyH_take (i := 11) (v := ?_) rfl (by as_aux_lemma => kernel_rfl) (by as_aux_lemma => kernel_rfl) (by as_aux_lemma => kernel_rfl) (fun _ _ _ h => h) (Or.inl ⟨by as_aux_lemma => kernel_rfl, ?_⟩) (by assumption) ?_
       rotate_left
       ·intro w hSw; (try dsimp only at hSw); go_simp; (try with_reducible rfl)
       simp only [Act.put, List.getElem_toArray, List.getElem_cons_zero, List.getElem_cons_succ, List.setIfInBounds_toArray, List.set_cons_zero, List.set_cons_succ]
       refine wpAnyH_ready (rs := [12]) (by as_aux_lemma => kernel_rfl) (by simp) ?_
       refine AllReadyH.cons rfl (fun K hK => ?_) AllReadyH.nil
       go_simp
       refine hK.out _ _ ?_ (fun hHeld2 => ?_)
       ·(try dsimp only); all_goals trivial
       clear hK K hHeld
       have hHeld := hHeld2
       clear hHeld2
       refine wpAnyH_done (by as_aux_lemma => kernel_rfl) ?_ _
       rotate_left
       go_simp
       refine hK.out _ _ ?_ (fun hHeld2 => ?_)
       ·(try dsimp only); all_goals trivial
       clear hK K hHeld
       have hHeld := hHeld2
       clear hHeld2
       refine wpAnyH_take (i := 7) (v := ?_) rfl (by as_aux_lemma => kernel_rfl) (by as_aux_lemma => kernel_rfl) (by as_aux_lemma => kernel_rfl) (fun _ _ _ h => h) (Or.inl ⟨by as_aux_lemma => kernel_rfl, ?_⟩) (by assumption) ?_
       rotate_left
       ·intro w hSw; (try dsimp only at hSw); go_simp; (try with_reducible rfl)
       simp only [Act.put, List.getElem_toArray, List.getElem_cons_zero, List.getElem_cons_succ, List.setIfInBounds_toArray, List.set_cons_zero, List.set_cons_succ]
       refine wpAnyH_ready (rs := [4, 8]) (by as_aux_lemma => kernel_rfl) (by simp) ?_
       refine AllReadyH.cons rfl (fun K hK => ?_) (AllReadyH.cons rfl (fun K hK => ?_) AllReadyH.nil)
       go_simp
       refine hK.out _ _ ?_ (fun hHeld2 => ?_)
       ·(try dsimp only); all_goals trivial
       clear hK K hHeld
       have hHeld := hHeld2
       clear hHeld2
       refine wpAnyH_ready (rs := [8]) (by as_aux_lemma => kernel_rfl) (by simp) ?_
       refine AllReadyH.cons rfl (fun K hK => ?_) AllReadyH.nil
       go_simp
       refine hK.out _ _ ?_ (fun hHeld2 => ?_)
       ·(try dsimp only); all_goals trivial
       clear hK K hHeld
       have hHeld := hHeld2
       clear hHeld2
       refine wpAnyH_ready (rs := [9]) (by as_aux_lemma => kernel_rfl) (by simp) ?_
       refine AllReadyH.cons rfl (fun K hK => ?_) AllReadyH.nil
       refine step_append_eq _ _ w6 rfl (.tmp 43) (.tmp 47) 62 rfl _ _ rfl rfl hrun ?_
       refine hK.out _ _ ?_ (fun hHeld2 => ?_)
       ·(try dsimp only); all_goals trivial
       clear hK K hHeld
       have hHeld := hHeld2
       clear hHeld2
       refine wpAnyH_take (i := 10) (v := ?_) rfl (by as_aux_lemma => kernel_rfl) (by as_aux_lemma => kernel_rfl) (by as_aux_lemma => kernel_rfl) (fun _ _ _ h => h) (Or.inl ⟨by as_aux_lemma => kernel_rfl, ?_⟩) (by assumption) ?_
       rotate_left
       ·intro w hSw; (try dsimp only at hSw); go_simp; (try with_reducible rfl)
       simp only [Act.put, List.getElem_toArray, List.getElem_cons_zero, List.getElem_cons_succ, List.setIfInBounds_toArray, List.set_cons_zero, List.set_cons_succ]
       refine wpAnyH_take (i := 11) (v := ?_) rfl (by as_aux_lemma => kernel_rfl) (by as_aux_lemma => kernel_rfl) (by as_aux_lemma => kernel_rfl) (fun _ _ _ h => h) (Or.inl ⟨by as_aux_lemma => kernel_rfl, ?_⟩) (by assumption) ?_
       rotate_left
       ·intro w hSw; (try dsimp only at hSw); go_simp; (try with_reducible rfl)
       simp only [Act.put, List.getElem_toArray, List.getElem_cons_zero, List.getElem_cons_succ, List.setIfInBounds_toArray, List.set_cons_zero, List.set_cons_succ]
       refine wpAnyH_ready (rs := [12]) (by as_aux_lemma => kernel_rfl) (by simp) ?_
       refine AllReadyH.cons rfl (fun K hK => ?_) AllReadyH.nil
       go_simp
       refine hK.out _ _ ?_ (fun hHeld2 => ?_)
       ·(try dsimp only); all_goals trivial
       clear hK K hHeld
       have hHeld := hHeld2
       clear hHeld2
       refine wpAnyH_done (by as_aux_lemma => kernel_rfl) ?_ _
       rotate_left
       go_simp
       refine hK.out _ _ ?_ (fun hHeld2 => ?_)
       ·(try dsimp only); all_goals trivial
       clear hK K hHeld
       have hHeld := hHeld2
       clear hHeld2
       refine wpAnyH_ready (rs := [4]) (by as_aux_lemma => kernel_rfl) (by simp) ?_
       refine AllReadyH.cons rfl (fun K hK => ?_) AllReadyH.nil
       go_simp
       refine hK.out _ _ ?_ (fun hHeld2 => ?_)
       ·(try dsimp only); all_goals trivial
       clear hK K hHeld
       have hHeld := hHeld2
       clear hHeld2
       refine wpAnyH_ready (rs := [9]) (by as_aux_lemma => kernel_rfl) (by simp) ?_
       refine AllReadyH.cons rfl (fun K hK => ?_) AllReadyH.nil
       refine step_append_eq _ _ w6 rfl (.tmp 43) (.tmp 47) 62 rfl _ _ rfl rfl hrun ?_
       refine hK.out _ _ ?_ (fun hHeld2 => ?_)
       ·(try dsimp only); all_goals trivial
       clear hK K hHeld
       have hHeld := hHeld2
       clear hHeld2
       refine wpAnyH_take (i := 10) (v := ?_) rfl (by as_aux_lemma => kernel_rfl) (by as_aux_lemma => kernel_rfl) (by as_aux_lemma => kernel_rfl) (fun _ _ _ h => h) (Or.inl ⟨by as_aux_lemma => kernel_rfl, ?_⟩) (by assumption) ?_
       rotate_left
       ·intro w hSw; (try dsimp only at hSw); go_simp; (try with_reducible rfl)
       simp only [Act.put, List.getElem_toArray, List.getElem_cons_zero, List.getElem_cons_succ, List.setIfInBounds_toArray, List.set_cons_zero, List.set_cons_succ]
       refine wpAnyH_take (i := 11) (v := ?_) rfl (by as_aux_lemma => kernel_rfl) (by as_aux_lemma => kernel_rfl) (by as_aux_lemma => kernel_rfl) (fun _ _ _ h => h) (Or.inl ⟨by as_aux_lemma => kernel_rfl, ?_⟩) (by assumption) ?_
       rotate_left
       ·intro w hSw; (try dsimp only at hSw); go_simp; (try with_reducible rfl)
       simp only [Act.put, List.getElem_toArray, List.getElem_cons_zero, List.getElem_cons_succ, List.setIfInBounds_toArray, List.set_cons_zero, List.set_cons_succ]
       refine wpAnyH_ready (rs := [12]) (by as_aux_lemma => kernel_rfl) (by simp) ?_
       refine AllReadyH.cons rfl (fun K hK => ?_) AllReadyH.nil
       go_simp
       refine hK.out _ _ ?_ (fun hHeld2 => ?_)
       ·(try dsimp only); all_goals trivial
       clear hK K hHeld
       have hHeld := hHeld2
       clear hHeld2
       refine wpAnyH_done (by as_aux_lemma => kernel_rfl) ?_ _
       rotate_left
       all_goals
        (try simp only [List.setIfInBounds_toArray])
        go_wp2_with fail
        go_roundg (l2 - (j + 1))
        case measure => omega
        case rel => exact ⟨j + 1, _, by go_num, by omega, rfl, HS6⟩
      ·obtain rfl : j = l2 := by omega
       have hge : ¬ (j : Int) < (j : Int) := by omega
       have HS6 : Hid (WL w0 wa g nd s1 ∧ KeepW v wa ∧ AS sb wa sb V' (fun _ => .slice none 0 0) (intsF (L ++ T.map (fun x => (i, x))))) := Lib.hid (by
        have h1 := HS.out.2.2.1
        rw [List.take_of_length_le (Nat.le_of_eq HL2.out)] at h1
        exact ⟨HS.out.1, HS.out.2.1, h1⟩)
       clear HS hjt
       go_wp2_with fail
       go_roundg (8 - (i + 1))
       case measure => omega
       case rel => exact ⟨i + 1, s1, _, V', by go_num, by omega, rfl, HGN, HS6⟩
  ·obtain rfl : i = 8 := by omega
   have hge : ¬ ((8 : Nat) : Int) < 8 := by omega
   have HF8 : Hid (sw.Fit (m + 24)) := Lib.hid (by have := askI_fit HF.out 8 (by omega); rw [HA.out] at this; exact this)
   have HZZ := Lib.hid HS.out
   clear HS hlt
   go_wp2_with fail
   go_loopg [11, 55] 40 (fun q s11 s55 wr => ∃ (k : Nat) (sv : Wp) (F : Nat → List Pc) (U : Nat → Value), s55 = .int .i64 (k : Int) ∧ k ≤ 40 ∧ q = 40 - k ∧ Hid (gatS sw k = (sv, none, F)) ∧ Hid (WL w0 wr g nd sv ∧ KeepW v wr ∧ AS sb wr sb V U (intsF L)) ∧ Hid (∀ i, i < 40 → PL wr sb (U i) (F i)))
   case atStart => exact ⟨0, sw, fun _ => [], _, rfl, by omega, rfl, Lib.hid rfl, HZZ, Lib.hid (fun i _ => Or.inl ⟨rfl, none, 0, rfl⟩)⟩
   case round =>
    obtain ⟨k, sv, F, U, rfl, hk, rfl, HB, HS, HP⟩ := hrel
    obtain ⟨wa, rfl⟩ : ∃ wa : World, wa = wr := ⟨wr, rfl⟩
    clear HZZ
    by_cases hkt : k < 40
    ·have t9 : (k : Int) < 40 := by omega
     have HFS : Hid (sv.Fit (m + 24 + 18 * k)) := Lib.hid (by have := gatS_fit HF8.out k; rw [HB.out] at this; exact this)
     have HG := Lib.hid (o_gather HS.out.1 HFS.out (by omega) (st := k) hkt)
     obtain ⟨s2, o2, l, hc⟩ : ∃ s2 o2 l, gatN sv k 6 = (s2, o2, l) := ⟨_, _, _, rfl⟩
     rw [hc] at HG
     have HCC := Lib.hid hc
     clear hc
     go_wp2_with fail
     refine HG.out.mono ?_
     rintro en w5 ⟨r, u, rfl, W5, K5, hx⟩
     try dsimp only
     try dsimp only at W5 hx
     rcases hx with ⟨z, rfl, rfl, b, rfl, ho⟩ | ⟨rfl, rfl, hl⟩
     ·have HZ := Lib.hid (And.intro W5 (And.intro (HS.out.2.1.trans K5) ho))
      have HE : Hid (gatS sw 40 = (s2, some z, F)) := Lib.hid (by
       have h7 := gatS_err HB.out HCC.out
       have h8 := gatS_stay h7 (40 - (k + 1))
       rw [show k + 1 + (40 - (k + 1)) = 40 by omega] at h8
       exact h8)
      clear W5 K5 ho HG HS HP HB
      go_wp2_with fail
      go_ret2
      exact ⟨_, _, rfl, HZ.out.2.1, Or.inr (Or.inl ⟨sw, L, s2, z, F, HA.out, HE.out, HZ.out.1, rfl, b, rfl, HZ.out.2.2⟩)⟩
     ·obtain ⟨A5, c5, h5⟩ := hl.form
      obtain rfl := h5
      obtain ⟨l5, hl5⟩ : ∃ l5, l.length = l5 := ⟨_, rfl⟩
      rw [hl5] at hl ⊢
      have HS5 : Hid (WL w0 w5 g nd s2 ∧ KeepW v w5 ∧ AS sb w5 sb V U (intsF L)) := Lib.hid ⟨W5, HS.out.2.1.trans K5, HS.out.2.2.keepW K5⟩
      have HP5 : Hid (∀ i, i < 40 → PL w5 sb (if i = k then .slice A5 l5 c5 else U i) (if i = k then l else F i)) := Lib.hid (fun i hi => by
       by_cases e : i = k
       ·rw [if_pos e, if_pos e]
        exact hl.pl.mono (by rw [← HSB.out]; exact HS.out.2.1.1)
       ·rw [if_neg e, if_neg e]
        exact (HP.out i hi).keepW K5)
      have HN : Hid (gatS sw (k + 1) = (s2, none, fun i => if i = k then l else F i)) := Lib.hid (gatS_ok HB.out HCC.out)
      obtain ⟨_, x1⟩ := HS5.out.2.2.cell hkt
      have hfz : w5.frozen? ⟨sb, k * 2 + 1, none⟩ = false := HS5.out.2.2.blk.free _
      have HS6 : Hid (WL w0 (w5.setCell ⟨sb, k * 2 + 1, none⟩ (.slice A5 l5 c5)) g nd s2 ∧ KeepW v (w5.setCell ⟨sb, k * 2 + 1, none⟩ (.slice A5 l5 c5)) ∧ AS sb (w5.setCell ⟨sb, k * 2 + 1, none⟩ (.slice A5 l5 c5)) sb V (fun i => if i = k then .slice A5 l5 c5 else U i) (intsF L)) := Lib.hid (by
       have hv5 : v.heap.size = sb := HSB.out
       obtain ⟨us, hu, _⟩ := HS5.out.2.2.blk
       have hz2 : ¬ nd.Z sb := fun hz => by have := HS5.out.1.zlt hz; have := HZB.out.1; omega
       exact ⟨HS5.out.1.setO hu found_notW (by decide) (by rw [← hv5]; exact HZB.out.2) hz2 _ _, HS5.out.2.1.setNew (Nat.le_of_eq hv5) _ _, HS5.out.2.2.setU hkt _⟩)
      have HP6 : Hid (∀ i, i < 40 → PL (w5.setCell ⟨sb, k * 2 + 1, none⟩ (.slice A5 l5 c5)) sb (if i = k then .slice A5 l5 c5 else U i) (if i = k then l else F i)) := Lib.hid (fun i hi => by
       obtain ⟨us, hu, _⟩ := HS5.out.2.2.blk
       refine (HP5.out i hi).keep (fun q cs t hq ht => set_other (fun e => ?_) _ _)
       rw [e, hu] at hq
       injection hq with hq
       injection hq with _ hq
       rcases ht with rfl | rfl <;> exact absurd hq (by decide))
      clear W5 K5 hl HG HS HP HB HS5 HP5 hl5
      go_wp2_with fail
      go_roundg (40 - (k + 1))
      case measure => omega
      case rel => exact ⟨k + 1, s2, _, _, by go_num, by omega, rfl, HN, HS6, HP6⟩
    ·obtain rfl : k = 40 := by omega
     have hge2 : ¬ ((40 : Nat) : Int) < 40 := by omega
     clear hkt
     go_wp2_with fail
     go_ret2
     exact ⟨_, _, rfl, HS.out.2.1, Or.inr (Or.inr ⟨sw, L, sv, F, sb, V, U, HA.out, HB.out, HS.out.1, rfl, rfl, by rw [HSB.out]; exact HS.out.2.2, Nat.le_of_eq HSB.out, fun i hi => by rw [HSB.out]; exact HP.out i hi⟩)⟩
end
end Go.Proofs.YtobkmohoepgfmaaGreatDoor
