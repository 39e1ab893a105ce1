import Derived.Test.YtobkmohoepgfmaaGreatDoorV37
namespace Go.Proofs.YtobkmohoepgfmaaGreatDoor
open Go.RowKit Go.Sort
set_option maxRecDepth 100000
set_option maxHeartbeats 8000000

theorem o_chunks {w : World} {va : Value} {B : Nat} {A : Option Addr} {n c : Nat} {ps : List Pc} (hn : ps.length = n) (hm : n ≤ 1000000) (h : PL w B (.slice A n c) ps) (h6 : ∀ p ∈ ps, p.i < 6) (g : Nat) :
  Calls Tryz.prog 52 #[.agg #[va, .slice A n c], .int .i64 (g : Int)] w fun e w' => ∃ gb, e = .returned (.slice (some ⟨gb, 0, none⟩) 6 6) ∧ CkP w' gb (chF ps g) ∧ Below w.heap.size w w' ∧ w.heap.size ≤ gb := by
 have HN := Lib.hid hn
 have H := Lib.hid h
 have H6 := Lib.hid h6
 obtain ⟨zs, z1, z2⟩ := Kc.make88 6 (by omega)
 have mk2 : ∀ W : World, Sem.run Tryz.prog (Instr.makeSlice 117 (.int .i64 6) (.int .i64 6)) W = .ok (.slice (some ⟨W.heap.size, 0, none⟩) 6 6) (W.alloc (.cells zs 36)) := z2
 have HZ1 := Lib.hid z1
 clear hn h h6 z1 z2
 obtain ⟨w1, hw1⟩ : ∃ w1, w.alloc (.cells #[va, .slice A n c] 65) = w1 := ⟨_, rfl⟩
 have B1 : Below w.heap.size w w1 := by rw [← hw1]; exact (Below.refl _ _).alloc (Nat.le_refl _) _
 obtain ⟨gb, hgb⟩ : ∃ gb, w1.heap.size = gb := ⟨_, rfl⟩
 obtain ⟨w2, hw2⟩ : ∃ w2, w1.alloc (.cells zs 36) = w2 := ⟨_, rfl⟩
 have B2 : Below w1.heap.size w1 w2 := by rw [← hw2]; exact (Below.refl _ _).alloc (Nat.le_refl _) _
 have hq : w1.heap.size = w.heap.size + 1 := by rw [← hw1]; simp
 have c1 : w2.cell? ⟨w.heap.size, 1, none⟩ = some (.slice A n c) := by
  have h1 : w1.cell? ⟨w.heap.size, 1, none⟩ = some (.slice A n c) := by rw [← hw1, cell_of_block (alloc_block w _)]; rfl
  exact (B2.cell (p := ⟨w.heap.size, 1, none⟩) (cell?_lt h1)).trans h1
 have HS2 : Hid (CkP w2 gb (fun _ => none) ∧ PL w2 B (.slice A n c) ps ∧ Below w.heap.size w w2 ∧ w.heap.size ≤ gb) := Lib.hid ⟨CkP.none_ (by rw [← hw2, ← hgb]; exact alloc_block _ _) HZ1.out, (H.out.below B1).below B2, B1.trans (B2.mono (by omega)), by omega⟩
 have HV1 := Lib.hid hw1
 have HV2 := Lib.hid hw2
 have HGB : Hid (w.heap.size + 1 = gb) := Lib.hid (by rw [← hgb, hq])
 obtain ⟨q0, hq0⟩ : ∃ q0, w.heap.size = q0 := ⟨_, rfl⟩
 have HQ0 := Lib.hid hq0
 have HGQ : Hid (q0 + 1 = gb) := Lib.hid (by rw [← hq0]; exact HGB.out)
 rw [hq0] at c1
 clear HGB
 clear hw1 hw2 hgb B1 B2 hq hq0 H HZ1
 go_enter Tryz.func52, Tryz.ntmps52
 go_upto_region 2 with fail
 rw [HQ0.out, HV1.out, HV2.out, HGQ.out]
 go_wp2_with fail
 go_loopg [12] n (fun q s12 v => ∃ k : Nat, s12 = .int .i64 (k : Int) ∧ k ≤ n ∧ q = n - k ∧ Hid (CkP v gb ((ps.take k).foldl (chS g) (fun _ => none)) ∧ PL v B (.slice A n c) ps ∧ Below w.heap.size w v ∧ w.heap.size ≤ gb))
 case atStart => exact ⟨0, rfl, by omega, rfl, HS2⟩
 case round =>
  obtain ⟨k, rfl, hk, rfl, HS⟩ := hrel
  generalize wr = v at *
  clear HS2
  by_cases hlt : k < n
  ·have t1 : (k : Int) < (n : Int) := by omega
   obtain ⟨z, hz⟩ : ∃ z, ps[k]? = some z := ⟨_, List.getElem?_eq_getElem (by rw [HN.out]; exact hlt)⟩
   obtain ⟨b, c', Az, cz, hv, _, hbl, z0, z1, z2, z3, hdz⟩ := HS.out.2.1.at hz
   rw [HN.out] at hv
   cases hv
   rw [Nat.mul_comm] at z0 z1 z2 z3
   have hi6 := H6.out z (List.mem_of_getElem? hz)
   have HFX : Hid ((ps.take (k + 1)).foldl (chS g) (fun _ => none) = chS g ((ps.take k).foldl (chS g) (fun _ => none)) z) := Lib.hid (foldl_take hz)
   obtain ⟨Q, hQ⟩ : ∃ Q, v.heap.size = Q := ⟨_, rfl⟩
   obtain ⟨w4, hw4⟩ : ∃ w4, v.alloc (.cells #[.int .i64 (z.s : Int), .int .i64 (z.g : Int), .int .i64 (z.i : Int), .slice Az 32 cz] 162) = w4 := ⟨_, rfl⟩
   have B4 : Below v.heap.size v w4 := by rw [← hw4]; exact (Below.refl _ _).alloc (Nat.le_refl _) _
   have p4 : PV w4 Q (z.s : Int) (z.g : Int) (z.i : Int) Az 32 cz := by rw [← hw4, ← hQ]; exact PV.new _ _ _ _ _ _ _
   have y1 := p4.c1
   have y2 := p4.c2
   have y3 := p4.c3
   have HS4 : Hid (CkP w4 gb ((ps.take k).foldl (chS g) (fun _ => none)) ∧ PL w4 B (.slice (some ⟨b, 0, none⟩) n c) ps ∧ Below w.heap.size w w4 ∧ w.heap.size ≤ gb) := Lib.hid ⟨HS.out.1.below B4, HS.out.2.1.below B4, HS.out.2.2.1.trans (B4.mono HS.out.2.2.1.size), HS.out.2.2.2⟩
   have HD4 := Lib.hid (hdz.keep (fun g cs hg => B4.block g (heap_lt hg)))
   obtain ⟨zg, hzg⟩ : ∃ zg, z.g = zg := ⟨_, rfl⟩
   obtain ⟨zi, hzi⟩ : ∃ zi, z.i = zi := ⟨_, rfl⟩
   have HZE := Lib.hid (And.intro hzg hzi)
   have HQ := Lib.hid hQ
   have HV4 := Lib.hid hw4
   rw [hzg] at z1 y1 HV4
   rw [hzi] at z2 y2 HV4 hi6
   clear hz hdz hQ hw4 B4 p4 hzg hzi HS
   go_upto_region 5 with fail
   rw [HV4.out, HQ.out]
   clear HV4 HQ z0 z1 z2 z3
   by_cases hg1 : zg = g
   ·subst hg1
    have hfx : (ps.take (k + 1)).foldl (chS zg) (fun _ => none) = fun i => if i = z.i then some z else ((ps.take k).foldl (chS zg) (fun _ => none)) i := by
     rw [HFX.out]
     unfold chS
     rw [if_pos HZE.out.1]
    have hb6 : (zi : Int) < 6 := by omega
    have HP : Hid (CkP (w4.setCell ⟨gb, zi, none⟩ (.slice Az 32 cz)) gb ((ps.take (k + 1)).foldl (chS zg) (fun _ => none)) ∧ PL (w4.setCell ⟨gb, zi, none⟩ (.slice Az 32 cz)) B (.slice (some ⟨b, 0, none⟩) n c) ps ∧ Below w.heap.size w (w4.setCell ⟨gb, zi, none⟩ (.slice Az 32 cz)) ∧ w.heap.size ≤ gb) := Lib.hid (by
     obtain ⟨h1, h2, h3, h4⟩ := HS4.out
     have hpt := h1.put (p := z) (P := Az) (k := cz) (by rw [HZE.out.2]; exact hi6) HD4.out
     rw [HZE.out.2] at hpt hfx
     rw [hfx]
     refine ⟨hpt, h2.keep (fun g' cs t hg ht => set_other (fun e => ?_) _ _), h3.setCell h4 _, h4⟩
     obtain ⟨cs', hb'⟩ := h1.1
     rw [e, hb'] at hg
     injection hg with hg
     injection hg with _ hg
     rcases ht with rfl | rfl <;> exact absurd hg (by decide))
    obtain ⟨us, hus⟩ : ∃ us, w4.heap[gb]? = some (.cells us 36 (0, 0)) := HS4.out.1.1
    have hfz : w4.frozen? ⟨gb, zi, none⟩ = false := free_of_block hus
    obtain ⟨uP, un, uk, hcl, _⟩ := HS4.out.1.cell hi6
    clear HS4 HD4 hfx hus
    go_wp2_with fail
    go_roundg (n - (k + 1))
    case measure => omega
    case rel => exact ⟨k + 1, by go_num, by omega, rfl, HP⟩
   ·have hg2 : ¬ (zg : Int) = (g : Int) := by omega
    have hg3 : ((zg : Int) == (g : Int)) = false := by rw [beq_eq_false_iff_ne]; exact hg2
    have hfx : (ps.take (k + 1)).foldl (chS g) (fun _ => none) = (ps.take k).foldl (chS g) (fun _ => none) := by
     rw [HFX.out]
     unfold chS
     rw [if_neg (by rw [HZE.out.1]; exact hg1)]
    have HFY := Lib.hid hfx
    clear hfx
    go_wp2_with fail
    go_roundg (n - (k + 1))
    case measure => omega
    case rel => exact ⟨k + 1, by go_num, by omega, rfl, by rw [HFY.out]; exact HS4⟩
  ·obtain rfl : k = n := by omega
   have HE : Hid (CkP v gb (chF ps g) ∧ Below w.heap.size w v ∧ w.heap.size ≤ gb) := Lib.hid (by
    obtain ⟨h1, _, h3, h4⟩ := HS.out
    rw [List.take_of_length_le (Nat.le_of_eq HN.out)] at h1
    exact ⟨h1, h3, h4⟩)
   clear HS
   go_wp2_with fail
   go_ret
   exact ⟨gb, rfl, HE.out.1, HE.out.2.1, HE.out.2.2⟩
end Go.Proofs.YtobkmohoepgfmaaGreatDoor
namespace Go.Proofs.YtobkmohoepgfmaaGreatDoor
open Go.RowKit Go.Sort
set_option maxRecDepth 100000
set_option maxHeartbeats 8000000

theorem topI_le (l : List (Nat × It)) (b : Nat) (h : ∀ x ∈ l, x.2.g ≤ b) (a : Nat) (ha : a ≤ b) : topI a l ≤ b := by
 induction l generalizing a with
 | nil => exact ha
 | cons x l ih => exact ih (fun y hy => h y (List.mem_cons_of_mem _ hy)) _ (Nat.max_le.2 ⟨ha, h x (List.mem_cons_self ..)⟩)
theorem topP_le (l : List Pc) (b : Nat) (h : ∀ x ∈ l, x.g ≤ b) (a : Nat) (ha : a ≤ b) : topP a l ≤ b := by
 induction l generalizing a with
 | nil => exact ha
 | cons x l ih => exact ih (fun y hy => h y (List.mem_cons_of_mem _ hy)) _ (Nat.max_le.2 ⟨ha, h x (List.mem_cons_self ..)⟩)
theorem o_top {w : World} {B : Nat} {A1 A2 : Option Addr} {n1 c1 n2 c2 : Nat} {is : List (Nat × It)} {ps : List Pc} (hn1 : is.length = n1) (hm1 : n1 ≤ 1000000) (h1 : TLr w (.slice A1 n1 c1) is) (hn2 : ps.length = n2) (hm2 : n2 ≤ 1000000) (h2 : PL w B (.slice A2 n2 c2) ps) :
  Calls Tryz.prog 51 #[.agg #[.slice A1 n1 c1, .slice A2 n2 c2]] w fun e w' => e = .returned (.int .i64 ((topF is ps : Nat) : Int)) ∧ Below w.heap.size w w' := by
 have HN1 := Lib.hid hn1
 have HN2 := Lib.hid hn2
 obtain ⟨w1, hw1⟩ : ∃ w1, w.alloc (.cells #[.slice A1 n1 c1, .slice A2 n2 c2] 65) = w1 := ⟨_, rfl⟩
 have B1 : Below w.heap.size w w1 := by rw [← hw1]; exact (Below.refl _ _).alloc (Nat.le_refl _) _
 obtain ⟨q0, hq0⟩ : ∃ q0, w.heap.size = q0 := ⟨_, rfl⟩
 have hb1 : w1.heap[q0]? = some (.cells #[.slice A1 n1 c1, .slice A2 n2 c2] 65 (0, 0)) := by rw [← hw1, ← hq0]; exact alloc_block _ _
 have HB1 := Lib.hid hb1
 have HS1 : Hid (TLr w1 (.slice A1 n1 c1) is ∧ PL w1 B (.slice A2 n2 c2) ps ∧ Below w.heap.size w w1) := Lib.hid ⟨h1.below B1, h2.below B1, B1⟩
 have x0 : w1.cell? ⟨q0, 0, none⟩ = some (.slice A1 n1 c1) := cell_of_block hb1
 have HV1 := Lib.hid hw1
 have HQ0 := Lib.hid hq0
 clear hn1 hn2 hw1 B1 hq0 h1 h2 hb1
 go_enter Tryz.func51, Tryz.ntmps51
 go_upto_region 2 with fail
 rw [HQ0.out, HV1.out]
 go_wp2_with fail
 go_loopg [3, 11] n1 (fun q s3 s11 v => ∃ k : Nat, s11 = .int .i64 (k : Int) ∧ k ≤ n1 ∧ q = n1 - k ∧ s3 = .int .i64 ((topI 0 (is.take k) : Nat) : Int) ∧ Hid (TLr v (.slice A1 n1 c1) is ∧ PL v B (.slice A2 n2 c2) ps ∧ Below w.heap.size w v ∧ v.heap[q0]? = some (.cells #[.slice A1 n1 c1, .slice A2 n2 c2] 65 (0, 0))))
 case atStart => exact ⟨0, rfl, by omega, rfl, rfl, Lib.hid ⟨HS1.out.1, HS1.out.2.1, HS1.out.2.2, HB1.out⟩⟩
 case round =>
  obtain ⟨k, rfl, hk, rfl, rfl, HS⟩ := hrel
  generalize wr = v at *
  clear HS1 HB1 x0
  obtain ⟨T, hT⟩ : ∃ T, topI 0 (is.take k) = T := ⟨_, rfl⟩
  have HT := Lib.hid hT
  rw [hT]
  clear hT
  by_cases hlt : k < n1
  ·have t1 : (k : Int) < (n1 : Int) := by omega
   obtain ⟨z, hz⟩ : ∃ z, is[k]? = some z := ⟨_, List.getElem?_eq_getElem (by rw [HN1.out]; exact hlt)⟩
   obtain ⟨b, c', Az, cz, hv, hbl, z0, z1, z2, z3, hdz⟩ := HS.out.1.at hz
   rw [HN1.out] at hv
   cases hv
   have HFX : Hid (topI 0 (is.take (k + 1)) = max T z.2.g) := Lib.hid (by rw [← HT.out]; exact foldl_take hz)
   obtain ⟨Q, hQ⟩ : ∃ Q, v.heap.size = Q := ⟨_, rfl⟩
   obtain ⟨w4, hw4⟩ : ∃ w4, v.alloc (.cells #[.int .i64 (z.1 : Int), .int .i64 (z.2.s : Int), .int .i64 (z.2.g : Int), .slice Az 128 cz] 112) = w4 := ⟨_, rfl⟩
   have B4 : Below v.heap.size v w4 := by rw [← hw4]; exact (Below.refl _ _).alloc (Nat.le_refl _) _
   have y2 : w4.cell? ⟨Q, 2, none⟩ = some (.int .i64 (z.2.g : Int)) := by rw [← hw4, ← hQ, cell_of_block (alloc_block _ _)]; rfl
   have HS4 : Hid (TLr w4 (.slice (some ⟨b, 0, none⟩) n1 c1) is ∧ PL w4 B (.slice A2 n2 c2) ps ∧ Below w.heap.size w w4 ∧ w4.heap[q0]? = some (.cells #[.slice (some ⟨b, 0, none⟩) n1 c1, .slice A2 n2 c2] 65 (0, 0))) := Lib.hid ⟨HS.out.1.below B4, HS.out.2.1.below B4, HS.out.2.2.1.trans (B4.mono HS.out.2.2.1.size), (B4.block q0 (heap_lt HS.out.2.2.2)).trans HS.out.2.2.2⟩
   obtain ⟨zg, hzg⟩ : ∃ zg, z.2.g = zg := ⟨_, rfl⟩
   have HQ := Lib.hid hQ
   have HV4 := Lib.hid hw4
   rw [hzg] at z2 y2 HV4 HFX
   clear hz hdz hQ hw4 B4 hzg HS
   go_upto_region 5 with fail
   rw [HV4.out, HQ.out]
   clear HV4 HQ z0 z1 z2 z3
   by_cases hmx : T < zg
   ·go_wp2_with fail
    go_roundg (n1 - (k + 1))
    case measure => omega
    case rel => exact ⟨k + 1, by go_num, by omega, rfl, by rw [HFX.out, Nat.max_eq_right (Nat.le_of_lt hmx)], HS4⟩
   ·go_wp2_with fail
    go_roundg (n1 - (k + 1))
    case measure => omega
    case rel => exact ⟨k + 1, by go_num, by omega, rfl, by rw [HFX.out, Nat.max_eq_left (Nat.not_lt.1 hmx)], HS4⟩
  ·obtain rfl : k = n1 := by omega
   have HTI : Hid (topI 0 is = T) := Lib.hid (by rw [← HT.out, List.take_of_length_le (Nat.le_of_eq HN1.out)])
   have x1 : v.cell? ⟨q0, 1, none⟩ = some (.slice A2 n2 c2) := cell_of_block HS.out.2.2.2
   have HS5 := Lib.hid (And.intro HS.out.2.1 HS.out.2.2.1)
   clear HT HS hlt
   go_wp2_with fail
   go_loopg [3, 24] n2 (fun q s3 s24 u => ∃ j : Nat, s24 = .int .i64 (j : Int) ∧ j ≤ n2 ∧ q = n2 - j ∧ s3 = .int .i64 ((topP T (ps.take j) : Nat) : Int) ∧ Hid (PL u B (.slice A2 n2 c2) ps ∧ Below w.heap.size w u))
   case atStart => exact ⟨0, rfl, by omega, rfl, rfl, HS5⟩
   case round =>
    obtain ⟨j, rfl, hj, rfl, rfl, HS⟩ := hrel
    generalize wr = u at *
    clear HS5 x1
    obtain ⟨S, hS⟩ : ∃ S, topP T (ps.take j) = S := ⟨_, rfl⟩
    have HSS := Lib.hid hS
    rw [hS]
    clear hS
    by_cases hjt : j < n2
    ·have t1 : (j : Int) < (n2 : Int) := by omega
     obtain ⟨z, hz⟩ : ∃ z, ps[j]? = some z := ⟨_, List.getElem?_eq_getElem (by rw [HN2.out]; exact hjt)⟩
     obtain ⟨b, c', Az, cz, hv, _, hbl, z0, z1, z2, z3, hdz⟩ := HS.out.1.at hz
     rw [HN2.out] at hv
     cases hv
     rw [Nat.mul_comm] at z0 z1 z2 z3
     have HFX : Hid (topP T (ps.take (j + 1)) = max S z.g) := Lib.hid (by rw [← HSS.out]; exact foldl_take hz)
     obtain ⟨Q, hQ⟩ : ∃ Q, u.heap.size = Q := ⟨_, rfl⟩
     obtain ⟨w4, hw4⟩ : ∃ w4, u.alloc (.cells #[.int .i64 (z.s : Int), .int .i64 (z.g : Int), .int .i64 (z.i : Int), .slice Az 32 cz] 162) = w4 := ⟨_, rfl⟩
     have B4 : Below u.heap.size u w4 := by rw [← hw4]; exact (Below.refl _ _).alloc (Nat.le_refl _) _
     have y1 : w4.cell? ⟨Q, 1, none⟩ = some (.int .i64 (z.g : Int)) := by rw [← hw4, ← hQ, cell_of_block (alloc_block _ _)]; rfl
     have HS4 : Hid (PL w4 B (.slice (some ⟨b, 0, none⟩) n2 c2) ps ∧ Below w.heap.size w w4) := Lib.hid ⟨HS.out.1.below B4, HS.out.2.trans (B4.mono HS.out.2.size)⟩
     obtain ⟨zg, hzg⟩ : ∃ zg, z.g = zg := ⟨_, rfl⟩
     have HQ := Lib.hid hQ
     have HV4 := Lib.hid hw4
     rw [hzg] at z1 y1 HV4 HFX
     clear hz hdz hQ hw4 B4 hzg HS
     go_upto_region 10 with fail
     rw [HV4.out, HQ.out]
     clear HV4 HQ z0 z1 z2 z3
     by_cases hmx : S < zg
     ·go_wp2_with fail
      go_roundg (n2 - (j + 1))
      case measure => omega
      case rel => exact ⟨j + 1, by go_num, by omega, rfl, by rw [HFX.out, Nat.max_eq_right (Nat.le_of_lt hmx)], HS4⟩
     ·go_wp2_with fail
      go_roundg (n2 - (j + 1))
      case measure => omega
      case rel => exact ⟨j + 1, by go_num, by omega, rfl, by rw [HFX.out, Nat.max_eq_left (Nat.not_lt.1 hmx)], HS4⟩
    ·obtain rfl : j = n2 := by omega
     have HR : Hid (topF is ps = S) := Lib.hid (by
      unfold topF
      rw [HTI.out, ← HSS.out, List.take_of_length_le (Nat.le_of_eq HN2.out)])
     clear HSS hjt
     go_wp2_with fail
     go_ret
     exact ⟨by rw [HR.out]; rfl, HS.out.2⟩
end Go.Proofs.YtobkmohoepgfmaaGreatDoor
namespace Go.Proofs.YtobkmohoepgfmaaGreatDoor
open Go.RowKit Go.Sort
set_option maxRecDepth 100000
set_option maxHeartbeats 8000000

theorem o_gen {w : World} {B : Nat} {A1 A2 : Option Addr} {n1 c1 n2 c2 : Nat} {is : List (Nat × It)} {ps : List Pc} (hn1 : is.length = n1) (hm1 : n1 ≤ 1000000) (h1 : TLr w (.slice A1 n1 c1) is) (hn2 : ps.length = n2) (hm2 : n2 ≤ 1000000) (h2 : PL w B (.slice A2 n2 c2) ps) (h6 : ∀ p ∈ ps, p.i < 6) :
  Calls Tryz.prog 50 #[.agg #[.slice A1 n1 c1, .slice A2 n2 c2]] w fun e w' => e = .returned (.int .i64 ((genF is ps : Nat) : Int)) ∧ Below w.heap.size w w' := by
 have HN1 := Lib.hid hn1
 have HN2 := Lib.hid hn2
 have H6 := Lib.hid h6
 obtain ⟨w1, hw1⟩ : ∃ w1, w.alloc (.cells #[.slice A1 n1 c1, .slice A2 n2 c2] 65) = w1 := ⟨_, rfl⟩
 have B1 : Below w.heap.size w w1 := by rw [← hw1]; exact (Below.refl _ _).alloc (Nat.le_refl _) _
 obtain ⟨q0, hq0⟩ : ∃ q0, w.heap.size = q0 := ⟨_, rfl⟩
 have hb1 : w1.heap[q0]? = some (.cells #[.slice A1 n1 c1, .slice A2 n2 c2] 65 (0, 0)) := by rw [← hw1, ← hq0]; exact alloc_block _ _
 have HB1 := Lib.hid hb1
 have HS1 : Hid (TLr w1 (.slice A1 n1 c1) is ∧ PL w1 B (.slice A2 n2 c2) ps ∧ Below w.heap.size w w1) := Lib.hid ⟨h1.below B1, h2.below B1, B1⟩
 have x0 : w1.cell? ⟨q0, 0, none⟩ = some (.slice A1 n1 c1) := cell_of_block hb1
 have HV1 := Lib.hid hw1
 have HQ0 := Lib.hid hq0
 clear hn1 hn2 hw1 B1 hq0 h1 h2 hb1
 go_enter Tryz.func50, Tryz.ntmps50
 go_upto_region 2 with fail
 rw [HQ0.out, HV1.out]
 go_wp2_with fail
 go_loopg [3, 11] n1 (fun q s3 s11 v => ∃ k : Nat, s11 = .int .i64 (k : Int) ∧ k ≤ n1 ∧ q = n1 - k ∧ s3 = .int .i64 ((topI 0 (is.take k) : Nat) : Int) ∧ Hid (TLr v (.slice A1 n1 c1) is ∧ PL v B (.slice A2 n2 c2) ps ∧ Below w.heap.size w v ∧ v.heap[q0]? = some (.cells #[.slice A1 n1 c1, .slice A2 n2 c2] 65 (0, 0))))
 case atStart => exact ⟨0, rfl, by omega, rfl, rfl, Lib.hid ⟨HS1.out.1, HS1.out.2.1, HS1.out.2.2, HB1.out⟩⟩
 case round =>
  obtain ⟨k, rfl, hk, rfl, rfl, HS⟩ := hrel
  generalize wr = v at *
  clear HS1 HB1 x0
  obtain ⟨T, hT⟩ : ∃ T, topI 0 (is.take k) = T := ⟨_, rfl⟩
  have HT := Lib.hid hT
  rw [hT]
  clear hT
  by_cases hlt : k < n1
  ·have t1 : (k : Int) < (n1 : Int) := by omega
   obtain ⟨z, hz⟩ : ∃ z, is[k]? = some z := ⟨_, List.getElem?_eq_getElem (by rw [HN1.out]; exact hlt)⟩
   obtain ⟨b, c', Az, cz, hv, hbl, z0, z1, z2, z3, hdz⟩ := HS.out.1.at hz
   rw [HN1.out] at hv
   cases hv
   have HFX : Hid (topI 0 (is.take (k + 1)) = max T z.2.g) := Lib.hid (by rw [← HT.out]; exact foldl_take hz)
   obtain ⟨Q, hQ⟩ : ∃ Q, v.heap.size = Q := ⟨_, rfl⟩
   obtain ⟨w4, hw4⟩ : ∃ w4, v.alloc (.cells #[.int .i64 (z.1 : Int), .int .i64 (z.2.s : Int), .int .i64 (z.2.g : Int), .slice Az 128 cz] 112) = w4 := ⟨_, rfl⟩
   have B4 : Below v.heap.size v w4 := by rw [← hw4]; exact (Below.refl _ _).alloc (Nat.le_refl _) _
   have y2 : w4.cell? ⟨Q, 2, none⟩ = some (.int .i64 (z.2.g : Int)) := by rw [← hw4, ← hQ, cell_of_block (alloc_block _ _)]; rfl
   have HS4 : Hid (TLr w4 (.slice (some ⟨b, 0, none⟩) n1 c1) is ∧ PL w4 B (.slice A2 n2 c2) ps ∧ Below w.heap.size w w4 ∧ w4.heap[q0]? = some (.cells #[.slice (some ⟨b, 0, none⟩) n1 c1, .slice A2 n2 c2] 65 (0, 0))) := Lib.hid ⟨HS.out.1.below B4, HS.out.2.1.below B4, HS.out.2.2.1.trans (B4.mono HS.out.2.2.1.size), (B4.block q0 (heap_lt HS.out.2.2.2)).trans HS.out.2.2.2⟩
   obtain ⟨zg, hzg⟩ : ∃ zg, z.2.g = zg := ⟨_, rfl⟩
   have HQ := Lib.hid hQ
   have HV4 := Lib.hid hw4
   rw [hzg] at z2 y2 HV4 HFX
   clear hz hdz hQ hw4 B4 hzg HS
   go_upto_region 5 with fail
   rw [HV4.out, HQ.out]
   clear HV4 HQ z0 z1 z2 z3
   by_cases hmx : T < zg
   ·go_wp2_with fail
    go_roundg (n1 - (k + 1))
    case measure => omega
    case rel => exact ⟨k + 1, by go_num, by omega, rfl, by rw [HFX.out, Nat.max_eq_right (Nat.le_of_lt hmx)], HS4⟩
   ·go_wp2_with fail
    go_roundg (n1 - (k + 1))
    case measure => omega
    case rel => exact ⟨k + 1, by go_num, by omega, rfl, by rw [HFX.out, Nat.max_eq_left (Nat.not_lt.1 hmx)], HS4⟩
  ·obtain rfl : k = n1 := by omega
   have HTI : Hid (topI 0 is = T) := Lib.hid (by rw [← HT.out, List.take_of_length_le (Nat.le_of_eq HN1.out)])
   have x1 : v.cell? ⟨q0, 1, none⟩ = some (.slice A2 n2 c2) := cell_of_block HS.out.2.2.2
   have HS5 := Lib.hid (And.intro HS.out.2.1 (And.intro HS.out.2.2.1 HS.out.2.2.2))
   clear HT HS hlt
   go_wp2_with fail
   go_loopg [3, 24] n2 (fun q s3 s24 u => ∃ j : Nat, s24 = .int .i64 (j : Int) ∧ j ≤ n2 ∧ q = n2 - j ∧ s3 = .int .i64 ((genP ps T (ps.take j) : Nat) : Int) ∧ Hid (PL u B (.slice A2 n2 c2) ps ∧ Below w.heap.size w u ∧ u.heap[q0]? = some (.cells #[.slice A1 k c1, .slice A2 n2 c2] 65 (0, 0))))
   case atStart => exact ⟨0, rfl, by omega, rfl, rfl, HS5⟩
   case round =>
    obtain ⟨j, rfl, hj, rfl, rfl, HS⟩ := hrel
    generalize wr = u at *
    clear HS5 x1
    obtain ⟨S, hS⟩ : ∃ S, genP ps T (ps.take j) = S := ⟨_, rfl⟩
    have HSS := Lib.hid hS
    rw [hS]
    clear hS
    by_cases hjt : j < n2
    ·have t1 : (j : Int) < (n2 : Int) := by omega
     obtain ⟨z, hz⟩ : ∃ z, ps[j]? = some z := ⟨_, List.getElem?_eq_getElem (by rw [HN2.out]; exact hjt)⟩
     obtain ⟨b, c', Az, cz, hv, _, hbl, z0, z1, z2, z3, hdz⟩ := HS.out.1.at hz
     rw [HN2.out] at hv
     cases hv
     rw [Nat.mul_comm] at z0 z1 z2 z3
     have HFX : Hid (genP ps T (ps.take (j + 1)) = genS ps S z) := Lib.hid (by rw [← HSS.out]; exact foldl_take hz)
     obtain ⟨Q, hQ⟩ : ∃ Q, u.heap.size = Q := ⟨_, rfl⟩
     obtain ⟨w4, hw4⟩ : ∃ w4, u.alloc (.cells #[.int .i64 (z.s : Int), .int .i64 (z.g : Int), .int .i64 (z.i : Int), .slice Az 32 cz] 162) = w4 := ⟨_, rfl⟩
     have B4 : Below u.heap.size u w4 := by rw [← hw4]; exact (Below.refl _ _).alloc (Nat.le_refl _) _
     have y1 : w4.cell? ⟨Q, 1, none⟩ = some (.int .i64 (z.g : Int)) := by rw [← hw4, ← hQ, cell_of_block (alloc_block _ _)]; rfl
     have HS4 : Hid (PL w4 B (.slice (some ⟨b, 0, none⟩) n2 c2) ps ∧ Below w.heap.size w w4 ∧ w4.heap[q0]? = some (.cells #[.slice A1 k c1, .slice (some ⟨b, 0, none⟩) n2 c2] 65 (0, 0))) := Lib.hid ⟨HS.out.1.below B4, HS.out.2.1.trans (B4.mono HS.out.2.1.size), (B4.block q0 (heap_lt HS.out.2.2)).trans HS.out.2.2⟩
     have x0 : w4.cell? ⟨q0, 0, none⟩ = some (.slice A1 k c1) := cell_of_block HS4.out.2.2
     have x1 : w4.cell? ⟨q0, 1, none⟩ = some (.slice (some ⟨b, 0, none⟩) n2 c2) := cell_of_block HS4.out.2.2
     obtain ⟨zg, hzg⟩ : ∃ zg, z.g = zg := ⟨_, rfl⟩
     have HZG := Lib.hid hzg
     have HQ := Lib.hid hQ
     have HV4 := Lib.hid hw4
     rw [hzg] at z1 y1 HV4
     have HCH := Lib.hid (o_chunks (va := .slice A1 k c1) HN2.out hm2 HS4.out.1 H6.out zg)
     clear hz hdz hQ hw4 B4 hzg HS
     go_upto_region 10 with fail
     rw [HV4.out, HQ.out]
     clear HV4 HQ z0 z1 z2 z3
     by_cases hmx : S < zg
     ·have hmx' : (S : Int) < (zg : Int) := by omega
      go_wp2_with fail
      refine HCH.out.mono ?_
      rintro en w5 ⟨gb, rfl, K5, b5, _⟩
      try dsimp only
      have HK5 := Lib.hid K5
      have HS5 : Hid (PL w5 B (.slice (some ⟨b, 0, none⟩) n2 c2) ps ∧ Below w.heap.size w w5 ∧ w5.heap[q0]? = some (.cells #[.slice A1 k c1, .slice (some ⟨b, 0, none⟩) n2 c2] 65 (0, 0))) := Lib.hid ⟨HS4.out.1.below b5, HS4.out.2.1.trans (b5.mono HS4.out.2.1.size), (b5.block q0 (heap_lt HS4.out.2.2)).trans HS4.out.2.2⟩
      have y15 := (b5.cell (p := ⟨Q, 1, none⟩) (cell?_lt y1)).trans y1
      clear K5 b5 HCH HS4 x0 x1 y1
      go_wp2_with fail
      refine (o_count HK5.out).mono ?_
      rintro en w' ⟨rfl, hw⟩
      obtain rfl := hw.symm
      try dsimp only
      obtain ⟨C, hC⟩ : ∃ C, cntF (chF ps zg) = C := ⟨_, rfl⟩
      have HCC := Lib.hid hC
      rw [hC]
      clear hC HK5
      by_cases h4 : 4 ≤ C
      ·have h4' : (4 : Int) ≤ (C : Int) := by omega
       have HG : Hid (genP ps T (ps.take (j + 1)) = zg) := Lib.hid (by
        rw [HFX.out]
        unfold genS
        rw [HZG.out, HCC.out, if_pos ⟨hmx, h4⟩])
       go_wp2_with fail
       go_roundg (n2 - (j + 1))
       case measure => omega
       case rel => exact ⟨j + 1, by go_num, by omega, rfl, by rw [HG.out], HS5⟩
      ·have h4' : ¬ (4 : Int) ≤ (C : Int) := by omega
       have HG : Hid (genP ps T (ps.take (j + 1)) = S) := Lib.hid (by
        rw [HFX.out]
        unfold genS
        rw [HZG.out, HCC.out, if_neg (fun h => h4 h.2)])
       go_wp2_with fail
       go_roundg (n2 - (j + 1))
       case measure => omega
       case rel => exact ⟨j + 1, by go_num, by omega, rfl, by rw [HG.out], HS5⟩
     ·have hmx' : ¬ (S : Int) < (zg : Int) := by omega
      have HG : Hid (genP ps T (ps.take (j + 1)) = S) := Lib.hid (by
       rw [HFX.out]
       unfold genS
       rw [HZG.out, if_neg (fun h => hmx h.1)])
      go_wp2_with fail
      go_roundg (n2 - (j + 1))
      case measure => omega
      case rel => exact ⟨j + 1, by go_num, by omega, rfl, by rw [HG.out], HS4⟩
    ·obtain rfl : j = n2 := by omega
     have HR : Hid (genF is ps = S) := Lib.hid (by
      unfold genF
      rw [HTI.out, ← HSS.out, List.take_of_length_le (Nat.le_of_eq HN2.out)])
     clear HSS hjt
     go_wp2_with fail
     go_ret
     exact ⟨by rw [HR.out]; rfl, HS.out.2.1⟩
end Go.Proofs.YtobkmohoepgfmaaGreatDoor
namespace Go.Proofs.YtobkmohoepgfmaaGreatDoor
open Go.RowKit Go.Sort
set_option maxRecDepth 100000
set_option maxHeartbeats 8000000

theorem append_pcG (w : World) {ops : Array Oper} {rest : List Oper} {o : Oper} {a : Act} {Q : Exit → Act → World → Prop} (hgd : o.guard = none) (s x : Operand)
  (ho : o.op = .call { callee := .builtin .append, args := #[s, x], argTypes := #[63, 63] })
  (base : Nat) (v : Value) (l : List Pc) (p : Pc) (hs : a.eval s = v) (hl : LP w base v l) (g : Nat) (A : Option Addr) (c : Nat) (hx : a.eval x = .slice (some ⟨g, 0, none⟩) 1 1)
  (hp : PV w g (p.s : Int) (p.g : Int) (p.i : Int) A 32 c) (hd : Dat w A p.D) (hn : l.length ≤ 1000000) (hbase : base ≤ w.heap.size)
  (h : ∀ v' w' r, LP w' base v' (l ++ [p]) → w.grownBy w' r → (∀ j, r = some j → base ≤ j ∧ ∃ cs, w.heap[j]? = some (.cells cs 162 (0, 0))) → r = v.ownBlock → (∀ q, v'.ownBlock = some q → r = some q ∨ q = w.heap.size) → wpList Tryz.prog ops Q rest (a.put o.dst v') w') : wpList Tryz.prog ops Q (o :: rest) a w := by
 obtain ⟨i0, hi0, hz0, hz1, hz2⟩ := info_parts infoPiece
 obtain ⟨xs, hown, hxs⟩ := hl
 have hlen : xs.length = l.length * 4 := hown.1
 refine wpList_append_lies w hgd s x 63 ho base 162 i0 (.agg #[.int .i64 0, .int .i64 0, .int .i64 0, .slice none 0 0]) 4 48 Tryz.underlying63 hi0 hz0 hz1 hz2 rfl (by decide) v l.length xs hs hown ⟨g, 0, none⟩ 1 1 [.int .i64 (p.s : Int), .int .i64 (p.g : Int), .int .i64 (p.i : Int), .slice A 32 c] hx rfl (fun j u hj => ?_) (fun u hu => ?_) (by omega) (by unfold maxLen; omega) (by omega) hbase w.heap.size rfl (fun g' cap w' h2 h3 h4 h5 => ?_)
 ·match j, hj with
  | 0, hj => simp at hj; subst hj; exact hp.c0
  | 1, hj => simp at hj; subst hj; exact hp.c1
  | 2, hj => simp at hj; subst hj; exact hp.c2
  | 3, hj => simp at hj; subst hj; exact hp.c3
 ·simp at hu; rcases hu with rfl | rfl | rfl | rfl <;> rfl
 ·have hbytes : ∀ (g : Nat) (cs : Array Value), w.heap[g]? = some (Obj.cells cs 5 (0, 0)) → w'.heap[g]? = w.heap[g]? := fun k cs hk => h3.block k (heap_lt hk) (by
   intro e
   rcases hown.2 with ⟨rfl, _⟩ | ⟨g1, cap1, cur, rfl, _, hh, _⟩
   ·simp [Value.ownBlock] at e
   ·simp [Value.ownBlock] at e; subst e; rw [hh] at hk; cases hk)
  have hty : ∀ (k : Nat), v.ownBlock = some k → base ≤ k ∧ ∃ cs, w.heap[k]? = some (.cells cs 162 (0, 0)) := by
   intro k hk
   rcases hown.2 with ⟨rfl, _⟩ | ⟨g1, cap1, cur, rfl, hb1, hh, _⟩
   ·cases hk
   ·cases hk; exact ⟨hb1, cur, hh⟩
  refine h _ w' v.ownBlock ⟨_, by simpa using h2, fun i q hi => ?_⟩ h3 hty rfl (fun q hq => by
   have hq2 : g' = q := by simpa [Value.ownBlock] using hq
   subst hq2
   exact h4)
  by_cases hil : i < l.length
  ·rw [List.getElem?_append_left hil] at hi
   refine ((hxs i q hi).keep hbytes).congr (fun k hk => ?_)
   show (xs ++ _)[4 * i + k]? = xs[4 * i + k]?
   rw [List.getElem?_append_left (by omega)]
  ·rw [List.getElem?_append_right (by omega)] at hi
   have hi0 : i = l.length := by
    have := (List.getElem?_eq_some_iff.1 hi).1
    simp at this
    omega
   subst hi0
   simp at hi
   subst hi
   have e : ∀ k, (xs ++ [Value.int .i64 (p.s : Int), .int .i64 (p.g : Int), .int .i64 (p.i : Int), .slice A 32 c])[4 * l.length + k]? = [Value.int .i64 (p.s : Int), .int .i64 (p.g : Int), .int .i64 (p.i : Int), .slice A 32 c][k]? := fun k => by
    rw [List.getElem?_append_right (by omega), show 4 * l.length + k - xs.length = k by omega]
   exact ⟨A, c, e 0, e 1, e 2, e 3, hd.keep hbytes⟩
theorem piece_notW : ¬ WiT 162 := notWi (by decide) (by decide) (by decide) (by decide) (by decide) (by decide) (by decide)
theorem LP.keepW {w w' : World} {B : Nat} {v : Value} {l : List Pc} (h : LP w B v l) (k : KeepW w w') : LP w' B v l := by
 obtain ⟨xs, ⟨h1, h2⟩, h3⟩ := h
 refine ⟨xs, ⟨h1, ?_⟩, fun i p hi => (h3 i p hi).keep (fun g _ hg => k.cells hg u8_notW)⟩
 rcases h2 with h2 | ⟨g, cap, cur, hv, hg, hh, r⟩
 ·exact Or.inl h2
 ·exact Or.inr ⟨g, cap, cur, hv, hg, (k.cells hh piece_notW).trans hh, r⟩
theorem PL.app {w w' : World} {B n c : Nat} {A1 : Option Addr} {L : List Pc} {r : Option Nat} (h : PL w B (.slice A1 n c) L) (gr : w.grownBy w' r) (hr : ∀ j, r = some j → ∃ cs, w.heap[j]? = some (Obj.cells cs 162 (0, 0))) (hne : L ≠ [] → ∀ b, A1 = some ⟨b, 0, none⟩ → r ≠ some b) : PL w' B (.slice A1 n c) L := by
 rcases h with h | ⟨b, c', cur, hv, hb, hh, hx⟩
 ·exact Or.inl h
 ·injection hv with e1 e2 e3
  by_cases hL : L = []
  ·subst hL
   refine Or.inl ⟨rfl, A1, c, ?_⟩
   rw [e2]
   rfl
  ·refine Or.inr ⟨b, c', cur, by rw [e1, e2, e3], hb, (gr.block b (heap_lt hh) (fun e => hne hL b e1 e.symm)).trans hh, fun i p hi => (hx i p hi).keep (fun g cs hg => gr.block g (heap_lt hg) (fun e => ?_))⟩
   obtain ⟨cs', hc⟩ := hr g e.symm
   rw [hg] at hc
   injection hc with hc
   injection hc with _ hc
   exact absurd hc (by decide)
theorem LP.form {w : World} {B : Nat} {v : Value} {l : List Pc} (h : LP w B v l) : ∃ A c, v = .slice A l.length c := h.pl.form
def gatN (s : Wp) (st : Nat) : Nat → Wp × Option (Nat × Nat) × List Pc
 | 0 => (s, none, [])
 | m + 1 => match gatN s st m with
  | (s1, some e, l) => (s1, some e, l)
  | (s1, none, l) => match s1.call (nodeN st m) (qGt st) with
   | (s2, .err c) => (s2, some (nodeN st m, c), l)
   | (s2, .ok y) => (s2, none, l ++ y.2.ps.filter (fun p => decide (p.i = m)))
theorem gatN_err {s s1 s2 : Wp} {st m c : Nat} {l : List Pc} (h : gatN s st m = (s1, none, l)) (hc : s1.call (nodeN st m) (qGt st) = (s2, .err c)) : gatN s st (m + 1) = (s2, some (nodeN st m, c), l) := by
 simp only [gatN, h, hc]
theorem gatN_ok {s s1 s2 : Wp} {st m : Nat} {y : Ns × Rp} {l : List Pc} (h : gatN s st m = (s1, none, l)) (hc : s1.call (nodeN st m) (qGt st) = (s2, .ok y)) : gatN s st (m + 1) = (s2, none, l ++ y.2.ps.filter (fun p => decide (p.i = m))) := by
 simp only [gatN, h, hc]
theorem gatN_stay {s s1 : Wp} {st m : Nat} {e : Nat × Nat} {l : List Pc} (h : gatN s st m = (s1, some e, l)) : ∀ k, gatN s st (m + k) = (s1, some e, l)
 | 0 => h
 | k + 1 => by
  have ih := gatN_stay h k
  rw [show m + (k + 1) = (m + k) + 1 from rfl]
  simp only [gatN, ih]
theorem gatN_few (s : Wp) {st : Nat} (hst : st < 40) : ∀ m, (gatN s st m).2.2.length ≤ 2 * m ∧ ∀ p ∈ (gatN s st m).2.2, p.i < m
 | 0 => ⟨Nat.le_refl _, fun p hp => by cases hp⟩
 | m + 1 => by
  obtain ⟨h1, h2⟩ := gatN_few s hst m
  obtain ⟨s1, o, l, hx⟩ : ∃ s1 o l, gatN s st m = (s1, o, l) := ⟨_, _, _, rfl⟩
  rw [hx] at h1 h2
  dsimp only at h1 h2
  cases o with
  | some e =>
   rw [show gatN s st (m + 1) = (s1, some e, l) from gatN_stay hx 1]
   exact ⟨by dsimp only; omega, fun p hp => by have := h2 p hp; omega⟩
  | none =>
   obtain ⟨s2, a, hc⟩ : ∃ s2 a, s1.call (nodeN st m) (qGt st) = (s2, a) := ⟨_, _, rfl⟩
   cases a with
   | err c =>
    rw [gatN_err hx hc]
    exact ⟨by dsimp only; omega, fun p hp => by have := h2 p hp; omega⟩
   | ok y =>
    rw [gatN_ok hx hc]
    dsimp only
    have h3 := Wp.ps_le hst hc
    refine ⟨?_, fun p hp => ?_⟩
    ·have h4 := List.length_filter_le (fun p : Pc => decide (p.i = m)) y.2.ps
     rw [List.length_append]
     omega
    ·rcases List.mem_append.1 hp with hp | hp
     ·have := h2 p hp; omega
     ·have := (List.mem_filter.1 hp).2
      have : p.i = m := of_decide_eq_true this
      omega
theorem gatN_fit {s : Wp} {m0 st : Nat} (h : s.Fit m0) : ∀ m, (gatN s st m).1.Fit (m0 + 3 * m)
 | 0 => h
 | m + 1 => by
  have ih := gatN_fit (st := st) h m
  obtain ⟨s1, o, l, hx⟩ : ∃ s1 o l, gatN s st m = (s1, o, l) := ⟨_, _, _, rfl⟩
  rw [hx] at ih
  dsimp only at ih
  cases o with
  | some e =>
   rw [show gatN s st (m + 1) = (s1, some e, l) from gatN_stay hx 1]
   exact ih.mono (by omega)
  | none =>
   obtain ⟨s2, a, hc⟩ : ∃ s2 a, s1.call (nodeN st m) (qGt st) = (s2, a) := ⟨_, _, rfl⟩
   have h4 := ih.cal (n := nodeN st m) (q := qGt st) (by unfold nodeN; omega) (none_lt rfl)
   rw [hc] at h4
   cases a with
   | err c => rw [gatN_err hx hc]; exact h4
   | ok y => rw [gatN_ok hx hc]; exact h4
end Go.Proofs.YtobkmohoepgfmaaGreatDoor
