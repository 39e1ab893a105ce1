import Derived.Test.YtobkmohoepgfmaaGreatDoorV31
import Derived.Test.YtobkmohoepgfmaaGreatDoorV24
import Derived.Deep.RegionHeldLaw
import Derived.Deep.CutRange
import Derived.Test.YtobkmohoepgfmaaGreatDoorV04
import Derived.Test.YtobkmohoepgfmaaGreatDoorV03
namespace Go.Proofs.YtobkmohoepgfmaaGreatDoor
open Go.RowKit Go.Sort
set_option maxRecDepth 100000
set_option maxHeartbeats 2000000

theorem Wp.its_ok {s s' : Wp} {m n : Nat} {y : Ns × Rp} (h : s.Ok m) (hn : n < 8) (e : s.call n qIn = (s', .ok y)) : ∀ x ∈ y.2.its, x.Ok := by
 obtain ⟨a, h1, h2, _⟩ := Wp.tries_some (P := Ns.Ok) (fun a ha => (ha.act (q := qIn) (none_lt rfl)).1) (fun a ha => (ha.crash []).1) 3 s (h.ok n hn) e
 rw [h2, Ns.act_in]
 intro x hx
 obtain ⟨⟨k, x'⟩, hm, rfl⟩ := List.mem_map.1 hx
 obtain ⟨j, hj, e2⟩ := colR_mem.1 ((liveT_perm a.R).mem_iff.1 hm)
 exact (h1.rs j k _ hj e2).2.2
def KV (w : World) (b : Nat) (gn nx : Int) (db : Bool) (u : Value) : Prop := w.heap[b]? = some (.cells #[.int .i64 gn, .int .i64 nx, .bool db, u] 67 (0, 0))
section
variable {w w' : World} {b : Nat} {gn nx : Int} {db : Bool} {u : Value}
theorem KV.c0 (h : KV w b gn nx db u) : w.cell? ⟨b, 0, none⟩ = some (.int .i64 gn) := cell_of_block h
theorem KV.c1 (h : KV w b gn nx db u) : w.cell? ⟨b, 1, none⟩ = some (.int .i64 nx) := cell_of_block h
theorem KV.c2 (h : KV w b gn nx db u) : w.cell? ⟨b, 2, none⟩ = some (.bool db) := cell_of_block h
theorem KV.c3 (h : KV w b gn nx db u) : w.cell? ⟨b, 3, none⟩ = some u := cell_of_block h
theorem KV.f (h : KV w b gn nx db u) (k : Nat) : w.frozen? ⟨b, k, none⟩ = false := free_of_block h
theorem KV.keepF (h : KV w b gn nx db u) (k : KeepF w w') : KV w' b gn nx db u := (k.cells h (notWi (by decide) (by decide) (by decide) (by decide) (by decide) (by decide) (by decide)) (by decide)).trans h
theorem KV.below (h : KV w b gn nx db u) (k : Below w.heap.size w w') : KV w' b gn nx db u := (k.block b (heap_lt h)).trans h
theorem KV.of_new {H : Nat} (hH : w.heap.size = H) : KV (w.alloc (.cells #[.int .i64 gn, .int .i64 nx, .bool db, u] 67)) H gn nx db u := by subst hH; exact alloc_block w _
theorem KV.put4 (h : KV w b gn nx db u) {gn' nx' : Int} {db' : Bool} {u' : Value} : KV (set4 w b (.int .i64 gn') (.int .i64 nx') (.bool db') u') b gn' nx' db' u' := by
 have h1 := set_block (set_block (set_block (set_block (show w.heap[b]? = _ from h) 0 (.int .i64 gn')) 1 (.int .i64 nx')) 2 (.bool db')) 3 u'
 exact h1
end
theorem cy_pending (gn nx : Int) (db : Bool) (A : Option Addr) (l c : Nat) (w : World) : Calls Tryz.prog 31 #[.agg #[.int .i64 gn, .int .i64 nx, .bool db, .slice A l c]] w fun en w' => en = .returned (.bool (decide (0 < l))) ∧ Below w.heap.size w w' := by
 by_cases h : 0 < l
 ·have h1 : (0 : Int) < (l : Int) := by omega
  rw [decide_eq_true h]
  go_enter Tryz.func31, Tryz.ntmps31
  go_wp2_with fail
  go_ret
  exact ⟨rfl, by first | exact Below.refl _ _ | exact (Below.refl _ _).alloc (Nat.le_refl _) _⟩
 ·obtain rfl : l = 0 := by omega
  go_enter Tryz.func31, Tryz.ntmps31
  go_wp2_with fail
  go_ret
  exact ⟨rfl, by first | exact Below.refl _ _ | exact (Below.refl _ _).alloc (Nat.le_refl _) _⟩
section
variable {w0 v : World} {g cb : Nat} {nd : ND} {e : Ep} {A C c f o cap : Nat} {B : Nat → Value} {s : Wp}
theorem CM.bl (h : CM w0 v g cb nd e A C c f o cap B) {i : Nat} (hi : i < 40) : ∃ P l k, B i = .slice P l k ∧ decide (0 < l) = (e.pend i).isSome := by
 rcases h.pb i hi with ⟨h1, h2⟩ | ⟨D, b, cap, h1, h2, _⟩
 ·exact ⟨_, _, _, h2, by rw [h1]; rfl⟩
 ·exact ⟨_, _, _, h2, by rw [h1]; rfl⟩
theorem CM.known (h : CM w0 v g cb nd e A C c f o cap B) {i : Nat} (hi : i < 40) : v.cell? ⟨cb, 1 + i * 4, none⟩ = some (.int .i64 (e.gen i : Int)) ∧ v.cell? ⟨cb, 1 + i * 4 + 1, none⟩ = some (.int .i64 (e.next i : Int)) ∧ v.cell? ⟨cb, 1 + i * 4 + 2, none⟩ = some (.bool (e.doubt i)) ∧ v.cell? ⟨cb, 1 + i * 4 + 3, none⟩ = some (B i) := by
 refine ⟨?_, ?_, ?_, ?_⟩
 ·rw [show 1 + i * 4 = 1 + 4 * i by omega]; exact h.cg hi
 ·rw [show 1 + i * 4 + 1 = 2 + 4 * i by omega]; exact h.cn hi
 ·rw [show 1 + i * 4 + 2 = 3 + 4 * i by omega]; exact h.cd hi
 ·rw [show 1 + i * 4 + 3 = 4 + 4 * i by omega]; exact h.cy hi
theorem cy_spent (h : CM w0 v g cb nd e A C c f o cap B) (x : It) (hx : x.s < 40) (P : Option Addr) (k : Nat) :
  Calls Tryz.prog 166 #[.pointer (some ⟨cb, 0, none⟩), .agg #[.int .i64 (x.s : Int), .int .i64 (x.g : Int), .slice P 128 k]] v fun en w' => en = .returned (.bool (e.rel x)) ∧ Below v.heap.size v w' := by
 obtain ⟨Q, l, j, hB, hl⟩ := h.bl hx
 obtain ⟨st, hst⟩ : ∃ st, x.s = st := ⟨_, rfl⟩
 rw [hst] at hx hB hl ⊢
 have hx1 : (st : Int) < 40 := by omega
 obtain ⟨gg, hgg⟩ : ∃ gg : Nat, e.gen st = gg := ⟨_, rfl⟩
 obtain ⟨nx, hnx⟩ : ∃ nx : Nat, e.next st = nx := ⟨_, rfl⟩
 obtain ⟨db, hdb⟩ : ∃ db : Bool, e.doubt st = db := ⟨_, rfl⟩
 obtain ⟨xg, hxg⟩ : ∃ xg : Nat, x.g = xg := ⟨_, rfl⟩
 obtain ⟨H, hH⟩ : ∃ H, v.heap.size = H := ⟨_, rfl⟩
 have HH := Lib.hid hH
 obtain ⟨v1, hv1⟩ : ∃ v1, v.alloc (.cells #[.int .i64 (st : Int), .int .i64 (xg : Int), .slice P 128 k] 109) = v1 := ⟨_, rfl⟩
 have B0 : Below v.heap.size v v1 := by rw [← hv1]; exact (Below.refl _ _).alloc (Nat.le_refl _) _
 have p1 : IV v1 H (st : Int) (xg : Int) P 128 k := by rw [← hv1]; exact IV.of_new hH
 have HB0 := Lib.hid B0
 have HP1 := Lib.hid p1
 have HSK : Hid (∀ W, Below v1.heap.size v1 W → W.cell? ⟨H, 0, none⟩ = some (.int .i64 (st : Int)) ∧ W.cell? ⟨cb, 1 + st * 4, none⟩ = some (.int .i64 (gg : Int)) ∧ W.cell? ⟨cb, 1 + st * 4 + 1, none⟩ = some (.int .i64 (nx : Int)) ∧ W.cell? ⟨cb, 1 + st * 4 + 2, none⟩ = some (.bool db) ∧ W.cell? ⟨cb, 1 + st * 4 + 3, none⟩ = some (.slice Q l j)) := Lib.hid (fun W hW => by
  obtain ⟨a1, a2, a3, a4⟩ := ((h.below B0).below hW).known hx
  rw [hgg] at a1
  rw [hnx] at a2
  rw [hdb] at a3
  rw [hB] at a4
  exact ⟨(p1.below hW).c0, a1, a2, a3, a4⟩)
 have BD : Hid (Below v1.heap.size v1 v1.drew) := Lib.hid (below_drewN 1 v1)
 have BA : Hid (∀ o, Below v1.heap.size v1 (v1.alloc o).drew) := Lib.hid (fun o => ((Below.refl _ _).alloc (Nat.le_refl _) o).drew)
 have BE : Hid (∀ o, Below v1.heap.size v1 (v1.alloc o)) := Lib.hid (fun o => (Below.refl _ _).alloc (Nat.le_refl _) o)
 have BS : Hid (∀ o x0 x1 x2 x3, Below v1.heap.size v1 (set4 (v1.alloc o).drew v1.heap.size x0 x1 x2 x3)) := Lib.hid (fun o _ _ _ _ => (((((Below.refl _ _).alloc (Nat.le_refl _) o).drew.setCell (Nat.le_refl _) _).setCell (Nat.le_refl _) _).setCell (Nat.le_refl _) _).setCell (Nat.le_refl _) _)
 have HR : Hid (e.rel x = (decide (xg < gg) || (decide (xg = gg) && !decide (0 < l)))) := Lib.hid (by
  unfold Ep.rel
  rw [hst, hgg, hxg, hl]
  by_cases h1 : xg < gg
  ·simp [h1, Nat.le_of_lt h1, Nat.ne_of_lt h1]
  ·by_cases h2 : xg = gg
   ·subst h2; simp
   ·have : ¬ xg ≤ gg := by omega
    simp [h1, h2, this])
 rw [hxg]
 have HP := Lib.hid (fun w => cy_pending (gg : Int) (nx : Int) db Q l j w)
 obtain ⟨r, hr⟩ : ∃ r, e.rel x = r := ⟨_, rfl⟩
 rw [hr] at HR ⊢
 have HV1 := Lib.hid hv1
 clear hB hl hst hgg hnx hdb hxg h hr p1 B0 hv1 hH
 go_enter Tryz.func166, Tryz.ntmps166
 go_upto_region 1 with fail
 rw [HV1.out, HH.out]
 go_cut [5] from 6 to 12 (fun s5 wx => ∃ b, s5 = .pointer (some ⟨b, 0, none⟩) ∧ Hid (Below v1.heap.size v1 wx ∧ KV wx b (gg : Int) (nx : Int) db (.slice Q l j)))
 case first =>
  go_region_held_law (fun W => W.cell? ⟨H, 0, none⟩ = some (.int .i64 (st : Int)) ∧ W.cell? ⟨cb, 1 + st * 4, none⟩ = some (.int .i64 (gg : Int)) ∧ W.cell? ⟨cb, 1 + st * 4 + 1, none⟩ = some (.int .i64 (nx : Int)) ∧ W.cell? ⟨cb, 1 + st * 4 + 2, none⟩ = some (.bool db) ∧ W.cell? ⟨cb, 1 + st * 4 + 3, none⟩ = some (.slice Q l j))
   (first | (with_reducible assumption) | (with_reducible exact HSK.out _ BD.out) | (with_reducible exact HSK.out _ (BA.out _)) | (with_reducible exact HSK.out _ (BE.out _)) | (with_reducible exact HSK.out _ (BS.out _ _ _ _ _)))
   (fail)
  all_goals
   go_wp2_with fail
   go_meet
   first
    | (with_reducible exact ⟨_, rfl, Lib.hid ⟨BA.out _, (KV.of_new rfl).below (below_drewN 1 _)⟩⟩)
    | (with_reducible exact ⟨_, rfl, Lib.hid ⟨BS.out _ _ _ _ _, ((KV.of_new rfl).below (below_drewN 1 _)).put4⟩⟩)
 case rest =>
  obtain ⟨b, rfl, HC⟩ := hcut
  have z0 := (HP1.out.below HC.out.1).c1
  have HBW : Hid (Below v.heap.size v wc) := Lib.hid (HB0.out.trans (HC.out.1.mono HB0.out.size))
  have y0 := HC.out.2.c0
  have y1 := HC.out.2.c1
  have y2 := HC.out.2.c2
  have y3 := HC.out.2.c3
  by_cases h1 : xg < gg
  ·have h1' : (xg : Int) < (gg : Int) := by omega
   obtain rfl : r = true := HR.out.trans (by simp [h1])
   go_wp2_with fail
   go_ret
   exact ⟨rfl, HBW.out⟩
  ·have h1' : ¬ (xg : Int) < (gg : Int) := by omega
   by_cases h2 : xg = gg
   ·subst h2
    obtain rfl : r = !decide (0 < l) := HR.out.trans (by simp)
    go_wp2_with fail
    refine (HP.out _).mono ?_
    rintro en w1 ⟨rfl, hb1⟩
    try dsimp only
    have HB1 := Lib.hid hb1
    clear hb1
    go_wp2_with fail
    go_ret
    exact ⟨rfl, HBW.out.trans (HB1.out.mono HBW.out.size)⟩
   ·have h2' : ¬ (xg : Int) = (gg : Int) := by omega
    have h3' : ((xg : Int) == (gg : Int)) = false := by rw [beq_eq_false_iff_ne]; exact h2'
    obtain rfl : r = false := HR.out.trans (by simp [h1, h2])
    go_wp2_with fail
    go_ret
    exact ⟨rfl, HBW.out⟩
end
end Go.Proofs.YtobkmohoepgfmaaGreatDoor
namespace Go.Proofs.YtobkmohoepgfmaaGreatDoor
open Go.RowKit Go.Sort
set_option maxRecDepth 100000
set_option maxHeartbeats 4000000

theorem Wp.rels_snoc (s : Wp) (n : Nat) (l : List It) (x : It) : s.rels n (l ++ [x]) = ((s.rels n l).call n (qRl x.s x.g)).1 := by
 unfold Wp.rels
 rw [List.foldl_append]
 rfl
theorem take_filter {l : List It} {p : It → Bool} {i : Nat} {x : It} (h : l[i]? = some x) : (l.take (i + 1)).filter p = if p x = true then (l.take i).filter p ++ [x] else (l.take i).filter p := by
 rw [List.take_add_one, h, List.filter_append]
 by_cases e : p x = true
 ·rw [if_pos e]; simp [e]
 ·rw [if_neg e]; simp [e]
theorem IL.keepF {w w' : World} {B : Nat} {v : Value} {l : List It} (h : IL w B v l) (k : KeepF w w') : IL w' B v l :=
 h.keep (fun g cs t hg ht => k.cells hg (by rcases ht with rfl | rfl <;> exact notWi (by decide) (by decide) (by decide) (by decide) (by decide) (by decide) (by decide)) (by rcases ht with rfl | rfl <;> decide))
theorem It.okq {x : It} (h : x.Ok) : OkQ 6 (x.s : Int) (x.g : Int) 0 0 := by
 obtain ⟨h1, h2, h3, _⟩ := h
 unfold OkQ
 omega
theorem rels_fit {s : Wp} {m n : Nat} (hn : n < 8) {l : List It} (h : s.Fit m) (hl : l.length ≤ 16) : (s.rels n l).Fit (m + 48) := (Wp.Fit.rels hn l s m h).mono (by omega)
section
variable {w0 v : World} {g cb : Nat} {nd : ND} {e : Ep} {A C c f o cap : Nat} {B : Nat → Value} {s : Wp}
theorem cy_sweep (h1 : WL w0 v g nd s) (h2 : CM w0 v g cb nd e A C c f o cap B) {m : Nat} (hf : s.Fit m) (hm : m ≤ 999999800) {n : Nat} (hn : n < 8) :
  Calls Tryz.prog 135 #[.pointer (some ⟨cb, 0, none⟩), .int .i64 (n : Int)] v (WRet w0 v g nd (e.sweep s n) (.tuple #[])) := by
 have q1 := we_neqNil
 have q2 := we_neqNilNil
 have c0 := h2.c0
 have HW := Lib.hid h1
 have HM := Lib.hid h2
 have HC := Lib.hid (wl_call h1 hf.1 hf.2 (by omega) hn qIn none 0 DatN.none_ (fun _ hj => absurd hj (by show ¬ _ < 0; omega)) (by unfold OkQ qIn; dsimp only; omega))
 have HF1 := Lib.hid (hf.cal (q := qIn) hn (none_lt rfl))
 have HO := Lib.hid hf.1
 unfold qIn at HC
 obtain ⟨x, hx⟩ : ∃ x, e.sweep s n = x := ⟨_, rfl⟩
 have HX := Lib.hid hx
 rw [hx]
 obtain ⟨s1, a, hc⟩ : ∃ s1 a, s.call n qIn = (s1, a) := ⟨_, _, rfl⟩
 have hc' : s.call n ⟨5, 0, 0, 0, 0, fun _ => 0⟩ = (s1, a) := hc
 rw [hc'] at HC
 rw [hc] at HF1
 have HCC := Lib.hid hc
 clear h1 h2 hf hx hc hc'
 go_enter Tryz.func135, Tryz.ntmps135
 go_wp2_with fail
 refine HC.out.mono ?_
 intro en w1 hr
 cases a with
 | err c =>
  obtain ⟨b, rfl, W1, K1, _, ho⟩ := hr.err rfl
  try dsimp only
  have HZ := Lib.hid (And.intro W1 K1)
  have HY : Hid (x = s1) := Lib.hid (by rw [← HX.out]; unfold Ep.sweep; rw [HCC.out])
  clear hr W1 K1 ho
  go_wp2_with fail
  go_end0
  rw [HY.out]
  exact ⟨rfl, HZ.out.1.below ((Below.refl _ _).alloc (Nat.le_refl _) _), HZ.out.2.trans (KeepW.of ((Below.refl _ _).alloc (Nat.le_refl _) _))⟩
 | ok y =>
  obtain ⟨r, u, rfl, W1, K1, ⟨_, h, _⟩ | ⟨y', hy, rfl, A1, c1, A2, c2, rfl, hp, hi⟩⟩ := hr
  ·cases h
  ·cases hy
   try dsimp only
   obtain ⟨k0, hk0⟩ : ∃ k0 : Nat, y.2.code = k0 := ⟨_, rfl⟩
   obtain ⟨k1, hk1⟩ : ∃ k1 : Nat, y.1.boot = k1 := ⟨_, rfl⟩
   obtain ⟨l0, hl0⟩ : ∃ l0, y.2.ps.length = l0 := ⟨_, rfl⟩
   obtain ⟨L, hL⟩ : ∃ L, y.2.its = L := ⟨_, rfl⟩
   obtain ⟨l1, hl1⟩ : ∃ l1, L.length = l1 := ⟨_, rfl⟩
   have hok := Wp.its_ok HO.out hn HCC.out
   have hle := Wp.its_le HCC.out
   rw [hL] at hok hle hi
   have HL1 := Lib.hid hl1
   have HOK := Lib.hid (And.intro hok hle)
   have hle' : l1 ≤ 16 := by rw [← hl1]; exact hle
   have HI := Lib.hid hi.pl
   rw [hL, hl1, hk0, hk1, hl0]
   rw [hl1] at HI
   have HY : Hid (x = s1.rels n (L.filter e.rel)) := Lib.hid (by rw [← HX.out, ← hL]; unfold Ep.sweep; rw [HCC.out])
   have HZ := Lib.hid (And.intro W1 K1)
   clear hk0 hk1 hl0 hL hl1 hok hle hi hp W1 K1
   have HM1 := Lib.hid (HM.out.keep HW.out HZ.out.1 (KeepF.of HZ.out.2) rfl rfl rfl rfl)
   obtain ⟨P, hP⟩ : ∃ P, w1.heap.size = P := ⟨_, rfl⟩
   have HP := Lib.hid hP
   obtain ⟨w2, hw2⟩ : ∃ w2, w1.alloc (.cells #[.int .i64 (k0 : Int), .int .i64 (k1 : Int), .slice A1 l0 c1, .slice A2 l1 c2] 103) = w2 := ⟨_, rfl⟩
   have B2 : Below w1.heap.size w1 w2 := by rw [← hw2]; exact (Below.refl _ _).alloc (Nat.le_refl _) _
   have p2 : RV w2 P (k0 : Int) (k1 : Int) (.slice A1 l0 c1) (.slice A2 l1 c2) := by rw [← hw2]; exact RV.of_new hP
   have u3 := p2.c3
   have HV2 := Lib.hid hw2
   have HW2 := Lib.hid (HZ.out.1.below B2)
   have HK2 := Lib.hid (HZ.out.2.trans (KeepW.of B2))
   have HM2 := Lib.hid (HM1.out.below B2)
   have HI2 := Lib.hid (HI.out.below B2)
   clear hP hw2 B2 p2
   go_upto_region 1 with fail
   rw [HV2.out, HP.out]
   go_wp2_with fail
   go_loopg [23] l1 (fun k s23 wr => ∃ i : Nat, s23 = .int .i64 (i : Int) ∧ i ≤ l1 ∧ k = l1 - i ∧ Hid (WL w0 wr g nd (s1.rels n ((L.take i).filter e.rel)) ∧ KeepW w2 wr))
   case atStart => exact ⟨0, rfl, by omega, rfl, Lib.hid ⟨HW2.out, KeepW.refl _⟩⟩
   case round =>
    obtain ⟨i, rfl, hi, rfl, HS⟩ := hrel
    obtain ⟨wo, rfl⟩ : ∃ wo : World, wo = wr := ⟨wr, rfl⟩
    by_cases hlt : i < l1
    ·have hlt' : (i : Int) < (l1 : Int) := by omega
     obtain ⟨z, hz⟩ : ∃ z, L[i]? = some z := ⟨_, List.getElem?_eq_getElem (by rw [HL1.out]; exact hlt)⟩
     have hzo := HOK.out.1 z (List.mem_of_getElem? hz)
     have hzs := hzo.1
     obtain ⟨b, c', Az, cz, hv, _, hbl, z0, z1, z2, _⟩ := (HI2.out.keepF (KeepF.of HS.out.2)).at hz
     rw [HL1.out] at hv
     cases hv
     have HZQ := Lib.hid (It.okq hzo)
     have HZI := Lib.hid hz
     have HMo := Lib.hid (HM2.out.keep HW2.out HS.out.1 (KeepF.of HS.out.2) rfl rfl rfl rfl)
     obtain ⟨Q, hQ⟩ : ∃ Q, wo.heap.size = Q := ⟨_, rfl⟩
     have HQ := Lib.hid hQ
     obtain ⟨w4, hw4⟩ : ∃ w4, wo.alloc (.cells #[.int .i64 (z.s : Int), .int .i64 (z.g : Int), .slice Az 128 cz] 109) = w4 := ⟨_, rfl⟩
     have B4 : Below wo.heap.size wo w4 := by rw [← hw4]; exact (Below.refl _ _).alloc (Nat.le_refl _) _
     have p4 : IV w4 Q (z.s : Int) (z.g : Int) Az 128 cz := by rw [← hw4]; exact IV.of_new hQ
     have HV4 := Lib.hid hw4
     have HM4 := Lib.hid (HMo.out.below B4)
     have HW4 := Lib.hid (HS.out.1.below B4)
     have HK4 := Lib.hid (HS.out.2.trans (KeepW.of B4))
     have HSP := Lib.hid (cy_spent HM4.out z hzs Az cz)
     have HP4 := Lib.hid p4
     have y0 := p4.c0
     have y1 := p4.c1
     have y2 := p4.c2
     clear hQ hw4 B4 p4 hzo hz
     obtain ⟨zs, hzsE⟩ : ∃ zs, z.s = zs := ⟨_, rfl⟩
     obtain ⟨zg, hzgE⟩ : ∃ zg, z.g = zg := ⟨_, rfl⟩
     rw [hzsE] at z0 y0 HSP HV4 HZQ HP4
     rw [hzgE] at z1 y1 HSP HV4 HZQ HP4
     have HZE := Lib.hid (And.intro hzsE hzgE)
     clear hzsE hzgE
     obtain ⟨rb, hrb⟩ : ∃ rb, e.rel z = rb := ⟨_, rfl⟩
     rw [hrb] at HSP
     have HRB := Lib.hid hrb
     clear hrb
     go_upto_region 5 with fail
     rw [HV4.out, HQ.out]
     go_wp2_with fail
     refine HSP.out.mono ?_
     rintro en w5 ⟨rfl, b5⟩
     try dsimp only
     have HW5 := Lib.hid (HW4.out.below b5)
     have HK5 := Lib.hid (HK4.out.trans (KeepW.of b5))
     have HM5 := Lib.hid (HM4.out.below b5)
     have p5 := HP4.out.below b5
     have x0 := p5.c0
     have x1 := p5.c1
     clear b5 p5 y0 y1 y2
     cases rb with
     | false =>
      go_wp2_with fail
      go_roundg (l1 - (i + 1))
      case measure => omega
      case rel => exact ⟨i + 1, by go_num, by omega, rfl, Lib.hid ⟨by rw [take_filter HZI.out, HRB.out, if_neg (by decide)]; exact HW5.out, HK5.out⟩⟩
     | true =>
      have hfl : ((L.take i).filter e.rel).length ≤ 16 := Nat.le_trans (List.length_filter_le _ _) (Nat.le_trans (by rw [List.length_take]; exact Nat.min_le_right _ _) HOK.out.2)
      have HRL := Lib.hid (cy_release HW5.out HM5.out.cbp (rels_fit hn HF1.out hfl) (by omega) hn HZQ.out)
      clear hfl
      go_wp2_with fail
      refine HRL.out.mono ?_
      rintro en w6 ⟨rfl, W6, K6⟩
      try dsimp only
      have HZ6 := Lib.hid (And.intro W6 (HK5.out.trans K6))
      clear W6 K6
      go_wp2_with fail
      go_roundg (l1 - (i + 1))
      case measure => omega
      case rel => exact ⟨i + 1, by go_num, by omega, rfl, Lib.hid ⟨by rw [take_filter HZI.out, HRB.out, if_pos rfl, Wp.rels_snoc, HZE.out.1, HZE.out.2]; exact HZ6.out.1, HZ6.out.2⟩⟩
    ·obtain rfl : i = l1 := by omega
     have hge : ¬ (i : Int) < (i : Int) := by omega
     go_wp2_with fail
     go_end0
     rw [HY.out, ← List.take_of_length_le (Nat.le_of_eq HL1.out)]
     exact ⟨rfl, HS.out.1, HK2.out.trans HS.out.2⟩
end
end Go.Proofs.YtobkmohoepgfmaaGreatDoor
namespace Go.Proofs.YtobkmohoepgfmaaGreatDoor.Tr
open Go.RowKit Go.Extern.Stop Go.Stop Go.Extern Go.Extern.Rtype
set_option maxRecDepth 100000
set_option maxHeartbeats 1000000

end Go.Proofs.YtobkmohoepgfmaaGreatDoor.Tr
namespace Go.Proofs.YtobkmohoepgfmaaGreatDoor.Tr
open Go.RowKit Go.Extern.Stop Go.Stop Go.Extern Go.Extern.Rtype
set_option maxRecDepth 100000
set_option maxHeartbeats 1000000

theorem holds_nil (w : World) (m : Int) : Calls Tryz.prog 165 #[.nilIface, .int .i64 m] w fun e w' => e = .returned (.bool false) ∧ Below w.heap.size w w' := by
 have hmf : ∀ (fn : Fn) (first cap : Array Value) (w : World), (Instr.makeFunc fn first cap).run Tryz.prog w = .ok (.func fn first cap) w := fun _ _ _ _ => rfl
 go_enter_defers Tryz.func165, Tryz.ntmps165
 go_wp2_with fail
 refine (is22_nil 46 _ _).mono ?_
 rintro e w' ⟨rfl, hw⟩
 obtain rfl := hw
 have hcell : (w.alloc (.cells #[.bool false] 4)).cell? ⟨w.heap.size, 0, none⟩ = some (.bool false) := by simp [go_sem]
 have hfr : (w.alloc (.cells #[.bool false] 4)).frozen? ⟨w.heap.size, 0, none⟩ = false := by simp [go_sem]
 go_wp2_with fail
 refine leaves_cons (f := 188) (args := #[.pointer (some ⟨w.heap.size, 0, none⟩)]) (by simp) (by simp [go_sem]) ?_
 refine (holdsIdle ⟨w.heap.size, 0, none⟩ _).mono ?_
 rintro e u' w'' ⟨rfl, rfl, rfl⟩
 simp [Leaves, settle, results, go_sem]
 exact (Below.refl _ w).alloc (Nat.le_refl _) _
theorem cis_nil (w : World) (m : Int) : Calls Tryz.prog 134 #[.nilIface, .int .i64 m] w fun e w' => e = .returned (.bool false) ∧ Below w.heap.size w w' := by
 go_enter Tryz.func134, Tryz.ntmps134
 go_wp2_with fail
 refine (holds_nil _ m).mono ?_
 rintro e w' ⟨rfl, hb⟩
 have HB := Lib.hid hb
 clear hb
 go_wp2_with fail
 go_ret
 exact ⟨rfl, HB.out⟩
end Go.Proofs.YtobkmohoepgfmaaGreatDoor.Tr
namespace Go.Proofs.YtobkmohoepgfmaaGreatDoor
open Go.RowKit Go.Sort
set_option maxRecDepth 100000
set_option maxHeartbeats 4000000

section
variable {w0 v : World} {g cb : Nat} {nd : ND} {e : Ep} {A C c f o cap : Nat} {B : Nat → Value} {s : Wp}
theorem cy_log (h1 : WL w0 v g nd s) (h2 : CM w0 v g cb nd e A C c f o cap B) {m : Nat} (hf : s.Fit m) (hm : m ≤ 999999700) {n : Nat} (hn : n < 8) (q : Rq) (P : Option Addr) (k : Nat) (hd : DatN v P q.n q.D) (hD : ∀ j, j < q.n → q.D j < 256) (hq : OkQ q.k q.s q.g q.i q.n) :
  Calls Tryz.prog 97 #[.pointer (some ⟨cb, 0, none⟩), .int .i64 (n : Int), rqv q.k q.s q.g q.i P q.n k] v (HaveRet w0 v g nd n (e.logs s n q)) := by
 obtain ⟨H, hH⟩ : ∃ H, v.heap.size = H := ⟨_, rfl⟩
 have HHH := Lib.hid hH
 obtain ⟨v1, hv1⟩ : ∃ v1, v.alloc (.cells #[.int .i64 q.k, .int .i64 q.s, .int .i64 q.g, .int .i64 q.i, .slice P q.n k] 107) = v1 := ⟨_, rfl⟩
 have B0 : Below v.heap.size v v1 := by rw [← hv1]; exact (Below.refl _ _).alloc (Nat.le_refl _) _
 have p1 : QV v1 H q.k q.s q.g q.i P q.n k := by rw [← hv1]; exact QV.of_new hH
 have y0 := p1.c0
 have y1 := p1.c1
 have y2 := p1.c2
 have y3 := p1.c3
 have y4 := p1.c4
 have HP1 := Lib.hid p1
 have HV1 := Lib.hid hv1
 have HK0 := Lib.hid (KeepW.of B0)
 have HW := Lib.hid (h1.below B0)
 have HM := Lib.hid (h2.below B0)
 have HD := Lib.hid (hd.below B0)
 have HDB := Lib.hid (And.intro hD hq)
 have HH := Lib.hid (cy_have HW.out HM.out.cbp hf (by omega) hn q P k HD.out hD hq)
 have HF1 := Lib.hid (hf.done (q := q) hn hD)
 obtain ⟨s1, d, hc⟩ : ∃ s1 d, s.done n q = (s1, d) := ⟨_, _, rfl⟩
 obtain ⟨X, hX⟩ : ∃ X, e.logs s n q = X := ⟨_, rfl⟩
 have HY : Hid (X = if d = 6 then (e.sweep s1 n).done n q else (s1, d)) := Lib.hid (by rw [← hX]; unfold Ep.logs; rw [hc])
 rw [hX]
 clear hX
 rw [hc] at HH HF1
 clear h1 h2 hf hc hd hD hq p1 B0 hv1 hH
 go_enter Tryz.func97, Tryz.ntmps97
 go_upto_region 1 with fail
 rw [HV1.out, HHH.out]
 go_wp2_with fail
 refine HH.out.mono ?_
 rintro en w1 ⟨u, rfl, W1, K1, hu⟩
 try dsimp only
 try dsimp only at hu
 have HZ := Lib.hid (And.intro W1 K1)
 have HU := Lib.hid hu
 clear W1 K1
 by_cases h6 : d = 6
 ·subst h6
  have HX : Hid (X = (e.sweep s1 n).done n q) := Lib.hid (HY.out.trans (if_pos rfl))
  rcases hu with ⟨h0, _⟩ | ⟨_, b, rfl, ho⟩
  ·exact absurd h0 (by decide)
  ·have HIS := Lib.hid (en_is 6 ho.ev)
   rw [show Tr.hasCode 6 [((6 : Nat) : Int)] = true from rfl] at HIS
   clear ho HU
   go_wp2_with fail
   refine HIS.out.mono ?_
   rintro en w2 ⟨rfl, b2⟩
   try dsimp only
   have HW2 := Lib.hid (HZ.out.1.below b2)
   have HK2 := Lib.hid (HZ.out.2.trans (KeepW.of b2))
   have HM2 := Lib.hid (HM.out.keep HW.out HW2.out (KeepF.of HK2.out) rfl rfl rfl rfl)
   have HS := Lib.hid (cy_sweep HW2.out HM2.out HF1.out (by omega) hn)
   have HF2 := Lib.hid (e.fit_sweep HF1.out hn)
   clear b2
   go_wp2_with fail
   refine HS.out.mono ?_
   rintro en w3 ⟨rfl, W3, K3⟩
   try dsimp only
   have HK3 := Lib.hid (HK2.out.trans K3)
   have p3 := HK3.out.qv HP1.out
   have z0 := p3.c0
   have z1 := p3.c1
   have z2 := p3.c2
   have z3 := p3.c3
   have z4 := p3.c4
   have HH3 := Lib.hid (cy_have W3 (HM2.out.cbp.keep K3) HF2.out (by omega) hn q P k (HK3.out.b.datN HD.out) HDB.out.1 HDB.out.2)
   clear W3 K3 p3 y0 y1 y2 y3 y4
   go_wp2_with fail
   refine HH3.out.mono ?_
   rintro en w4 ⟨u, rfl, W4, K4, hu⟩
   try dsimp only
   have HZ4 := Lib.hid (And.intro W4 (And.intro (HK3.out.trans K4) hu))
   clear W4 K4 hu
   go_wp2_with fail
   go_ret
   rw [HX.out]
   exact ⟨u, rfl, HZ4.out.1, HK0.out.trans HZ4.out.2.1, HZ4.out.2.2⟩
 ·have HX : Hid (X = (s1, d)) := Lib.hid (HY.out.trans (if_neg h6))
  have HI : Hid (Calls Tryz.prog 134 #[u, .int .i64 6] w1 fun e w' => e = .returned (.bool false) ∧ Below w1.heap.size w1 w') := Lib.hid (by
   rcases hu with ⟨_, rfl⟩ | ⟨_, b, rfl, ho⟩
   ·exact Tr.cis_nil w1 6
   ·have := en_is 6 ho.ev
    rw [show Tr.hasCode 6 [((d : Nat) : Int)] = false from by
     unfold Tr.hasCode
     simp
     omega] at this
    exact this)
  clear hu
  go_wp2_with fail
  refine HI.out.mono ?_
  rintro en w2 ⟨rfl, b2⟩
  try dsimp only
  have HB2 := Lib.hid b2
  clear b2
  go_wp2_with fail
  go_ret
  rw [HX.out]
  refine ⟨u, rfl, HZ.out.1.below HB2.out, HK0.out.trans (HZ.out.2.trans (KeepW.of HB2.out)), ?_⟩
  rcases HU.out with h | ⟨h, b, hb, ho⟩
  ·exact Or.inl h
  ·exact Or.inr ⟨h, b, hb, (KeepW.of HB2.out).on ho⟩
end
end Go.Proofs.YtobkmohoepgfmaaGreatDoor
namespace Go.Proofs.YtobkmohoepgfmaaGreatDoor
open Go.RowKit Go.Sort
set_option maxRecDepth 100000
set_option maxHeartbeats 4000000

theorem infoErr : (Tryz.prog.info? 27).map (fun i => (i.zero, i.size, i.bytes)) = some (some .nilIface, 1, 16) := by kernel_rfl
def eOf (z : Nat × Nat) : List Int × List Int × List Int := ([(z.2 : Int)], [(z.1 : Int)], [])
def ErL (w : World) (base : Nat) (u : Value) (l : List (Nat × Nat)) : Prop := ∃ bs : List Nat, w.ownsRow base 27 1 u l.length (bs.map onv) ∧ bs.length = l.length ∧ ∀ (i b : Nat) (z : Nat × Nat), bs[i]? = some b → l[i]? = some z → OnE w b (z.1 : Int) (z.2 : Int)
theorem ErL.nil {w : World} {base : Nat} : ErL w base (.slice none 0 0) [] := ⟨[], ⟨rfl, Or.inl ⟨rfl, rfl⟩⟩, rfl, fun i b z h => by simp at h⟩
theorem err_notW : ¬ WiT 27 := notWi (by decide) (by decide) (by decide) (by decide) (by decide) (by decide) (by decide)
theorem ErL.keep {w w' : World} {base : Nat} {u : Value} {l : List (Nat × Nat)} (h : ErL w base u l) (k : KeepW w w') : ErL w' base u l := by
 obtain ⟨bs, ⟨h1, h2⟩, h3, h4⟩ := h
 refine ⟨bs, ⟨h1, ?_⟩, h3, fun i b z hb hz => k.on (h4 i b z hb hz)⟩
 rcases h2 with h2 | ⟨g, cap, cur, hv, hg, hh, r⟩
 ·exact Or.inl h2
 ·exact Or.inr ⟨g, cap, cur, hv, hg, (k.cells hh err_notW).trans hh, r⟩
theorem ErL.form {w : World} {base : Nat} {u : Value} {l : List (Nat × Nat)} (h : ErL w base u l) : ∃ A c, u = .slice A l.length c := by
 obtain ⟨bs, h1, _⟩ := h
 obtain ⟨A, c, rfl, _⟩ := own_form h1
 exact ⟨A, c, rfl⟩
theorem ErL.el {w : World} {base : Nat} {A : Option Addr} {n c : Nat} {l : List (Nat × Nat)} (h : ErL w base (.slice A n c) l) : ∃ vs, vs.length = l.length ∧ EL w vs (l.map eOf) ∧ Tr.Holds w A vs := by
 obtain ⟨bs, h1, h2, h3⟩ := h
 refine ⟨bs.map onv, by simp [h2], ⟨by simp [h2], fun i v e hv he => ?_⟩, fun i x hx => ?_⟩
 ·rw [List.getElem?_map] at hv he
  obtain ⟨b, hb, rfl⟩ := Option.map_eq_some_iff.1 hv
  obtain ⟨z, hz, rfl⟩ := Option.map_eq_some_iff.1 he
  exact (h3 i b z hb hz).ev
 ·rcases h1.2 with ⟨h0, h4⟩ | ⟨g, cap, cur, e, hg, hh, _⟩
  ·have hi := (List.getElem?_eq_some_iff.1 hx).1
   rw [List.length_map, h2] at hi
   omega
  ·cases e
   have := h1.cells (g := g) rfl i x hx
   rw [addr_add] at this
   exact ⟨g, 0, rfl, heap_lt hh, this⟩
theorem KeepW.grown {w1 w w' : World} {r : Option Nat} (k : KeepW w1 w) (gr : w.grownBy w' r) (hr : ∀ j, r = some j → w1.heap.size ≤ j) : KeepW w1 w' :=
 ⟨Nat.le_trans k.1 gr.size, fun j o hj ho => (gr.block j (Nat.lt_of_lt_of_le (heap_lt hj) k.1) (fun e => by have := hr j e.symm; have := heap_lt hj; omega)).trans (k.2 j o hj ho)⟩
theorem WL.grown {w0 v v' : World} {g : Nat} {nd : ND} {s : Wp} {r : Option Nat} (h : WL w0 v g nd s) (gr : v.grownBy v' r) (hr : ∀ j, r = some j → w0.heap.size ≤ j ∧ ¬ nd.Z j ∧ ∃ cs t, v.heap[j]? = some (.cells cs t (0, 0)) ∧ ¬ WiT t ∧ t ≠ 5 ∧ t ≠ 3) : WL w0 v' g nd s := by
 obtain ⟨T, fv, h1, h2, h3, h4, h5, h6⟩ := h
 have hne : ∀ (j : Nat) (cs' : Array Value) (t' : TypeId) (fr' : Nat × Nat), v.heap[j]? = some (.cells cs' t' fr') → WiT t' ∨ t' = 5 ∨ t' = 3 → v'.heap[j]? = v.heap[j]? := by
  intro j cs' t' fr' hj hw
  refine gr.block j (heap_lt hj) (fun e => ?_)
  obtain ⟨_, _, cs, t, hb, a1, a2, a3⟩ := hr j e.symm
  rw [hb] at hj
  cases hj
  rcases hw with hw | hw | hw
  ·exact a1 hw
  ·exact a2 hw
  ·exact a3 hw
 refine ⟨T, fv, h1.same (fun j hj => ?_) (fun i hi j hj => ?_) (fun j cs' hj => hne _ _ _ _ hj (Or.inr (Or.inl rfl))), h2.grown gr h2.size (fun j hj => (hr j hj).1), h3, h4, h5, h6.keep gr.size (fun k hk => gr.block k (Nat.lt_of_lt_of_le (h6.2 k hk).1 h6.1) (fun e => (hr k e.symm).2.1 hk))⟩
 ·rw [List.mem_cons] at hj
  rcases hj with rfl | hj
  ·exact hne _ _ _ _ h1.hd (Or.inl (Or.inr rfl))
  ·obtain ⟨row, hr'⟩ := h1.fat.type j hj
   exact hne _ _ _ _ hr' (Or.inr (Or.inr rfl))
 ·obtain ⟨r, p, sb, S, q1, q2, q3⟩ := h1.node i hi
  have hj' : j ∈ nd i :: r :: sb :: S := by
   rw [q3] at hj
   simp only [List.mem_cons] at hj ⊢
   rcases hj with rfl | rfl | rfl | rfl | hj
   ·simp
   ·simp
   ·obtain ⟨db, nb, pv, _, _, hS⟩ := q1.plt
    rw [hS]
    simp
   ·simp
   ·simp [hj]
  obtain ⟨cs', t', hc, hT⟩ := q1.type j hj'
  exact hne _ _ _ _ hc (Or.inl (Or.inl hT))
theorem append_err (w : World) {ops : Array Oper} {rest : List Oper} {o : Oper} {a : Act} {Q : Exit → Act → World → Prop} (hgd : o.guard = none) (s x : Operand)
  (ho : o.op = .call { callee := .builtin .append, args := #[s, x], argTypes := #[80, 80] })
  (base : Nat) (v : Value) (l : List (Nat × Nat)) (hs : a.eval s = v) (hl : ErL w base v l) (g b : Nat) (z : Nat × Nat) (hx : a.eval x = .slice (some ⟨g, 0, none⟩) 1 1)
  (hc : w.cell? ⟨g, 0, none⟩ = some (onv b)) (hu : OnE w b (z.1 : Int) (z.2 : Int)) (hn : l.length ≤ 1000) (hbase : base ≤ w.heap.size)
  (h : ∀ v' w' r, ErL w' base v' (l ++ [z]) → w.grownBy w' r → (∀ j, r = some j → base ≤ j ∧ ∃ cs, w.heap[j]? = some (.cells cs 27 (0, 0))) → wpList Tryz.prog ops Q rest (a.put o.dst v') w') : wpList Tryz.prog ops Q (o :: rest) a w := by
 obtain ⟨i0, hi0, hz0, hz1, hz2⟩ := info_parts infoErr
 obtain ⟨bs, hown, hbl, hel⟩ := hl
 refine wpList_append_lies w hgd s x 80 ho base 27 i0 .nilIface 1 16 Tryz.underlying80 hi0 hz0 hz1 hz2 rfl (by decide) v l.length (bs.map onv) hs hown ⟨g, 0, none⟩ 1 1 [onv b] hx rfl (fun j y hj => ?_) (fun y hy => ?_) (by omega) (by unfold maxLen; omega) (by omega) hbase w.heap.size rfl (fun g' cap w' h2 h3 h4 h5 => ?_)
 ·match j, hj with
  | 0, hj => simp at hj; subst hj; exact hc
 ·simp at hy; subst hy; rfl
 ·have hty : ∀ (k : Nat), v.ownBlock = some k → base ≤ k ∧ ∃ cs, w.heap[k]? = some (.cells cs 27 (0, 0)) := by
   intro k hk
   rcases hown.2 with ⟨rfl, _⟩ | ⟨g1, cap1, cur, rfl, hb1, hh, _⟩
   ·cases hk
   ·cases hk; exact ⟨hb1, cur, hh⟩
  have hon : ∀ (b' : Nat) (n c : Int), OnE w b' n c → OnE w' b' n c := fun b' n c ho' => ho'.keep (h3.block b' (heap_lt ho') (fun e => by
   obtain ⟨_, cs', hc'⟩ := hty b' e.symm
   rw [show w.heap[b']? = _ from ho'] at hc'
   injection hc' with hc'
   injection hc' with _ hc'
   exact absurd hc' (by decide)))
  refine h _ w' v.ownBlock ⟨bs ++ [b], by simpa using h2, by simp [hbl], fun i b' z' hb' hz' => ?_⟩ h3 hty
  by_cases hi : i < bs.length
  ·rw [List.getElem?_append_left hi] at hb'
   rw [List.getElem?_append_left (by omega)] at hz'
   exact hon _ _ _ (hel i b' z' hb' hz')
  ·rw [List.getElem?_append_right (by omega)] at hb'
   rw [List.getElem?_append_right (by omega), ← hbl] at hz'
   have hi0 : i - bs.length = 0 := by
    have := (List.getElem?_eq_some_iff.1 hb').1
    simp at this
    omega
   rw [hi0] at hb' hz'
   simp at hb' hz'
   subst hb'
   subst hz'
   exact hon _ _ _ hu
theorem eOf_codes (l : List (Nat × Nat)) : ((l.map eOf).map (·.1)).flatten = l.map (fun z => (z.2 : Int)) := by induction l <;> simp_all [eOf]
theorem eOf_nodes (l : List (Nat × Nat)) : ((l.map eOf).map (·.2.1)).flatten = l.map (fun z => (z.1 : Int)) := by induction l <;> simp_all [eOf]
theorem eOf_stripes (l : List (Nat × Nat)) : ((l.map eOf).map (·.2.2)).flatten = [] := by induction l <;> simp_all [eOf]
theorem Ep.askN_stay {e : Ep} {q : Rq} {st m : Nat} (h : 3 ≤ (e.askN q st m).2.1) : ∀ k, e.askN q st (m + k) = e.askN q st m
 | 0 => rfl
 | k + 1 => by
  have ih := Ep.askN_stay h k
  rw [← Nat.add_assoc, Ep.askN_succ, ih, if_pos h]
end Go.Proofs.YtobkmohoepgfmaaGreatDoor
namespace Go.Proofs.YtobkmohoepgfmaaGreatDoor
open Go.RowKit Go.Sort
set_option maxRecDepth 100000
set_option maxHeartbeats 8000000

def IntRet (w0 v : World) (g : Nat) (nd : ND) (st : Nat) (x : Wp × Nat × List (Nat × Nat)) (en : Ending) (w' : World) : Prop :=
 ∃ u, en = .returned u ∧ WL w0 w' g nd x.1 ∧ KeepW v w' ∧ ((3 ≤ x.2.1 ∧ u = .nilIface) ∨ (x.2.1 < 3 ∧ EV w' u (x.2.2.map (fun z => (z.2 : Int))) (x.2.2.map (fun z => (z.1 : Int))) [(st : Int)]))
theorem JoinRet.some_ {es : List (List Int × List Int × List Int)} {w w' : World} {e : Ending} (h : JoinRet es w e w') (hne : es ≠ []) : ∃ v, e = .returned v ∧ Below w.heap.size w w' ∧ EV w' v (es.map (·.1)).flatten (es.map (·.2.1)).flatten (es.map (·.2.2)).flatten := by
 obtain ⟨v, h1, h2, ⟨h3, _⟩ | ⟨_, h3⟩⟩ := h
 ·exact absurd h3 hne
 ·exact ⟨v, h1, h2, h3⟩
section
variable {w0 v : World} {g cb : Nat} {nd : ND} {e : Ep} {A C c f o cap : Nat} {B : Nat → Value}
theorem cy_intend (h1 : WL w0 v g nd e.w) (h2 : CM w0 v g cb nd e A C c f o cap B) {m : Nat} (hf : e.w.Fit m) (hm : m ≤ 999990000) {st gn : Nat} (hst : st < 40) (hgn : gn ≤ 1099511627776) (D : Nat → Nat) (P : Option Addr) (k : Nat) (hd : DatN v P 128 D) (hD : ∀ j, j < 128 → D j < 256) :
  Calls Tryz.prog 65 #[.pointer (some ⟨cb, 0, none⟩), rqv 3 (st : Int) (gn : Int) 0 P 128 k] v (IntRet w0 v g nd st (e.askN (qLg st gn D) st 8)) := by
 have q1 := we_neqNil
 have q2 := we_neqNilNil
 obtain ⟨H, hH⟩ : ∃ H, v.heap.size = H := ⟨_, rfl⟩
 have HH := Lib.hid hH
 obtain ⟨v1, hv1⟩ : ∃ v1, v.alloc (.cells #[.int .i64 3, .int .i64 (st : Int), .int .i64 (gn : Int), .int .i64 0, .slice P 128 k] 107) = v1 := ⟨_, rfl⟩
 have B0 : Below v.heap.size v v1 := by rw [← hv1]; exact (Below.refl _ _).alloc (Nat.le_refl _) _
 have p1 : QV v1 H 3 (st : Int) (gn : Int) 0 P 128 k := by rw [← hv1]; exact QV.of_new hH
 have y1 := p1.c1
 have HP1 := Lib.hid p1
 have HB0 := Lib.hid B0
 have HV1 := Lib.hid hv1
 have HV := Lib.hid h1
 have HW := Lib.hid (h1.below B0)
 have HM := Lib.hid (h2.below B0)
 have HD := Lib.hid (hd.below B0)
 have HDB := Lib.hid hD
 have HF := Lib.hid hf
 have HQ : Hid (OkQ 3 (st : Int) (gn : Int) 0 128) := Lib.hid (by unfold OkQ; omega)
 have HLG := Lib.hid (fun w => llogs (st : Int) w)
 obtain ⟨X, hX⟩ : ∃ X, e.askN (qLg st gn D) st 8 = X := ⟨_, rfl⟩
 have HX := Lib.hid hX
 rw [hX]
 clear h1 h2 hf hX hd hD B0 p1 hv1 hH
 go_enter Tryz.func65, Tryz.ntmps65
 go_upto_region 1 with fail
 rw [HV1.out, HH.out]
 go_wp2_with fail
 refine (HLG.out _).mono ?_
 rintro en w2 ⟨A2, c2, rfl, n2, b2, hc2, hg2⟩
 try dsimp only
 have hll : (logsF (st : Int)).length = 8 := logsF_len hst
 rw [hll] at hc2
 rw [hll]
 obtain ⟨g2, o2, rfl, hgl, _⟩ := n2 0 _ (logsF_at hst (j := 0) (by omega))
 have HN2 := Lib.hid n2
 have HG2 : Hid (v1.heap.size ≤ g2 ∧ g2 < w2.heap.size) := Lib.hid ⟨hg2 g2 o2 rfl, hgl⟩
 have HB2 := Lib.hid b2
 obtain ⟨nd2, hnd2⟩ : ∃ nd2, nd.add (fun k => v1.heap.size ≤ k ∧ k < w2.heap.size) w2 = nd2 := ⟨_, rfl⟩
 have HND := Lib.hid hnd2
 have HW2 : Hid (WL w0 w2 g nd2 e.w) := Lib.hid (by rw [← hnd2]; exact HW.out.add b2 (fun k hk => hk))
 have HZB : Hid (∀ k, nd2.Z k → k < w2.heap.size) := Lib.hid (fun k hk => Nat.lt_of_lt_of_le (HW2.out.zlt hk) HW2.out.zB)
 have HM2 : Hid (CM w0 w2 g cb nd2 e A C c f o cap B) := Lib.hid (by
  rw [← hnd2]
  refine (HM.out.below b2).other (fun k hk => Or.inl hk) (fun hk => ?_)
  rcases hk with hk | hk
  ·exact HM.out.zc hk
  ·have := HM.out.lt
   omega)
 have HK2 : Hid (KeepW v w2) := Lib.hid ((KeepW.of HB0.out).trans (KeepW.of b2))
 have HP2 := Lib.hid (HP1.out.below b2)
 have HD2 := Lib.hid (HD.out.below b2)
 have HS2 : Hid (w0.heap.size ≤ w2.heap.size) := Lib.hid HW2.out.blw.size
 have HST : Hid (∀ w' s', WL w0 w' g nd2 s' → WL w0 w' g nd s' ∧ w'.heap[g2]? = w2.heap[g2]?) := Lib.hid (fun w' s' hw => by
  rw [← hnd2] at hw
  exact ⟨WL.sub HW.out b2 hw, hw.stays ⟨hg2 g2 o2 rfl, hgl⟩⟩)
 clear n2 b2 hc2 hg2 hgl hnd2 hll
 go_wp2_with fail
 go_loopg [5, 6, 8, 9, 14] 8 (fun kk s5 s6 s8 s9 s14 wr => ∃ (i cnt : Nat) (er : List (Nat × Nat)) (sw : Wp), s14 = .int .i64 (i : Int) ∧ s6 = .int .i64 (cnt : Int) ∧ i ≤ 8 ∧ cnt < 3 ∧ kk = 8 - i ∧ Hid (e.askN (qLg st gn D) st i = (sw, cnt, er) ∧ er.length + cnt = i) ∧ Hid (WL w0 wr g nd2 sw ∧ KeepW w2 wr) ∧ Hid (ErL wr w2.heap.size s5 er))
 case atStart => exact ⟨0, 0, [], e.w, rfl, rfl, by omega, by omega, rfl, Lib.hid ⟨Ep.askN_zero _ _ _, rfl⟩, Lib.hid ⟨HW2.out, KeepW.refl _⟩, Lib.hid ErL.nil⟩
 case round =>
  obtain ⟨i, cnt, er, sw, rfl, rfl, hi, hcnt, rfl, HA, HS, HE⟩ := hrel
  obtain ⟨wo, rfl⟩ : ∃ wo : World, wo = wr := ⟨wr, rfl⟩
  have pp := HS.out.2.qv HP2.out
  have z0 := pp.c0
  have z1 := pp.c1
  have z2 := pp.c2
  have z3 := pp.c3
  have z4 := pp.c4
  clear pp
  by_cases hlt : i < 8
  ·have hlt' : (i : Int) < 8 := by omega
   obtain ⟨g2', o2', e2, _, hcell⟩ := HN2.out i _ (logsF_at hst hlt)
   cases e2
   have hcell' : wo.cell? ⟨g2, o2 + i, none⟩ = some (.int .i64 (((st + 5 + i) % 8 : Nat) : Int)) := (World.cell?_of_block (w := w2) (HST.out _ _ HS.out.1).2).trans hcell
   obtain ⟨n, hn⟩ : ∃ n, (st + 5 + i) % 8 = n := ⟨_, rfl⟩
   rw [hn] at hcell'
   have hn8 : n < 8 := by omega
   have HNN : Hid (logN st i = n) := Lib.hid hn
   have HMo := Lib.hid (HM2.out.keep HW2.out HS.out.1 (KeepF.of HS.out.2) rfl rfl rfl rfl)
   have HFS : Hid (sw.Fit (m + 63 * i)) := Lib.hid (by have := Ep.fit_askN (e := e) (st := st) (q := qLg st gn D) HF.out HDB.out i; rw [HA.out.1] at this; exact this)
   have HL := Lib.hid (cy_log HS.out.1 HMo.out HFS.out (by omega) hn8 (qLg st gn D) P k (HS.out.2.b.datN HD2.out) HDB.out HQ.out)
   unfold qLg at HL
   obtain ⟨s2, d, hlg⟩ : ∃ s2 d, e.logs sw n (qLg st gn D) = (s2, d) := ⟨_, _, rfl⟩
   have hlg' : e.logs sw n ⟨3, (st : Int), (gn : Int), 0, 128, D⟩ = (s2, d) := hlg
   rw [hlg'] at HL
   have HLGG := Lib.hid hlg
   clear hn hcell hlg hlg'
   go_wp2_with fail
   refine HL.out.mono ?_
   rintro en w3 ⟨u, rfl, W3, K3, hu⟩
   try dsimp only
   try dsimp only at hu W3
   have HZ3 := Lib.hid (And.intro W3 (HS.out.2.trans K3))
   have HE3 := Lib.hid (HE.out.keep K3)
   clear W3 K3
   rcases hu with ⟨rfl, rfl⟩ | ⟨hd0, b, rfl, ho⟩
   ·have HA2 : Hid (e.askN (qLg st gn D) st (i + 1) = (s2, cnt + 1, er)) := Lib.hid (by
     rw [Ep.askN_succ, HA.out.1, if_neg (show ¬ 3 ≤ cnt by omega), HNN.out, HLGG.out, if_pos rfl])
    by_cases h3 : cnt = 2
    ·subst h3
     go_wp2_with fail
     go_ret
     have hst' : X = (s2, 2 + 1, er) := by
      rw [← HX.out, show (8 : Nat) = (i + 1) + (7 - i) by omega, Ep.askN_stay (by rw [HA2.out]; exact Nat.le_refl _), HA2.out]
     rw [hst']
     exact ⟨_, rfl, (HST.out _ _ HZ3.out.1).1, HK2.out.trans HZ3.out.2, Or.inl ⟨Nat.le_refl _, rfl⟩⟩
    ·have h3' : ¬ (cnt : Int) + 1 = 3 := by omega
     have h3b : ((cnt : Int) + 1 == 3) = false := by rw [beq_eq_false_iff_ne]; exact h3'
     go_wp2_with fail
     go_roundg (8 - (i + 1))
     case measure => omega
     case rel => exact ⟨i + 1, cnt + 1, er, s2, by go_num, by go_num, by omega, by omega, rfl, Lib.hid ⟨HA2.out, by have := HA.out.2; omega⟩, HZ3, HE3⟩
   ·have HA2 : Hid (e.askN (qLg st gn D) st (i + 1) = (s2, cnt, er ++ [(n, d)])) := Lib.hid (by
     rw [Ep.askN_succ, HA.out.1, if_neg (show ¬ 3 ≤ cnt by omega), HNN.out, HLGG.out, if_neg hd0])
    obtain ⟨A5, c5, rfl⟩ := HE3.out.form
    have HO := Lib.hid ho
    obtain ⟨el, hel⟩ : ∃ el, er.length = el := ⟨_, rfl⟩
    have HEL := Lib.hid hel
    have hel8 : el ≤ 8 := by have := HA.out.2; omega
    rw [hel] at HE3 ⊢
    have hs3 : w2.heap.size ≤ w3.heap.size := HZ3.out.2.1
    have b4 : Below w3.heap.size w3 (w3.alloc (.cells #[onv b] 27)) := (Below.refl _ _).alloc (Nat.le_refl _) _
    have HE4 := Lib.hid (HE3.out.keep (KeepW.of b4))
    have HO4 := Lib.hid ((KeepW.of b4).on ho)
    have HZ4 := Lib.hid (And.intro (HZ3.out.1.below b4) (HZ3.out.2.trans (KeepW.of b4)))
    have hc4 : (w3.alloc (.cells #[onv b] 27)).cell? ⟨w3.heap.size, 0, none⟩ = some (onv b) := by rw [cell_of_block (alloc_block w3 _)]; rfl
    have HC4 := Lib.hid hc4
    clear ho hel b4 hc4
    go_wp2_with (at_builtin; refine append_err _ rfl (.tmp 24) (.tmp 26) rfl w2.heap.size (.slice A5 el c5) er rfl HE4.out w3.heap.size b (n, d) rfl HC4.out HO4.out (by rw [HEL.out]; omega) (by have := HZ4.out.2.1; exact this) ?_; intro v5 w5 r5 he5 gr5 hr5; have HE5 := Lib.hid he5; have HK5 := Lib.hid (HZ4.out.2.grown gr5 (fun j hj => (hr5 j hj).1)); have HW5 := Lib.hid (HZ4.out.1.grown gr5 (fun j hj => ⟨Nat.le_trans HS2.out (hr5 j hj).1, fun hz => by have := HZB.out j hz; have := (hr5 j hj).1; omega, by obtain ⟨_, cs, hcs⟩ := hr5 j hj; exact ⟨cs, _, hcs, err_notW, by decide, by decide⟩⟩)); clear he5 gr5 hr5)
    go_roundg (8 - (i + 1))
    case measure => omega
    case rel => exact ⟨i + 1, cnt, er ++ [(n, d)], s2, by go_num, rfl, by omega, hcnt, rfl, Lib.hid ⟨HA2.out, by rw [List.length_append]; have := HA.out.2; have := HEL.out; simp; omega⟩, Lib.hid ⟨HW5.out, HK5.out⟩, HE5⟩
  ·obtain rfl : i = 8 := by omega
   have HXX : Hid (X = (sw, cnt, er)) := Lib.hid (HX.out.symm.trans HA.out.1)
   obtain ⟨A5, c5, rfl⟩ := HE.out.form
   have hne : er.map eOf ≠ [] := by
    intro h0
    have : er = [] := List.map_eq_nil_iff.1 h0
    have h4 := HA.out.2
    rw [this] at h4
    simp at h4
    omega
   have HNE := Lib.hid hne
   obtain ⟨vs, hvl, hel, hho⟩ := HE.out.el
   have HJ := Lib.hid (fun (W : World) (b : Below wo.heap.size wo W) => en_join c5 (w := W) (A := A5) (vs := vs) (es := er.map eOf) ⟨hel.1, fun i v e' h1 h2 => (hel.2 i v e' h1 h2).below b⟩ (fun i x hx => by
    obtain ⟨g', o', e1, e2, e3⟩ := hho i x hx
    exact ⟨g', o', e1, Nat.lt_of_lt_of_le e2 b.size, (b.cell (p := ⟨g', o' + i, none⟩) e2).trans e3⟩) (by rw [hvl]; have := HA.out.2; omega))
   rw [hvl] at HJ
   obtain ⟨el, hel2⟩ : ∃ el, er.length = el := ⟨_, rfl⟩
   rw [hel2] at HJ ⊢
   have BDD : Hid (Below wo.heap.size wo wo.drew) := Lib.hid (below_drewN 1 wo)
   have HSK : Hid (∀ W, Below wo.heap.size wo W → W.cell? ⟨H, 1, none⟩ = some (.int .i64 (st : Int))) := Lib.hid (fun W hW => ((HS.out.2.qv HP2.out).below hW).c1)
   have HJ2 := Lib.hid ((HJ.out wo.drew BDD.out).mono (fun en w' hj => JoinRet.some_ hj hne))
   clear hvl hel hho hne hel2 HJ
   go_wp2_with fail
   go_region_held_law (fun W => W.cell? ⟨H, 1, none⟩ = some (.int .i64 (st : Int)))
    (first | (with_reducible assumption) | (with_reducible exact HSK.out _ BDD.out) | (with_reducible exact HSK.out _ HB3.out) | (with_reducible exact HSK.out _ HB4.out))
    (first
     | (go_simp; go_at_call 35; (with_reducible refine HJ2.out.mono ?_); rintro en w3 ⟨uj, rfl, b3, hj⟩; (try dsimp only); rw [eOf_codes, eOf_nodes, eOf_stripes] at hj; have HOF := Lib.hid (en_of (st : Int) hj); have HB3 : Hid (Below wo.heap.size wo w3) := Lib.hid (BDD.out.trans (b3.mono (Nat.le_refl _))); clear b3 hj)
     | (go_simp; go_at_call 37; (with_reducible refine HOF.out.mono ?_); rintro en w4 ⟨uo, rfl, b4, ho⟩; (try dsimp only); have HB4 : Hid (Below wo.heap.size wo w4) := Lib.hid (HB3.out.trans (b4.mono HB3.out.size)); have HO := Lib.hid ho; clear b4 ho)
     | fail)
   go_wp2_with fail
   go_ret
   rw [HXX.out]
   exact ⟨uo, rfl, (HST.out _ _ (HS.out.1.below HB4.out)).1, HK2.out.trans (HS.out.2.trans (KeepW.of HB4.out)), Or.inr ⟨hcnt, HO.out⟩⟩
end
end Go.Proofs.YtobkmohoepgfmaaGreatDoor
