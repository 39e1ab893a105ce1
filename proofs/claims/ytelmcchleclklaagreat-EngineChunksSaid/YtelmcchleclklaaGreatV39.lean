import Derived.Test.YtelmcchleclklaaGreatV38
import Derived.Test.YtelmcchleclklaaGreatV26
import Derived.Deep.RegionHeldLaw
import Derived.Deep.CutRange
namespace Go.Proofs.YtelmcchleclklaaGreat
open Go.RowKit Go.Sort
set_option maxRecDepth 100000
set_option maxHeartbeats 2000000

theorem Wp.its_ok {s s' : Wp} {m n : Nat} {y : Ns × Rp} (h : s.Ok m) (hn : n < 8) (e : s.call n qIn = (s', .ok y)) : ∀ x ∈ y.2.its, x.Ok := by
 obtain ⟨a, h1, h2, _⟩ := Wp.tries_some (P := Ns.Ok) (fun a ha => (ha.act (q := qIn) (none_lt rfl)).1) (fun a ha => (ha.crash []).1) 3 s (h.ok n hn) e
 rw [h2, Ns.act_in]
 intro x hx
 obtain ⟨⟨k, x'⟩, hm, rfl⟩ := List.mem_map.1 hx
 obtain ⟨j, hj, e2⟩ := colR_mem.1 ((liveT_perm a.R).mem_iff.1 hm)
 exact (h1.rs j k _ hj e2).2.2
def KV (w : World) (b : Nat) (gn nx : Int) (db : Bool) (u : Value) : Prop := w.heap[b]? = some (.cells #[.int .i64 gn, .int .i64 nx, .bool db, u] 84 (0, 0))
section
variable {w w' : World} {b : Nat} {gn nx : Int} {db : Bool} {u : Value}
theorem KV.c0 (h : KV w b gn nx db u) : w.cell? ⟨b, 0, none⟩ = some (.int .i64 gn) := cell_of_block h
theorem KV.c1 (h : KV w b gn nx db u) : w.cell? ⟨b, 1, none⟩ = some (.int .i64 nx) := cell_of_block h
theorem KV.c2 (h : KV w b gn nx db u) : w.cell? ⟨b, 2, none⟩ = some (.bool db) := cell_of_block h
theorem KV.c3 (h : KV w b gn nx db u) : w.cell? ⟨b, 3, none⟩ = some u := cell_of_block h
theorem KV.f (h : KV w b gn nx db u) (k : Nat) : w.frozen? ⟨b, k, none⟩ = false := free_of_block h
theorem KV.keepF (h : KV w b gn nx db u) (k : KeepF w w') : KV w' b gn nx db u := (k.cells h (notWi (by decide) (by decide) (by decide) (by decide) (by decide) (by decide) (by decide)) (by decide)).trans h
theorem KV.below (h : KV w b gn nx db u) (k : Below w.heap.size w w') : KV w' b gn nx db u := (k.block b (heap_lt h)).trans h
theorem KV.of_new {H : Nat} (hH : w.heap.size = H) : KV (w.alloc (.cells #[.int .i64 gn, .int .i64 nx, .bool db, u] 84)) H gn nx db u := by subst hH; exact alloc_block w _
end
theorem cy_pending (gn nx : Int) (db : Bool) (A : Option Addr) (l c : Nat) (w : World) : Calls Tryz.prog 61 #[.agg #[.int .i64 gn, .int .i64 nx, .bool db, .slice A l c]] w fun en w' => en = .returned (.bool (decide (0 < l))) ∧ Below w.heap.size w w' := by
 by_cases h : 0 < l
 ·have h1 : (0 : Int) < (l : Int) := by omega
  rw [decide_eq_true h]
  go_enter Tryz.func61, Tryz.ntmps61
  go_wp2_with fail
  go_ret
  exact ⟨rfl, by first | exact Below.refl _ _ | exact (Below.refl _ _).alloc (Nat.le_refl _) _⟩
 ·obtain rfl : l = 0 := by omega
  go_enter Tryz.func61, Tryz.ntmps61
  go_wp2_with fail
  go_ret
  exact ⟨rfl, by first | exact Below.refl _ _ | exact (Below.refl _ _).alloc (Nat.le_refl _) _⟩
section
variable {w0 v : World} {g cb : Nat} {nd : ND} {e : Ep} {A C c f o cap : Nat} {B : Nat → Value} {s : Wp}
theorem CM.bl (h : CM w0 v g cb nd e A C c f o cap B) {i : Nat} (hi : i < 40) : ∃ P l k, B i = .slice P l k ∧ decide (0 < l) = (e.pend i).isSome := by
 rcases h.pb i hi with ⟨h1, h2⟩ | ⟨D, b, cap, h1, h2, _⟩
 ·exact ⟨_, _, _, h2, by rw [h1]; rfl⟩
 ·exact ⟨_, _, _, h2, by rw [h1]; rfl⟩
theorem CM.known (h : CM w0 v g cb nd e A C c f o cap B) {i : Nat} (hi : i < 40) : v.cell? ⟨cb, 1 + i * 4, none⟩ = some (.int .i64 (e.gen i : Int)) ∧ v.cell? ⟨cb, 1 + i * 4 + 1, none⟩ = some (.int .i64 (e.next i : Int)) ∧ v.cell? ⟨cb, 1 + i * 4 + 2, none⟩ = some (.bool (e.doubt i)) ∧ v.cell? ⟨cb, 1 + i * 4 + 3, none⟩ = some (B i) := by
 refine ⟨?_, ?_, ?_, ?_⟩
 ·rw [show 1 + i * 4 = 1 + 4 * i by omega]; exact h.cg hi
 ·rw [show 1 + i * 4 + 1 = 2 + 4 * i by omega]; exact h.cn hi
 ·rw [show 1 + i * 4 + 2 = 3 + 4 * i by omega]; exact h.cd hi
 ·rw [show 1 + i * 4 + 3 = 4 + 4 * i by omega]; exact h.cy hi
theorem cy_spent (h : CM w0 v g cb nd e A C c f o cap B) (x : It) (hx : x.s < 40) (P : Option Addr) (k : Nat) :
  Calls Tryz.prog 181 #[.pointer (some ⟨cb, 0, none⟩), .agg #[.int .i64 (x.s : Int), .int .i64 (x.g : Int), .slice P 128 k]] v fun en w' => en = .returned (.bool (e.rel x)) ∧ Below v.heap.size v w' := by
 obtain ⟨Q, l, j, hB, hl⟩ := h.bl hx
 obtain ⟨st, hst⟩ : ∃ st, x.s = st := ⟨_, rfl⟩
 rw [hst] at hx hB hl ⊢
 have hx1 : (st : Int) < 40 := by omega
 obtain ⟨gg, hgg⟩ : ∃ gg : Nat, e.gen st = gg := ⟨_, rfl⟩
 obtain ⟨nx, hnx⟩ : ∃ nx : Nat, e.next st = nx := ⟨_, rfl⟩
 obtain ⟨db, hdb⟩ : ∃ db : Bool, e.doubt st = db := ⟨_, rfl⟩
 obtain ⟨xg, hxg⟩ : ∃ xg : Nat, x.g = xg := ⟨_, rfl⟩
 obtain ⟨H, hH⟩ : ∃ H, v.heap.size = H := ⟨_, rfl⟩
 have HH := Lib.hid hH
 obtain ⟨v1, hv1⟩ : ∃ v1, v.alloc (.cells #[.int .i64 (st : Int), .int .i64 (xg : Int), .slice P 128 k] 62) = v1 := ⟨_, rfl⟩
 have B0 : Below v.heap.size v v1 := by rw [← hv1]; exact (Below.refl _ _).alloc (Nat.le_refl _) _
 have p1 : IV v1 H (st : Int) (xg : Int) P 128 k := by rw [← hv1]; exact IV.of_new hH
 have HB0 := Lib.hid B0
 have HP1 := Lib.hid p1
 have HSK : Hid (∀ W, Below v1.heap.size v1 W → W.cell? ⟨H, 0, none⟩ = some (.int .i64 (st : Int)) ∧ W.cell? ⟨cb, 1 + st * 4, none⟩ = some (.int .i64 (gg : Int)) ∧ W.cell? ⟨cb, 1 + st * 4 + 1, none⟩ = some (.int .i64 (nx : Int)) ∧ W.cell? ⟨cb, 1 + st * 4 + 2, none⟩ = some (.bool db) ∧ W.cell? ⟨cb, 1 + st * 4 + 3, none⟩ = some (.slice Q l j)) := Lib.hid (fun W hW => by
  obtain ⟨a1, a2, a3, a4⟩ := ((h.below B0).below hW).known hx
  rw [hgg] at a1
  rw [hnx] at a2
  rw [hdb] at a3
  rw [hB] at a4
  exact ⟨(p1.below hW).c0, a1, a2, a3, a4⟩)
 have BD : Hid (Below v1.heap.size v1 v1.drew) := Lib.hid (below_drewN 1 v1)
 have BA : Hid (∀ o, Below v1.heap.size v1 (v1.alloc o).drew) := Lib.hid (fun o => ((Below.refl _ _).alloc (Nat.le_refl _) o).drew)
 have BE : Hid (∀ o, Below v1.heap.size v1 (v1.alloc o)) := Lib.hid (fun o => (Below.refl _ _).alloc (Nat.le_refl _) o)
 have BS : Hid (∀ o x0 x1 x2 x3, Below v1.heap.size v1 (set4 (v1.alloc o).drew v1.heap.size x0 x1 x2 x3)) := Lib.hid (fun o _ _ _ _ => (((((Below.refl _ _).alloc (Nat.le_refl _) o).drew.setCell (Nat.le_refl _) _).setCell (Nat.le_refl _) _).setCell (Nat.le_refl _) _).setCell (Nat.le_refl _) _)
 have HR : Hid (e.rel x = (decide (xg < gg) || (decide (xg = gg) && !decide (0 < l)))) := Lib.hid (by
  unfold Ep.rel
  rw [hst, hgg, hxg, hl]
  by_cases h1 : xg < gg
  ·simp [h1, Nat.le_of_lt h1, Nat.ne_of_lt h1]
  ·by_cases h2 : xg = gg
   ·subst h2; simp
   ·have : ¬ xg ≤ gg := by omega
    simp [h1, h2, this])
 rw [hxg]
 have HP := Lib.hid (fun w => cy_pending (gg : Int) (nx : Int) db Q l j w)
 obtain ⟨r, hr⟩ : ∃ r, e.rel x = r := ⟨_, rfl⟩
 rw [hr] at HR ⊢
 have HV1 := Lib.hid hv1
 clear hB hl hst hgg hnx hdb hxg h hr p1 B0 hv1 hH
 go_enter Tryz.func181, Tryz.ntmps181
 go_upto_region 1 with fail
 rw [HV1.out, HH.out]
 go_cut [5] from 6 to 12 (fun s5 wx => ∃ b, s5 = .pointer (some ⟨b, 0, none⟩) ∧ Hid (Below v1.heap.size v1 wx ∧ KV wx b (gg : Int) (nx : Int) db (.slice Q l j)))
 case first =>
  go_region_held_law (fun W => W.cell? ⟨H, 0, none⟩ = some (.int .i64 (st : Int)) ∧ W.cell? ⟨cb, 1 + st * 4, none⟩ = some (.int .i64 (gg : Int)) ∧ W.cell? ⟨cb, 1 + st * 4 + 1, none⟩ = some (.int .i64 (nx : Int)) ∧ W.cell? ⟨cb, 1 + st * 4 + 2, none⟩ = some (.bool db) ∧ W.cell? ⟨cb, 1 + st * 4 + 3, none⟩ = some (.slice Q l j))
   (first | (with_reducible assumption) | (with_reducible exact HSK.out _ BD.out) | (with_reducible exact HSK.out _ (BA.out _)) | (with_reducible exact HSK.out _ (BE.out _)) | (with_reducible exact HSK.out _ (BS.out _ _ _ _ _)))
   (fail)
  all_goals
   go_wp2_with fail
   go_meet
   first
    | (with_reducible exact ⟨_, rfl, Lib.hid ⟨BA.out _, (KV.of_new rfl).below (below_drewN 1 _)⟩⟩)
    | (with_reducible exact ⟨_, rfl, Lib.hid ⟨BS.out _ _ _ _ _, ((KV.of_new rfl).below (below_drewN 1 _)).put4⟩⟩)
 case rest =>
  obtain ⟨b, rfl, HC⟩ := hcut
  have z0 := (HP1.out.below HC.out.1).c1
  have HBW : Hid (Below v.heap.size v wc) := Lib.hid (HB0.out.trans (HC.out.1.mono HB0.out.size))
  have y0 := HC.out.2.c0
  have y1 := HC.out.2.c1
  have y2 := HC.out.2.c2
  have y3 := HC.out.2.c3
  by_cases h1 : xg < gg
  ·have h1' : (xg : Int) < (gg : Int) := by omega
   obtain rfl : r = true := HR.out.trans (by simp [h1])
   go_wp2_with fail
   go_ret
   exact ⟨rfl, HBW.out⟩
  ·have h1' : ¬ (xg : Int) < (gg : Int) := by omega
   by_cases h2 : xg = gg
   ·subst h2
    obtain rfl : r = !decide (0 < l) := HR.out.trans (by simp)
    go_wp2_with fail
    refine (HP.out _).mono ?_
    rintro en w1 ⟨rfl, hb1⟩
    try dsimp only
    have HB1 := Lib.hid hb1
    clear hb1
    go_wp2_with fail
    go_ret
    exact ⟨rfl, HBW.out.trans (HB1.out.mono HBW.out.size)⟩
   ·have h2' : ¬ (xg : Int) = (gg : Int) := by omega
    have h3' : ((xg : Int) == (gg : Int)) = false := by rw [beq_eq_false_iff_ne]; exact h2'
    obtain rfl : r = false := HR.out.trans (by simp [h1, h2])
    go_wp2_with fail
    go_ret
    exact ⟨rfl, HBW.out⟩
end
end Go.Proofs.YtelmcchleclklaaGreat
namespace Go.Proofs.YtelmcchleclklaaGreat
open Go.RowKit Go.Sort
set_option maxRecDepth 100000
set_option maxHeartbeats 4000000

theorem Wp.rels_snoc (s : Wp) (n : Nat) (l : List It) (x : It) : s.rels n (l ++ [x]) = ((s.rels n l).call n (qRl x.s x.g)).1 := by
 unfold Wp.rels
 rw [List.foldl_append]
 rfl
theorem take_filter {l : List It} {p : It → Bool} {i : Nat} {x : It} (h : l[i]? = some x) : (l.take (i + 1)).filter p = if p x = true then (l.take i).filter p ++ [x] else (l.take i).filter p := by
 rw [List.take_add_one, h, List.filter_append]
 by_cases e : p x = true
 ·rw [if_pos e]; simp [e]
 ·rw [if_neg e]; simp [e]
theorem IL.keepF {w w' : World} {B : Nat} {v : Value} {l : List It} (h : IL w B v l) (k : KeepF w w') : IL w' B v l :=
 h.keep (fun g cs t hg ht => k.cells hg (by rcases ht with rfl | rfl <;> exact notWi (by decide) (by decide) (by decide) (by decide) (by decide) (by decide) (by decide)) (by rcases ht with rfl | rfl <;> decide))
theorem It.okq {x : It} (h : x.Ok) : OkQ 6 (x.s : Int) (x.g : Int) 0 0 := by
 obtain ⟨h1, h2, h3, _⟩ := h
 unfold OkQ
 omega
theorem rels_fit {s : Wp} {m n : Nat} (hn : n < 8) {l : List It} (h : s.Fit m) (hl : l.length ≤ 16) : (s.rels n l).Fit (m + 48) := (Wp.Fit.rels hn l s m h).mono (by omega)
section
variable {w0 v : World} {g cb : Nat} {nd : ND} {e : Ep} {A C c f o cap : Nat} {B : Nat → Value} {s : Wp}
theorem cy_sweep (h1 : WL w0 v g nd s) (h2 : CM w0 v g cb nd e A C c f o cap B) {m : Nat} (hf : s.Fit m) (hm : m ≤ 999999800) {n : Nat} (hn : n < 8) :
  Calls Tryz.prog 147 #[.pointer (some ⟨cb, 0, none⟩), .int .i64 (n : Int)] v (WRet w0 v g nd (e.sweep s n) (.tuple #[])) := by
 have q1 := we_neqNil
 have q2 := we_neqNilNil
 have c0 := h2.c0
 have HW := Lib.hid h1
 have HM := Lib.hid h2
 have HC := Lib.hid (wl_call h1 hf.1 hf.2 (by omega) hn qIn none 0 DatN.none_ (fun _ hj => absurd hj (by show ¬ _ < 0; omega)) (by unfold OkQ qIn; dsimp only; omega))
 have HF1 := Lib.hid (hf.cal (q := qIn) hn (none_lt rfl))
 have HO := Lib.hid hf.1
 unfold qIn at HC
 obtain ⟨x, hx⟩ : ∃ x, e.sweep s n = x := ⟨_, rfl⟩
 have HX := Lib.hid hx
 rw [hx]
 obtain ⟨s1, a, hc⟩ : ∃ s1 a, s.call n qIn = (s1, a) := ⟨_, _, rfl⟩
 have hc' : s.call n ⟨5, 0, 0, 0, 0, fun _ => 0⟩ = (s1, a) := hc
 rw [hc'] at HC
 rw [hc] at HF1
 have HCC := Lib.hid hc
 clear h1 h2 hf hx hc hc'
 go_enter Tryz.func147, Tryz.ntmps147
 go_wp2_with fail
 refine HC.out.mono ?_
 intro en w1 hr
 cases a with
 | err c =>
  obtain ⟨b, rfl, W1, K1, _, ho⟩ := hr.err rfl
  try dsimp only
  have HZ := Lib.hid (And.intro W1 K1)
  have HY : Hid (x = s1) := Lib.hid (by rw [← HX.out]; unfold Ep.sweep; rw [HCC.out])
  clear hr W1 K1 ho
  go_wp2_with fail
  go_end0
  rw [HY.out]
  exact ⟨rfl, HZ.out.1.below ((Below.refl _ _).alloc (Nat.le_refl _) _), HZ.out.2.trans (KeepW.of ((Below.refl _ _).alloc (Nat.le_refl _) _))⟩
 | ok y =>
  obtain ⟨r, u, rfl, W1, K1, ⟨_, h, _⟩ | ⟨y', hy, rfl, A1, c1, A2, c2, rfl, hp, hi⟩⟩ := hr
  ·cases h
  ·cases hy
   try dsimp only
   obtain ⟨k0, hk0⟩ : ∃ k0 : Nat, y.2.code = k0 := ⟨_, rfl⟩
   obtain ⟨k1, hk1⟩ : ∃ k1 : Nat, y.1.boot = k1 := ⟨_, rfl⟩
   obtain ⟨l0, hl0⟩ : ∃ l0, y.2.ps.length = l0 := ⟨_, rfl⟩
   obtain ⟨L, hL⟩ : ∃ L, y.2.its = L := ⟨_, rfl⟩
   obtain ⟨l1, hl1⟩ : ∃ l1, L.length = l1 := ⟨_, rfl⟩
   have hok := Wp.its_ok HO.out hn HCC.out
   have hle := Wp.its_le HCC.out
   rw [hL] at hok hle hi
   have HL1 := Lib.hid hl1
   have HOK := Lib.hid (And.intro hok hle)
   have hle' : l1 ≤ 16 := by rw [← hl1]; exact hle
   have HI := Lib.hid hi.pl
   rw [hL, hl1, hk0, hk1, hl0]
   rw [hl1] at HI
   have HY : Hid (x = s1.rels n (L.filter e.rel)) := Lib.hid (by rw [← HX.out, ← hL]; unfold Ep.sweep; rw [HCC.out])
   have HZ := Lib.hid (And.intro W1 K1)
   clear hk0 hk1 hl0 hL hl1 hok hle hi hp W1 K1
   have HM1 := Lib.hid (HM.out.keep HW.out HZ.out.1 (KeepF.of HZ.out.2) rfl rfl rfl rfl)
   obtain ⟨P, hP⟩ : ∃ P, w1.heap.size = P := ⟨_, rfl⟩
   have HP := Lib.hid hP
   obtain ⟨w2, hw2⟩ : ∃ w2, w1.alloc (.cells #[.int .i64 (k0 : Int), .int .i64 (k1 : Int), .slice A1 l0 c1, .slice A2 l1 c2] 47) = w2 := ⟨_, rfl⟩
   have B2 : Below w1.heap.size w1 w2 := by rw [← hw2]; exact (Below.refl _ _).alloc (Nat.le_refl _) _
   have p2 : RV w2 P (k0 : Int) (k1 : Int) (.slice A1 l0 c1) (.slice A2 l1 c2) := by rw [← hw2]; exact RV.of_new hP
   have u3 := p2.c3
   have HV2 := Lib.hid hw2
   have HW2 := Lib.hid (HZ.out.1.below B2)
   have HK2 := Lib.hid (HZ.out.2.trans (KeepW.of B2))
   have HM2 := Lib.hid (HM1.out.below B2)
   have HI2 := Lib.hid (HI.out.below B2)
   clear hP hw2 B2 p2
   go_upto_region 1 with fail
   rw [HV2.out, HP.out]
   go_wp2_with fail
   go_loopg [23] l1 (fun k s23 wr => ∃ i : Nat, s23 = .int .i64 (i : Int) ∧ i ≤ l1 ∧ k = l1 - i ∧ Hid (WL w0 wr g nd (s1.rels n ((L.take i).filter e.rel)) ∧ KeepW w2 wr))
   case atStart => exact ⟨0, rfl, by omega, rfl, Lib.hid ⟨HW2.out, KeepW.refl _⟩⟩
   case round =>
    obtain ⟨i, rfl, hi, rfl, HS⟩ := hrel
    obtain ⟨wo, rfl⟩ : ∃ wo : World, wo = wr := ⟨wr, rfl⟩
    by_cases hlt : i < l1
    ·have hlt' : (i : Int) < (l1 : Int) := by omega
     obtain ⟨z, hz⟩ : ∃ z, L[i]? = some z := ⟨_, List.getElem?_eq_getElem (by rw [HL1.out]; exact hlt)⟩
     have hzo := HOK.out.1 z (List.mem_of_getElem? hz)
     have hzs := hzo.1
     obtain ⟨b, c', Az, cz, hv, _, hbl, z0, z1, z2, _⟩ := (HI2.out.keepF (KeepF.of HS.out.2)).at hz
     rw [HL1.out] at hv
     cases hv
     have HZQ := Lib.hid (It.okq hzo)
     have HZI := Lib.hid hz
     have HMo := Lib.hid (HM2.out.keep HW2.out HS.out.1 (KeepF.of HS.out.2) rfl rfl rfl rfl)
     obtain ⟨Q, hQ⟩ : ∃ Q, wo.heap.size = Q := ⟨_, rfl⟩
     have HQ := Lib.hid hQ
     obtain ⟨w4, hw4⟩ : ∃ w4, wo.alloc (.cells #[.int .i64 (z.s : Int), .int .i64 (z.g : Int), .slice Az 128 cz] 62) = w4 := ⟨_, rfl⟩
     have B4 : Below wo.heap.size wo w4 := by rw [← hw4]; exact (Below.refl _ _).alloc (Nat.le_refl _) _
     have p4 : IV w4 Q (z.s : Int) (z.g : Int) Az 128 cz := by rw [← hw4]; exact IV.of_new hQ
     have HV4 := Lib.hid hw4
     have HM4 := Lib.hid (HMo.out.below B4)
     have HW4 := Lib.hid (HS.out.1.below B4)
     have HK4 := Lib.hid (HS.out.2.trans (KeepW.of B4))
     have HSP := Lib.hid (cy_spent HM4.out z hzs Az cz)
     have HP4 := Lib.hid p4
     have y0 := p4.c0
     have y1 := p4.c1
     have y2 := p4.c2
     clear hQ hw4 B4 p4 hzo hz
     obtain ⟨zs, hzsE⟩ : ∃ zs, z.s = zs := ⟨_, rfl⟩
     obtain ⟨zg, hzgE⟩ : ∃ zg, z.g = zg := ⟨_, rfl⟩
     rw [hzsE] at z0 y0 HSP HV4 HZQ HP4
     rw [hzgE] at z1 y1 HSP HV4 HZQ HP4
     have HZE := Lib.hid (And.intro hzsE hzgE)
     clear hzsE hzgE
     obtain ⟨rb, hrb⟩ : ∃ rb, e.rel z = rb := ⟨_, rfl⟩
     rw [hrb] at HSP
     have HRB := Lib.hid hrb
     clear hrb
     go_upto_region 5 with fail
     rw [HV4.out, HQ.out]
     go_wp2_with fail
     refine HSP.out.mono ?_
     rintro en w5 ⟨rfl, b5⟩
     try dsimp only
     have HW5 := Lib.hid (HW4.out.below b5)
     have HK5 := Lib.hid (HK4.out.trans (KeepW.of b5))
     have HM5 := Lib.hid (HM4.out.below b5)
     have p5 := HP4.out.below b5
     have x0 := p5.c0
     have x1 := p5.c1
     clear b5 p5 y0 y1 y2
     cases rb with
     | false =>
      go_wp2_with fail
      go_roundg (l1 - (i + 1))
      case measure => omega
      case rel => exact ⟨i + 1, by go_num, by omega, rfl, Lib.hid ⟨by rw [take_filter HZI.out, HRB.out, if_neg (by decide)]; exact HW5.out, HK5.out⟩⟩
     | true =>
      have hfl : ((L.take i).filter e.rel).length ≤ 16 := Nat.le_trans (List.length_filter_le _ _) (Nat.le_trans (by rw [List.length_take]; exact Nat.min_le_right _ _) HOK.out.2)
      have HRL := Lib.hid (cy_release HW5.out HM5.out.cbp (rels_fit hn HF1.out hfl) (by omega) hn HZQ.out)
      clear hfl
      go_wp2_with fail
      refine HRL.out.mono ?_
      rintro en w6 ⟨rfl, W6, K6⟩
      try dsimp only
      have HZ6 := Lib.hid (And.intro W6 (HK5.out.trans K6))
      clear W6 K6
      go_wp2_with fail
      go_roundg (l1 - (i + 1))
      case measure => omega
      case rel => exact ⟨i + 1, by go_num, by omega, rfl, Lib.hid ⟨by rw [take_filter HZI.out, HRB.out, if_pos rfl, Wp.rels_snoc, HZE.out.1, HZE.out.2]; exact HZ6.out.1, HZ6.out.2⟩⟩
    ·obtain rfl : i = l1 := by omega
     have hge : ¬ (i : Int) < (i : Int) := by omega
     go_wp2_with fail
     go_end0
     rw [HY.out, ← List.take_of_length_le (Nat.le_of_eq HL1.out)]
     exact ⟨rfl, HS.out.1, HK2.out.trans HS.out.2⟩
end
end Go.Proofs.YtelmcchleclklaaGreat
