import Derived.Test.YtelmcchleclklaaGreatV08
import Derived.Test.YtelmcchleclklaaGreatV47
import Derived.Test.YtelmcchleclklaaGreatV13
import Derived.Test.YtelmcchleclklaaGreatV03
namespace Go.Proofs.YtelmcchleclklaaGreat
open Go.RowKit Go.Sort
set_option maxRecDepth 100000
set_option maxHeartbeats 1000000

def DPendRet (ks : List Int) (w : World) (e : Ending) (w' : World) : Prop := ∃ A cap, e = .returned (.slice A ks.length cap) ∧ w'.ownsRow w.heap.size 3 1 (.slice A ks.length cap) ks.length (intsV ks) ∧ Below w.heap.size w w'
def ksOf (l : List (Nat × Blk)) : List Int := l.map (fun x => (x.1 : Int))
theorem dpending {w : World} {p : Nat} {S : List Nat} {N : Nat} {d : Disk} {nw : Nat} (h : Plt w p S N d nw) (hwr : nw ≤ 1000000000) :
  Calls Tryz.prog 20 #[.pointer (some ⟨p, 0, none⟩)] w (DPendRet (ksOf d.pend) w) := by
 obtain ⟨db, nb, pv, h, _, _⟩ := h
 obtain ⟨a, cap, rfl, ha⟩ := h.pend.form
 have hl := h.len
 have c2 := h.c2
 have HA := Lib.hid ha
 have HP := Lib.hid h
 have hz := heap_lt h.head
 have HK : Hid (∃ ks, ks = ksOf d.pend) := Lib.hid ⟨_, rfl⟩
 obtain ⟨l, hl0⟩ : ∃ l, d.pend = l := ⟨_, rfl⟩
 rw [hl0] at HP HA hl c2 ⊢
 clear ha h hl0 HK
 obtain ⟨n, hn⟩ : ∃ n, l.length = n := ⟨_, rfl⟩
 have HN := Lib.hid hn
 rw [hn] at HP HA hl c2
 clear hn
 have HB : Hid (Below w.heap.size w w) := Lib.hid (Below.refl _ _)
 go_enter Tryz.func20, Tryz.ntmps20
 go_wp2_with fail
 clear c2
 go_loopg [3, 5, 13] n (fun q s3 s5 s13 v => ∃ i : Nat, s13 = .int .i64 (i : Int) ∧ i ≤ n ∧ q = n - i ∧ Hid (v.ownsRow w.heap.size 3 1 s3 i (intsV (ksOf (l.take i))) ∧ Below w.heap.size w v))
 case atStart => exact ⟨0, rfl, by omega, rfl, Lib.hid ⟨World.ownsRow_nil _ _ _ _, Below.refl _ _⟩⟩
 case round =>
  obtain ⟨i, rfl, hi, rfl, HS⟩ := hrel
  generalize wr = v at *
  by_cases hlt : i < n
  ·have hl3 : (i : Int) < (n : Int) := by omega
   obtain ⟨⟨k, F⟩, hx⟩ : ∃ x, l[i]? = some x := ⟨_, List.getElem?_eq_getElem (by rw [HN.out]; exact hlt)⟩
   obtain ⟨q, rfl⟩ := HA.out (by omega)
   have HP2 : Hid (PltR v p db nb N (.slice (some ⟨q, 0, none⟩) n cap) d.done l nw) := Lib.hid (HP.out.below HS.out.2)
   obtain ⟨hk, c1, g, c', c2, hr⟩ := HP2.out.pend.at hx
   have hks : ksOf (l.take (i + 1)) = ksOf (l.take i) ++ [(k : Int)] := by rw [List.take_add_one, hx]; simp [ksOf]
   have HKS := Lib.hid hks
   clear hx hr hks
   go_wp2_with (at_builtin; refine append_int _ rfl _ _ rfl w.heap.size u3 i (ksOf (l.take i)) rfl ((HS.out.1.alloc _).alloc _) (v.heap.size + 1) (k : Int) rfl (by simp [go_sem]) (by omega) (by have := HS.out.2.size; simp; omega) ?_; intro g' cap' w4 hown4 hgrow4 hlies4 hlt4; have HO4 := Lib.hid hown4; have HG4 := Lib.hid hgrow4; have HY4 := Lib.hid hlies4; clear hown4 hgrow4 hlies4)
   go_roundg (n - (i + 1))
   case measure => omega
   case rel => exact ⟨i + 1, by go_num, by omega, rfl, Lib.hid ⟨by rw [HKS.out]; exact HO4.out, Below.grown ((HS.out.2.alloc HS.out.2.size _).alloc (by have := HS.out.2.size; simp; omega) _) HG4.out (by have := HS.out.2.size; simp; omega) (own_ge HS.out.1)⟩⟩
  ·obtain rfl : i = n := by omega
   have hge : ¬ (i : Int) < (i : Int) := by omega
   have HL : Hid (l.take i = l) := Lib.hid (List.take_of_length_le (by rw [HN.out]; omega))
   clear hlt
   go_wp2_with fail
   go_ret
   have h1 := HS.out.1
   rw [HL.out] at h1
   have hlen : (ksOf l).length = i := by simp [ksOf, HN.out]
   obtain ⟨A, cap', rfl, _⟩ := own_form h1
   exact ⟨A, cap', by rw [hlen]; rfl, by rw [hlen]; exact h1, HS.out.2⟩

end Go.Proofs.YtelmcchleclklaaGreat
namespace Go.Proofs.YtelmcchleclklaaGreat
open Go.RowKit Go.Sort
set_option maxRecDepth 100000
set_option maxHeartbeats 8000000

theorem Wp.setN_self (s : Wp) (n : Nat) : s.setN n (s.N n) = s := by
 unfold Wp.setN
 have : (fun i => if i = n then s.N n else s.N i) = s.N := funext fun i => by
  by_cases e : i = n
  ·rw [if_pos e, e]
  ·rw [if_neg e]
 rw [this]
theorem ksOf_disk (t : Td) : ksOf t.disk.pend = (t.pend.map (·.1)).map (fun k : Nat => (k : Int)) := by
 unfold ksOf Td.disk
 rw [List.map_map, List.map_map]
 rfl
theorem ksOf_mem (t : Td) (k : Nat) : (k : Int) ∈ ksOf t.disk.pend ↔ k ∈ t.pend.map (·.1) := by
 rw [ksOf_disk, List.mem_map]
 constructor
 ·rintro ⟨j, hj, e⟩
  have : j = k := by omega
  exact this ▸ hj
 ·exact fun h => ⟨k, h, rfl⟩
section
variable {w0 v : World} {g : Nat} {nd : ND} {s : Wp}
theorem wl_pendp (h : WL w0 v g nd s) {n : Nat} (hn : n < 8) (hw : (s.N n).nw ≤ 1000000000) : ∃ p, Calls Tryz.prog 19 #[.pointer (some ⟨nd n, 0, none⟩)] v (fun e w' => e = .returned (.pointer (some ⟨p, 0, none⟩)) ∧ w' = v) ∧ Calls Tryz.prog 20 #[.pointer (some ⟨p, 0, none⟩)] v (DPendRet (ksOf (s.N n).t.disk.pend) v) := by
 obtain ⟨r, p, sb, S, h1, h2, h3⟩ := h.act hn
 exact ⟨p, nplatter h1.nb, dpending h1.plt hw⟩
end
section
variable {w v v' : World} {g p lim i mb : Nat} {nd : ND} {e : Ep} {f : Nat → Option (Nat × Int)}
theorem CS.ask (h : CS w g nd p lim i mb e f v) (hw : WL w v' g nd e.w) (k : KeepW v v') : CS w g nd p lim i mb e f v' := by
 refine ⟨h.le.wire hw (KeepF.of k), h.inv, h.fit, h.nx, h.fl, ?_, h.lm, h.la, fun s b d hf => ⟨(h.f4 s b d hf).1, (h.f4 s b d hf).2.hold (fun g cs hg => (KeepF.of k).cells hg u8_notW (by decide))⟩⟩
 obtain ⟨D, n, h1, h2, h3⟩ := h.mp
 obtain ⟨es, c, hb⟩ := ownsS_block h1
 exact ⟨D, n, ownsS_keep h1 ((k.2 mb _ hb (fun cs t fr e => by cases e)).trans hb.symm), h2, h3⟩
structure CR (w : World) (g : Nat) (nd : ND) (p lim i mb r n cnt : Nat) (e : Ep) (f : Nat → Option (Nat × Int)) (D : DataW Unit) (left : Lit → Bool) (v : World) : Prop where
 cs : CS w g nd p lim i mb e f v
 rg : v.ranges Tryz.prog 3 RdSl mb r n D left cnt
 rl : lim ≤ r
 md : MapF D f
 lf : ∀ x : Int, left (.int .i64 x) = true → Maps.has D (.int .i64 x) = true
variable {r n cnt : Nat} {D : DataW Unit} {left : Lit → Bool}
theorem CR.below (h : CR w g nd p lim i mb r n cnt e f D left v) (b : Below v.heap.size v v') : CR w g nd p lim i mb r n cnt e f D left v' := by
 obtain ⟨es, c, hb⟩ := rangesS_map h.rg
 obtain ⟨s, q, k, hr⟩ := rangesS_iter h.rg
 exact ⟨h.cs.below b, rangesS_keep h.rg (b.block mb (heap_lt hb)) (b.block r (heap_lt hr)), h.rl, h.md, h.lf⟩
theorem CR.ask (h : CR w g nd p lim i mb r n cnt e f D left v) (hw : WL w v' g nd e.w) (k : KeepW v v') : CR w g nd p lim i mb r n cnt e f D left v' := by
 obtain ⟨es, c, hb⟩ := rangesS_map h.rg
 obtain ⟨s, q, kk, hr⟩ := rangesS_iter h.rg
 exact ⟨h.cs.ask hw k, rangesS_keep h.rg ((k.2 mb _ hb (fun cs t fr e => by cases e)).trans hb.symm) ((k.2 r _ hr (fun cs t fr e => by cases e)).trans hr.symm), h.rl, h.md, h.lf⟩
theorem CR.step (h : CR w g nd p lim i mb r n cnt e f D left v) {cnt' : Nat} {left' : Lit → Bool} (gr : v.grownBy v' (some r)) (hr : v'.ranges Tryz.prog 3 RdSl mb r n D left' cnt') (hl : ∀ x : Int, left' (.int .i64 x) = true → left (.int .i64 x) = true) : CR w g nd p lim i mb r n cnt' e f D left' v' := by
 obtain ⟨s, q, kk, hi⟩ := rangesS_iter h.rg
 have hn : ∀ cs t fr, v.heap[r]? ≠ some (.cells cs t fr) := fun cs t fr e2 => by rw [hi] at e2; cases e2
 have hc := h.cs
 refine ⟨⟨hc.le.other hn h.rl gr, hc.inv, hc.fit, hc.nx, hc.fl, ?_, hc.lm, hc.la, fun s b d hf => ⟨(hc.f4 s b d hf).1, (hc.f4 s b d hf).2.hold (fun g cs hg => cells_keep hn gr hg)⟩⟩, hr, h.rl, h.md, fun x hx => h.lf x (hl x hx)⟩
 obtain ⟨D0, n0, h1, h2, h3⟩ := hc.mp
 obtain ⟨es, c, hb⟩ := ownsS_block h1
 exact ⟨D0, n0, ownsS_keep h1 (gr.block mb (heap_lt hb) (fun e2 => by injection e2 with e2; rw [e2, hi] at hb; cases hb)), h2, h3⟩
theorem CR.start (h : CS w g nd p lim i mb e f v) {D : DataW Unit} {n : Nat} (hD : MapF D f) (gr : v.grownBy v' none) (hr : v'.ranges Tryz.prog 3 RdSl mb v.heap.size n D (Maps.has D) (Maps.size D)) : CR w g nd p lim i mb v.heap.size n (Maps.size D) e f D (Maps.has D) v' :=
 ⟨h.below ⟨gr.os, gr.tape, gr.output, gr.size, fun k hk => gr.block k hk (by simp)⟩, hr, h.le.limLe, hD, fun _ hx => hx⟩
theorem CR.key (h : CR w g nd p lim i mb r n cnt e f D left v) {x : Int} {c : Nat} (hx : left (.int .i64 x) = true) (hat : ∀ z, D.atKey (.int .i64 x) z = .lit (.int .i64 (c : Int))) : ∃ s d, x = ((s : Nat) : Int) ∧ s < 4 ∧ f s = some (c, d) := by
 obtain ⟨s, b, d, rfl, hf⟩ := h.md.has x (h.lf x hx)
 have h1 := h.md.val s b d hf (.lit (.bool false))
 have h2 := hat (.lit (.bool false))
 have h3 : (DataW.lit (.int .i64 (b : Int)) : DataW Unit) = .lit (.int .i64 (c : Int)) := h1.symm.trans h2
 have h4 : b = c := by
  injection h3 with h3
  injection h3 with _ h3
  omega
 subst h4
 exact ⟨s, d, rfl, (h.cs.f4 s b d hf).1, hf⟩
theorem CS.chunks (h : CS w g nd p lim i mb e f v) {s b : Nat} {d : Int} (hf : f s = some (b, d)) (hp : (e.pend s).isSome = false) : sumT (cC1 e s) 8 = 6 := by
 have hn : e.pend s = none := by
  cases hx : e.pend s with
  | none => rfl
  | some D => rw [hx] at hp; cases hp
 exact chunks_six h.inv h.fit.1.ok (h.f4 s b d hf).1 hn (h.la.gn s b d hf)
theorem CS.ints (h : CS w g nd p lim i mb e f v) {s b : Nat} {d : Int} (hf : f s = some (b, d)) (hp : (e.pend s).isSome = true) : 3 ≤ sumT (cI1 e s (bytesF d)) 8 := by
 obtain ⟨D, hD⟩ := Option.isSome_iff_exists.1 hp
 have := h.la.pd s b d D hf hD
 subst this
 exact ints_three h.inv (by have := (h.f4 s b d hf).1; omega) hD
end
end Go.Proofs.YtelmcchleclklaaGreat
namespace Go.Proofs.YtelmcchleclklaaGreat
open Go.RowKit Go.Sort
set_option maxRecDepth 100000
set_option maxHeartbeats 2000000
end Go.Proofs.YtelmcchleclklaaGreat
namespace Go.Proofs.YtelmcchleclklaaGreat
open Go.RowKit Go.Sort
set_option maxRecDepth 100000
set_option maxHeartbeats 4000000

def FatesRetN (K : Nat) (w : World) (e : Ending) (w' : World) : Prop := ∃ A c, ∃ F : List Int, e = .returned (.slice A F.length c) ∧ F.length ≤ K ∧ F.length ≤ c ∧ Nums w' A F ∧ Below w.heap.size w w'
theorem hfatesN (K : Nat) (hK : K ≤ 1000) (a : Option Addr) (L : List Int) (c : Nat) (w : World) (hL : Nums w a L) (_hm : L.length ≤ 9223372036854775807) :
  Calls Tryz.prog 11 #[.slice a L.length c, .int .i64 (K : Int)] w (FatesRetN K w) := by
 have hm := _hm
 have HL := Lib.hid hL
 obtain ⟨n0, hn0⟩ : ∃ n0, L.length = n0 := ⟨_, rfl⟩
 have HN0 := Lib.hid hn0
 rw [hn0] at hm ⊢
 have HPK : Hid (∀ a W, Calls Tryz.prog 7 #[.int .i64 a, .int .i64 4] W fun e w' => (∃ p : Nat, p < 4 ∧ e = .returned (.int .i64 (p : Int))) ∧ w' = W) := Lib.hid (fun a W => by
  obtain ⟨p, hp, h⟩ := rpickN a 4 (by omega) (by omega)
  exact (h W).mono (by rintro e w' ⟨rfl, hw⟩; exact ⟨⟨p, hp, rfl⟩, hw⟩))
 clear hL hn0
 go_enter Tryz.func11, Tryz.ntmps11
 go_wp2_with fail
 go_loopg [5, 6] K (fun q s5 s6 wr => ∃ (i : Nat) (F : List Int), s6 = .int .i64 (i : Int) ∧ i ≤ K ∧ q = K - i ∧ F.length = i ∧ Hid (wr.ownsRow w.heap.size 3 1 s5 i (intsV F) ∧ Below w.heap.size w wr))
 case atStart => exact ⟨0, [], rfl, by omega, rfl, rfl, Lib.hid ⟨World.ownsRow_nil _ _ _ _, Below.refl _ _⟩⟩
 case round =>
  obtain ⟨i, F, rfl, hi, rfl, hF, HS⟩ := hrel
  obtain ⟨wo, rfl⟩ : ∃ wo : World, wo = wr := ⟨wr, rfl⟩
  have HFL := Lib.hid hF
  clear hF
  obtain ⟨bb, hbb⟩ : ∃ bb : Bool, (decide (i < n0) && decide (i < K)) = bb := ⟨_, rfl⟩
  have HBB := Lib.hid hbb
  clear hbb
  go_upto_region 3 with fail
  go_cut [16] from 8 to 16 (fun s16 wx => s16 = .bool bb ∧ wx = wo)
  case first =>
   by_cases g1 : i < n0
   ·have g1' : (i : Int) < (n0 : Int) := by omega
    by_cases g2 : i < K
    ·have g2' : (i : Int) < (K : Int) := by omega
     go_wp2_with fail
     go_meet
     exact ⟨by rw [← HBB.out]; simp [g1, g2], rfl⟩
    ·have g2' : ¬ (i : Int) < (K : Int) := by omega
     go_wp2_with fail
     go_meet
     exact ⟨by rw [← HBB.out]; simp [g1, g2], rfl⟩
   ·have g1' : ¬ (i : Int) < (n0 : Int) := by omega
    go_wp2_with fail
    go_meet
    exact ⟨by rw [← HBB.out]; simp [g1], rfl⟩
  case rest =>
   obtain ⟨rfl, hwc⟩ := hcut
   obtain rfl := hwc.symm
   cases bb with
   | true =>
    have hi2 : i < n0 ∧ i < K := by have := HBB.out; simp at this; exact this
    obtain ⟨g1, g2⟩ := hi2
    have g1' : (i : Int) < (n0 : Int) := by omega
    obtain ⟨x, hx⟩ : ∃ x, L[i]? = some x := ⟨_, List.getElem?_eq_getElem (by rw [HN0.out]; exact g1)⟩
    obtain ⟨ga, oa, rfl, hga, hca⟩ := HL.out i x hx
    have hc1 : wo.cell? ⟨ga, oa + i, none⟩ = some (.int .i64 x) := (HS.out.2.cell (p := ⟨ga, oa + i, none⟩) hga).trans hca
    clear hx hca
    obtain ⟨b4, hb4⟩ : ∃ b4, (x.tmod 4 == 0) = b4 := ⟨_, rfl⟩
    go_upto_if 24 with fail
    go_cut [7] from 25 to 30 (fun s7 wx => ∃ f : Int, s7 = .int .i64 f ∧ wx = wo)
    case first =>
     cases b4 with
     | true =>
      go_wp2_with fail
      refine (HPK.out _ wo).mono ?_
      rintro e w4 ⟨⟨p, hp, rfl⟩, hw⟩
      obtain rfl := hw.symm
      try dsimp only
      go_wp2_with fail
      go_meet
      exact ⟨_, rfl, rfl⟩
     | false =>
      go_wp2_with fail
      go_meet
      exact ⟨_, rfl, rfl⟩
    case rest =>
     obtain ⟨f, rfl, hwc⟩ := hcut
     obtain rfl := hwc.symm
     clear hb4 hc1
     have HO := Lib.hid (own_keep HS.out.1 ((Below.refl _ _).alloc (Nat.le_refl _) (.cells #[.int .i64 f] 3)))
     have hge : Hid (w.heap.size ≤ wo.heap.size) := Lib.hid HS.out.2.size
     go_wp2_with (at_builtin; refine append_int _ rfl (.tmp 31) (.tmp 33) rfl w.heap.size _ i F rfl HO.out wo.heap.size f rfl (by simp [go_sem]) (by omega) ?c2 ?_)
     case c2 => have := hge.out; simp; omega
     intro g9 cap9 w9 hown9 hgr9 hor9 hlt9
     have hb9 : Below w.heap.size w w9 := by
      refine (HS.out.2.alloc HS.out.2.size _).grown hgr9 (by have := hge.out; simp; omega) ?_
      exact own_ge HS.out.1
     have H9 := Lib.hid (And.intro hown9 hb9)
     clear hown9 hgr9 hor9 hlt9 hb9 HO
     go_wp2_with fail
     go_roundg (K - (i + 1))
     case measure => omega
     case rel => exact ⟨i + 1, F ++ [f], by go_num, by omega, rfl, by rw [List.length_append, HFL.out]; rfl, H9⟩
   | false =>
    obtain ⟨A, cap, hv, _⟩ := own_form HS.out.1
    subst hv
    go_wp2_with fail
    go_ret
    have h := HS.out.1
    refine ⟨A, cap, F, by rw [HFL.out]; rfl, by rw [HFL.out]; exact hi, ?_, (own_nums h).1, HS.out.2⟩
    rw [HFL.out]
    rcases h.2 with ⟨_, h0⟩ | ⟨g, cap', cur, e, _, _, h3, _⟩
    ·omega
    ·cases e; exact h3
theorem idx_eq {s n : Nat} (hs : s < 40) (hn : n < 8) : indexF (s : Int) (n : Int) = if idxN s n < 6 then (idxN s n : Int) else -1 := by
 unfold indexF idxN
 split
 ·next h =>
  rw [if_pos (by omega)]
  omega
 ·next h =>
  rw [if_neg (by omega)]
theorem countP_take {α : Type} {l : List α} {p : α → Bool} {k : Nat} {x : α} (h : l[k]? = some x) : (l.take (k + 1)).countP p = (l.take k).countP p + (if p x = true then 1 else 0) := by
 rw [List.take_add_one, h, List.countP_append]
 by_cases e : p x = true
 ·rw [if_pos e]; simp [e]
 ·rw [if_neg e]; simp [e]
theorem countP_le {α : Type} (l : List α) (p : α → Bool) (k : Nat) : (l.take k).countP p ≤ l.length := Nat.le_trans List.countP_le_length (by rw [List.length_take]; omega)
theorem pcs_le (a : Ns) (s : Nat) : (a.pcs s).length ≤ 2 := two_le _ _
theorem cC1_le (e : Ep) (s n : Nat) : cC1 e s n ≤ 2 := by
 unfold cC1
 split
 ·exact Nat.le_trans List.countP_le_length (pcs_le _ _)
 ·omega
theorem liveT_le (R : Nat → Option Nt) : (liveT R).length ≤ 16 := by rw [liveT_len]; exact colR_len R 16
theorem cI1_le (e : Ep) (s : Nat) (D : Nat → Nat) (n : Nat) : cI1 e s D n ≤ 16 := by
 unfold cI1
 refine Nat.le_trans List.countP_le_length ?_
 rw [List.length_map]
 exact liveT_le _
theorem sumT_succ (f : Nat → Nat) (n : Nat) : sumT f (n + 1) = sumT f n + f n := rfl
theorem str_beq (a b : List Nat) (ha : ∀ x ∈ a, x < 256) (hb : ∀ x ∈ b, x < 256) : ((strOf a).toList == (strOf b).toList) = decide (a = b) := by
 by_cases h : a = b
 ·subst h
  rw [decide_eq_true rfl, beq_iff_eq]
 ·rw [decide_eq_false h, beq_eq_false_iff_ne]
  exact fun e => h (strOf_inj ha hb e)
theorem kw_peq (g : Nat) (W : World) : Sem.run Tryz.prog (binOp BinOp.eql 24 (.pointer (some ⟨g, 0, none⟩)) (.pointer (some ⟨g, 0, none⟩))) W = .ok (.bool true) W := by
 have hi : (Tryz.prog.info? 96).isSome = true := by kernel_rfl
 obtain ⟨j, hj⟩ := Option.isSome_iff_exists.1 hi
 exact run_eql_ptr_same W ⟨g, 0, none⟩ Tryz.underlying24 hj
def Zd (w : World) (g : Nat) (nd : ND) (p lim i mb r n cnt : Nat) (e : Ep) (f : Nat → Option (Nat × Int)) (D : DataW Unit) (left : Lit → Bool) (v : World) (B : Nat) (A : Value) (L : List Pc) (Q zg zi : Nat) : Prop :=
 CR w g nd p lim i mb r n cnt e f D left v ∧ PL v B A L ∧ v.cell? ⟨Q, 1, none⟩ = some (.int .i64 (zg : Int)) ∧ v.cell? ⟨Q, 2, none⟩ = some (.int .i64 (zi : Int))
theorem Zd.below2 {w v v' : World} {g p lim i mb r n cnt B Q zg zi : Nat} {nd : ND} {e : Ep} {f : Nat → Option (Nat × Int)} {D : DataW Unit} {left : Lit → Bool} {A : Value} {L : List Pc} (h : Zd w g nd p lim i mb r n cnt e f D left v B A L Q zg zi) (b : Below v.heap.size v v') : Zd w g nd p lim i mb r n cnt e f D left v' B A L Q zg zi :=
 ⟨h.1.below b, h.2.1.below b, (b.cell (p := ⟨Q, 1, none⟩) (cell?_lt h.2.2.1)).trans h.2.2.1, (b.cell (p := ⟨Q, 2, none⟩) (cell?_lt h.2.2.1)).trans h.2.2.2⟩
section
variable {w v : World} {g p lim i mb : Nat} {nd : ND} {e : Ep} {f : Nat → Option (Nat × Int)}
theorem CS.pendlen (h : CS w g nd p lim i mb e f v) {n : Nat} (hn : n < 8) (hi : i ≤ 1000) : (ksOf (e.w.N n).t.disk.pend).length ≤ 1000000000 := by
 obtain ⟨r, p, sb, S, h1, h2, h3⟩ := h.le.wl.act hn
 obtain ⟨db, nb, pv, h4, _⟩ := h1.plt
 have h5 := h4.len
 have h6 := h.fit.1.nw n hn
 unfold ksOf
 rw [List.length_map]
 omega
theorem CS.itbytes (h : CS w g nd p lim i mb e f v) {n : Nat} (hn : n < 8) {y : It} (hy : y ∈ (liveT (e.w.N n).R).map (·.2)) (j : Nat) (hj : j < 128) : y.D j < 256 := by
 obtain ⟨⟨k, x⟩, hx, rfl⟩ := List.mem_map.1 hy
 obtain ⟨q, hq, hR⟩ := colR_mem.1 ((liveT_perm _).mem_iff.1 hx)
 exact ((h.fit.1.ok n hn).rs q k x hq hR).2.2.2.2.2 j hj
end
end Go.Proofs.YtelmcchleclklaaGreat
