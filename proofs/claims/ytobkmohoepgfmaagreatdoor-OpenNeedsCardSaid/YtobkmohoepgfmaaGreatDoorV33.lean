import Derived.Test.YtobkmohoepgfmaaGreatDoorV32
namespace Go.Proofs.YtobkmohoepgfmaaGreatDoor
open Go.RowKit Go.Sort
set_option maxRecDepth 100000
set_option maxHeartbeats 8000000

theorem encK_lt (M : Nat → Nat → Nat) (i j : Nat) : Kc.enc M i j < 256 := by
 unfold Kc.enc Kc.mm
 exact Kc.sx_lt (fun _ _ => Kc.mul_lt _ _)
theorem KeepE.mono {lim lim' : Nat} {w w' : World} (h : KeepE lim w w') (hl : lim ≤ lim') : KeepE lim' w w' := ⟨h.1, fun k o hk ho hm => h.2 k o hk ho (fun es c e => Nat.le_trans hl (hm es c e))⟩
theorem KeepE.set {w : World} {lim cb : Nat} {cs : Array Value} {fr : Nat × Nat} (h : w.heap[cb]? = some (.cells cs 72 fr)) (k : Nat) (u : Value) : KeepE lim w (w.setCell ⟨cb, k, none⟩ u) := by
 refine ⟨by simp [World.setCell], fun j o hj ho _ => ?_⟩
 rw [set_other (fun e => ?_)]
 ·exact hj
 ·subst e
  rw [h] at hj
  cases hj
  exact (ho _ _ _ rfl).2 rfl
theorem HaveRet.zero {w0 v : World} {g : Nat} {nd : ND} {n : Nat} {s : Wp} {en : Ending} {w' : World} (h : HaveRet w0 v g nd n (s, 0) en w') : en = .returned .nilIface ∧ WL w0 w' g nd s ∧ KeepW v w' := by
 obtain ⟨u, rfl, h1, h2, ⟨_, rfl⟩ | ⟨h3, _⟩⟩ := h
 ·exact ⟨rfl, h1, h2⟩
 ·exact absurd rfl h3
theorem HaveRet.non {w0 v : World} {g : Nat} {nd : ND} {n d : Nat} {s : Wp} {en : Ending} {w' : World} (h : HaveRet w0 v g nd n (s, d) en w') (hd : d ≠ 0) : ∃ b, en = .returned (onv b) ∧ WL w0 w' g nd s ∧ KeepW v w' := by
 obtain ⟨u, rfl, h1, h2, ⟨h3, _⟩ | ⟨_, b, rfl, _⟩⟩ := h
 ·exact absurd h3 hd
 ·exact ⟨b, rfl, h1, h2⟩
def SprRet (w0 v : World) (g cb : Nat) (nd : ND) (e' : Ep) (A C c f o cap : Nat) (en : Ending) (w' : World) : Prop :=
 en = .returned (.tuple #[]) ∧ WL w0 w' g nd e'.w ∧ (∃ B', CM w0 w' g cb nd e' A C c f o cap B') ∧ KeepE 0 v w'
section
variable {w0 v : World} {g cb : Nat} {nd : ND} {e : Ep} {A C c f o cap : Nat} {B : Nat → Value}
theorem cy_spread (h1 : WL w0 v g nd e.w) (h2 : CM w0 v g cb nd e A C c f o cap B) {m : Nat} (hf : e.w.Fit m) (hm : m ≤ 999990000) {st : Nat} (hst : st < 40) {D : Nat → Nat} (hp : e.pend st = some D) (hgn : e.gen st ≤ 1099511627776) :
  Calls Tryz.prog 62 #[.pointer (some ⟨cb, 0, none⟩), .int .i64 (st : Int)] v (SprRet w0 v g cb nd (e.fin st (Kc.enc (Kc.parts D))) A C c f o cap) := by
 have q1 := we_eqlNil
 have q2 := we_eqlNilNil
 obtain ⟨h0, _⟩ | ⟨D', b, kb, hp', hB, hkb, hwb, hblk, hDb⟩ := h2.pb st hst
 ·rw [hp] at h0; cases h0
 obtain rfl : D' = D := by rw [hp] at hp'; cases hp'; rfl
 clear hp'
 obtain ⟨gn, hgg⟩ : ∃ gn, e.gen st = gn := ⟨_, rfl⟩
 obtain ⟨E, hE⟩ : ∃ E, Kc.enc (Kc.parts D') = E := ⟨_, rfl⟩
 obtain ⟨a1, a2, a3, a4⟩ := h2.known hst
 rw [hB] at a4
 rw [hgg] at a1 hgn
 have hst' : (st : Int) < 40 := by omega
 have ac := h2.cc
 have HV := Lib.hid h1
 have HM := Lib.hid h2
 have HF := Lib.hid hf
 have HGG := Lib.hid hgg
 have HP := Lib.hid hp
 have HEB : Hid (∀ i j, E i j < 256) := Lib.hid (fun i j => by rw [← hE]; exact encK_lt _ _ _)
 have BD : Hid (Below v.heap.size v v.drew) := Lib.hid (below_drewN 1 v)
 have HEN := Lib.hid (Kc.cencodeT c f o cap b 0 kb D' v.drew (h2.below BD.out).cdr hkb (fun j hj => by rw [Nat.zero_add]; exact (hblk.below BD.out).row8.cell j hj) hDb)
 rw [hE] at HEN
 rw [hE]
 obtain ⟨X, hX⟩ : ∃ X, e.fin st E = X := ⟨_, rfl⟩
 have HX := Lib.hid hX
 rw [hX]
 have HSK : Hid (∀ W, Below v.heap.size v W → W.cell? ⟨cb, 161, none⟩ = some (.pointer (some ⟨c, 0, none⟩)) ∧ W.cell? ⟨cb, 1 + st * 4 + 3, none⟩ = some (.slice (some ⟨b, 0, none⟩) 128 kb)) := Lib.hid (fun W hW => by
  have r := (h2.below hW).known hst
  rw [hB] at r
  exact ⟨(h2.below hW).cc, r.2.2.2⟩)
 clear h1 h2 hf hX hgg hp hE hB hblk hDb
 go_enter Tryz.func62, Tryz.ntmps62
 go_wp2_with fail
 go_region_held_law (fun W => W.cell? ⟨cb, 161, none⟩ = some (.pointer (some ⟨c, 0, none⟩)) ∧ W.cell? ⟨cb, 1 + st * 4 + 3, none⟩ = some (.slice (some ⟨b, 0, none⟩) 128 kb))
  (first | (with_reducible assumption) | (with_reducible exact HSK.out _ BD.out) | (with_reducible exact HSK.out _ BB1.out))
  (first
   | (go_simp; go_at_call 94; (with_reducible refine HEN.out.mono ?_); rintro en w1 ⟨b1, rfl, ho, hb1, bb1, ht⟩; (try dsimp only); have HO1 := Lib.hid ho; have HT1 := Lib.hid ht; have HBB := Lib.hid hb1; have BB1 : Hid (Below v.heap.size v w1) := Lib.hid (BD.out.trans (bb1.mono (Nat.le_refl _))); clear ho hb1 bb1 ht)
   | fail)
 -- the chunks are to stay
 have hbs : v.heap.size ≤ b1 := HBB.out
 obtain ⟨nd2, hnd2⟩ : ∃ nd2, nd.add (fun k => v.heap.size ≤ k ∧ k < w1.heap.size) w1 = nd2 := ⟨_, rfl⟩
 have HW1 : Hid (WL w0 w1 g nd2 e.w) := Lib.hid (by rw [← hnd2]; exact HV.out.add BB1.out (fun k hk => hk))
 have HM1 : Hid (CM w0 w1 g cb nd2 e A C c f o cap B) := Lib.hid (by
  rw [← hnd2]
  refine (HM.out.below BB1.out).other (fun k hk => Or.inl hk) (fun hk => ?_)
  rcases hk with hk | hk
  ·exact HM.out.zc hk
  ·have := HM.out.lt
   omega)
 have HOL : Hid (b1 < w1.heap.size ∧ ∀ i, i < 6 → b1 + 1 + i < w1.heap.size) := Lib.hid ⟨HO1.out.lt (by omega), fun i hi => HO1.out.ltG hi (by omega)⟩
 have HST : Hid (∀ w' s', WL w0 w' g nd2 s' → WL w0 w' g nd s' ∧ w'.heap[b1]? = w1.heap[b1]? ∧ ∀ i, i < 6 → w'.heap[b1 + 1 + i]? = w1.heap[b1 + 1 + i]?) := Lib.hid (fun w' s' hw => by
  rw [← hnd2] at hw
  exact ⟨WL.sub HV.out BB1.out hw, hw.stays ⟨hbs, HOL.out.1⟩, fun i hi => hw.stays ⟨by omega, HOL.out.2 i hi⟩⟩)
 have HKV : Hid (KeepW v w1) := Lib.hid (KeepW.of BB1.out)
 clear hnd2 hbs a1 a2 a3 a4 ac HEN HSK
 go_wp2_with fail
 go_loopg [7, 8, 9, 31] 6 (fun kk s7 s8 s9 s31 wr => ∃ (i dn : Nat) (bl : Bool) (sw : Wp), s31 = .int .i64 (i : Int) ∧ s7 = .int .i64 (dn : Int) ∧ i ≤ 6 ∧ dn ≤ i ∧ kk = 6 - i ∧ Hid (e.w.puts st gn E i = (sw, bl) ∧ (bl = true ↔ dn = i)) ∧ Hid (WL w0 wr g nd2 sw ∧ KeepW w1 wr))
 case atStart => exact ⟨0, 0, true, e.w, rfl, rfl, by omega, by omega, rfl, Lib.hid ⟨Wp.puts_zero _ _ _ _, by simp⟩, Lib.hid ⟨HW1.out, KeepW.refl _⟩⟩
 case round =>
  obtain ⟨i, dn, bl, sw, rfl, rfl, hi, hdn, rfl, HA, HS⟩ := hrel
  obtain ⟨wo, rfl⟩ : ∃ wo : World, wo = wr := ⟨wr, rfl⟩
  have HMo := Lib.hid (HM1.out.keep HW1.out HS.out.1 (KeepF.of HS.out.2) rfl rfl rfl rfl)
  obtain ⟨k1, k2, k3, k4⟩ := HMo.out.known hst
  rw [HGG.out] at k1
  by_cases hlt : i < 6
  ·have hlt' : (i : Int) < 6 := by omega
   have r1 : wo.cell? ⟨b1, i, none⟩ = some (.slice (some ⟨b1 + 1 + i, 0, none⟩) 32 32) := (World.cell?_of_block (w := w1) (HST.out _ _ HS.out.1).2.1).trans (HO1.out.outer i hlt)
   obtain ⟨bi, hbi⟩ : ∃ bi, b1 + 1 + i = bi := ⟨_, rfl⟩
   have HDT : Hid (DatN wo (some ⟨bi, 0, none⟩) 32 (E i)) := Lib.hid (by
    obtain ⟨cs, hcs⟩ := HT1.out i hlt
    refine Or.inr ⟨bi, 0, cs, rfl, ?_, fun j hj => ?_⟩
    ·rw [← hbi]
     exact ((HST.out _ _ HS.out.1).2.2 i hlt).trans hcs
    ·rw [Nat.zero_add, ← hbi]
     exact (World.cell?_of_block (w := w1) ((HST.out _ _ HS.out.1).2.2 i hlt)).trans (HO1.out.cell i hlt j hj))
   rw [hbi] at r1
   clear hbi k2 k3 k4
   obtain ⟨Q, hQ⟩ : ∃ Q, wo.heap.size = Q := ⟨_, rfl⟩
   have HQ := Lib.hid hQ
   obtain ⟨w2, hw2⟩ : ∃ w2, wo.alloc (.cells #[.int .i64 2, .int .i64 (st : Int), .int .i64 (gn : Int), .int .i64 (i : Int), .slice (some ⟨bi, 0, none⟩) 32 32] 107) = w2 := ⟨_, rfl⟩
   have B2 : Below wo.heap.size wo w2 := by rw [← hw2]; exact (Below.refl _ _).alloc (Nat.le_refl _) _
   have p2 : QV w2 Q 2 (st : Int) (gn : Int) (i : Int) (some ⟨bi, 0, none⟩) 32 32 := by rw [← hw2]; exact QV.of_new hQ
   have HV2 := Lib.hid hw2
   have HP2 := Lib.hid p2
   have BD2 : Hid (Below w2.heap.size w2 w2.drew) := Lib.hid (below_drewN 1 w2)
   have HSK2 : Hid (∀ W, KeepW w2 W → W.cell? ⟨Q, 0, none⟩ = some (.int .i64 2) ∧ W.cell? ⟨Q, 1, none⟩ = some (.int .i64 (st : Int)) ∧ W.cell? ⟨Q, 2, none⟩ = some (.int .i64 (gn : Int)) ∧ W.cell? ⟨Q, 3, none⟩ = some (.int .i64 (i : Int)) ∧ W.cell? ⟨Q, 4, none⟩ = some (.slice (some ⟨bi, 0, none⟩) 32 32)) := Lib.hid (fun W hW => by
    have r := hW.qv p2
    exact ⟨r.c0, r.c1, r.c2, r.c3, r.c4⟩)
   have KD2 : Hid (KeepW w2 w2.drew) := Lib.hid (KeepW.of BD2.out)
   have BX2 : Hid (Below wo.heap.size wo w2.drew) := Lib.hid B2.drew
   obtain ⟨n, hn⟩ : ∃ n, (st + i) % 8 = n := ⟨_, rfl⟩
   have hn8 : n < 8 := by omega
   have HNN : Hid (nodeN st i = n) := Lib.hid hn
   have HND := Lib.hid (fun w => lnode (st : Int) (i : Int) w)
   rw [nodeF_nat hst hlt, hn] at HND
   have HFS : Hid (sw.Fit (m + 6 * i)) := Lib.hid (by have := Wp.fit_puts (st := st) (g := gn) (C := E) HF.out (fun a b _ => HEB.out a b) i; rw [HA.out.1] at this; exact this)
   have HHV := Lib.hid (cy_have (HS.out.1.below BX2.out) (HMo.out.cbp.below BX2.out) HFS.out (by omega) hn8 (qPt st gn i (E i)) (some ⟨bi, 0, none⟩) 32 (HDT.out.below BX2.out) (fun j _ => HEB.out i j) (by unfold OkQ qPt; dsimp only; omega))
   unfold qPt at HHV
   obtain ⟨s2, d, hdd⟩ : ∃ s2 d, sw.done n (qPt st gn i (E i)) = (s2, d) := ⟨_, _, rfl⟩
   have hdd' : sw.done n ⟨2, (st : Int), (gn : Int), (i : Int), 32, E i⟩ = (s2, d) := hdd
   rw [hdd'] at HHV
   have HDD := Lib.hid hdd
   clear hQ hw2 B2 p2 hn hdd hdd'
   by_cases hd0 : d = 0
   ·subst hd0
    have HHW := Lib.hid (HHV.out.mono (fun en w' h => HaveRet.zero h))
    have HA2 : Hid (e.w.puts st gn E (i + 1) = (s2, bl)) := Lib.hid (by rw [Wp.puts_succ, HA.out.1, HNN.out, HDD.out]; dsimp only; rw [decide_eq_true rfl, Bool.and_true])
    go_upto_region 7 with fail
    rw [HV2.out, HQ.out]
    go_region_held_law (fun W => W.cell? ⟨Q, 0, none⟩ = some (.int .i64 2) ∧ W.cell? ⟨Q, 1, none⟩ = some (.int .i64 (st : Int)) ∧ W.cell? ⟨Q, 2, none⟩ = some (.int .i64 (gn : Int)) ∧ W.cell? ⟨Q, 3, none⟩ = some (.int .i64 (i : Int)) ∧ W.cell? ⟨Q, 4, none⟩ = some (.slice (some ⟨bi, 0, none⟩) 32 32))
     (first | (with_reducible assumption) | (with_reducible exact HSK2.out _ KD2.out) | (with_reducible exact HSK2.out _ HK3.out))
     (first
      | (go_simp; go_at_call 77; (with_reducible refine (HND.out _).mono ?_); rintro en w' ⟨rfl, hw⟩; obtain rfl := hw.symm; (try dsimp only))
      | (go_simp; go_at_call 95; (with_reducible refine HHW.out.mono ?_); rintro en w3 ⟨rfl, W3, K3⟩; (try dsimp only); have HW3 := Lib.hid W3; have HK3 : Hid (KeepW w2 w3) := Lib.hid (KD2.out.trans K3); have HKo := Lib.hid ((KeepW.of BX2.out).trans K3); clear W3 K3)
      | fail)
    go_wp2_with fail
    go_roundg (6 - (i + 1))
    case measure => omega
    case rel => exact ⟨i + 1, dn + 1, bl, s2, by go_num, by go_num, by omega, by omega, rfl, Lib.hid ⟨HA2.out, by have := HA.out.2; rw [this]; omega⟩, Lib.hid ⟨HW3.out, HS.out.2.trans HKo.out⟩⟩
   ·have HHW := Lib.hid (HHV.out.mono (fun en w' h => HaveRet.non h hd0))
    have HA2 : Hid (e.w.puts st gn E (i + 1) = (s2, false)) := Lib.hid (by rw [Wp.puts_succ, HA.out.1, HNN.out, HDD.out]; dsimp only; rw [decide_eq_false hd0, Bool.and_false])
    go_upto_region 7 with fail
    rw [HV2.out, HQ.out]
    go_region_held_law (fun W => W.cell? ⟨Q, 0, none⟩ = some (.int .i64 2) ∧ W.cell? ⟨Q, 1, none⟩ = some (.int .i64 (st : Int)) ∧ W.cell? ⟨Q, 2, none⟩ = some (.int .i64 (gn : Int)) ∧ W.cell? ⟨Q, 3, none⟩ = some (.int .i64 (i : Int)) ∧ W.cell? ⟨Q, 4, none⟩ = some (.slice (some ⟨bi, 0, none⟩) 32 32))
     (first | (with_reducible assumption) | (with_reducible exact HSK2.out _ KD2.out) | (with_reducible exact HSK2.out _ HK3.out))
     (first
      | (go_simp; go_at_call 77; (with_reducible refine (HND.out _).mono ?_); rintro en w' ⟨rfl, hw⟩; obtain rfl := hw.symm; (try dsimp only))
      | (go_simp; go_at_call 95; (with_reducible refine HHW.out.mono ?_); rintro en w3 ⟨be, rfl, W3, K3⟩; (try dsimp only); have HW3 := Lib.hid W3; have HK3 : Hid (KeepW w2 w3) := Lib.hid (KD2.out.trans K3); have HKo := Lib.hid ((KeepW.of BX2.out).trans K3); clear W3 K3)
      | fail)
    go_wp2_with fail
    go_roundg (6 - (i + 1))
    case measure => omega
    case rel => exact ⟨i + 1, dn, false, s2, by go_num, rfl, by omega, by omega, rfl, Lib.hid ⟨HA2.out, by constructor <;> intro h <;> first | (cases h; done) | omega⟩, Lib.hid ⟨HW3.out, HS.out.2.trans HKo.out⟩⟩
  ·obtain rfl : i = 6 := by omega
   have HWn := Lib.hid (HST.out _ _ HS.out.1).1
   have HKn := Lib.hid (HKV.out.trans HS.out.2)
   have HMn := Lib.hid (HM.out.keep (e' := { e with w := sw }) HV.out HWn.out (KeepF.of HKn.out) rfl rfl rfl rfl)
   clear k2 k3 k4
   by_cases h6 : dn < 6
   ·have h6' : (dn : Int) < 6 := by omega
    have HXX : Hid (X = { e with w := sw }) := Lib.hid (by
     rw [← HX.out]
     unfold Ep.fin
     rw [HGG.out, HA.out.1]
     dsimp only
     rw [if_neg (fun h => by have := HA.out.2.1 h; omega)])
    go_wp2_with fail
    go_end0
    rw [HXX.out]
    exact ⟨rfl, HWn.out, ⟨B, HMn.out⟩, KeepE.of 0 HKn.out⟩
   ·obtain rfl : dn = 6 := by omega
    have h66 : ¬ ((6 : Nat) : Int) < 6 := by omega
    obtain ⟨e1, he1⟩ : ∃ e1 : Ep, { e with w := sw, pend := fun i => if i = st then none else e.pend i } = e1 := ⟨_, rfl⟩
    have HE1 := Lib.hid he1
    have HXX : Hid (X = { e1 with w := sw.relAll st gn 8 }) := Lib.hid (by
     rw [← HX.out, ← he1]
     unfold Ep.fin
     rw [HGG.out, HA.out.1]
     dsimp only
     rw [if_pos (HA.out.2.2 rfl)])
    obtain ⟨B', hB'⟩ : ∃ B' : Nat → Value, (fun i => if i = st then .slice none 0 0 else B i) = B' := ⟨_, rfl⟩
    have HMp : Hid (CM w0 (wo.setCell ⟨cb, 1 + st * 4 + 3, none⟩ (.slice none 0 0)) g cb nd e1 A C c f o cap B') := Lib.hid (by
     refine HMn.out.put (by omega) (carF_ext ?_ ?_ (fun i hi => ?_) (fun i hi => ?_) (fun i hi => ?_) (fun i hi => ?_)) (fun i hi => ?_)
     ·rw [if_neg (by omega)]; rfl
     ·rw [if_neg (by omega)]; rfl
     ·rw [if_neg (by omega), carF_g _ _ _ _ hi, ← he1]
     ·rw [if_neg (by omega), carF_n _ _ _ _ hi, ← he1]
     ·rw [if_neg (by omega), carF_d _ _ _ _ hi, ← he1]
     ·rw [← hB']
      by_cases e2 : i = st
      ·subst e2
       rw [if_pos (by omega)]
       exact (if_pos rfl).symm
      ·rw [if_neg (by omega), carF_b _ _ _ _ hi]
       exact (if_neg e2).symm
     ·rw [← he1, ← hB']
      by_cases e2 : i = st
      ·exact Or.inl ⟨if_pos e2, if_pos e2⟩
      ·rcases HMn.out.pb i hi with ⟨h1, h2⟩ | ⟨D, b, k, h1, h2, h3⟩
       ·exact Or.inl ⟨(if_neg e2).trans h1, (if_neg e2).trans h2⟩
       ·exact Or.inr ⟨D, b, k, (if_neg e2).trans h1, (if_neg e2).trans h2, h3⟩)
    have HWp := Lib.hid (HWn.out.cput HMn.out (1 + st * 4 + 3) (.slice none 0 0))
    have HKE : Hid (KeepE 0 v (wo.setCell ⟨cb, 1 + st * 4 + 3, none⟩ (.slice none 0 0))) := Lib.hid (by
     obtain ⟨cs, hcs, _⟩ := HMn.out.blk
     exact (KeepE.of 0 HKn.out).trans (KeepE.set hcs _ _))
    have kf := HMn.out.fr (1 + st * 4 + 3)
    have k4 := (HMn.out.known hst).2.2.2
    have HFW : Hid (sw.Fit (m + 36)) := Lib.hid (by have := Wp.fit_puts (st := st) (g := gn) (C := E) HF.out (fun a b _ => HEB.out a b) 6; rw [HA.out.1] at this; exact this)
    clear he1 hB'
    go_upto_region 12 with fail
    obtain ⟨wp, hwp⟩ : ∃ wp, wo.setCell ⟨cb, 1 + st * 4 + 3, none⟩ (.slice none 0 0) = wp := ⟨_, rfl⟩
    rw [hwp] at HMp HWp HKE ⊢
    clear hwp kf k4
    go_wp2_with fail
    go_loopg [11, 59] 8 (fun kk s11 s59 wr => ∃ i : Nat, s59 = .int .i64 (i : Int) ∧ i ≤ 8 ∧ kk = 8 - i ∧ Hid (WL w0 wr g nd (sw.relAll st gn i) ∧ KeepW wp wr))
    case atStart => exact ⟨0, rfl, by omega, rfl, Lib.hid ⟨by rw [Wp.relAll_zero]; exact HWp.out, KeepW.refl _⟩⟩
    case round =>
     obtain ⟨i, rfl, hi, rfl, HR⟩ := hrel
     obtain ⟨wq, rfl⟩ : ∃ wq : World, wq = wr := ⟨wr, rfl⟩
     have HMq := Lib.hid (HMp.out.keep (e' := e1) HWp.out HR.out.1 (KeepF.of HR.out.2) rfl rfl rfl rfl)
     by_cases hlt : i < 8
     ·have hlt' : (i : Int) < 8 := by omega
      obtain ⟨k1, _⟩ := HMq.out.known hst
      rw [← HE1.out] at k1
      rw [HGG.out] at k1
      have HRL := Lib.hid (cy_release HR.out.1 HMq.out.cbp ((Wp.fit_relAll (st := st) (g := gn) HFW.out i hi)) (by omega) hlt (st := st) (gen := gn) (by unfold OkQ; omega))
      go_wp2_with fail
      refine HRL.out.mono ?_
      rintro en w3 ⟨rfl, W3, K3⟩
      try dsimp only
      have HZ3 := Lib.hid (And.intro W3 (HR.out.2.trans K3))
      clear W3 K3
      go_wp2_with fail
      go_roundg (8 - (i + 1))
      case measure => omega
      case rel => exact ⟨i + 1, by go_num, by omega, rfl, Lib.hid ⟨by rw [Wp.relAll_succ]; exact HZ3.out.1, HZ3.out.2⟩⟩
     ·obtain rfl : i = 8 := by omega
      go_wp2_with fail
      go_end0
      rw [HXX.out]
      exact ⟨rfl, HR.out.1, ⟨B', HMp.out.keep (e' := { e1 with w := sw.relAll st gn 8 }) HWp.out HR.out.1 (KeepF.of HR.out.2) rfl rfl rfl rfl⟩, HKE.out.trans (KeepE.of 0 HR.out.2)⟩
end
end Go.Proofs.YtobkmohoepgfmaaGreatDoor
