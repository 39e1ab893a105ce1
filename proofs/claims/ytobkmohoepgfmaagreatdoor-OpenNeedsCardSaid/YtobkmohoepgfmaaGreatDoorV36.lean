import Derived.Test.YtobkmohoepgfmaaGreatDoorV35
namespace Go.Proofs.YtobkmohoepgfmaaGreatDoor
open Go.RowKit Go.Sort
set_option maxRecDepth 100000
set_option maxHeartbeats 8000000

theorem ErL.far {w w' : World} {base : Nat} {u : Value} {l : List (Nat × Nat)} (h : ErL w base u l) (e : ∀ (k : Nat) (cs : Array Value) (t : TypeId), w.heap[k]? = some (.cells cs t (0, 0)) → t ≠ 36 → w'.heap[k]? = w.heap[k]?) : ErL w' base u l := by
 obtain ⟨bs, ⟨h1, h2⟩, h3, h4⟩ := h
 refine ⟨bs, ⟨h1, ?_⟩, h3, fun i b z hb hz => (h4 i b z hb hz).keep (e b _ _ (h4 i b z hb hz) (by decide))⟩
 rcases h2 with h2 | ⟨g, cap, cur, hv, hg, hh, r⟩
 ·exact Or.inl h2
 ·exact Or.inr ⟨g, cap, cur, hv, hg, (e g _ _ hh (by decide)).trans hh, r⟩
theorem WL.setY {w0 v w : World} {g : Nat} {nd : ND} {s : Wp} {Y : Nat → Prop} (h : WL w0 v g (nd.add Y w) s) {b : Nat} (hY : Y b) (hz : ¬ nd.Z b) {cs : Array Value} {t : TypeId} {fr : Nat × Nat} (hb : v.heap[b]? = some (.cells cs t fr)) (ht : t ≠ 5) (hB : w0.heap.size ≤ b) (k : Nat) (u : Value) (h0 : WL w0 v g nd s) :
  WL w0 (v.setCell ⟨b, k, none⟩ u) g (nd.add Y (v.setCell ⟨b, k, none⟩ u)) s ∧ WL w0 (v.setCell ⟨b, k, none⟩ u) g nd s := by
 have key : WL w0 (v.setCell ⟨b, k, none⟩ u) g (nd.add Y (v.setCell ⟨b, k, none⟩ u)) s := by
  obtain ⟨T, fv, h1, h2, h3, h4, h5, h6, h7⟩ := h
  obtain ⟨y1, y2, y3, y4, y5⟩ := h7 b (Or.inr hY)
  refine ⟨T, fv, h1.same (fun j hj => set_other (fun e => ?_) _ _) (fun i hi j hj => set_other (fun e => ?_) _ _) (fun j cs' hj => set_other (fun e => ?_) _ _), h2.setCell hB _, h3, h4, h5, Nat.le_refl _, fun j hj => ?_⟩
  ·rw [List.mem_cons] at hj
   rcases hj with rfl | hj
   ·exact y3 e.symm
   ·exact y4 (e ▸ hj)
  ·exact y5 i hi (e ▸ hj)
  ·rw [e, hb] at hj
   injection hj with hj
   injection hj with _ hj
   exact ht hj
  ·obtain ⟨z1, z2, z3⟩ := h7 j hj
   exact ⟨Nat.lt_of_lt_of_le z1 (Nat.le_trans h6 (show v.heap.size ≤ (v.setCell ⟨b, k, none⟩ u).heap.size by simp [World.setCell])), rfl, z3⟩
 refine ⟨key, key.loose nd rfl (Nat.le_trans h0.zB (by simp [World.setCell])) (fun j hj => ⟨h0.zlt hj, Or.inl hj, ?_⟩)⟩
 exact ((set_other (fun e => by rw [e] at hj; exact hz hj) _ _).trans (h0.zO hj)).symm
theorem WL.readd {w0 v w : World} {g : Nat} {nd : ND} {s : Wp} {Y : Nat → Prop} (h : WL w0 v g (nd.add Y w) s) : WL w0 v g (nd.add Y v) s :=
 h.loose (nd.add Y v) rfl (Nat.le_refl _) (fun _ hk => ⟨Nat.lt_of_lt_of_le (h.zlt hk) h.zB, hk, rfl⟩)
def Ck (w : World) (b : Nat) (ps : List (Nat × (Nat → Nat))) : Prop := (∃ cs, w.heap[b]? = some (.cells cs 36 (0, 0))) ∧ ∀ l, l < 6 → match at_ ps l with
 | none => w.cell? ⟨b, l, none⟩ = some (.slice none 0 0)
 | some p => ∃ P k, w.cell? ⟨b, l, none⟩ = some (.slice P 32 k) ∧ Dat w P p.2
theorem Ck.keep {w w' : World} {b : Nat} {ps : List (Nat × (Nat → Nat))} (h : Ck w b ps) (e : w'.heap[b]? = w.heap[b]?) (k : ∀ (g : Nat) (cs : Array Value), w.heap[g]? = some (Obj.cells cs 5 (0, 0)) → w'.heap[g]? = w.heap[g]?) : Ck w' b ps := by
 obtain ⟨⟨cs, hb⟩, h2⟩ := h
 refine ⟨⟨cs, e.trans hb⟩, fun l hl => ?_⟩
 have h3 := h2 l hl
 split
 ·next hp => rw [hp] at h3; exact (World.cell?_of_block (w := w) e).trans h3
 ·next p hp =>
  rw [hp] at h3
  obtain ⟨P, kk, h4, h5⟩ := h3
  exact ⟨P, kk, (World.cell?_of_block (w := w) e).trans h4, h5.keep k⟩
theorem Ck.put {w : World} {b i : Nat} {ps : List (Nat × (Nat → Nat))} {D : Nat → Nat} {P : Option Addr} {k : Nat} (h : Ck w b ps) (hi : i < 6) (hl : ∀ p ∈ ps, p.1 < i) (hd : Dat w P D) : Ck (w.setCell ⟨b, i, none⟩ (.slice P 32 k)) b (ps ++ [(i, D)]) := by
 obtain ⟨⟨cs, hb⟩, h2⟩ := h
 have hkb : ∀ (g : Nat) (cs' : Array Value), w.heap[g]? = some (Obj.cells cs' 5 (0, 0)) → (w.setCell ⟨b, i, none⟩ (.slice P 32 k)).heap[g]? = w.heap[g]? := fun g cs' hg => set_other (fun e => by
  rw [e, hb] at hg
  injection hg with hg
  injection hg with _ hg
  exact absurd hg (by decide)) _ _
 refine ⟨⟨_, set_block hb _ _⟩, fun l hl6 => ?_⟩
 rw [at_snoc hl]
 have h3 := h2 l hl6
 by_cases e : l = i
 ·subst e
  rw [if_pos rfl]
  have h4 : ∃ u, w.cell? ⟨b, l, none⟩ = some u := by
   split at h3
   ·exact ⟨_, h3⟩
   ·obtain ⟨P', k', h4, _⟩ := h3
    exact ⟨_, h4⟩
  obtain ⟨u, hu⟩ := h4
  exact ⟨P, k, World.cell?_setCell_same _ _ _ hu, hd.keep hkb⟩
 ·rw [if_neg e]
  have hc : (w.setCell ⟨b, i, none⟩ (.slice P 32 k)).cell? ⟨b, l, none⟩ = w.cell? ⟨b, l, none⟩ := Kc.cell_far (Or.inr e)
  split
  ·next hp => rw [hp] at h3; exact hc.trans h3
  ·next p hp =>
   rw [hp] at h3
   obtain ⟨P', kk, h4, h5⟩ := h3
   exact ⟨P', kk, hc.trans h4, h5.keep hkb⟩
theorem Ck.raw {w : World} {b : Nat} {ps : List (Nat × (Nat → Nat))} (h : Ck w b ps) : Kc.RawIn w (some ⟨b, 0, none⟩) (rowsP ps) := by
 obtain ⟨⟨cs, hb⟩, h2⟩ := h
 intro i xs hi
 have hi6 : i < 6 := by
  have := (List.getElem?_eq_some_iff.1 hi).1
  simpa [rowsP] using this
 have hx : xs = rowP ps i := by
  unfold rowsP at hi
  rw [List.getElem?_map, List.getElem?_range hi6] at hi
  simpa using hi.symm
 have h3 := h2 i hi6
 refine ⟨b, 0, rfl, heap_lt hb, ?_⟩
 rw [Nat.zero_add, hx]
 unfold rowP
 cases hp : at_ ps i with
 | none =>
  rw [hp] at h3
  exact ⟨none, 0, h3, fun j x hj => by simp at hj⟩
 | some p =>
  rw [hp] at h3
  obtain ⟨P, kk, h4, g, o, cs', rfl, h5, h6⟩ := h3
  refine ⟨_, kk, by rw [List.length_map, List.length_range]; exact h4, fun j x hj => ⟨g, o, rfl, heap_lt h5, ?_⟩⟩
  have hj32 : j < 32 := by
   have := (List.getElem?_eq_some_iff.1 hj).1
   simpa using this
  rw [h6 j hj32]
  rw [List.getElem?_map, List.getElem?_range hj32] at hj
  simp at hj
  rw [← hj]
def FetRet (w0 v : World) (g : Nat) (nd : ND) (st : Nat) (x : Wp × Got) (en : Ending) (w' : World) : Prop :=
 ∃ r u, en = .returned (.tuple #[r, u]) ∧ WL w0 w' g nd x.1 ∧ KeepW v w' ∧ ((∃ l, x.2 = .no l ∧ r = .slice none 0 0 ∧ EV w' u (l.map (fun z => (z.2 : Int))) (l.map (fun z => (z.1 : Int))) [(st : Int)]) ∨
  ∃ D P k, x.2 = .yes D ∧ u = .nilIface ∧ r = .slice P 128 k ∧ DatN w' P 128 D ∧ 128 ≤ k ∧ ∀ j, j < 128 → D j < 256)
theorem Ck.none_ {w : World} {b : Nat} {zs : Array Value} (hb : w.heap[b]? = some (.cells zs 36 (0, 0))) (hz : ∀ j, j < 6 → zs[j]? = some (.slice none 0 0)) : Ck w b [] :=
 ⟨⟨zs, hb⟩, fun l hl => (cell_of_block hb).trans (hz l hl)⟩
section
variable {w0 v : World} {g cb : Nat} {nd : ND} {e : Ep} {A C c f o cap : Nat} {B : Nat → Value}
theorem cy_fetch (h1 : WL w0 v g nd e.w) (h2 : CM w0 v g cb nd e A C c f o cap B) {m : Nat} (hf : e.w.Fit m) (hm : m ≤ 999990000) {st : Nat} (hst : st < 40) :
  Calls Tryz.prog 39 #[.pointer (some ⟨cb, 0, none⟩), .int .i64 (st : Int)] v (FetRet w0 v g nd st (e.fetch decK st)) := by
 have q1 := we_neqNil
 have q2 := we_neqNilNil
 have hst' : (st : Int) < 40 := by omega
 obtain ⟨Q, l, j, hB, hl⟩ := h2.bl hst
 obtain ⟨a1, a2, a3, a4⟩ := h2.known hst
 rw [hB] at a4
 obtain ⟨gn, hgg⟩ : ∃ gn, e.gen st = gn := ⟨_, rfl⟩
 obtain ⟨nx, hnx⟩ : ∃ nx, e.next st = nx := ⟨_, rfl⟩
 obtain ⟨db, hdb⟩ : ∃ db, e.doubt st = db := ⟨_, rfl⟩
 rw [hgg] at a1
 rw [hnx] at a2
 rw [hdb] at a3
 have HGG := Lib.hid hgg
 obtain ⟨H, hH⟩ : ∃ H, v.heap.size = H := ⟨_, rfl⟩
 have HH := Lib.hid hH
 obtain ⟨v1, hv1⟩ : ∃ v1, v.alloc (.cells #[.int .i64 (gn : Int), .int .i64 (nx : Int), .bool db, .slice Q l j] 67) = v1 := ⟨_, rfl⟩
 have B0 : Below v.heap.size v v1 := by rw [← hv1]; exact (Below.refl _ _).alloc (Nat.le_refl _) _
 have p1 : KV v1 H (gn : Int) (nx : Int) db (.slice Q l j) := by rw [← hv1]; exact KV.of_new hH
 have y0 := p1.c0
 have y1 := p1.c1
 have y2 := p1.c2
 have y3 := p1.c3
 have HP1 := Lib.hid p1
 have HV1 := Lib.hid hv1
 have HB0 := Lib.hid B0
 have HW := Lib.hid (h1.below B0)
 have HM := Lib.hid (h2.below B0)
 have HF := Lib.hid hf
 have HPN := Lib.hid (cy_pending (gn : Int) (nx : Int) db Q l j v1)
 have HL := Lib.hid hl
 have HBB := Lib.hid hB
 obtain ⟨X, hX⟩ : ∃ X, e.fetch decK st = X := ⟨_, rfl⟩
 have HX := Lib.hid hX
 rw [hX]
 obtain ⟨pd, hpd⟩ : ∃ pd, decide (0 < l) = pd := ⟨_, rfl⟩
 rw [hpd] at HPN
 have HPD : Hid ((e.pend st).isSome = pd) := Lib.hid (hl.symm.trans hpd)
 clear h1 h2 hf hX hgg hnx hdb hH hv1 B0 p1 hB hl
 go_enter Tryz.func39, Tryz.ntmps39
 go_upto_region 2 with fail
 rw [HV1.out, HH.out]
 go_wp2_with fail
 refine HPN.out.mono ?_
 rintro en w2 ⟨rfl, b2⟩
 try dsimp only
 have HB2 := Lib.hid (HB0.out.trans (b2.mono HB0.out.size))
 have HW2 := Lib.hid (HW.out.below b2)
 have HM2 := Lib.hid (HM.out.below b2)
 have p2 := HP1.out.below b2
 have HP2 := Lib.hid p2
 have z0 := p2.c0
 have z3 := p2.c3
 clear b2 p2 y0 y1 y2 y3 a1 a2 a3 a4
 cases pd with
 | true =>
  obtain ⟨h0, _⟩ | ⟨D, b, k, h3, h4, h5, h6, h7, h8⟩ := HM2.out.pb st hst
  ·have := HPD.out
   rw [h0] at this
   cases this
  ·rw [HBB.out] at h4
   obtain ⟨rfl, rfl, rfl⟩ : Q = some ⟨b, 0, none⟩ ∧ l = 128 ∧ j = k := by
    injection h4 with e1 e2 e3
    exact ⟨e1, e2, e3⟩
   have HCL := Lib.hid (sclone ⟨b, 0, none⟩ 128 j D w2 h7.rd (by omega))
   have HXX : Hid (X = (e.w, .yes D)) := Lib.hid (by rw [← HX.out]; unfold Ep.fetch; rw [h3])
   have HD8 := Lib.hid h8
   clear h3 h4 h5 h6 h7 h8 HPN
   go_wp2_with fail
   refine HCL.out.mono ?_
   rintro en w3 ⟨gb, cp, rfl, hown, b3, _, _, hcp⟩
   try dsimp only
   have HZ := Lib.hid (And.intro (own_blk hown) (And.intro b3 hcp))
   clear hown b3 hcp
   go_wp2_with fail
   go_ret2
   rw [HXX.out]
   exact ⟨_, _, rfl, HW2.out.below HZ.out.2.1, KeepW.of (HB2.out.trans (HZ.out.2.1.mono HB2.out.size)), Or.inr ⟨D, some ⟨gb, 0, none⟩, cp, rfl, rfl, rfl, HZ.out.1.dat, HZ.out.2.2, HD8.out⟩⟩
 | false =>
  have hpn : e.pend st = none := by
   have := HPD.out
   cases h : e.pend st with
   | none => rfl
   | some D => rw [h] at this; cases this
  have HPNN := Lib.hid hpn
  clear hpn HPN
  by_cases hg0 : gn = 0
  ·subst hg0
   obtain ⟨zs, z1, z2⟩ := make8 128 (by omega)
   have mk2 : ∀ W : World, Sem.run Tryz.prog (Instr.makeSlice 36 (.int .i64 128) (.int .i64 128)) W = .ok (.slice (some ⟨W.heap.size, 0, none⟩) 128 128) (W.alloc (.cells zs 5)) := z2
   have HZ := Lib.hid z1
   have HXX : Hid (X = (e.w, .yes (fun _ => 0))) := Lib.hid (by rw [← HX.out]; unfold Ep.fetch; rw [HPNN.out]; dsimp only; rw [if_pos HGG.out])
   clear z1 z2
   go_wp2_with fail
   go_ret2
   rw [HXX.out]
   have b3 : Below w2.heap.size w2 (w2.alloc (.cells zs 5)) := (Below.refl _ _).alloc (Nat.le_refl _) _
   exact ⟨_, _, rfl, HW2.out.below b3, KeepW.of (HB2.out.trans (b3.mono HB2.out.size)), Or.inr ⟨fun _ => 0, some ⟨w2.heap.size, 0, none⟩, 128, rfl, rfl, rfl, Or.inr ⟨w2.heap.size, 0, zs, rfl, alloc_block w2 _, fun j hj => by rw [cell_of_block (alloc_block w2 _), Nat.zero_add, HZ.out j hj]; rfl⟩, Nat.le_refl _, fun _ _ => (by show (0 : Nat) < 256; decide)⟩⟩
  ·have hg1 : ¬ (gn : Int) = 0 := by omega
   have hg2 : ((gn : Int) == 0) = false := by rw [beq_eq_false_iff_ne]; exact hg1
   have HXX : Hid (X = if (e.getN st 6).2.1.length < 4 then ((e.getN st 6).1, .no (e.getN st 6).2.2) else ((e.getN st 6).1, .yes (decK (e.getN st 6).2.1))) := Lib.hid (by rw [← HX.out]; unfold Ep.fetch; rw [HPNN.out]; dsimp only; rw [if_neg (by rw [HGG.out]; exact hg0)])
   obtain ⟨zs, z1, z2⟩ := Kc.make88 6 (by omega)
   have mk2 : ∀ W : World, Sem.run Tryz.prog (Instr.makeSlice 117 (.int .i64 6) (.int .i64 6)) W = .ok (.slice (some ⟨W.heap.size, 0, none⟩) 6 6) (W.alloc (.cells zs 36)) := z2
   obtain ⟨b0, hb0⟩ : ∃ b0, w2.heap.size = b0 := ⟨_, rfl⟩
   have HB0' := Lib.hid hb0
   obtain ⟨w3, hw3⟩ : ∃ w3, w2.alloc (.cells zs 36) = w3 := ⟨_, rfl⟩
   have B3 : Below w2.heap.size w2 w3 := by rw [← hw3]; exact (Below.refl _ _).alloc (Nat.le_refl _) _
   have hbl : w3.heap[b0]? = some (.cells zs 36 (0, 0)) := by rw [← hw3, ← hb0]; exact alloc_block _ _
   have HW3 : Hid (WL w0 w3 g (nd.add (fun k => k = b0) w3) e.w ∧ WL w0 w3 g nd e.w) := Lib.hid ⟨HW2.out.add B3 (fun k hk => by subst hk; exact ⟨Nat.le_of_eq hb0, heap_lt hbl⟩), HW2.out.below B3⟩
   have HKv : Hid (KeepW v w2) := Lib.hid (KeepW.of HB2.out)
   have HK3 : Hid (KeepW w2 w3) := Lib.hid (KeepW.of B3)
   have HC3 : Hid (Ck w3 b0 []) := Lib.hid (Ck.none_ hbl z1)
   have HZB : Hid (¬ nd.Z b0 ∧ w0.heap.size ≤ b0) := Lib.hid ⟨fun hz => by have h7 := HW2.out.zlt hz; have h8 := HW2.out.zB; omega, by rw [← hb0]; exact HW2.out.blw.size⟩
   have HV3 := Lib.hid hw3
   clear z1 z2 hb0 hw3 B3 hbl
   go_upto_region 7 with fail
   rw [HV3.out, HB0'.out]
   go_wp2_with fail
   go_loopg [8, 9, 10, 11, 12] 6 (fun kk s8 s9 s10 s11 s12 wr => ∃ (i th : Nat) (ps : List (Nat × (Nat → Nat))) (er : List (Nat × Nat)) (sw : Wp), s9 = .int .i64 (i : Int) ∧ s10 = .int .i64 (th : Int) ∧ i ≤ 6 ∧ th ≤ 4 ∧ kk = 6 - i ∧ Hid (e.getN st i = (sw, ps, er) ∧ ps.length = th ∧ ∀ p ∈ ps, ∀ j, j < 32 → p.2 j < 256) ∧ Hid (WL w0 wr g (nd.add (fun k => k = b0) wr) sw ∧ WL w0 wr g nd sw ∧ KeepW w2 wr) ∧ Hid (ErL wr w3.heap.size s8 er ∧ Ck wr b0 ps ∧ KV wr H (gn : Int) (nx : Int) db (.slice Q l j) ∧ w3.heap.size ≤ wr.heap.size))
   case atStart => exact ⟨0, 0, [], [], e.w, rfl, rfl, by omega, by omega, rfl, Lib.hid ⟨Ep.getN_zero _ _, rfl, fun p hp => by cases hp⟩, Lib.hid ⟨HW3.out.1, HW3.out.2, HK3.out⟩, Lib.hid ⟨ErL.nil, HC3.out, HP2.out.keepF (KeepF.of HK3.out), Nat.le_refl _⟩⟩
   case round =>
    obtain ⟨i, th, ps, er, sw, rfl, rfl, hi, hth, rfl, HA, HS, HE⟩ := hrel
    obtain ⟨wo, rfl⟩ : ∃ wo : World, wo = wr := ⟨wr, rfl⟩
    have HMo := Lib.hid (HM2.out.keep (e' := { e with w := sw }) HW2.out HS.out.2.1 (KeepF.of HS.out.2.2) rfl rfl rfl rfl)
    have k0 := HE.out.2.2.1.c0
    have HCN : Hid (Cnt ps i ∧ (ps.length < 4 → er.length + ps.length = i)) := Lib.hid (by have := getN_cnt e st i; rw [HA.out.1] at this; exact this)
    by_cases hlt : i < 6 ∧ th < 4
    ·obtain ⟨hlt, h4⟩ := hlt
     have hlt' : (i : Int) < 6 := by omega
     have h4' : (th : Int) < 4 := by omega
     have HFS : Hid (sw.Fit (m + 3 * i)) := Lib.hid (by have := Ep.fit_getN (e := e) (st := st) HF.out i; rw [HA.out.1] at this; exact this)
     have HPC := Lib.hid (cy_piece HS.out.1 (HMo.out.other (nd' := nd.add (fun k => k = b0) wo) (fun k hk => Or.inl hk) (fun hz => hz.elim HMo.out.zc (fun (e2 : cb = b0) => by have h1 := HM2.out.lt; have h2 := HB0'.out; omega))) HFS.out (by omega) (st := st) (i := i) hst hlt)
     have hgs : ({ e with w := sw } : Ep).gen st = gn := HGG.out
     rw [hgs] at HPC
     clear hgs
     obtain ⟨s2, a, hca⟩ : ∃ s2 a, sw.call (nodeN st i) (qGt st) = (s2, a) := ⟨_, _, rfl⟩
     rw [hca] at HPC
     have HCA : Hid ((e.getN st i).1.call (nodeN st i) (qGt st) = (s2, a)) := Lib.hid (by rw [HA.out.1]; exact hca)
     have HNF : Hid (¬ 4 ≤ (e.getN st i).2.1.length) := Lib.hid (by rw [HA.out.1]; dsimp only; have := HA.out.2.1; omega)
     clear hca
     go_wp2_with fail
     refine HPC.out.mono ?_
     rintro en w5 ⟨r, u, rfl, W5, K5, hx⟩
     try dsimp only
     try dsimp only at W5 hx
     have HS5 : Hid (WL w0 w5 g (nd.add (fun k => k = b0) w5) s2 ∧ WL w0 w5 g nd s2 ∧ KeepW w2 w5) := Lib.hid ⟨W5.readd, WL.sub HS.out.2.1 (Below.refl _ _) W5, HS.out.2.2.trans K5⟩
     have HE5 : Hid (ErL w5 w3.heap.size u8 er ∧ Ck w5 b0 ps ∧ KV w5 H (gn : Int) (nx : Int) db (.slice Q l j) ∧ w3.heap.size ≤ w5.heap.size) := Lib.hid ⟨HE.out.1.keep K5, HE.out.2.1.keep (W5.stays rfl) (fun g cs hg => K5.cells hg u8_notW), HE.out.2.2.1.keepF (KeepF.of K5), Nat.le_trans HE.out.2.2.2 K5.1⟩
     clear W5 K5 k0
     rcases hx with ⟨y, p, P, k, rfl, hpo, rfl, rfl, hdat, hpb⟩ | ⟨d, be, hcase, rfl, rfl, ho⟩
     ·have HGN : Hid (e.getN st (i + 1) = (s2, ps ++ [(i, p.D)], er)) := Lib.hid (by
       have := Ep.getN_some HNF.out HCA.out (by rw [HGG.out]; exact hpo)
       rw [this, HA.out.1])
      have kf : ∀ q, w5.frozen? ⟨b0, q, none⟩ = false := by
       obtain ⟨⟨cs, hcs⟩, _⟩ := HE5.out.2.1
       exact fun q => free_of_block hcs
      have kc : w5.cell? ⟨b0, i, none⟩ = some (.slice none 0 0) := by
       have := HE5.out.2.1.2 i hlt
       rw [at_lt HCN.out.1.lt (Nat.le_refl _)] at this
       exact this
      have HW6 : Hid (WL w0 (w5.setCell ⟨b0, i, none⟩ (.slice P 32 k)) g (nd.add (fun k => k = b0) (w5.setCell ⟨b0, i, none⟩ (.slice P 32 k))) s2 ∧ WL w0 (w5.setCell ⟨b0, i, none⟩ (.slice P 32 k)) g nd s2 ∧ KeepW w2 (w5.setCell ⟨b0, i, none⟩ (.slice P 32 k))) := Lib.hid (by
       obtain ⟨⟨cs, hcs⟩, _⟩ := HE5.out.2.1
       obtain ⟨u1, u2⟩ := HS5.out.1.setY (b := b0) rfl HZB.out.1 hcs (by decide) HZB.out.2 i (.slice P 32 k) HS5.out.2.1
       exact ⟨u1, u2, HS5.out.2.2.setNew (by rw [HB0'.out]; exact Nat.le_refl _) i _⟩)
      have HE6 : Hid (ErL (w5.setCell ⟨b0, i, none⟩ (.slice P 32 k)) w3.heap.size u8 er ∧ Ck (w5.setCell ⟨b0, i, none⟩ (.slice P 32 k)) b0 (ps ++ [(i, p.D)]) ∧ KV (w5.setCell ⟨b0, i, none⟩ (.slice P 32 k)) H (gn : Int) (nx : Int) db (.slice Q l j) ∧ w3.heap.size ≤ (w5.setCell ⟨b0, i, none⟩ (.slice P 32 k)).heap.size) := Lib.hid (by
       obtain ⟨⟨cs, hcs⟩, _⟩ := HE5.out.2.1
       refine ⟨HE5.out.1.far (fun q cs' t hq ht => set_other (fun e2 => ?_) _ _), HE5.out.2.1.put hlt HCN.out.1.lt hdat, (set_other (fun e2 => ?_) _ _).trans HE5.out.2.2.1, by have := HE5.out.2.2.2; simpa [World.setCell] using this⟩
       ·rw [e2, hcs] at hq
        injection hq with hq
        injection hq with _ hq
        exact ht hq.symm
       ·have h7 : w5.heap[H]? = _ := HE5.out.2.2.1
        rw [e2, hcs] at h7
        injection h7 with h7
        injection h7 with _ h7
        exact absurd h7 (by decide))
      have HPB := Lib.hid hpb
      clear hdat hpb hpo
      go_wp2_with fail
      go_roundg (6 - (i + 1))
      case measure => omega
      case rel => exact ⟨i + 1, th + 1, ps ++ [(i, p.D)], er, s2, by go_num, by go_num, by omega, by omega, rfl, Lib.hid ⟨HGN.out, by rw [List.length_append, HA.out.2.1]; rfl, fun q hq j hj => by
       rcases List.mem_append.1 hq with hq | hq
       ·exact HA.out.2.2 q hq j hj
       ·simp at hq
        subst hq
        exact HPB.out j hj⟩, HW6, HE6⟩
     ·have HGN : Hid (e.getN st (i + 1) = (s2, ps, er ++ [(nodeN st i, d)])) := Lib.hid (by
       rcases hcase with h7 | ⟨rfl, y, h7, h8⟩
       ·rw [Ep.getN_err HNF.out (by rw [HCA.out, h7]), HA.out.1]
       ·rw [Ep.getN_none HNF.out (by rw [HCA.out, h7]) (by rw [HGG.out]; exact h8), HA.out.1])
      obtain ⟨A5, c5, rfl⟩ := HE5.out.1.form
      obtain ⟨el, hel⟩ : ∃ el, er.length = el := ⟨_, rfl⟩
      have HEL := Lib.hid hel
      have hel8 : el ≤ 6 := by have := HCN.out.2 (by have := HA.out.2.1; omega); omega
      rw [hel] at HE5 ⊢
      have b4 : Below w5.heap.size w5 (w5.alloc (.cells #[onv be] 27)) := (Below.refl _ _).alloc (Nat.le_refl _) _
      have HE4 := Lib.hid (HE5.out.1.keep (KeepW.of b4))
      have HE4b := Lib.hid (And.intro (HE5.out.2.1.keep (b4.block b0 (by obtain ⟨⟨cs, hcs⟩, _⟩ := HE5.out.2.1; exact heap_lt hcs)) (fun g cs hg => b4.block g (heap_lt hg))) (HE5.out.2.2.1.below b4))
      have HO4 := Lib.hid ((KeepW.of b4).on ho)
      have HZ4 := Lib.hid (And.intro (HS5.out.1.below b4) (And.intro (HS5.out.2.1.below b4) (HS5.out.2.2.trans (KeepW.of b4))))
      have hc4 : (w5.alloc (.cells #[onv be] 27)).cell? ⟨w5.heap.size, 0, none⟩ = some (onv be) := by rw [cell_of_block (alloc_block w5 _)]; rfl
      have HC4 := Lib.hid hc4
      have hsz : w3.heap.size ≤ (w5.alloc (.cells #[onv be] 27)).heap.size := Nat.le_trans HE5.out.2.2.2 b4.size
      have HZ3 : Hid (∀ q, nd.Z q ∨ q = b0 → q < w3.heap.size) := Lib.hid (fun q hq => by
       rcases hq with hq | rfl
       ·exact Nat.lt_of_lt_of_le (HW3.out.2.zlt hq) HW3.out.2.zB
       ·have := HW3.out.1.zlt (Or.inr rfl)
        exact this)
      have hw3s : w0.heap.size ≤ w3.heap.size := HW3.out.2.blw.size
      have hw23 : w2.heap.size ≤ w3.heap.size := HK3.out.1
      clear ho hel b4 hc4
      go_wp2_with (at_builtin; refine append_err _ rfl (.tmp 48) (.tmp 50) rfl w3.heap.size (.slice A5 el c5) er rfl HE4.out w5.heap.size be (nodeN st i, d) rfl HC4.out HO4.out (by rw [HEL.out]; omega) hsz ?_; intro v6 w6 r6 he6 gr6 hr6; have HX6 := Lib.hid (And.intro he6 (And.intro gr6 hr6)); clear he6 gr6 hr6)
      have HR6 : Hid (∀ q, r6 = some q → w0.heap.size ≤ q ∧ ¬ (nd.Z q ∨ q = b0) ∧ ∃ cs t, (w5.alloc (.cells #[onv be] 27)).heap[q]? = some (.cells cs t (0, 0)) ∧ ¬ WiT t ∧ t ≠ 5 ∧ t ≠ 3) := Lib.hid (fun q hq => by
       obtain ⟨g1, cs, g2⟩ := HX6.out.2.2 q hq
       exact ⟨Nat.le_trans hw3s g1, fun hz => by have := HZ3.out q hz; omega, cs, _, g2, err_notW, by decide, by decide⟩)
      have hb6 : ∀ (q : Nat) (cs : Array Value) (t : TypeId), (w5.alloc (.cells #[onv be] 27)).heap[q]? = some (.cells cs t (0, 0)) → t ≠ 27 → w6.heap[q]? = (w5.alloc (.cells #[onv be] 27)).heap[q]? := fun q cs t hq ht => HX6.out.2.1.block q (heap_lt hq) (fun e2 => by
       obtain ⟨_, cs', g2⟩ := HX6.out.2.2 q e2.symm
       rw [hq] at g2
       injection g2 with g2
       injection g2 with _ g2
       exact ht g2)
      go_roundg (6 - (i + 1))
      case measure => omega
      case rel => exact ⟨i + 1, th, ps, er ++ [(nodeN st i, d)], s2, by go_num, rfl, by omega, hth, rfl, Lib.hid ⟨HGN.out, HA.out.2.1, HA.out.2.2⟩,
       Lib.hid ⟨(HZ4.out.1.grown HX6.out.2.1 HR6.out).readd, HZ4.out.2.1.grown HX6.out.2.1 (fun q hq => ⟨(HR6.out q hq).1, fun hz => (HR6.out q hq).2.1 (Or.inl hz), (HR6.out q hq).2.2⟩), HZ4.out.2.2.grown HX6.out.2.1 (fun q hq => Nat.le_trans hw23 (HX6.out.2.2 q hq).1)⟩,
       Lib.hid ⟨HX6.out.1, HE4b.out.1.keep (by obtain ⟨⟨cs, hcs⟩, _⟩ := HE4b.out.1; exact hb6 _ _ _ hcs (by decide)) (fun g cs hg => hb6 _ _ _ hg (by decide)), (hb6 _ _ _ HE4b.out.2 (by decide)).trans HE4b.out.2, Nat.le_trans hsz HX6.out.2.1.size⟩⟩
    ·have HEND : Hid (e.getN st 6 = (sw, ps, er)) := Lib.hid (by
      by_cases h6 : i = 6
      ·rw [← h6]; exact HA.out.1
      ·have h4 : 4 ≤ (e.getN st i).2.1.length := by rw [HA.out.1]; dsimp only; have := HA.out.2.1; omega
       rw [show (6 : Nat) = i + (6 - i) by omega, getN_stay h4, HA.out.1])
     have HCN6 : Hid (Cnt ps 6) := Lib.hid (by have := (getN_cnt e st 6).1; rw [HEND.out] at this; exact this)
     have ac := HMo.out.cc
     have hrl : (rowsP ps).length = 6 := by simp [rowsP]
     have HDE := Lib.hid (Kc.cdecodeT c f o cap (some ⟨b0, 0, none⟩) (rowsP ps) 6 wo HMo.out.cdr HE.out.2.1.raw (by rw [hrl]; decide) (rows_bytes HA.out.2.2))
     rw [hrl] at HDE
     clear hrl k0
     by_cases h6 : (i : Int) < 6
     ·have h4 : ¬ (th : Int) < 4 := by omega
      go_wp2_with fail
      refine HDE.out.mono ?_
      rintro en w5 (⟨rfl, b5, hnw⟩ | ⟨gd, kd, rfl, b5, hwh, ⟨hr8, hty⟩, hkd⟩)
      ·try dsimp only
       have hp4 : ps.length < 4 := by
        rcases Nat.lt_or_ge ps.length 4 with h | h
        ·exact h
        ·exact absurd ((rows_whole HCN6.out).2 (by have := HCN6.out.le; omega)) hnw
       have HX3 : Hid (X = (sw, .no er)) := Lib.hid (by rw [HXX.out, HEND.out]; exact if_pos hp4)
       obtain ⟨A5, c5, rfl⟩ := HE.out.1.form
       have hne : er.map eOf ≠ [] := by
        intro h0
        have h1 : er = [] := List.map_eq_nil_iff.1 h0
        have h2 := (getN_cnt e st 6).2
        rw [HEND.out] at h2
        have h3 := h2 hp4
        rw [h1] at h3
        simp at h3
        omega
       have hel8 : er.length ≤ 6 := by
        have h2 := (getN_cnt e st 6).2
        rw [HEND.out] at h2
        have h3 := h2 hp4
        dsimp only at h3
        omega
       obtain ⟨vs, hvl, hel, hho⟩ := (HE.out.1.keep (KeepW.of b5)).el
       have HJ := Lib.hid ((en_join c5 (w := w5) (A := A5) (vs := vs) (es := er.map eOf) hel hho (by rw [hvl]; omega)).mono (fun en w' hj => JoinRet.some_ hj hne))
       rw [hvl] at HJ
       obtain ⟨el, hel2⟩ : ∃ el, er.length = el := ⟨_, rfl⟩
       rw [hel2] at HJ ⊢
       have HB5 := Lib.hid b5
       clear hvl hel hho hne hel2 hel8 hp4 hnw b5
       go_wp2_with fail
       refine HJ.out.mono ?_
       rintro en w6 ⟨uj, rfl, b6, hj⟩
       try dsimp only
       rw [eOf_codes, eOf_nodes, eOf_stripes] at hj
       have HOF := Lib.hid (en_of (st : Int) hj)
       have HB6 := Lib.hid (HB5.out.trans (b6.mono HB5.out.size))
       clear b6 hj
       go_wp2_with fail
       refine HOF.out.mono ?_
       rintro en w7 ⟨uo, rfl, b7, ho⟩
       try dsimp only
       have HB7 := Lib.hid (HB6.out.trans (b7.mono HB6.out.size))
       have HO := Lib.hid ho
       clear b7 ho
       go_wp2_with fail
       go_ret2
       rw [HX3.out]
       exact ⟨_, uo, rfl, HS.out.2.1.below HB7.out, HKv.out.trans (HS.out.2.2.trans (KeepW.of HB7.out)), Or.inl ⟨er, rfl, rfl, HO.out⟩⟩
      ·try dsimp only
       have HX3 : Hid (X = (sw, .yes (decK ps))) := Lib.hid (by
        rw [HXX.out, HEND.out]
        exact if_neg (by have := (rows_whole HCN6.out).1 hwh; dsimp only; omega))
       have HDD : Hid (DatN w5 (some ⟨gd, 0, none⟩) 128 (decK ps)) := Lib.hid (by
        obtain ⟨cs, hcs⟩ := hty
        exact Or.inr ⟨gd, 0, cs, rfl, hcs, fun j hj => by rw [Nat.zero_add]; exact hr8.cell j hj⟩)
       have HB5 := Lib.hid b5
       clear hr8 hty hwh b5
       go_wp2_with fail
       go_ret2
       rw [HX3.out]
       exact ⟨_, _, rfl, HS.out.2.1.below HB5.out, HKv.out.trans (HS.out.2.2.trans (KeepW.of HB5.out)), Or.inr ⟨decK ps, some ⟨gd, 0, none⟩, kd, rfl, rfl, rfl, HDD.out, hkd, fun j _ => Kc.outF_lt _ j⟩⟩
     ·go_wp2_with fail
      refine HDE.out.mono ?_
      rintro en w5 (⟨rfl, b5, hnw⟩ | ⟨gd, kd, rfl, b5, hwh, ⟨hr8, hty⟩, hkd⟩)
      ·try dsimp only
       have hp4 : ps.length < 4 := by
        rcases Nat.lt_or_ge ps.length 4 with h | h
        ·exact h
        ·exact absurd ((rows_whole HCN6.out).2 (by have := HCN6.out.le; omega)) hnw
       have HX3 : Hid (X = (sw, .no er)) := Lib.hid (by rw [HXX.out, HEND.out]; exact if_pos hp4)
       obtain ⟨A5, c5, rfl⟩ := HE.out.1.form
       have hne : er.map eOf ≠ [] := by
        intro h0
        have h1 : er = [] := List.map_eq_nil_iff.1 h0
        have h2 := (getN_cnt e st 6).2
        rw [HEND.out] at h2
        have h3 := h2 hp4
        rw [h1] at h3
        simp at h3
        omega
       have hel8 : er.length ≤ 6 := by
        have h2 := (getN_cnt e st 6).2
        rw [HEND.out] at h2
        have h3 := h2 hp4
        dsimp only at h3
        omega
       obtain ⟨vs, hvl, hel, hho⟩ := (HE.out.1.keep (KeepW.of b5)).el
       have HJ := Lib.hid ((en_join c5 (w := w5) (A := A5) (vs := vs) (es := er.map eOf) hel hho (by rw [hvl]; omega)).mono (fun en w' hj => JoinRet.some_ hj hne))
       rw [hvl] at HJ
       obtain ⟨el, hel2⟩ : ∃ el, er.length = el := ⟨_, rfl⟩
       rw [hel2] at HJ ⊢
       have HB5 := Lib.hid b5
       clear hvl hel hho hne hel2 hel8 hp4 hnw b5
       go_wp2_with fail
       refine HJ.out.mono ?_
       rintro en w6 ⟨uj, rfl, b6, hj⟩
       try dsimp only
       rw [eOf_codes, eOf_nodes, eOf_stripes] at hj
       have HOF := Lib.hid (en_of (st : Int) hj)
       have HB6 := Lib.hid (HB5.out.trans (b6.mono HB5.out.size))
       clear b6 hj
       go_wp2_with fail
       refine HOF.out.mono ?_
       rintro en w7 ⟨uo, rfl, b7, ho⟩
       try dsimp only
       have HB7 := Lib.hid (HB6.out.trans (b7.mono HB6.out.size))
       have HO := Lib.hid ho
       clear b7 ho
       go_wp2_with fail
       go_ret2
       rw [HX3.out]
       exact ⟨_, uo, rfl, HS.out.2.1.below HB7.out, HKv.out.trans (HS.out.2.2.trans (KeepW.of HB7.out)), Or.inl ⟨er, rfl, rfl, HO.out⟩⟩
      ·try dsimp only
       have HX3 : Hid (X = (sw, .yes (decK ps))) := Lib.hid (by
        rw [HXX.out, HEND.out]
        exact if_neg (by have := (rows_whole HCN6.out).1 hwh; dsimp only; omega))
       have HDD : Hid (DatN w5 (some ⟨gd, 0, none⟩) 128 (decK ps)) := Lib.hid (by
        obtain ⟨cs, hcs⟩ := hty
        exact Or.inr ⟨gd, 0, cs, rfl, hcs, fun j hj => by rw [Nat.zero_add]; exact hr8.cell j hj⟩)
       have HB5 := Lib.hid b5
       clear hr8 hty hwh b5
       go_wp2_with fail
       go_ret2
       rw [HX3.out]
       exact ⟨_, _, rfl, HS.out.2.1.below HB5.out, HKv.out.trans (HS.out.2.2.trans (KeepW.of HB5.out)), Or.inr ⟨decK ps, some ⟨gd, 0, none⟩, kd, rfl, rfl, rfl, HDD.out, hkd, fun j _ => Kc.outF_lt _ j⟩⟩
end
end Go.Proofs.YtobkmohoepgfmaaGreatDoor
