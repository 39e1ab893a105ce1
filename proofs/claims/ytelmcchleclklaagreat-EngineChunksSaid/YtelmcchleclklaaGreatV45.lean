import Derived.Test.YtelmcchleclklaaGreatV26
import Derived.Test.YtelmcchleclklaaGreatV44
namespace Go.Proofs.YtelmcchleclklaaGreat
open Go.RowKit Go.Sort
set_option maxRecDepth 100000
set_option maxHeartbeats 1000000

theorem Ep.Tl.new : (Ep.new Wp.new).Tl 0 1 :=
 ⟨Ep.Inv.new (fun _ _ => Ns.Wf.new), ⟨rfl, rfl, by show (-1 : Int) < 0; decide⟩, (fun n y ⟨k, no, _, e⟩ _ => by cases e), by rw [cntW_zero _ _ (fun n _ k x no _ e => by cases e)]; exact Nat.zero_le _, (fun _ _ h => by cases h), fun _ => Nat.le_refl _, (fun _ h => by cases h), (fun _ h => by cases h)⟩
theorem Ep.Tl.same {e : Ep} {F K : Nat} (h : e.Tl F K) {s : Wp} (hN : s.N = e.w.N) (hc : s.Calm) : ({ e with w := s } : Ep).Tl F K :=
 ⟨h.inv.same hN, hc, fun n y hy hn => h.lo n y (by have hy2 : Ent (s.N n) y := hy; rw [hN] at hy2; exact hy2) hn, Nat.le_trans (Nat.le_of_eq (cntW_congr hN 8)) h.up, fun st hs hp => Nat.le_trans (Nat.le_of_eq (cntW_congr hN 8)) (h.at3 st hs hp), h.nk, h.pl, h.ps⟩
theorem Wp.puts_down {s : Wp} (h : s.Calm) {st g : Nat} {C : Nat → Nat → Nat} {i : Nat} (hd : s.dn (nodeN st i) = true) : ∀ m, i < m → (s.puts st g C m).2 = false
 | 0, hi => absurd hi (by omega)
 | m + 1, hi => by
  have q := Qt.puts h st g C m
  rw [Wp.puts_succ]
  by_cases e : i = m
  ·subst e
   rw [q.calm.done_down (by rw [q.dn]; exact hd)]
   dsimp only
   rw [show decide ((4 : Nat) = 0) = false from rfl, Bool.and_false]
  ·rw [Wp.puts_down h hd m (by omega), Bool.false_and]
theorem Ep.write_down {e : Ep} (h : e.w.Calm) {st : Nat} (hs : st < 40) (h1 : 1 ≤ e.next st) (h2 : e.next st ≤ 1099511627776) (E : (Nat → Nat) → Nat → Nat → Nat) (D : Nat → Nat) {i : Nat} (hi : i < 6) (hd : e.w.dn (nodeN st i) = true) (hr : (e.write E st D).2 = none) :
  (e.write E st D).1.pend st = some D ∧ (e.write E st D).1.gen st = e.next st := by
 have ha := askN_calm (e := e.up st) h (st := st) (g := e.next st) D hs h1 h2 8 (Nat.le_refl _)
 obtain ⟨r, hr2⟩ : ∃ r, (e.up st).askN (qLg st (e.next st) D) st 8 = r := ⟨_, rfl⟩
 rw [hr2] at ha
 by_cases hk : r.2.1 < 3
 ·have ew : (e.write E st D).2 = some r.2.2 := by
   unfold Ep.write Ep.carry
   dsimp only
   rw [hr2, if_pos hk]
   rfl
  rw [ew] at hr
  cases hr
 ·have ew : e.write E st D = (((e.up st).held r.1 st (e.next st) D).fin st (E D), none) := by
   unfold Ep.write Ep.carry
   dsimp only
   rw [hr2, if_neg hk]
   rfl
  have hp : (((e.up st).held r.1 st (e.next st) D).w.puts st (((e.up st).held r.1 st (e.next st) D).gen st) (E D) 6).2 = false := Wp.puts_down ha.calm (by show r.1.dn _ = true; rw [ha.dn]; exact hd) 6 hi
  rw [ew]
  unfold Ep.fin
  dsimp only
  rw [hp, if_neg (by decide)]
  exact ⟨if_pos rfl, if_pos rfl⟩
def listE (f : Nat → Bool) : List Int := ((List.range 40).filter f).map (fun i : Nat => (i : Int))
theorem listE_congr {f f' : Nat → Bool} (h : ∀ i, i < 40 → f i = f' i) : listE f = listE f' := by
 unfold listE
 rw [List.filter_congr (fun i hi => h i (List.mem_range.1 hi))]
theorem listE_mem {f : Nat → Bool} {i : Nat} : (i : Int) ∈ listE f ↔ i < 40 ∧ f i = true := by
 unfold listE
 rw [List.mem_map]
 constructor
 ·rintro ⟨j, hj, e⟩
  have : j = i := by omega
  subst this
  obtain ⟨h1, h2⟩ := List.mem_filter.1 hj
  exact ⟨List.mem_range.1 h1, h2⟩
 ·rintro ⟨h1, h2⟩
  exact ⟨i, List.mem_filter.2 ⟨List.mem_range.2 h1, h2⟩, rfl⟩
theorem listE_len (f : Nat → Bool) : (listE f).length ≤ 40 := by
 unfold listE
 rw [List.length_map]
 exact Nat.le_trans (List.length_filter_le _ _) (by simp)
end Go.Proofs.YtelmcchleclklaaGreat
namespace Go.Proofs.YtelmcchleclklaaGreat
open Go.RowKit Go.Sort
set_option maxRecDepth 100000
set_option maxHeartbeats 8000000

def encK (D : Nat → Nat) : Nat → Nat → Nat := Kc.enc (Kc.parts D)
theorem encK_lt' (D : Nat → Nat) (i j : Nat) : encK D i j < 256 := encK_lt _ i j
def EPt (v : World) (p cb : Nat) : Prop := v.heap[p]? = some (.cells #[.pointer (some ⟨cb, 0, none⟩)] 91 (0, 0))
theorem eng_notW : ¬ WiT 91 := notWi (by decide) (by decide) (by decide) (by decide) (by decide) (by decide) (by decide)
theorem EPt.keepE {lim : Nat} {v v' : World} {p cb : Nat} (h : EPt v p cb) (k : KeepE lim v v') : EPt v' p cb := (k.cells h eng_notW (by decide)).trans h
theorem EPt.c0 {v : World} {p cb : Nat} (h : EPt v p cb) : v.cell? ⟨p, 0, none⟩ = some (.pointer (some ⟨cb, 0, none⟩)) := cell_of_block h
structure LEx (w0 v : World) (g : Nat) (nd : ND) (p lim : Nat) (e : Ep) (cb A C c f o cap : Nat) (B : Nat → Value) : Prop where
 wl : WL w0 v g nd e.w
 cm : CM w0 v g cb nd e A C c f o cap B
 ep : EPt v p cb
 pl : p < lim
 bl : nd.B ≤ lim
 lv : lim ≤ v.heap.size
 w0l : w0.heap.size ≤ lim
def LE (w0 v : World) (g : Nat) (nd : ND) (p lim : Nat) (e : Ep) : Prop := ∃ cb A C c f o cap B, LEx w0 v g nd p lim e cb A C c f o cap B
section
variable {w0 v v' : World} {g p lim : Nat} {nd : ND} {e : Ep}
theorem LE.wl (h : LE w0 v g nd p lim e) : WL w0 v g nd e.w := by
 obtain ⟨cb, A, C, c, f, o, cap, B, h⟩ := h
 exact h.wl
theorem LE.limLe (h : LE w0 v g nd p lim e) : lim ≤ v.heap.size := by
 obtain ⟨cb, A, C, c, f, o, cap, B, h⟩ := h
 exact h.lv
theorem LE.below (h : LE w0 v g nd p lim e) (b : Below v.heap.size v v') : LE w0 v' g nd p lim e := by
 obtain ⟨cb, A, C, c, f, o, cap, B, h⟩ := h
 exact ⟨cb, A, C, c, f, o, cap, B, h.wl.below b, h.cm.below b, (b.block p (heap_lt h.ep)).trans h.ep, h.pl, h.bl, Nat.le_trans h.lv b.size, h.w0l⟩
theorem LE.wire (h : LE w0 v g nd p lim e) {s : Wp} (hw : WL w0 v' g nd s) (k : KeepF v v') : LE w0 v' g nd p lim { e with w := s } := by
 obtain ⟨cb, A, C, c, f, o, cap, B, h⟩ := h
 exact ⟨cb, A, C, c, f, o, cap, B, hw, h.cm.keep h.wl hw k rfl rfl rfl rfl, (k.cells h.ep eng_notW (by decide)).trans h.ep, h.pl, h.bl, Nat.le_trans h.lv k.1, h.w0l⟩
theorem LE.map (h : LE w0 v g nd p lim e) {mb : Nat} {es : Array MapEntry} {c : Nat} (hb : v.heap[mb]? = some (.map es c)) (hl : lim ≤ mb) (gr : v.grownBy v' (some mb)) : LE w0 v' g nd p lim e := by
 obtain ⟨cb, A, C, cc, f, o, cap, B, h⟩ := h
 have hz : ¬ nd.Z mb := fun hz => by have := h.wl.zlt hz; have := h.bl; omega
 have hk : ∀ {k : Nat} {cs : Array Value} {t : TypeId} {fr : Nat × Nat}, v.heap[k]? = some (.cells cs t fr) → v'.heap[k]? = v.heap[k]? := fun hk => KeepW.map hb gr hk
 refine ⟨cb, A, C, cc, f, o, cap, B, h.wl.map hb (Nat.le_trans h.w0l hl) gr hz, ?_, (hk h.ep).trans h.ep, h.pl, h.bl, Nat.le_trans h.lv gr.size, h.w0l⟩
 obtain ⟨q1, q2, q3, q4, qC, q5, q6, q7⟩ := h.cm
 obtain ⟨r1, r2⟩ := q3.keepA q4 gr.size (fun j h3 h4 => gr.block j (by omega) (fun e2 => by
  injection e2 with e2
  exact hz (e2 ▸ q5 j h3 h4)))
 obtain ⟨cs, hcs, hr⟩ := q1
 exact ⟨⟨cs, (hk hcs).trans hcs, hr⟩, q2.keep (fun b cs hb => hk hb), r1, r2, Nat.le_trans qC gr.size, q5, q6, q7⟩
theorem le_made {cb : Nat} (h : EPt v p cb) : Calls Tryz.prog 63 #[.pointer (some ⟨p, 0, none⟩)] v fun en w' => en = .returned (.bool true) ∧ w' = v := by
 have c0 := h.c0
 clear h
 go_enter Tryz.func63, Tryz.ntmps63
 go_wp2_with fail
 go_ret
 exact ⟨rfl, rfl⟩
theorem le_has {cb : Nat} (h : EPt v p cb) {st : Nat} (hst : st < 40) : Calls Tryz.prog 36 #[.pointer (some ⟨p, 0, none⟩), .int .i64 (st : Int)] v fun en w' => en = .returned (.bool true) ∧ w' = v := by
 have HM := Lib.hid (le_made h)
 have HR := Lib.hid (lright_yes (s := (st : Int)) (by omega) (by omega) v)
 clear h
 go_enter Tryz.func36, Tryz.ntmps36
 go_wp2_with fail
 refine HM.out.mono ?_
 rintro en w' ⟨rfl, hw⟩
 obtain rfl := hw.symm
 go_wp2_with fail
 refine HR.out.mono ?_
 rintro en w' ⟨rfl, hw⟩
 obtain rfl := hw.symm
 go_wp2_with fail
 go_ret
 exact ⟨rfl, rfl⟩
theorem le_gen (h : LE w0 v g nd p lim e) {st : Nat} (hst : st < 40) : Calls Tryz.prog 17 #[.pointer (some ⟨p, 0, none⟩), .int .i64 (st : Int)] v fun en w' => en = .returned (.int .i64 (e.gen st : Int)) ∧ w' = v := by
 obtain ⟨cb, A, C, c, f, o, cap, B, h⟩ := h
 have HH := Lib.hid (le_has h.ep hst)
 have c0 := h.ep.c0
 obtain ⟨k1, _⟩ := h.cm.known hst
 have hst' : (st : Int) < 40 := by omega
 obtain ⟨gn, hg⟩ : ∃ gn, e.gen st = gn := ⟨_, rfl⟩
 rw [hg] at k1 ⊢
 clear h hg
 go_enter Tryz.func17, Tryz.ntmps17
 go_wp2_with fail
 refine HH.out.mono ?_
 rintro en w' ⟨rfl, hw⟩
 obtain rfl := hw.symm
 go_wp2_with fail
 go_ret
 exact ⟨rfl, rfl⟩
theorem le_wire (h : LE w0 v g nd p lim e) : Calls Tryz.prog 26 #[.pointer (some ⟨p, 0, none⟩)] v fun en w' => en = .returned (.pointer (some ⟨g, 0, none⟩)) ∧ Below v.heap.size v w' := by
 obtain ⟨cb, A, C, c, f, o, cap, B, h⟩ := h
 have HH := Lib.hid (le_made h.ep)
 have c0 := h.ep.c0
 have k1 := h.cm.c0
 clear h
 go_enter Tryz.func26, Tryz.ntmps26
 go_wp2_with fail
 refine HH.out.mono ?_
 rintro en w' ⟨rfl, hw⟩
 obtain rfl := hw.symm
 go_wp2_with fail
 go_ret
 exact ⟨rfl, Below.refl _ _⟩
def LWRet (w0 v : World) (g : Nat) (nd : ND) (p lim st : Nat) (x : Ep × Option (List (Nat × Nat))) (en : Ending) (w' : World) : Prop :=
 ∃ u, en = .returned u ∧ LE w0 w' g nd p lim x.1 ∧ KeepE lim v w' ∧ ErrOf w' u st x.2
def LRRet (w0 v : World) (g : Nat) (nd : ND) (p lim st : Nat) (x : Ep × Got) (en : Ending) (w' : World) : Prop :=
 ∃ r u, en = .returned (.tuple #[r, u]) ∧ LE w0 w' g nd p lim x.1 ∧ KeepE lim v w' ∧ ((∃ l, x.2 = .no l ∧ r = .slice none 0 0 ∧ EV w' u (l.map (fun z => (z.2 : Int))) (l.map (fun z => (z.1 : Int))) [(st : Int)]) ∨
  ∃ D P k, x.2 = .yes D ∧ u = .nilIface ∧ r = .slice P 128 k ∧ DatN w' P 128 D ∧ 128 ≤ k ∧ ∀ j, j < 128 → D j < 256)
theorem le_write (h : LE w0 v g nd p lim e) {m : Nat} (hf : e.w.Fit m) (hm : m ≤ 100000000) (hk : ∀ i, e.next i ≤ 1000000) {st : Nat} (hst : st < 40) (P : Option Addr) (k : Nat) (D : Nat → Nat) (hd : DatN v P 128 D) (hD : ∀ j, j < 128 → D j < 256) :
  Calls Tryz.prog 9 #[.pointer (some ⟨p, 0, none⟩), .int .i64 (st : Int), .slice P 128 k] v (LWRet w0 v g nd p lim st (e.write encK st D)) := by
 obtain ⟨cb, A, C, c, f, o, cap, B, h⟩ := h
 have q1 := we_neqNil
 have q2 := we_neqNilNil
 have HH := Lib.hid (le_has h.ep hst)
 have c0 := h.ep.c0
 obtain ⟨_, k2, _, _⟩ := h.cm.known hst
 have kf : ∀ j, v.frozen? ⟨cb, j, none⟩ = false := h.cm.fr
 have hst' : (st : Int) < 40 := by omega
 have hnx := hk st
 obtain ⟨nx, hn⟩ : ∃ nx, e.next st = nx := ⟨_, rfl⟩
 rw [hn] at k2 hnx
 obtain ⟨v1, hv1⟩ : ∃ v1, v.setCell ⟨cb, 1 + st * 4 + 1, none⟩ (.int .i64 ((nx : Int) + 1)) = v1 := ⟨_, rfl⟩
 have HM1 : Hid (CM w0 v1 g cb nd (e.up st) A C c f o cap B) := Lib.hid (by
  rw [← hv1]
  refine h.cm.put (by omega) (carF_ext ?_ ?_ (fun i hi => ?_) (fun i hi => ?_) (fun i hi => ?_) (fun i hi => ?_)) h.cm.pb
  ·rw [if_neg (by omega)]; rfl
  ·rw [if_neg (by omega)]; rfl
  ·rw [if_neg (by omega), carF_g _ _ _ _ hi]; rfl
  ·by_cases e2 : i = st
   ·subst e2
    rw [if_pos (by omega)]
    unfold Ep.up
    dsimp only
    rw [if_pos rfl, hn]
    congr 1
   ·rw [if_neg (by omega), carF_n _ _ _ _ hi]
    unfold Ep.up
    dsimp only
    rw [if_neg e2]
  ·rw [if_neg (by omega), carF_d _ _ _ _ hi]; rfl
  ·rw [if_neg (by omega), carF_b _ _ _ _ hi])
 have HW1 : Hid (WL w0 v1 g nd (e.up st).w) := Lib.hid (by rw [← hv1]; exact h.wl.cput h.cm _ _)
 have HK1 : Hid (KeepE 0 v v1) := Lib.hid (by
  rw [← hv1]
  obtain ⟨cs, hcs, _⟩ := h.cm.blk
  exact KeepE.set hcs _ _)
 have HD1 : Hid (DatN v1 P 128 D) := Lib.hid (by
  rcases hd with hd | ⟨g1, o1, cs, h3, h4, h5⟩
  ·exact Or.inl hd
  ·have hk := HK1.out.cells h4 u8_notW (by decide)
   exact Or.inr ⟨g1, o1, cs, h3, hk.trans h4, fun j hj => (World.cell?_of_block (w := v) hk).trans (h5 j hj)⟩)
 have HC := Lib.hid (cy_carry (e := e.up st) HW1.out HM1.out (m := m) hf (by omega) hst (gn := nx) (by omega) D P k HD1.out hD)
 have HP1 := Lib.hid (h.ep.keepE HK1.out)
 have d0 := HP1.out.c0
 have HR := Lib.hid (And.intro h.pl (And.intro h.bl (And.intro h.lv h.w0l)))
 have HV1 := Lib.hid hv1
 obtain ⟨X, hX⟩ : ∃ X, e.write encK st D = X := ⟨_, rfl⟩
 have HX := Lib.hid hX
 rw [hX]
 obtain ⟨e2, r2, hr⟩ : ∃ e2 r2, (e.up st).carry encK st nx D = (e2, r2) := ⟨_, _, rfl⟩
 have hr' : (e.up st).carry (fun D => Kc.enc (Kc.parts D)) st nx D = (e2, r2) := hr
 rw [hr'] at HC
 have HRR : Hid (X = if r2.isSome = true then ({ e2 with doubt := fun i => if i = st then true else e2.doubt i }, r2) else (e2, r2)) := Lib.hid (by
  rw [← hX]
  unfold Ep.write
  rw [hn, hr])
 clear h hf hk hd hD hX hr hr' hv1 hn
 go_enter Tryz.func9, Tryz.ntmps9
 go_wp2_with fail
 refine HH.out.mono ?_
 rintro en w' ⟨rfl, hw⟩
 obtain rfl := hw.symm
 go_upto_region 6 with fail
 rw [HV1.out]
 clear k2 kf c0
 go_wp2_with fail
 refine HC.out.mono ?_
 rintro en w2 ⟨u, rfl, W2, ⟨B2, M2⟩, K2, he⟩
 try dsimp only
 try dsimp only at W2 M2 he
 have HW2 := Lib.hid W2
 have HM2 := Lib.hid M2
 have HK2 := Lib.hid (HK1.out.trans K2)
 have HP2 := Lib.hid (HP1.out.keepE K2)
 clear W2 M2 K2
 cases r2 with
 | none =>
  obtain rfl : u = .nilIface := he
  have HXX : Hid (X = (e2, none)) := HRR
  go_wp2_with fail
  go_ret
  rw [HXX.out]
  exact ⟨_, rfl, ⟨cb, A, C, c, f, o, cap, B2, HW2.out, HM2.out, HP2.out, HR.out.1, HR.out.2.1, Nat.le_trans HR.out.2.2.1 HK2.out.1, HR.out.2.2.2⟩, HK2.out.mono (Nat.zero_le _), rfl⟩
 | some l =>
  have hev : EV w2 u (l.map (fun z => (z.2 : Int))) (l.map (fun z => (z.1 : Int))) [(st : Int)] := he
  obtain ⟨tu, xu, rfl⟩ := hev.iface
  have HXX : Hid (X = ({ e2 with doubt := fun i => if i = st then true else e2.doubt i }, some l)) := HRR
  obtain ⟨_, _, k3, _⟩ := HM2.out.known hst
  have kf : ∀ j, w2.frozen? ⟨cb, j, none⟩ = false := HM2.out.fr
  have HM3 : Hid (CM w0 (w2.setCell ⟨cb, 1 + st * 4 + 2, none⟩ (.bool true)) g cb nd { e2 with doubt := fun i => if i = st then true else e2.doubt i } A C c f o cap B2) := Lib.hid (by
   refine HM2.out.put (by omega) (carF_ext ?_ ?_ (fun i hi => ?_) (fun i hi => ?_) (fun i hi => ?_) (fun i hi => ?_)) HM2.out.pb
   ·rw [if_neg (by omega)]; rfl
   ·rw [if_neg (by omega)]; rfl
   ·rw [if_neg (by omega), carF_g _ _ _ _ hi]
   ·rw [if_neg (by omega), carF_n _ _ _ _ hi]
   ·by_cases e3 : i = st
    ·rw [if_pos (by omega)]; dsimp only; rw [if_pos e3]
    ·rw [if_neg (by omega), carF_d _ _ _ _ hi]; dsimp only; rw [if_neg e3]
   ·rw [if_neg (by omega), carF_b _ _ _ _ hi])
  have HW3 := Lib.hid (HW2.out.cput HM2.out (1 + st * 4 + 2) (.bool true))
  have HKS : Hid (KeepE 0 w2 (w2.setCell ⟨cb, 1 + st * 4 + 2, none⟩ (.bool true))) := Lib.hid (by
   obtain ⟨cs, hcs, _⟩ := HM2.out.blk
   exact KeepE.set hcs _ _)
  have HE := Lib.hid (hev.keepE HKS.out)
  clear hev he
  go_wp2_with fail
  go_ret
  rw [HXX.out]
  exact ⟨_, rfl, ⟨cb, A, C, c, f, o, cap, B2, HW3.out, HM3.out, HP2.out.keepE HKS.out, HR.out.1, HR.out.2.1, Nat.le_trans HR.out.2.2.1 (HK2.out.trans HKS.out).1, HR.out.2.2.2⟩, (HK2.out.trans HKS.out).mono (Nat.zero_le _), HE.out⟩
end
end Go.Proofs.YtelmcchleclklaaGreat
namespace Go.Proofs.YtelmcchleclklaaGreat
open Go.RowKit Go.Sort
set_option maxRecDepth 100000
set_option maxHeartbeats 8000000

theorem Ep.fit_fetch {e : Ep} {m st : Nat} (dec : List (Nat × (Nat → Nat)) → Nat → Nat) (h : e.w.Fit m) : (e.fetch dec st).1.Fit (m + 18) := by
 have h6 := Ep.fit_getN (e := e) (st := st) h 6
 have h0 : e.w.Fit (m + 18) := h.mono (by omega)
 unfold Ep.fetch
 repeat' split
 ·exact h0
 ·exact h0
 ·exact h6
 ·exact h6
theorem DatN.keepE {lim : Nat} {w w' : World} {A : Option Addr} {n : Nat} {D : Nat → Nat} (h : DatN w A n D) (k : KeepE lim w w') : DatN w' A n D := by
 rcases h with h | ⟨g, o, cs, h1, h2, h3⟩
 ·exact Or.inl h
 ·have hk := k.cells h2 u8_notW (by decide)
  exact Or.inr ⟨g, o, cs, h1, hk.trans h2, fun j hj => (World.cell?_of_block (w := w) hk).trans (h3 j hj)⟩
section
variable {w0 v : World} {g p lim : Nat} {nd : ND} {e : Ep}
theorem le_read (h : LE w0 v g nd p lim e) {m : Nat} (hf : e.w.Fit m) (hm : m ≤ 100000000 - 18) (hk : ∀ i, e.next i ≤ 1000000) {st : Nat} (hst : st < 40) :
  Calls Tryz.prog 35 #[.pointer (some ⟨p, 0, none⟩), .int .i64 (st : Int)] v (LRRet w0 v g nd p lim st (e.read encK decK st)) := by
 obtain ⟨cb, A, C, c, f, o, cap, B, h⟩ := h
 have q1 := we_neqNil
 have q2 := we_neqNilNil
 have HH := Lib.hid (le_has h.ep hst)
 have c0 := h.ep.c0
 have hst' : (st : Int) < 40 := by omega
 have HF := Lib.hid (cy_fetch h.wl h.cm hf (by omega) hst)
 have HFF := Lib.hid (Ep.fit_fetch (st := st) decK hf)
 have HL := Lib.hid h
 have HK := Lib.hid hk
 obtain ⟨s1, x1, hx1⟩ : ∃ s1 x1, e.fetch decK st = (s1, x1) := ⟨_, _, rfl⟩
 rw [hx1] at HF HFF
 obtain ⟨X, hX⟩ : ∃ X, e.read encK decK st = X := ⟨_, rfl⟩
 have HX := Lib.hid hX
 have HX1 := Lib.hid hx1
 rw [hX]
 obtain ⟨db, hdb⟩ : ∃ db, e.doubt st = db := ⟨_, rfl⟩
 have HDB := Lib.hid hdb
 clear h hf hk hX hx1
 go_enter Tryz.func35, Tryz.ntmps35
 go_wp2_with fail
 refine HH.out.mono ?_
 rintro en w' ⟨rfl, hw⟩
 obtain rfl := hw.symm
 go_wp2_with fail
 refine HF.out.mono ?_
 rintro en w1 ⟨r, u, rfl, W1, K1, hx⟩
 try dsimp only
 try dsimp only at W1 hx
 have HE1 : Hid (LEx w0 w1 g nd p lim { e with w := s1 } cb A C c f o cap B) := Lib.hid ⟨W1, HL.out.cm.keep HL.out.wl W1 (KeepF.of K1) rfl rfl rfl rfl, (K1.cells HL.out.ep eng_notW).trans HL.out.ep, HL.out.pl, HL.out.bl, Nat.le_trans HL.out.lv K1.1, HL.out.w0l⟩
 have HK1 := Lib.hid (KeepE.of lim K1)
 clear W1 K1
 rcases hx with ⟨l, rfl, rfl, hev⟩ | ⟨D, P, k, rfl, rfl, rfl, hd, hk, hD⟩
 ·obtain ⟨tu, xu, rfl⟩ := hev.iface
  have HXX : Hid (X = ({ e with w := s1 }, .no l)) := Lib.hid (by rw [← HX.out]; unfold Ep.read; rw [HX1.out])
  have HE := Lib.hid hev
  clear hev
  go_wp2_with fail
  go_ret2
  rw [HXX.out]
  exact ⟨_, _, rfl, ⟨cb, A, C, c, f, o, cap, B, HE1.out⟩, HK1.out, Or.inl ⟨l, rfl, rfl, HE.out⟩⟩
 ·have HD := Lib.hid (And.intro hd (And.intro hk hD))
  have d0 := HE1.out.ep.c0
  obtain ⟨_, _, k3, _⟩ := HE1.out.cm.known hst
  dsimp only at k3
  rw [hdb] at k3
  clear hd hk hD c0
  cases db with
  | false =>
   have HXX : Hid (X = ({ e with w := s1 }, .yes D)) := Lib.hid (by rw [← HX.out]; unfold Ep.read; rw [HX1.out]; dsimp only; rw [HDB.out]; exact if_neg (by decide))
   go_wp2_with fail
   go_ret2
   rw [HXX.out]
   exact ⟨_, _, rfl, ⟨cb, A, C, c, f, o, cap, B, HE1.out⟩, HK1.out, Or.inr ⟨D, P, k, rfl, rfl, rfl, HD.out.1, HD.out.2.1, HD.out.2.2⟩⟩
  | true =>
   have HWR := Lib.hid (le_write (e := { e with w := s1 }) ⟨cb, A, C, c, f, o, cap, B, HE1.out⟩ HFF.out (by omega) HK.out hst P k D HD.out.1 HD.out.2.2)
   obtain ⟨e2, r2, hr⟩ : ∃ e2 r2, ({ e with w := s1 } : Ep).write encK st D = (e2, r2) := ⟨_, _, rfl⟩
   rw [hr] at HWR
   have HXX : Hid (X = (match (e2, r2) with | (e2, some l) => (e2, .no l) | (e2, none) => (e2, .yes D))) := Lib.hid (by rw [← HX.out]; unfold Ep.read; rw [HX1.out]; dsimp only; rw [HDB.out]; rw [if_pos rfl, hr]; cases r2 <;> rfl)
   clear hr
   go_wp2_with fail
   refine HWR.out.mono ?_
   rintro en w2 ⟨u, rfl, L2, K2, he⟩
   try dsimp only
   try dsimp only at he L2
   have HZ := Lib.hid (And.intro L2 (And.intro (HK1.out.trans K2) (HD.out.1.keepE K2)))
   clear L2 K2
   cases r2 with
   | none =>
    obtain rfl : u = .nilIface := he
    have HX2 : Hid (X = (e2, .yes D)) := HXX
    go_wp2_with fail
    go_ret2
    rw [HX2.out]
    exact ⟨_, _, rfl, HZ.out.1, HZ.out.2.1, Or.inr ⟨D, P, k, rfl, rfl, rfl, HZ.out.2.2, HD.out.2.1, HD.out.2.2⟩⟩
   | some l =>
    have hev : EV w2 u (l.map (fun z => (z.2 : Int))) (l.map (fun z => (z.1 : Int))) [(st : Int)] := he
    obtain ⟨tu, xu, rfl⟩ := hev.iface
    have HX2 : Hid (X = (e2, .no l)) := HXX
    have HE := Lib.hid hev
    clear hev he
    go_wp2_with fail
    go_ret2
    rw [HX2.out]
    exact ⟨_, _, rfl, HZ.out.1, HZ.out.2.1, Or.inl ⟨l, rfl, rfl, HE.out⟩⟩
end
end Go.Proofs.YtelmcchleclklaaGreat
namespace Go.Proofs.YtelmcchleclklaaGreat
open Go.RowKit Go.Sort
set_option maxRecDepth 100000
set_option maxHeartbeats 8000000

def zF (j : Nat) : Value := if j = 0 then .pointer none else if j = 161 then .pointer none else if j % 4 = 1 then .int .i64 0 else if j % 4 = 2 then .int .i64 0 else if j % 4 = 3 then .bool false else .slice none 0 0
theorem zeroCar : Tryz.zeroCells88.toList = (List.range 162).map zF := by kernel_rfl
def e0 (s : Wp) (i : Nat) : Ep := ⟨s, fun _ => 0, fun j => if j < i then 1 else 0, fun _ => false, fun _ => none⟩
theorem zeroBlk (g c : Nat) (s : Wp) (j : Nat) (hj : j < 162) : ((Tryz.zeroCells88.setIfInBounds 0 (.pointer (some ⟨g, 0, none⟩))).setIfInBounds 161 (.pointer (some ⟨c, 0, none⟩)))[j]? = some (carF g c (e0 s 0) (fun _ => .slice none 0 0) j) := by
 have hsz : Tryz.zeroCells88.size = 162 := by simp
 have hz : Tryz.zeroCells88[j]? = some (zF j) := by
  rw [← Array.getElem?_toList, zeroCar, List.getElem?_map, List.getElem?_range hj]
  rfl
 rw [Array.getElem?_setIfInBounds, Array.getElem?_setIfInBounds]
 unfold carF
 by_cases h1 : j = 161
 ·subst h1
  rw [if_pos rfl, if_pos (by simp [hsz])]
  rfl
 ·rw [if_neg (fun h => h1 h.symm)]
  by_cases h0 : j = 0
  ·subst h0
   rw [if_pos rfl, if_pos (by omega)]
   rfl
  ·rw [if_neg (fun h => h0 h.symm), hz, if_neg h0, if_neg h1]
   unfold zF e0
   rw [if_neg h0, if_neg h1]
   simp only [Nat.not_lt_zero, if_false]
   rfl
theorem CM.same {w0 v : World} {g cb : Nat} {nd : ND} {e e' : Ep} {A C c f o cap : Nat} {B : Nat → Value} (h : CM w0 v g cb nd e A C c f o cap B) (hg : ∀ i, i < 40 → e.gen i = e'.gen i) (hn : ∀ i, i < 40 → e.next i = e'.next i) (hd : ∀ i, i < 40 → e.doubt i = e'.doubt i) (hp : ∀ i, i < 40 → e.pend i = e'.pend i) : CM w0 v g cb nd e' A C c f o cap B :=
 ⟨h.blk.congr (carF_congr hg hn hd (fun _ _ => rfl)), fun i hi => by rw [← hp i hi]; exact h.pb i hi, h.cdr, h.cin, h.cC, h.zA, h.zc, h.w0c⟩
theorem cy_new {w0 v : World} {g : Nat} {nd : ND} {s : Wp} (h : WL w0 v g nd s) : Calls Tryz.prog 73 #[.pointer (some ⟨g, 0, none⟩)] v fun en w' => ∃ cb nd' A C c f o cap B, en = .returned (.pointer (some ⟨cb, 0, none⟩)) ∧ WL w0 w' g nd' s ∧ CM w0 w' g cb nd' (Ep.new s) A C c f o cap B ∧ Below v.heap.size v w' ∧ nd'.B ≤ w'.heap.size ∧ nd'.f = nd.f := by
 have HW := Lib.hid h
 have HN := Lib.hid (Kc.cnewF v)
 clear h
 go_enter Tryz.func73, Tryz.ntmps73
 go_wp2_with fail
 refine HN.out.mono ?_
 rintro en w1 ⟨c, f, o, cap, rfl, hc, b1, hf⟩
 try dsimp only
 have HC := Lib.hid (And.intro hc (hc.upto hf))
 have HB1 := Lib.hid b1
 clear hc b1 hf
 obtain ⟨cb, hcb⟩ : ∃ cb, w1.heap.size = cb := ⟨_, rfl⟩
 have HCB := Lib.hid hcb
 obtain ⟨w2, hw2⟩ : ∃ w2, w1.alloc (.cells ((Tryz.zeroCells88.setIfInBounds 0 (.pointer (some ⟨g, 0, none⟩))).setIfInBounds 161 (.pointer (some ⟨c, 0, none⟩))) 88) = w2 := ⟨_, rfl⟩
 have b2 : Below w1.heap.size w1 w2 := by rw [← hw2]; exact (Below.refl _ _).alloc (Nat.le_refl _) _
 have hbl : w2.heap[cb]? = some (.cells ((Tryz.zeroCells88.setIfInBounds 0 (.pointer (some ⟨g, 0, none⟩))).setIfInBounds 161 (.pointer (some ⟨c, 0, none⟩))) 88 (0, 0)) := by rw [← hw2, ← hcb]; exact alloc_block _ _
 obtain ⟨nd1, hnd1⟩ : ∃ nd1, nd.add (fun k => v.heap.size ≤ k ∧ k < w1.heap.size) w1 = nd1 := ⟨_, rfl⟩
 have HND : Hid (nd1.f = nd.f ∧ nd1.B = w1.heap.size ∧ ∀ k, v.heap.size ≤ k → k < w1.heap.size → nd1.Z k) := Lib.hid (by rw [← hnd1]; exact ⟨rfl, rfl, fun k a b => Or.inr ⟨a, b⟩⟩)
 have HW1 : Hid (WL w0 w1 g nd1 s) := Lib.hid (by rw [← hnd1]; exact HW.out.add HB1.out (fun k hk => hk))
 have HW2 := Lib.hid (HW1.out.below b2)
 have HM2 : Hid (CM w0 w2 g cb nd1 (e0 s 0) v.heap.size w1.heap.size c f o cap (fun _ => .slice none 0 0)) := Lib.hid (by
  obtain ⟨k1, k2⟩ := HC.out.1.keepA HC.out.2 b2.size (fun j _ h4 => b2.block j h4)
  exact ⟨⟨_, hbl, by simp, zeroBlk g c s⟩, fun i _ => Or.inl ⟨rfl, rfl⟩, k1, k2, b2.size, HND.out.2.2, fun hz => by have h7 := HW1.out.zlt hz; rw [HND.out.2.1] at h7; omega, by rw [← hcb]; exact Nat.le_trans HW.out.blw.size HB1.out.size⟩)
 have HB2 := Lib.hid (HB1.out.trans (b2.mono HB1.out.size))
 have HVC : Hid (v.heap.size ≤ cb ∧ w1.heap.size ≤ w2.heap.size) := Lib.hid ⟨by rw [← hcb]; exact HB1.out.size, b2.size⟩
 have HV2 := Lib.hid hw2
 clear hcb hw2 b2 hbl hnd1
 go_upto_region 2 with fail
 rw [HV2.out, HCB.out]
 go_wp2_with fail
 go_loopg [4, 9] 40 (fun kk s4 s9 wr => ∃ i : Nat, s9 = .int .i64 (i : Int) ∧ i ≤ 40 ∧ kk = 40 - i ∧ Hid (WL w0 wr g nd1 s ∧ CM w0 wr g cb nd1 (e0 s i) v.heap.size w1.heap.size c f o cap (fun _ => .slice none 0 0) ∧ Below v.heap.size v wr ∧ w1.heap.size ≤ wr.heap.size))
 case atStart => exact ⟨0, rfl, by omega, rfl, Lib.hid ⟨HW2.out, HM2.out, HB2.out, HVC.out.2⟩⟩
 case round =>
  obtain ⟨i, rfl, hi, rfl, HS⟩ := hrel
  obtain ⟨wo, rfl⟩ : ∃ wo : World, wo = wr := ⟨wr, rfl⟩
  by_cases hlt : i < 40
  ·have hlt' : (i : Int) < 40 := by omega
   obtain ⟨_, k2, _, _⟩ := HS.out.2.1.known hlt
   have kf : ∀ j, wo.frozen? ⟨cb, j, none⟩ = false := HS.out.2.1.fr
   have HX : Hid (WL w0 (wo.setCell ⟨cb, 1 + i * 4 + 1, none⟩ (.int .i64 1)) g nd1 s ∧ CM w0 (wo.setCell ⟨cb, 1 + i * 4 + 1, none⟩ (.int .i64 1)) g cb nd1 (e0 s (i + 1)) v.heap.size w1.heap.size c f o cap (fun _ => .slice none 0 0) ∧ Below v.heap.size v (wo.setCell ⟨cb, 1 + i * 4 + 1, none⟩ (.int .i64 1)) ∧ w1.heap.size ≤ (wo.setCell ⟨cb, 1 + i * 4 + 1, none⟩ (.int .i64 1)).heap.size) := Lib.hid (by
    refine ⟨HS.out.1.cput HS.out.2.1 _ _, HS.out.2.1.put (by omega) (carF_ext ?_ ?_ (fun j hj => ?_) (fun j hj => ?_) (fun j hj => ?_) (fun j hj => ?_)) (fun j hj => Or.inl ⟨rfl, rfl⟩), HS.out.2.2.1.setCell (p := ⟨cb, 1 + i * 4 + 1, none⟩) HVC.out.1 _, by have := HS.out.2.2.2; simpa [World.setCell] using this⟩
    ·rw [if_neg (by omega)]; rfl
    ·rw [if_neg (by omega)]; rfl
    ·rw [if_neg (by omega), carF_g _ _ _ _ hj]; rfl
    ·by_cases e2 : j = i
     ·subst e2
      rw [if_pos (by omega)]
      unfold e0
      dsimp only
      rw [if_pos (by omega)]
      rfl
     ·rw [if_neg (by omega), carF_n _ _ _ _ hj]
      unfold e0
      dsimp only
      congr 2
      by_cases h7 : j < i
      ·rw [if_pos h7, if_pos (by omega)]
      ·rw [if_neg h7, if_neg (by omega)]
    ·rw [if_neg (by omega), carF_d _ _ _ _ hj]; rfl
    ·rw [if_neg (by omega), carF_b _ _ _ _ hj])
   go_wp2_with fail
   go_roundg (40 - (i + 1))
   case measure => omega
   case rel => exact ⟨i + 1, by go_num, by omega, rfl, HX⟩
  ·obtain rfl : i = 40 := by omega
   go_wp2_with fail
   go_ret
   exact ⟨cb, nd1, _, _, c, f, o, cap, _, rfl, HS.out.1, HS.out.2.1.same (fun _ _ => rfl) (fun i hi => by unfold e0 Ep.new; dsimp only; rw [if_pos hi]) (fun _ _ => rfl) (fun _ _ => rfl), HS.out.2.2.1, by rw [HND.out.2.1]; exact HS.out.2.2.2, HND.out.1⟩
theorem le_blank {w0 v : World} {g : Nat} {nd : ND} {s : Wp} (h : WL w0 v g nd s) : Calls Tryz.prog 33 #[.pointer (some ⟨g, 0, none⟩)] v fun en w' => ∃ p nd', en = .returned (.tuple #[.pointer (some ⟨p, 0, none⟩), .nilIface]) ∧ LE w0 w' g nd' p w'.heap.size (Ep.new s) ∧ Below v.heap.size v w' ∧ nd'.f = nd.f := by
 have HN := Lib.hid (cy_new h)
 have HW := Lib.hid h.blw
 clear h
 go_enter Tryz.func33, Tryz.ntmps33
 go_wp2_with fail
 refine HN.out.mono ?_
 rintro en w1 ⟨cb, nd', A, C, c, f, o, cap, B, rfl, W1, M1, b1, hB, hf⟩
 try dsimp only
 have HZ := Lib.hid (And.intro W1 (And.intro M1 (And.intro b1 (And.intro hB hf))))
 clear W1 M1 b1 hB hf
 go_wp2_with fail
 go_ret2
 have b2 : Below w1.heap.size w1 (w1.alloc (.cells #[.pointer (some ⟨cb, 0, none⟩)] 91)) := (Below.refl _ _).alloc (Nat.le_refl _) _
 have hs : (w1.alloc (.cells #[.pointer (some ⟨cb, 0, none⟩)] 91)).heap.size = w1.heap.size + 1 := by simp
 exact ⟨w1.heap.size, nd', rfl, ⟨cb, A, C, c, f, o, cap, B, HZ.out.1.below b2, HZ.out.2.1.below b2, alloc_block w1 _, by omega, by have := HZ.out.2.2.2.1; omega, Nat.le_refl _, by have := HW.out.size; have := HZ.out.2.2.1.size; omega⟩, HZ.out.2.2.1.trans (b2.mono HZ.out.2.2.1.size), HZ.out.2.2.2.2⟩
end Go.Proofs.YtelmcchleclklaaGreat
