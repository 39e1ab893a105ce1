import Derived.Test.YtobkmohoepgfmaaGreatDoorV24
import Derived.Test.YtobkmohoepgfmaaGreatDoorV36
namespace Go.Proofs.YtobkmohoepgfmaaGreatDoor
open Go.RowKit Go.Sort
set_option maxRecDepth 100000
set_option maxHeartbeats 1000000

end Go.Proofs.YtobkmohoepgfmaaGreatDoor
namespace Go.Proofs.YtobkmohoepgfmaaGreatDoor
open Go.RowKit Go.Sort
set_option maxRecDepth 100000
set_option maxHeartbeats 8000000

def encK (D : Nat → Nat) : Nat → Nat → Nat := Kc.enc (Kc.parts D)
theorem encK_lt' (D : Nat → Nat) (i j : Nat) : encK D i j < 256 := encK_lt _ i j
def EPt (v : World) (p cb : Nat) : Prop := v.heap[p]? = some (.cells #[.pointer (some ⟨cb, 0, none⟩)] 75 (0, 0))
theorem eng_notW : ¬ WiT 75 := notWi (by decide) (by decide) (by decide) (by decide) (by decide) (by decide) (by decide)
theorem EPt.keepE {lim : Nat} {v v' : World} {p cb : Nat} (h : EPt v p cb) (k : KeepE lim v v') : EPt v' p cb := (k.cells h eng_notW (by decide)).trans h
theorem EPt.c0 {v : World} {p cb : Nat} (h : EPt v p cb) : v.cell? ⟨p, 0, none⟩ = some (.pointer (some ⟨cb, 0, none⟩)) := cell_of_block h
structure LEx (w0 v : World) (g : Nat) (nd : ND) (p lim : Nat) (e : Ep) (cb A C c f o cap : Nat) (B : Nat → Value) : Prop where
 wl : WL w0 v g nd e.w
 cm : CM w0 v g cb nd e A C c f o cap B
 ep : EPt v p cb
 pl : p < lim
 bl : nd.B ≤ lim
 lv : lim ≤ v.heap.size
 w0l : w0.heap.size ≤ lim
def LE (w0 v : World) (g : Nat) (nd : ND) (p lim : Nat) (e : Ep) : Prop := ∃ cb A C c f o cap B, LEx w0 v g nd p lim e cb A C c f o cap B
section
variable {w0 v v' : World} {g p lim : Nat} {nd : ND} {e : Ep}
theorem LE.wl (h : LE w0 v g nd p lim e) : WL w0 v g nd e.w := by
 obtain ⟨cb, A, C, c, f, o, cap, B, h⟩ := h
 exact h.wl
theorem LE.below (h : LE w0 v g nd p lim e) (b : Below v.heap.size v v') : LE w0 v' g nd p lim e := by
 obtain ⟨cb, A, C, c, f, o, cap, B, h⟩ := h
 exact ⟨cb, A, C, c, f, o, cap, B, h.wl.below b, h.cm.below b, (b.block p (heap_lt h.ep)).trans h.ep, h.pl, h.bl, Nat.le_trans h.lv b.size, h.w0l⟩
theorem le_made {cb : Nat} (h : EPt v p cb) : Calls Tryz.prog 63 #[.pointer (some ⟨p, 0, none⟩)] v fun en w' => en = .returned (.bool true) ∧ w' = v := by
 have c0 := h.c0
 clear h
 go_enter Tryz.func63, Tryz.ntmps63
 go_wp2_with fail
 go_ret
 exact ⟨rfl, rfl⟩
theorem le_has {cb : Nat} (h : EPt v p cb) {st : Nat} (hst : st < 40) : Calls Tryz.prog 36 #[.pointer (some ⟨p, 0, none⟩), .int .i64 (st : Int)] v fun en w' => en = .returned (.bool true) ∧ w' = v := by
 have HM := Lib.hid (le_made h)
 have HR := Lib.hid (lright_yes (s := (st : Int)) (by omega) (by omega) v)
 clear h
 go_enter Tryz.func36, Tryz.ntmps36
 go_wp2_with fail
 refine HM.out.mono ?_
 rintro en w' ⟨rfl, hw⟩
 obtain rfl := hw.symm
 go_wp2_with fail
 refine HR.out.mono ?_
 rintro en w' ⟨rfl, hw⟩
 obtain rfl := hw.symm
 go_wp2_with fail
 go_ret
 exact ⟨rfl, rfl⟩
theorem le_gen (h : LE w0 v g nd p lim e) {st : Nat} (hst : st < 40) : Calls Tryz.prog 15 #[.pointer (some ⟨p, 0, none⟩), .int .i64 (st : Int)] v fun en w' => en = .returned (.int .i64 (e.gen st : Int)) ∧ w' = v := by
 obtain ⟨cb, A, C, c, f, o, cap, B, h⟩ := h
 have HH := Lib.hid (le_has h.ep hst)
 have c0 := h.ep.c0
 obtain ⟨k1, _⟩ := h.cm.known hst
 have hst' : (st : Int) < 40 := by omega
 obtain ⟨gn, hg⟩ : ∃ gn, e.gen st = gn := ⟨_, rfl⟩
 rw [hg] at k1 ⊢
 clear h hg
 go_enter Tryz.func15, Tryz.ntmps15
 go_wp2_with fail
 refine HH.out.mono ?_
 rintro en w' ⟨rfl, hw⟩
 obtain rfl := hw.symm
 go_wp2_with fail
 go_ret
 exact ⟨rfl, rfl⟩
def LWRet (w0 v : World) (g : Nat) (nd : ND) (p lim st : Nat) (x : Ep × Option (List (Nat × Nat))) (en : Ending) (w' : World) : Prop :=
 ∃ u, en = .returned u ∧ LE w0 w' g nd p lim x.1 ∧ KeepE lim v w' ∧ ErrOf w' u st x.2
def LRRet (w0 v : World) (g : Nat) (nd : ND) (p lim st : Nat) (x : Ep × Got) (en : Ending) (w' : World) : Prop :=
 ∃ r u, en = .returned (.tuple #[r, u]) ∧ LE w0 w' g nd p lim x.1 ∧ KeepE lim v w' ∧ ((∃ l, x.2 = .no l ∧ r = .slice none 0 0 ∧ EV w' u (l.map (fun z => (z.2 : Int))) (l.map (fun z => (z.1 : Int))) [(st : Int)]) ∨
  ∃ D P k, x.2 = .yes D ∧ u = .nilIface ∧ r = .slice P 128 k ∧ DatN w' P 128 D ∧ 128 ≤ k ∧ ∀ j, j < 128 → D j < 256)
theorem le_write (h : LE w0 v g nd p lim e) {m : Nat} (hf : e.w.Fit m) (hm : m ≤ 100000000) (hk : ∀ i, e.next i ≤ 1000000) {st : Nat} (hst : st < 40) (P : Option Addr) (k : Nat) (D : Nat → Nat) (hd : DatN v P 128 D) (hD : ∀ j, j < 128 → D j < 256) :
  Calls Tryz.prog 11 #[.pointer (some ⟨p, 0, none⟩), .int .i64 (st : Int), .slice P 128 k] v (LWRet w0 v g nd p lim st (e.write encK st D)) := by
 obtain ⟨cb, A, C, c, f, o, cap, B, h⟩ := h
 have q1 := we_neqNil
 have q2 := we_neqNilNil
 have HH := Lib.hid (le_has h.ep hst)
 have c0 := h.ep.c0
 obtain ⟨_, k2, _, _⟩ := h.cm.known hst
 have kf : ∀ j, v.frozen? ⟨cb, j, none⟩ = false := h.cm.fr
 have hst' : (st : Int) < 40 := by omega
 have hnx := hk st
 obtain ⟨nx, hn⟩ : ∃ nx, e.next st = nx := ⟨_, rfl⟩
 rw [hn] at k2 hnx
 obtain ⟨v1, hv1⟩ : ∃ v1, v.setCell ⟨cb, 1 + st * 4 + 1, none⟩ (.int .i64 ((nx : Int) + 1)) = v1 := ⟨_, rfl⟩
 have HM1 : Hid (CM w0 v1 g cb nd (e.up st) A C c f o cap B) := Lib.hid (by
  rw [← hv1]
  refine h.cm.put (by omega) (carF_ext ?_ ?_ (fun i hi => ?_) (fun i hi => ?_) (fun i hi => ?_) (fun i hi => ?_)) h.cm.pb
  ·rw [if_neg (by omega)]; rfl
  ·rw [if_neg (by omega)]; rfl
  ·rw [if_neg (by omega), carF_g _ _ _ _ hi]; rfl
  ·by_cases e2 : i = st
   ·subst e2
    rw [if_pos (by omega)]
    unfold Ep.up
    dsimp only
    rw [if_pos rfl, hn]
    congr 1
   ·rw [if_neg (by omega), carF_n _ _ _ _ hi]
    unfold Ep.up
    dsimp only
    rw [if_neg e2]
  ·rw [if_neg (by omega), carF_d _ _ _ _ hi]; rfl
  ·rw [if_neg (by omega), carF_b _ _ _ _ hi])
 have HW1 : Hid (WL w0 v1 g nd (e.up st).w) := Lib.hid (by rw [← hv1]; exact h.wl.cput h.cm _ _)
 have HK1 : Hid (KeepE 0 v v1) := Lib.hid (by
  rw [← hv1]
  obtain ⟨cs, hcs, _⟩ := h.cm.blk
  exact KeepE.set hcs _ _)
 have HD1 : Hid (DatN v1 P 128 D) := Lib.hid (by
  rcases hd with hd | ⟨g1, o1, cs, h3, h4, h5⟩
  ·exact Or.inl hd
  ·have hk := HK1.out.cells h4 u8_notW (by decide)
   exact Or.inr ⟨g1, o1, cs, h3, hk.trans h4, fun j hj => (World.cell?_of_block (w := v) hk).trans (h5 j hj)⟩)
 have HC := Lib.hid (cy_carry (e := e.up st) HW1.out HM1.out (m := m) hf (by omega) hst (gn := nx) (by omega) D P k HD1.out hD)
 have HP1 := Lib.hid (h.ep.keepE HK1.out)
 have d0 := HP1.out.c0
 have HR := Lib.hid (And.intro h.pl (And.intro h.bl (And.intro h.lv h.w0l)))
 have HV1 := Lib.hid hv1
 obtain ⟨X, hX⟩ : ∃ X, e.write encK st D = X := ⟨_, rfl⟩
 have HX := Lib.hid hX
 rw [hX]
 obtain ⟨e2, r2, hr⟩ : ∃ e2 r2, (e.up st).carry encK st nx D = (e2, r2) := ⟨_, _, rfl⟩
 have hr' : (e.up st).carry (fun D => Kc.enc (Kc.parts D)) st nx D = (e2, r2) := hr
 rw [hr'] at HC
 have HRR : Hid (X = if r2.isSome = true then ({ e2 with doubt := fun i => if i = st then true else e2.doubt i }, r2) else (e2, r2)) := Lib.hid (by
  rw [← hX]
  unfold Ep.write
  rw [hn, hr])
 clear h hf hk hd hD hX hr hr' hv1 hn
 go_enter Tryz.func11, Tryz.ntmps11
 go_wp2_with fail
 refine HH.out.mono ?_
 rintro en w' ⟨rfl, hw⟩
 obtain rfl := hw.symm
 go_upto_region 6 with fail
 rw [HV1.out]
 clear k2 kf c0
 go_wp2_with fail
 refine HC.out.mono ?_
 rintro en w2 ⟨u, rfl, W2, ⟨B2, M2⟩, K2, he⟩
 try dsimp only
 try dsimp only at W2 M2 he
 have HW2 := Lib.hid W2
 have HM2 := Lib.hid M2
 have HK2 := Lib.hid (HK1.out.trans K2)
 have HP2 := Lib.hid (HP1.out.keepE K2)
 clear W2 M2 K2
 cases r2 with
 | none =>
  obtain rfl : u = .nilIface := he
  have HXX : Hid (X = (e2, none)) := HRR
  go_wp2_with fail
  go_ret
  rw [HXX.out]
  exact ⟨_, rfl, ⟨cb, A, C, c, f, o, cap, B2, HW2.out, HM2.out, HP2.out, HR.out.1, HR.out.2.1, Nat.le_trans HR.out.2.2.1 HK2.out.1, HR.out.2.2.2⟩, HK2.out.mono (Nat.zero_le _), rfl⟩
 | some l =>
  have hev : EV w2 u (l.map (fun z => (z.2 : Int))) (l.map (fun z => (z.1 : Int))) [(st : Int)] := he
  obtain ⟨tu, xu, rfl⟩ := hev.iface
  have HXX : Hid (X = ({ e2 with doubt := fun i => if i = st then true else e2.doubt i }, some l)) := HRR
  obtain ⟨_, _, k3, _⟩ := HM2.out.known hst
  have kf : ∀ j, w2.frozen? ⟨cb, j, none⟩ = false := HM2.out.fr
  have HM3 : Hid (CM w0 (w2.setCell ⟨cb, 1 + st * 4 + 2, none⟩ (.bool true)) g cb nd { e2 with doubt := fun i => if i = st then true else e2.doubt i } A C c f o cap B2) := Lib.hid (by
   refine HM2.out.put (by omega) (carF_ext ?_ ?_ (fun i hi => ?_) (fun i hi => ?_) (fun i hi => ?_) (fun i hi => ?_)) HM2.out.pb
   ·rw [if_neg (by omega)]; rfl
   ·rw [if_neg (by omega)]; rfl
   ·rw [if_neg (by omega), carF_g _ _ _ _ hi]
   ·rw [if_neg (by omega), carF_n _ _ _ _ hi]
   ·by_cases e3 : i = st
    ·rw [if_pos (by omega)]; dsimp only; rw [if_pos e3]
    ·rw [if_neg (by omega), carF_d _ _ _ _ hi]; dsimp only; rw [if_neg e3]
   ·rw [if_neg (by omega), carF_b _ _ _ _ hi])
  have HW3 := Lib.hid (HW2.out.cput HM2.out (1 + st * 4 + 2) (.bool true))
  have HKS : Hid (KeepE 0 w2 (w2.setCell ⟨cb, 1 + st * 4 + 2, none⟩ (.bool true))) := Lib.hid (by
   obtain ⟨cs, hcs, _⟩ := HM2.out.blk
   exact KeepE.set hcs _ _)
  have HE := Lib.hid (hev.keepE HKS.out)
  clear hev he
  go_wp2_with fail
  go_ret
  rw [HXX.out]
  exact ⟨_, rfl, ⟨cb, A, C, c, f, o, cap, B2, HW3.out, HM3.out, HP2.out.keepE HKS.out, HR.out.1, HR.out.2.1, Nat.le_trans HR.out.2.2.1 (HK2.out.trans HKS.out).1, HR.out.2.2.2⟩, (HK2.out.trans HKS.out).mono (Nat.zero_le _), HE.out⟩
end
end Go.Proofs.YtobkmohoepgfmaaGreatDoor
namespace Go.Proofs.YtobkmohoepgfmaaGreatDoor
open Go.RowKit Go.Sort
set_option maxRecDepth 100000
set_option maxHeartbeats 8000000

def topI (a : Nat) (l : List (Nat × It)) : Nat := l.foldl (fun a x => max a x.2.g) a
def topP (a : Nat) (l : List Pc) : Nat := l.foldl (fun a p => max a p.g) a
def chS (g : Nat) (f : Nat → Option Pc) (p : Pc) : Nat → Option Pc := if p.g = g then fun i => if i = p.i then some p else f i else f
def chF (ps : List Pc) (g : Nat) : Nat → Option Pc := ps.foldl (chS g) (fun _ => none)
def cntT (f : Nat → Option Pc) : Nat → Nat
 | 0 => 0
 | i + 1 => cntT f i + (if (f i).isSome = true then 1 else 0)
def cntF (f : Nat → Option Pc) : Nat := cntT f 6
def genS (ps : List Pc) (a : Nat) (p : Pc) : Nat := if a < p.g ∧ 4 ≤ cntF (chF ps p.g) then p.g else a
def genP (ps : List Pc) (a : Nat) (l : List Pc) : Nat := l.foldl (genS ps) a
def topF (is : List (Nat × It)) (ps : List Pc) : Nat := topP (topI 0 is) ps
def genF (is : List (Nat × It)) (ps : List Pc) : Nat := genP ps (topI 0 is) ps
theorem foldl_take {α β : Type} {f : β → α → β} {a : β} {l : List α} {k : Nat} {x : α} (h : l[k]? = some x) : (l.take (k + 1)).foldl f a = f ((l.take k).foldl f a) x := by
 rw [List.take_add_one, h, List.foldl_append]
 rfl
theorem cntT_le (f : Nat → Option Pc) : ∀ i, cntT f i ≤ i
 | 0 => Nat.le_refl _
 | i + 1 => by
  have := cntT_le f i
  show cntT f i + _ ≤ i + 1
  split <;> omega
def ToX (W : World) (x : Nat → Option Value) (p : Nat × It) : Prop := ∃ A c, x 0 = some (.int .i64 (p.1 : Int)) ∧ x 1 = some (.int .i64 (p.2.s : Int)) ∧ x 2 = some (.int .i64 (p.2.g : Int)) ∧ x 3 = some (.slice A 128 c) ∧ DatI W A p.2.D
def TLr (W : World) (v : Value) (l : List (Nat × It)) : Prop := (l = [] ∧ ∃ A c, v = .slice A 0 c) ∨ ∃ b c cur, v = .slice (some ⟨b, 0, none⟩) l.length c ∧ W.heap[b]? = some (.cells cur 112 (0, 0)) ∧ ∀ i p, l[i]? = some p → ToX W (fun k => cur[4 * i + k]?) p
theorem TLr.keep {w w' : World} {v : Value} {l : List (Nat × It)} (h : TLr w v l) (k : ∀ (g : Nat) (cs : Array Value) (t : TypeId), w.heap[g]? = some (Obj.cells cs t (0, 0)) → (t = 5 ∨ t = 112) → w'.heap[g]? = w.heap[g]?) : TLr w' v l := by
 rcases h with h | ⟨b, c, cur, hv, hh, hx⟩
 ·exact Or.inl h
 ·refine Or.inr ⟨b, c, cur, hv, (k b _ _ hh (Or.inr rfl)).trans hh, fun i p hi => ?_⟩
  obtain ⟨A, c, a0, a1, a2, a3, a4⟩ := hx i p hi
  exact ⟨A, c, a0, a1, a2, a3, a4.keep (fun g cs hg => k g cs _ hg (Or.inl rfl))⟩
theorem TLr.below {w w' : World} {v : Value} {l : List (Nat × It)} (h : TLr w v l) (b : Below w.heap.size w w') : TLr w' v l := h.keep (fun g _ _ hg _ => b.block g (heap_lt hg))
theorem TLr.at {w : World} {v : Value} {l : List (Nat × It)} {i : Nat} {p : Nat × It} (h : TLr w v l) (hi : l[i]? = some p) : ∃ b c A d, v = .slice (some ⟨b, 0, none⟩) l.length c ∧ b < w.heap.size ∧ w.cell? ⟨b, i * 4, none⟩ = some (.int .i64 (p.1 : Int)) ∧ w.cell? ⟨b, i * 4 + 1, none⟩ = some (.int .i64 (p.2.s : Int)) ∧ w.cell? ⟨b, i * 4 + 2, none⟩ = some (.int .i64 (p.2.g : Int)) ∧ w.cell? ⟨b, i * 4 + 3, none⟩ = some (.slice A 128 d) ∧ DatI w A p.2.D := by
 rcases h with ⟨rfl, _⟩ | ⟨b, c, cur, hv, hh, hx⟩
 ·simp at hi
 ·obtain ⟨A, d, a0, a1, a2, a3, a4⟩ := hx i p hi
  rw [Nat.mul_comm i 4]
  exact ⟨b, c, A, d, hv, heap_lt hh, (cell_of_block hh).trans a0, (cell_of_block hh).trans a1, (cell_of_block hh).trans a2, (cell_of_block hh).trans a3, a4⟩
def CkP (w : World) (b : Nat) (f : Nat → Option Pc) : Prop := (∃ cs, w.heap[b]? = some (.cells cs 36 (0, 0))) ∧ ∀ l, l < 6 → match f l with
 | none => w.cell? ⟨b, l, none⟩ = some (.slice none 0 0)
 | some p => ∃ P k, w.cell? ⟨b, l, none⟩ = some (.slice P 32 k) ∧ Dat w P p.D
theorem CkP.keep {w w' : World} {b : Nat} {f : Nat → Option Pc} (h : CkP w b f) (e : w'.heap[b]? = w.heap[b]?) (k : ∀ (g : Nat) (cs : Array Value), w.heap[g]? = some (Obj.cells cs 5 (0, 0)) → w'.heap[g]? = w.heap[g]?) : CkP w' b f := by
 obtain ⟨⟨cs, hb⟩, h2⟩ := h
 refine ⟨⟨cs, e.trans hb⟩, fun l hl => ?_⟩
 have h3 := h2 l hl
 split
 ·next hp => rw [hp] at h3; exact (World.cell?_of_block (w := w) e).trans h3
 ·next p hp =>
  rw [hp] at h3
  obtain ⟨P, kk, h4, h5⟩ := h3
  exact ⟨P, kk, (World.cell?_of_block (w := w) e).trans h4, h5.keep k⟩
theorem CkP.below {w w' : World} {b : Nat} {f : Nat → Option Pc} (h : CkP w b f) (k : Below w.heap.size w w') : CkP w' b f := by
 obtain ⟨⟨cs, hb⟩, _⟩ := id h
 exact h.keep (k.block b (heap_lt hb)) (fun g _ hg => k.block g (heap_lt hg))
theorem CkP.cell {w : World} {b : Nat} {f : Nat → Option Pc} (h : CkP w b f) {l : Nat} (hl : l < 6) : ∃ P n k, w.cell? ⟨b, l, none⟩ = some (.slice P n k) ∧ n = if (f l).isSome = true then 32 else 0 := by
 have h3 := h.2 l hl
 split at h3
 ·next hp => exact ⟨none, 0, 0, h3, by rw [hp]; rfl⟩
 ·next p hp =>
  obtain ⟨P, k, h4, _⟩ := h3
  exact ⟨P, 32, k, h4, by rw [hp]; rfl⟩
theorem CkP.none_ {w : World} {b : Nat} {zs : Array Value} (hb : w.heap[b]? = some (.cells zs 36 (0, 0))) (hz : ∀ j, j < 6 → zs[j]? = some (.slice none 0 0)) : CkP w b (fun _ => none) :=
 ⟨⟨zs, hb⟩, fun l hl => (cell_of_block hb).trans (hz l hl)⟩
theorem CkP.put {w : World} {b : Nat} {f : Nat → Option Pc} {p : Pc} {P : Option Addr} {k : Nat} (h : CkP w b f) (_hi : p.i < 6) (hd : Dat w P p.D) : CkP (w.setCell ⟨b, p.i, none⟩ (.slice P 32 k)) b (fun i => if i = p.i then some p else f i) := by
 obtain ⟨⟨cs, hb⟩, h2⟩ := h
 have hkb : ∀ (g : Nat) (cs' : Array Value), w.heap[g]? = some (Obj.cells cs' 5 (0, 0)) → (w.setCell ⟨b, p.i, none⟩ (.slice P 32 k)).heap[g]? = w.heap[g]? := fun g cs' hg => set_other (fun e => by
  rw [e, hb] at hg
  injection hg with hg
  injection hg with _ hg
  exact absurd hg (by decide)) _ _
 refine ⟨⟨_, set_block hb _ _⟩, fun l hl6 => ?_⟩
 have h3 := h2 l hl6
 by_cases e : l = p.i
 ·subst e
  dsimp only
  rw [if_pos rfl]
  have h4 : ∃ u, w.cell? ⟨b, p.i, none⟩ = some u := by
   split at h3
   ·exact ⟨_, h3⟩
   ·obtain ⟨P', k', h4, _⟩ := h3
    exact ⟨_, h4⟩
  obtain ⟨u, hu⟩ := h4
  exact ⟨P, k, World.cell?_setCell_same _ _ _ hu, hd.keep hkb⟩
 ·dsimp only
  rw [if_neg e]
  have hc : (w.setCell ⟨b, p.i, none⟩ (.slice P 32 k)).cell? ⟨b, l, none⟩ = w.cell? ⟨b, l, none⟩ := Kc.cell_far (Or.inr e)
  split
  ·next hp => rw [hp] at h3; exact hc.trans h3
  ·next q hp =>
   rw [hp] at h3
   obtain ⟨P', kk, h4, h5⟩ := h3
   exact ⟨P', kk, hc.trans h4, h5.keep hkb⟩
theorem o_count {w : World} {b : Nat} {f : Nat → Option Pc} (h : CkP w b f) : Calls Tryz.prog 53 #[.slice (some ⟨b, 0, none⟩) 6 6] w fun e w' => e = .returned (.int .i64 ((cntF f : Nat) : Int)) ∧ w' = w := by
 have H := Lib.hid h
 clear h
 go_enter Tryz.func53, Tryz.ntmps53
 go_wp2_with fail
 go_loopg [3, 5, 8] 6 (fun q s3 s5 s8 v => ∃ i : Nat, s8 = .int .i64 (i : Int) ∧ i ≤ 6 ∧ q = 6 - i ∧ s3 = .int .i64 ((cntT f i : Nat) : Int) ∧ v = w)
 case atStart => exact ⟨0, rfl, by omega, rfl, rfl, rfl⟩
 case round =>
  obtain ⟨i, rfl, hi, rfl, rfl, hv⟩ := hrel
  generalize wr = v at *
  obtain rfl := hv.symm
  have hc6 := cntT_le f i
  obtain ⟨C, hC⟩ : ∃ C, cntT f i = C := ⟨_, rfl⟩
  have HC := Lib.hid hC
  rw [hC] at hc6 ⊢
  clear hC
  by_cases hlt : i < 6
  ·have t1 : (i : Int) < 6 := by omega
   obtain ⟨P, n, k, hc, hn⟩ := H.out.cell hlt
   have HN := Lib.hid hn
   clear hn
   have h32 : n = 32 ∨ n = 0 := by rw [HN.out]; split <;> simp
   rcases h32 with rfl | rfl
   ·have hx : cntT f (i + 1) = C + 1 := by
     show cntT f i + _ = C + 1
     rw [HC.out]
     by_cases hs : (f i).isSome = true
     ·rw [if_pos hs]
     ·have := HN.out
      rw [if_neg hs] at this
      cases this
    have HX := Lib.hid hx
    clear hx
    go_wp2_with fail
    go_roundg (6 - (i + 1))
    case measure => omega
    case rel => exact ⟨i + 1, by go_num, by omega, rfl, by rw [HX.out]; go_num, rfl⟩
   ·have hx : cntT f (i + 1) = C := by
     show cntT f i + _ = C
     rw [HC.out]
     by_cases hs : (f i).isSome = true
     ·have := HN.out
      rw [if_pos hs] at this
      cases this
     ·rw [if_neg hs]; rfl
    have HX := Lib.hid hx
    clear hx
    go_wp2_with fail
    go_roundg (6 - (i + 1))
    case measure => omega
    case rel => exact ⟨i + 1, by go_num, by omega, rfl, by rw [HX.out], rfl⟩
  ·obtain rfl : i = 6 := by omega
   go_wp2_with fail
   go_ret
   exact ⟨by rw [← HC.out]; rfl, rfl⟩
end Go.Proofs.YtobkmohoepgfmaaGreatDoor
