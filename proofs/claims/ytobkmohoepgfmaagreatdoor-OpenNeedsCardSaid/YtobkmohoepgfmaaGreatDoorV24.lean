import Derived.Test.YtobkmohoepgfmaaGreatDoorV23
import Derived.Test.YtobkmohoepgfmaaGreatDoorV12
import Derived.Test.YtobkmohoepgfmaaGreatDoorV22
import Derived.Test.YtobkmohoepgfmaaGreatDoorV04
import Derived.Test.YtobkmohoepgfmaaGreatDoorV03
import Derived.Test.YtobkmohoepgfmaaGreatDoorV20
namespace Go.Proofs.YtobkmohoepgfmaaGreatDoor
open Go.RowKit Go.Sort
set_option maxRecDepth 100000
set_option maxHeartbeats 2000000

theorem WM.add {v v' : World} {g m : Nat} {nd : Nat → Nat} {T : Nat → List Nat} {fv : Value} {s : Wp} (h : WM v g m nd T fv s) (hm : m < 8) (b : Below v.heap.size v v') {n r p sb : Nat} {S : List Nat} (hn : NdM v' n r p sb S (s.N m)) (ho : (s.N m).Ok) (hge : ∀ k ∈ n :: r :: p :: sb :: S, v.heap.size ≤ k) :
  WM (v'.setCell ⟨g, m, none⟩ (.pointer (some ⟨n, 0, none⟩))) g (m + 1) (fun j => if j = m then n else nd j) (fun j => if j = m then n :: r :: p :: sb :: S else T j) fv s := by
 have h' := h.below b
 refine ⟨?_, h'.fat.keep (fun j hj => set_other (fun e => ?_) _ _), fun i hi => ?_, fun i j hi hj hij k hki hkj => ?_⟩
 ·rw [set_block h'.hd]
  rcases (by omega : m = 0 ∨ m = 1 ∨ m = 2 ∨ m = 3 ∨ m = 4 ∨ m = 5 ∨ m = 6 ∨ m = 7) with rfl | rfl | rfl | rfl | rfl | rfl | rfl | rfl <;> simp [whead, nptr]
 ·subst e
  obtain ⟨row, hr⟩ := h'.fat.type j hj
  rw [h'.hd] at hr
  injection hr with hr
  injection hr with _ hr
  exact absurd hr (by decide)
 ·by_cases e : i = m
  ·subst e
   simp only [if_true]
   exact ⟨r, p, sb, S, hn.set h'.hd (by decide) (by decide) (by decide) (by decide) (by decide) (by decide) (by decide), ho, rfl⟩
  ·obtain ⟨ri, pi, sbi, Si, q1, q2, q3⟩ := h'.node i (by omega)
   simp only [if_neg e]
   exact ⟨ri, pi, sbi, Si, q1.set h'.hd (by decide) (by decide) (by decide) (by decide) (by decide) (by decide) (by decide), q2, q3⟩
 ·by_cases e : i = m
  ·rw [if_pos e] at hki
   rw [if_neg (fun e2 => hij (e.trans e2.symm))] at hkj
   have := h.Tlt (i := j) (by omega) hkj
   have := hge k hki
   omega
  ·rw [if_neg e] at hki
   by_cases e2 : j = m
   ·rw [if_pos e2] at hkj
    have := h.Tlt (i := i) (by omega) hki
    have := hge k hkj
    omega
   ·rw [if_neg e2] at hkj
    exact h.sep i j (by omega) (by omega) hij k hki hkj
theorem wl_new {w0 : World} (w : World) (hb0 : Below w0.heap.size w0 w) : Calls Tryz.prog 24 #[] w fun e w' => ∃ g nd, e = .returned (.pointer (some ⟨g, 0, none⟩)) ∧ WL w0 w' g nd Wp.new ∧ Below w.heap.size w w' := by
 obtain ⟨H, hH⟩ : ∃ H, w.heap.size = H := ⟨_, rfl⟩
 have HH := Lib.hid hH
 have HB0 := Lib.hid hb0
 clear hH hb0
 go_enter Tryz.func24, Tryz.ntmps24
 go_upto_region 2 with fail
 rw [HH.out]
 go_wp2_with fail
 go_loopg [5] 8 (fun k s5 wr => ∃ (i : Nat) (nd : Nat → Nat) (T : Nat → List Nat), s5 = .int .i64 (i : Int) ∧ i ≤ 8 ∧ k = 8 - i ∧ Hid (WM wr H i nd T (.slice none 0 0) Wp.new ∧ Below H w wr ∧ ∀ j, j < i → ∀ k ∈ T j, H ≤ k))
 case atStart =>
  refine ⟨0, fun _ => 0, fun _ => [], rfl, by omega, rfl, Lib.hid ⟨⟨?_, FatV.nil _, fun i hi => absurd hi (by omega), fun i j hi => absurd hi (by omega)⟩, by rw [← HH.out]; exact (Below.refl _ _).alloc (Nat.le_refl _) _, fun j hj => absurd hj (by omega)⟩⟩
  rw [← HH.out, alloc_block]
  rfl
 case round =>
  obtain ⟨i, nd, T, rfl, hi, rfl, HS⟩ := hrel
  obtain ⟨wo, rfl⟩ : ∃ wo : World, wo = wr := ⟨wr, rfl⟩
  by_cases h8 : i < 8
  ·have h8' : (i : Int) < 8 := by omega
   have HN := Lib.hid (nnew wo.drew)
   have BD := Lib.hid (below_drewN 1 wo)
   go_upto_region 5 with fail
   go_region_with (first | (go_at_call 46; (with_reducible refine HN.out.mono ?_); rintro e w2 ⟨n, r, p, sb, S, rfl, hn, hb2, hge⟩; (try dsimp only); have HZ := Lib.hid (HS.out.1.add h8 (BD.out.trans (hb2.mono BD.out.size)) hn Ns.new_ok.1 (fun k hk => Nat.le_trans BD.out.size (hge k hk))); have HB2 : Hid (Below H w w2) := Lib.hid (HS.out.2.1.trans ((BD.out.trans (hb2.mono BD.out.size)).mono (Nat.le_of_lt HS.out.1.lt))); have HG : Hid (∀ k ∈ n :: r :: p :: sb :: S, H ≤ k) := Lib.hid (fun k hk => Nat.le_trans (Nat.le_trans (Nat.le_of_lt HS.out.1.lt) BD.out.size) (hge k hk)); have cp := (HS.out.1.below (BD.out.trans (hb2.mono BD.out.size))).cp h8; have fp := (HS.out.1.below (BD.out.trans (hb2.mono BD.out.size))).f i; clear hn hb2 hge))
   all_goals
    go_wp2_with fail
    go_roundg (8 - (i + 1))
    case measure => omega
    case rel =>
     refine ⟨i + 1, _, _, by go_num, by omega, rfl, Lib.hid ⟨HZ.out, ?_, ?_⟩⟩
     ·exact HB2.out.setCell (p := ⟨H, i, none⟩) (Nat.le_refl _) _
     ·intro j hj k hk
      by_cases e : j = i
      ·rw [if_pos e] at hk
       exact HG.out k hk
      ·rw [if_neg e] at hk
       exact HS.out.2.2 j (by omega) k hk
  ·obtain rfl : i = 8 := by omega
   go_wp2_with fail
   go_ret
   refine ⟨H, ⟨nd, fun _ => False, fun _ => none, 0⟩, rfl, ⟨T, _, HS.out.1, HB0.out.trans (HS.out.2.1.mono (by rw [← HH.out]; exact HB0.out.size)), by rw [← HH.out]; exact HB0.out.size, fun k hk => by simp [fatB] at hk, fun j hj k hk => Nat.le_trans (by rw [← HH.out]; exact HB0.out.size) (HS.out.2.2 j hj k hk), Nat.zero_le _, fun k hk => hk.elim⟩, by rw [HH.out]; exact HS.out.2.1⟩
end Go.Proofs.YtobkmohoepgfmaaGreatDoor
namespace Go.Proofs.YtobkmohoepgfmaaGreatDoor
open Go.RowKit Go.Sort
set_option maxRecDepth 100000
set_option maxHeartbeats 1000000

theorem lsame (A1 A2 : Option Addr) (xs ys : List Int) (c1 c2 : Nat) (w : World) (h1 : Nums w A1 xs) (h2 : Nums w A2 ys) (l1 : xs.length ≤ 1000000000) (t : Bool) (ht : t = true ↔ xs = ys) :
  Calls Tryz.prog 20 #[.slice A1 xs.length c1, .slice A2 ys.length c2] w fun e w' => e = .returned (.bool t) ∧ Below w.heap.size w w' := by
 by_cases hl : xs.length = ys.length
 ·obtain ⟨n, hn⟩ : ∃ n, xs.length = n := ⟨_, rfl⟩
  have e2 : ys.length = n := by omega
  rw [e2, hn]
  have H1 := Lib.hid h1
  have H2 := Lib.hid h2
  have HN := Lib.hid hn
  have HM := Lib.hid e2
  have HT := Lib.hid ht
  rw [hn] at l1
  clear hl hn e2 h1 h2 ht
  go_enter Tryz.func20, Tryz.ntmps20
  go_wp2_with fail
  go_loopg [5] n (fun q s5 v => ∃ i : Nat, s5 = .int .i64 (i : Int) ∧ i ≤ n ∧ q = n - i ∧ Hid (xs.take i = ys.take i ∧ Below w.heap.size w v))
  case atStart => exact ⟨0, rfl, by omega, rfl, Lib.hid ⟨rfl, Below.refl _ _⟩⟩
  case round =>
   obtain ⟨i, rfl, hi, rfl, HS⟩ := hrel
   generalize wr = v at *
   by_cases hlt : i < n
   ·have hl3 : (i : Int) < (n : Int) := by omega
    obtain ⟨x, hx⟩ : ∃ x, xs[i]? = some x := ⟨_, List.getElem?_eq_getElem (by rw [HN.out]; exact hlt)⟩
    obtain ⟨y, hy⟩ : ∃ y, ys[i]? = some y := ⟨_, List.getElem?_eq_getElem (by rw [HM.out]; exact hlt)⟩
    obtain ⟨g, o, rfl, hg, hc⟩ := H1.out i x hx
    obtain ⟨g', o', rfl, hg', hc'⟩ := H2.out i y hy
    have d1 : ∀ k, (v.drewN k).cell? ⟨g, o + i, none⟩ = some (.int .i64 x) := fun k => (HS.out.2.cell (p := ⟨g, o + i, none⟩) hg).trans hc
    have d2 : ∀ k, (v.drewN k).cell? ⟨g', o' + i, none⟩ = some (.int .i64 y) := fun k => (HS.out.2.cell (p := ⟨g', o' + i, none⟩) hg').trans hc'
    have d1' := d1 0
    have d2' := d2 0
    have HX := Lib.hid hx
    have HY := Lib.hid hy
    clear hx hy hc hc' hg hg'
    by_cases e : x = y
    ·subst e
     have t1 : (x != x) = false := by simp
     go_wp2_with fail
     go_big_quiet (fail)
     go_wp2_with fail
     go_roundg (n - (i + 1))
     case measure => omega
     case rel => exact ⟨i + 1, by go_num, by omega, rfl, Lib.hid ⟨by rw [List.take_add_one, List.take_add_one, HX.out, HY.out, HS.out.1], HS.out.2.trans ((below_drewN _ _).mono HS.out.2.size)⟩⟩
    ·have t1 : (x != y) = true := by simpa using e
     have HF : Hid (t = false) := Lib.hid (by
      cases t with
      | false => rfl
      | true =>
       have := HT.out.1 rfl
       subst this
       have h := HX.out
       rw [HY.out] at h
       cases h
       exact absurd rfl e)
     clear e
     go_wp2_with fail
     go_big_quiet (fail)
     go_wp2_with fail
     go_ret
     exact ⟨congrArg (fun b => Ending.returned (Value.bool b)) HF.out.symm, HS.out.2.trans ((below_drewN _ _).mono HS.out.2.size)⟩
   ·obtain rfl : i = n := by omega
    have hge : ¬ (i : Int) < (i : Int) := by omega
    have HF : Hid (t = true) := Lib.hid (HT.out.2 (by
     have := HS.out.1
     rwa [List.take_of_length_le (by rw [HN.out]; omega), List.take_of_length_le (by rw [HM.out]; omega)] at this))
    clear hlt
    go_wp2_with fail
    go_ret
    exact ⟨congrArg (fun b => Ending.returned (Value.bool b)) HF.out.symm, HS.out.2⟩
 ·have e1 : ((xs.length : Int) != (ys.length : Int)) = true := by rw [bne_iff_ne]; omega
  have HF : Hid (t = false) := Lib.hid (by
   cases t with
   | false => rfl
   | true => exact absurd (congrArg List.length (ht.1 rfl)) hl)
  clear hl ht h1 h2
  generalize xs.length = n at *
  generalize ys.length = m at *
  go_enter Tryz.func20, Tryz.ntmps20
  go_wp2_with fail
  go_ret
  exact ⟨congrArg (fun b => Ending.returned (Value.bool b)) HF.out.symm, Below.refl _ _⟩
end Go.Proofs.YtobkmohoepgfmaaGreatDoor
namespace Go.Proofs.YtobkmohoepgfmaaGreatDoor
open Go.RowKit Go.Sort
set_option maxRecDepth 100000
set_option maxHeartbeats 2000000

end Go.Proofs.YtobkmohoepgfmaaGreatDoor
namespace Go.Proofs.YtobkmohoepgfmaaGreatDoor
open Go.RowKit Go.Sort
set_option maxRecDepth 100000
set_option maxHeartbeats 2000000

end Go.Proofs.YtobkmohoepgfmaaGreatDoor
namespace Go.Proofs.YtobkmohoepgfmaaGreatDoor
open Go.RowKit Go.Extern.Stop Go.Stop Go.Extern Go.Extern.Rtype
set_option maxRecDepth 100000
set_option maxHeartbeats 1000000

end Go.Proofs.YtobkmohoepgfmaaGreatDoor
namespace Go.Proofs.YtobkmohoepgfmaaGreatDoor
open Go.RowKit Go.Sort
set_option maxRecDepth 100000
set_option maxHeartbeats 2000000

theorem OnE.tree {w : World} {b : Nat} {n c : Int} (h : OnE w b n c) : Tr.Err w w.heap.size 2 (onv b) [c] [(onv b, some n), (ev c, none)] [] :=
 .inr (.inl ⟨b, n, ev c, [(ev c, none)], rfl, h.lt, h, .inl ⟨c, rfl, rfl, rfl, rfl⟩, rfl⟩)
theorem errno_tree (w : World) (c : Int) : Tr.Err w w.heap.size 1 (ev c) [c] [(ev c, none)] [] := .inl ⟨c, rfl, rfl, rfl, rfl⟩
theorem tree_keep {w w' : World} {B : Nat} (h : ∀ (b : Nat) (cs : Array Value) (t : TypeId), b < B → (t = 153 ∨ t = 141 ∨ t = 138 ∨ t = 27) → w.heap[b]? = some (.cells cs t (0, 0)) → w'.heap[b]? = some (.cells cs t (0, 0))) :
  ∀ (d : Nat) {v : Value} {cs : List Int} {ns : List Tr.Nd} {ss : List Int}, Tr.Err w B d v cs ns ss → Tr.Err w' B d v cs ns ss
 | 0, _, _, _, _, e => e.elim
 | d + 1, _, _, _, _, e => by
  rcases e with e | ⟨b, n, x, ns', e1, e2, e3, e4, e5⟩ | ⟨b, n, x, ns', ss', e1, e2, e3, e4, e5⟩ | ⟨b, g, m, cap, row, vs, e1, e2, e3, e4, e5, e6, e7, e7', e8, e9, e10⟩
  ·exact .inl e
  ·exact .inr (.inl ⟨b, n, x, ns', e1, e2, h b _ _ e2 (Or.inl rfl) e3, tree_keep h d e4, e5⟩)
  ·exact .inr (.inr (.inl ⟨b, n, x, ns', ss', e1, e2, h b _ _ e2 (Or.inr (Or.inl rfl)) e3, tree_keep h d e4, e5⟩))
  ·exact .inr (.inr (.inr ⟨b, g, m, cap, row, vs, e1, e2, e3, h b _ _ e2 (Or.inr (Or.inr (Or.inl rfl))) e4, h g _ _ e3 (Or.inr (Or.inr (Or.inr rfl))) e5, e6, e7, e7', e8, fun i x hx => ⟨(e9 i x hx).1, tree_keep h d (e9 i x hx).2⟩, e10⟩))
theorem tree_notW {t : TypeId} (h : t = 153 ∨ t = 141 ∨ t = 138 ∨ t = 27) : ¬ WiT t ∧ t ≠ 3 := by
 rcases h with rfl | rfl | rfl | rfl <;> exact ⟨notWi (by decide) (by decide) (by decide) (by decide) (by decide) (by decide) (by decide), by decide⟩
def EV (w : World) (v : Value) (cs ks ss : List Int) : Prop := ∃ d ns, Tr.Err w w.heap.size d v cs ns ss ∧ Tr.nodesOf ns = ks
theorem EV.mono {w w' : World} {v : Value} {cs ks ss : List Int} (h : EV w v cs ks ss) (hs : w.heap.size ≤ w'.heap.size) (e : ∀ (b : Nat) (cs : Array Value) (t : TypeId), (t = 153 ∨ t = 141 ∨ t = 138 ∨ t = 27) → w.heap[b]? = some (.cells cs t (0, 0)) → w'.heap[b]? = some (.cells cs t (0, 0))) : EV w' v cs ks ss := by
 obtain ⟨d, ns, h1, h2⟩ := h
 exact ⟨d, ns, (tree_keep (fun b cs t _ => e b cs t) d h1).mono hs, h2⟩
theorem EV.keepF {w w' : World} {v : Value} {cs ks ss : List Int} (h : EV w v cs ks ss) (k : KeepF w w') : EV w' v cs ks ss :=
 h.mono k.1 (fun _ _ _ ht e => (k.cells e (tree_notW ht).1 (tree_notW ht).2).trans e)
theorem EV.keep {w w' : World} {v : Value} {cs ks ss : List Int} (h : EV w v cs ks ss) (k : KeepW w w') : EV w' v cs ks ss := h.keepF (KeepF.of k)
theorem EV.below {w w' : World} {v : Value} {cs ks ss : List Int} (h : EV w v cs ks ss) (b : Below w.heap.size w w') : EV w' v cs ks ss := h.keep (KeepW.of b)
theorem EV.iface {w : World} {v : Value} {cs ks ss : List Int} (h : EV w v cs ks ss) : ∃ t u, v = .iface t u := by
 obtain ⟨d, ns, h1, _⟩ := h
 exact h1.iface
theorem OnE.ev {w : World} {b : Nat} {n c : Int} (h : OnE w b n c) : EV w (onv b) [c] [n] [] := ⟨2, _, h.tree, rfl⟩
theorem errno_ev (w : World) (c : Int) : EV w (ev c) [c] [] [] := ⟨1, _, errno_tree w c, rfl⟩
def EL (w : World) (vs : List Value) (es : List (List Int × List Int × List Int)) : Prop := vs.length = es.length ∧ ∀ (i : Nat) (v : Value) (e : List Int × List Int × List Int), vs[i]? = some v → es[i]? = some e → EV w v e.1 e.2.1 e.2.2
theorem EL.trees {w : World} : ∀ {vs : List Value} {es : List (List Int × List Int × List Int)}, EL w vs es → ∃ (D : Nat) (zs : List (Value × List Int × List Tr.Nd × List Int)), zs.map (·.1) = vs ∧ zs.map (·.2.1) = es.map (·.1) ∧ (zs.map fun z => Tr.nodesOf z.2.2.1) = es.map (·.2.1) ∧ zs.map (·.2.2.2) = es.map (·.2.2) ∧ ∀ z ∈ zs, Tr.Err w w.heap.size D z.1 z.2.1 z.2.2.1 z.2.2.2
 | [], es, h => by
  have : es = [] := List.length_eq_zero_iff.1 h.1.symm
  subst this
  exact ⟨0, [], rfl, rfl, rfl, rfl, fun z hz => by cases hz⟩
 | v :: vs, [], h => by cases h.1
 | v :: vs, e :: es, h => by
  obtain ⟨D, zs, z1, z2, z3, z4, z5⟩ := EL.trees (vs := vs) (es := es) (w := w) ⟨by have := h.1; simpa using this, fun i x y h1 h2 => h.2 (i + 1) x y (by simpa using h1) (by simpa using h2)⟩
  obtain ⟨d, ns, t1, t2⟩ := h.2 0 v e rfl rfl
  refine ⟨max D d, (v, e.1, ns, e.2.2) :: zs, by simp [z1], by simp [z2], by simp [z3, t2], by simp [z4], fun z hz => ?_⟩
  rcases List.mem_cons.1 hz with rfl | hz
  ·exact t1.deep (by omega)
  ·exact (z5 z hz).deep (by omega)
theorem alive_all : ∀ (vs : List Value), (∀ x ∈ vs, ∃ t u, x = .iface t u) → Tr.alive vs = vs
 | [], _ => rfl
 | x :: vs, h => by
  obtain ⟨t, u, rfl⟩ := h x (List.mem_cons_self ..)
  have := alive_all vs (fun y hy => h y (List.mem_cons_of_mem _ hy))
  unfold Tr.alive at this ⊢
  rw [List.filter_cons_of_pos rfl, this]
def JoinRet (es : List (List Int × List Int × List Int)) (w : World) (e : Ending) (w' : World) : Prop :=
 ∃ v, e = .returned v ∧ Below w.heap.size w w' ∧ ((es = [] ∧ v = .nilIface) ∨ (es ≠ [] ∧ EV w' v (es.map (·.1)).flatten (es.map (·.2.1)).flatten (es.map (·.2.2)).flatten))
theorem en_join {w : World} {A : Option Addr} {vs : List Value} {es : List (List Int × List Int × List Int)} (cap : Nat) (h : EL w vs es) (hA : Tr.Holds w A vs) (hm : vs.length ≤ 1000) :
  Calls Tryz.prog 35 #[.slice A vs.length cap] w (JoinRet es w) := by
 have hi : ∀ x ∈ vs, ∃ t u, x = .iface t u := fun x hx => by
  obtain ⟨i, hi⟩ := List.getElem?_of_mem hx
  have hl : i < es.length := by rw [← h.1]; exact (List.getElem?_eq_some_iff.1 hi).1
  exact (h.2 i x es[i] hi (List.getElem?_eq_getElem hl)).iface
 refine (Tr.join10 A vs cap w hm (fun x hx => Or.inr (hi x hx)) hA).mono ?_
 intro e w' hj
 rw [alive_all vs hi] at hj
 by_cases h0 : es = []
 ·subst h0
  have hv : vs = [] := List.length_eq_zero_iff.1 h.1
  subst hv
  obtain ⟨hb, ⟨_, he⟩ | ⟨y, hy, _⟩ | ⟨h2, _⟩⟩ := hj
  ·exact ⟨.nilIface, he, hb, Or.inl ⟨rfl, rfl⟩⟩
  ·cases hy
  ·exact absurd h2 (by decide)
 ·obtain ⟨D, zs, z1, z2, z3, z4, z5⟩ := h.trees
  have hz0 : zs ≠ [] := fun e0 => by
   rw [e0] at z2
   exact h0 (List.map_eq_nil_iff.1 z2.symm)
  have hzl : zs.length = vs.length := by rw [← z1]; simp
  have hb := hj.1
  obtain ⟨v, ns, he, t1, t2, _⟩ := hj.tree zs z1.symm (by omega) D (fun i z hz => z5 z (List.mem_of_getElem? hz)) hz0
  exact ⟨v, he, hb, Or.inr ⟨h0, D + 1, ns, by rw [← z2, ← z4]; exact t1, by rw [t2, z3]⟩⟩
def OfRet (st : Int) (cs ks ss : List Int) (w : World) (e : Ending) (w' : World) : Prop := ∃ v, e = .returned v ∧ Below w.heap.size w w' ∧ EV w' v cs ks (st :: ss)
theorem en_of {w : World} {v : Value} {cs ks ss : List Int} (st : Int) (h : EV w v cs ks ss) : Calls Tryz.prog 37 #[.int .i64 st, v] w (OfRet st cs ks ss w) := by
 obtain ⟨d, ns, h1, h2⟩ := h
 refine (Tr.ofStripe_err d st v cs ns ss w h1).mono ?_
 rintro e w' ⟨b, rfl, _, hb, _, ht⟩
 exact ⟨_, rfl, hb, d + 1, _, ht, by rw [← h2]; rfl⟩
theorem en_code {w : World} {v : Value} {cs ks ss : List Int} (h : EV w v cs ks ss) (hE : ErrType w) : Calls Tryz.prog 19 #[v] w fun e w' => e = .returned (.int .i64 (Tr.codeOf cs)) ∧ Below w.heap.size w w' := by
 obtain ⟨d, ns, h1, _⟩ := h
 exact Tr.code_any d v cs ns ss w h1 hE
theorem en_is {w : World} {v : Value} {cs ks ss : List Int} (m : Int) (h : EV w v cs ks ss) : Calls Tryz.prog 134 #[v, .int .i64 m] w fun e w' => e = .returned (.bool (Tr.hasCode m cs)) ∧ Below w.heap.size w w' := by
 obtain ⟨d, ns, h1, _⟩ := h
 exact Tr.cis_any d v cs ns ss w m h1
theorem en_nodes {w : World} {v : Value} {cs ks ss : List Int} (h : EV w v cs ks ss) (hl : ks.length ≤ 100000) : Calls Tryz.prog 21 #[v] w fun e w' => ∃ u, e = .returned u ∧ w'.ownsRow w.heap.size 3 1 u ks.length (intsV ks) ∧ Below w.heap.size w w' := by
 obtain ⟨d, ns, h1, h2⟩ := h
 subst h2
 exact Tr.nodes18 d v cs ns ss w h1 hl
end Go.Proofs.YtobkmohoepgfmaaGreatDoor
namespace Go.Proofs.YtobkmohoepgfmaaGreatDoor
open Go.RowKit Go.Sort
set_option maxRecDepth 100000
set_option maxHeartbeats 1000000

def qFl : Rq := ⟨4, 0, 0, 0, 0, fun _ => 0⟩
def qIn : Rq := ⟨5, 0, 0, 0, 0, fun _ => 0⟩
def qGt (s : Nat) : Rq := ⟨1, (s : Int), 0, 0, 0, fun _ => 0⟩
def qRl (s g : Nat) : Rq := ⟨6, (s : Int), (g : Int), 0, 0, fun _ => 0⟩
def qPt (s g i : Nat) (D : Nat → Nat) : Rq := ⟨2, (s : Int), (g : Int), (i : Int), 32, D⟩
def qLg (s g : Nat) (D : Nat → Nat) : Rq := ⟨3, (s : Int), (g : Int), 0, 128, D⟩
end Go.Proofs.YtobkmohoepgfmaaGreatDoor
namespace Go.Proofs.YtobkmohoepgfmaaGreatDoor
open Go.RowKit Go.Sort
set_option maxRecDepth 100000
set_option maxHeartbeats 2000000

def qFlush : Rq := ⟨4, 0, 0, 0, 0, fun _ => 0⟩
end Go.Proofs.YtobkmohoepgfmaaGreatDoor
namespace Go.Proofs.YtobkmohoepgfmaaGreatDoor
open Go.RowKit Go.Sort
set_option maxRecDepth 100000
set_option maxHeartbeats 2000000

theorem CallRet.err {w0 v w' : World} {g c : Nat} {nd : ND} {n : Int} {x : Wp × Ans} {s2 : Wp} {e : Ending} (h : CallRet w0 v g nd n x e w') (hx : x = (s2, .err c)) :
  ∃ b, e = .returned (.tuple #[rpv 0 0 (.slice none 0 0) (.slice none 0 0), onv b]) ∧ WL w0 w' g nd s2 ∧ KeepW v w' ∧ v.heap.size ≤ b ∧ OnE w' b n (c : Int) := by
 subst hx
 obtain ⟨r, u, rfl, h1, h2, ⟨c', hc, rfl, b, rfl, hb, ho⟩ | ⟨y, hy, _⟩⟩ := h
 ·cases hc
  exact ⟨b, rfl, h1, h2, hb, ho⟩
 ·cases hy
theorem CallRet.ok {w0 v w' : World} {g : Nat} {nd : ND} {n : Int} {x : Wp × Ans} {s2 : Wp} {y : Ns × Rp} {e : Ending} (h : CallRet w0 v g nd n x e w') (hx : x = (s2, .ok y)) :
  ∃ A c A' c', e = .returned (.tuple #[rpv (y.2.code : Int) (y.1.boot : Int) (.slice A y.2.ps.length c) (.slice A' y.2.its.length c'), .nilIface]) ∧ WL w0 w' g nd s2 ∧ KeepW v w' := by
 subst hx
 obtain ⟨r, u, rfl, h1, h2, ⟨c', hc, _⟩ | ⟨y', hy, rfl, A, c, A', c', rfl, _⟩⟩ := h
 ·cases hc
 ·cases hy
  exact ⟨A, c, A', c', rfl, h1, h2⟩
theorem okQ_flush : OkQ 4 0 0 0 0 := by unfold OkQ; omega
theorem wl_call_flush {w0 v : World} {g : Nat} {nd : ND} {s : Wp} (h : WL w0 v g nd s) {m : Nat} (ho : s.Ok m) (hbd : s.Bd m) (hm : m ≤ 999999980) {n : Nat} (hn : n < 8) :
  Calls Tryz.prog 47 #[.pointer (some ⟨g, 0, none⟩), .int .i64 (n : Int), rqv 4 0 0 0 none 0 0] v (CallRet w0 v g nd (n : Int) (s.call n qFlush)) :=
 wl_call h ho hbd hm hn qFlush none 0 DatN.none_ (fun _ hj => absurd hj (by show ¬ _ < 0; omega)) okQ_flush
theorem Wp.new_bd : Wp.new.Bd 0 := ⟨by decide, by decide, Nat.le_refl _⟩
end Go.Proofs.YtobkmohoepgfmaaGreatDoor
namespace Go.Proofs.YtobkmohoepgfmaaGreatDoor
open Go.RowKit Go.Sort
set_option maxRecDepth 100000
set_option maxHeartbeats 2000000

end Go.Proofs.YtobkmohoepgfmaaGreatDoor
namespace Go.Proofs.YtobkmohoepgfmaaGreatDoor
open Go.RowKit Go.Sort
set_option maxRecDepth 100000
set_option maxHeartbeats 2000000

theorem Wp.Bd.mono {s : Wp} {m m' : Nat} (h : s.Bd m) (hm : m ≤ m') : s.Bd m' := ⟨h.1, h.2.1, Nat.le_trans h.2.2 hm⟩
theorem Wp.Bd.tries {q : Rq} {n : Nat} : ∀ {k m : Nat} {s : Wp}, s.Bd m → (s.tries k n q).1.Bd (m + k)
 | 0, _, _, h => h
 | k + 1, m, s, h => by
  unfold Wp.tries
  have h1 := h.leads n
  split
  ·next s1 e => rw [e] at h1; exact h1.mono (by omega)
  ·next s1 e =>
   rw [e] at h1
   have h2 := h1.send n q
   split
   ·next s2 e2 =>
    rw [e2] at h2
    exact (Wp.Bd.tries h2).mono (by omega)
   ·next s2 x e2 =>
    rw [e2] at h2
    split
    ·exact h2.mono (by omega)
    ·exact h2.mono (by omega)
def Wp.Fit (s : Wp) (m : Nat) : Prop := s.Ok m ∧ s.Bd m
theorem Wp.Fit.new : Wp.new.Fit 0 := ⟨Wp.new_ok, Wp.new_bd⟩
theorem Wp.Fit.mono {s : Wp} {m m' : Nat} (h : s.Fit m) (hm : m ≤ m') : s.Fit m' := ⟨h.1.mono hm, h.2.mono hm⟩
theorem Wp.Fit.congr {s s' : Wp} {m : Nat} (h : s.Fit m) (e1 : s'.N = s.N) (e2 : s'.fuse = s.fuse) (e3 : s'.sent = s.sent) : s'.Fit m := ⟨h.1.congr e1, by unfold Wp.Bd; rw [e2, e3]; exact h.2⟩
theorem Wp.Fit.call {s s' : Wp} {m n : Nat} {q : Rq} {a : Ans} (h : s.Fit m) (hn : n < 8) (hD : ∀ j, j < q.n → q.D j < 256) (e : s.call n q = (s', a)) : s'.Fit (m + 3) := by
 have h1 := h.1.tries (q := q) (k := 3) hn hD
 have h2 := h.2.tries (q := q) (k := 3) (n := n)
 unfold Wp.call at e
 rw [e] at h1 h2
 exact ⟨h1, h2⟩
end Go.Proofs.YtobkmohoepgfmaaGreatDoor
namespace Go.Proofs.YtobkmohoepgfmaaGreatDoor
open Go.RowKit Go.Sort
set_option maxRecDepth 100000
set_option maxHeartbeats 1000000

theorem Wp.at_ (s : Wp) (n : Nat) (a : Ns) : (s.setN n a).N n = a := by
 unfold Wp.setN
 dsimp only
 rw [if_pos rfl]
theorem Wp.far (s : Wp) {n j : Nat} (a : Ns) (h : j ≠ n) : (s.setN n a).N j = s.N j := by
 unfold Wp.setN
 dsimp only
 rw [if_neg h]
theorem Wp.send_keep {P : Ns → Prop} {s : Wp} {n j : Nat} {q : Rq} (ha : j = n → ∀ a, P a → P (a.act q).1) (hc : ∀ a, P a → P (a.crash [])) (h : P (s.N j)) : P ((s.send n q).1.N j) := by
 unfold Wp.send Wp.sendF
 by_cases e : j = n
 ·subst e
  split
  ·exact h
  ·split
   ·rw [Wp.at_]; exact ha rfl _ h
   ·split
    ·rw [Wp.at_]; exact ha rfl _ (hc _ h)
    ·rw [Wp.at_]; exact ha rfl _ h
 ·split
  ·exact h
  ·split
   ·rw [Wp.far _ _ e]; exact h
   ·split
    ·rw [Wp.far _ _ e]; exact h
    ·rw [Wp.far _ _ e]; exact h
theorem Wp.send_some {P : Ns → Prop} {s s' : Wp} {n : Nat} {q : Rq} {y : Ns × Rp} (hc : ∀ a, P a → P (a.crash [])) (h : P (s.N n)) (e : s.send n q = (s', some y)) : ∃ a, P a ∧ y = a.act q ∧ s'.N n = y.1 := by
 unfold Wp.send Wp.sendF at e
 split at e
 ·cases e
 ·split at e
  ·cases e
  ·split at e
   ·cases e
    exact ⟨_, hc _ h, rfl, Wp.at_ _ _ _⟩
   ·cases e
    exact ⟨_, h, rfl, Wp.at_ _ _ _⟩
theorem Wp.tries_some {P : Ns → Prop} {n : Nat} {q : Rq} (ha : ∀ a, P a → P (a.act q).1) (hc : ∀ a, P a → P (a.crash [])) : ∀ (k : Nat) (s : Wp) {s' : Wp} {y : Ns × Rp}, P (s.N n) → s.tries k n q = (s', .ok y) → ∃ a, P a ∧ y = a.act q ∧ s'.N n = y.1 ∧ y.2.code = 0
 | 0, _, _, _, _, e => by cases e
 | k + 1, s, s', y, h, e => by
  have h1 : P ((s.leads n).1.N n) := by rw [s.leads_N]; exact h
  unfold Wp.tries at e
  split at e
  ·cases e
  ·next s1 e1 =>
   rw [e1] at h1
   have h2 := Wp.send_keep (s := s1) (n := n) (j := n) (q := q) (fun _ => ha) hc h1
   split at e
   ·next s2 e2 => rw [e2] at h2; exact Wp.tries_some ha hc k s2 h2 e
   ·next s2 x e2 =>
    split at e
    ·next e3 =>
     cases e
     obtain ⟨a, a1, a2, a3⟩ := Wp.send_some hc h1 e2
     exact ⟨a, a1, a2, a3, e3⟩
    ·cases e
def Wp.done (s : Wp) (n : Nat) (q : Rq) : Wp × Nat :=
 match s.call n q with
 | (s1, .err c) => (s1, c)
 | (s1, .ok y) => match s1.call n qFl with
  | (s2, .err _) => (s2, 5)
  | (s2, .ok z) => (s2, if z.1.boot = y.1.boot then 0 else 5)
theorem Wp.tries_err (n : Nat) (q : Rq) : ∀ (k : Nat) (s : Wp) {s' : Wp} {c : Nat}, s.tries k n q = (s', .err c) → c ≠ 0
 | 0, _, _, _, e => by cases e; decide
 | k + 1, s, s', c, e => by
  unfold Wp.tries at e
  split at e
  ·cases e; decide
  ·split at e
   ·exact Wp.tries_err n q k _ e
   ·split at e
    ·cases e
    ·next h => cases e; exact h
end Go.Proofs.YtobkmohoepgfmaaGreatDoor
namespace Go.Proofs.YtobkmohoepgfmaaGreatDoor
open Go.RowKit Go.Sort
set_option maxRecDepth 100000
set_option maxHeartbeats 1000000

structure Ep where
 w : Wp
 gen : Nat → Nat
 next : Nat → Nat
 doubt : Nat → Bool
 pend : Nat → Option (Nat → Nat)
def Ep.new (w : Wp) : Ep := ⟨w, fun _ => 0, fun _ => 1, fun _ => false, fun _ => none⟩
def nodeN (st i : Nat) : Nat := (st + i) % 8
def logN (st j : Nat) : Nat := (st + 5 + j) % 8
def Ep.rel (e : Ep) (x : It) : Bool := decide (x.g ≤ e.gen x.s) && !((e.pend x.s).isSome && decide (x.g = e.gen x.s))
def Wp.rels (s : Wp) (n : Nat) (l : List It) : Wp := l.foldl (fun s x => (s.call n (qRl x.s x.g)).1) s
def Ep.sweep (e : Ep) (s : Wp) (n : Nat) : Wp := match s.call n qIn with
 | (s1, .err _) => s1
 | (s1, .ok y) => s1.rels n (y.2.its.filter e.rel)
def Ep.logs (e : Ep) (s : Wp) (n : Nat) (q : Rq) : Wp × Nat := if (s.done n q).2 = 6 then (e.sweep (s.done n q).1 n).done n q else s.done n q
def Ep.askN (e : Ep) (q : Rq) (st : Nat) : Nat → Wp × Nat × List (Nat × Nat)
 | 0 => (e.w, 0, [])
 | m + 1 => let r := e.askN q st m
  if 3 ≤ r.2.1 then r else
   let c := e.logs r.1 (logN st m) q
   if c.2 = 0 then (c.1, r.2.1 + 1, r.2.2) else (c.1, r.2.1, r.2.2 ++ [(logN st m, c.2)])
def Wp.puts (s : Wp) (st g : Nat) (C : Nat → Nat → Nat) : Nat → Wp × Bool
 | 0 => (s, true)
 | m + 1 => let r := s.puts st g C m
  let d := r.1.done (nodeN st m) (qPt st g m (C m))
  (d.1, r.2 && decide (d.2 = 0))
def Wp.relAll (s : Wp) (st g : Nat) : Nat → Wp
 | 0 => s
 | m + 1 => ((s.relAll st g m).call m (qRl st g)).1
def Ep.fin (e : Ep) (st : Nat) (C : Nat → Nat → Nat) : Ep :=
 let r := e.w.puts st (e.gen st) C 6
 if r.2 = true then { e with w := r.1.relAll st (e.gen st) 8, pend := fun i => if i = st then none else e.pend i } else { e with w := r.1 }
def Ep.held (e : Ep) (s : Wp) (st g : Nat) (D : Nat → Nat) : Ep :=
 { e with w := s, gen := fun i => if i = st then g else e.gen i, doubt := fun i => if i = st then false else e.doubt i, pend := fun i => if i = st then some D else e.pend i }
def Ep.carry (E : (Nat → Nat) → Nat → Nat → Nat) (e : Ep) (st g : Nat) (D : Nat → Nat) : Ep × Option (List (Nat × Nat)) :=
 let r := e.askN (qLg st g D) st 8
 if r.2.1 < 3 then ({ e with w := r.1 }, some r.2.2) else ((e.held r.1 st g D).fin st (E D), none)
def Ep.up (e : Ep) (st : Nat) : Ep := { e with next := fun i => if i = st then e.next st + 1 else e.next i }
def Ep.write (E : (Nat → Nat) → Nat → Nat → Nat) (e : Ep) (st : Nat) (D : Nat → Nat) : Ep × Option (List (Nat × Nat)) :=
 let r := (e.up st).carry E st (e.next st) D
 if r.2.isSome then ({ r.1 with doubt := fun i => if i = st then true else r.1.doubt i }, r.2) else r

theorem Ep.askN_zero (e : Ep) (q : Rq) (st : Nat) : e.askN q st 0 = (e.w, 0, []) := rfl
theorem Ep.askN_succ (e : Ep) (q : Rq) (st m : Nat) : e.askN q st (m + 1) = if 3 ≤ (e.askN q st m).2.1 then e.askN q st m else if (e.logs (e.askN q st m).1 (logN st m) q).2 = 0 then ((e.logs (e.askN q st m).1 (logN st m) q).1, (e.askN q st m).2.1 + 1, (e.askN q st m).2.2) else ((e.logs (e.askN q st m).1 (logN st m) q).1, (e.askN q st m).2.1, (e.askN q st m).2.2 ++ [(logN st m, (e.logs (e.askN q st m).1 (logN st m) q).2)]) := rfl
theorem Wp.puts_zero (s : Wp) (st g : Nat) (C : Nat → Nat → Nat) : s.puts st g C 0 = (s, true) := rfl
theorem Wp.puts_succ (s : Wp) (st g : Nat) (C : Nat → Nat → Nat) (m : Nat) : s.puts st g C (m + 1) = (((s.puts st g C m).1.done (nodeN st m) (qPt st g m (C m))).1, (s.puts st g C m).2 && decide (((s.puts st g C m).1.done (nodeN st m) (qPt st g m (C m))).2 = 0)) := rfl
theorem Wp.relAll_zero (s : Wp) (st g : Nat) : s.relAll st g 0 = s := rfl
theorem Wp.relAll_succ (s : Wp) (st g m : Nat) : s.relAll st g (m + 1) = ((s.relAll st g m).call m (qRl st g)).1 := rfl
attribute [irreducible] Ep.askN Wp.puts Wp.relAll
end Go.Proofs.YtobkmohoepgfmaaGreatDoor
namespace Go.Proofs.YtobkmohoepgfmaaGreatDoor
open Go.RowKit Go.Sort
set_option maxRecDepth 100000
set_option maxHeartbeats 1000000

end Go.Proofs.YtobkmohoepgfmaaGreatDoor
namespace Go.Proofs.YtobkmohoepgfmaaGreatDoor
open Go.RowKit Go.Sort
set_option maxRecDepth 100000
set_option maxHeartbeats 1000000

theorem Ns.act_in (a : Ns) : a.act qIn = (a, ⟨0, [], (liveT a.R).map (·.2)⟩) := by
 unfold Ns.act qIn
 simp
end Go.Proofs.YtobkmohoepgfmaaGreatDoor
namespace Go.Proofs.YtobkmohoepgfmaaGreatDoor
open Go.RowKit Go.Sort
set_option maxRecDepth 100000
set_option maxHeartbeats 1000000

end Go.Proofs.YtobkmohoepgfmaaGreatDoor
namespace Go.Proofs.YtobkmohoepgfmaaGreatDoor
open Go.RowKit Go.Sort
set_option maxRecDepth 100000
set_option maxHeartbeats 1000000

def pieceOf (l : List Pc) (g i : Nat) : Option Pc := l.find? (fun p => decide (p.g = g) && decide (p.i = i))
def Ep.getN (e : Ep) (st : Nat) : Nat → Wp × List (Nat × (Nat → Nat)) × List (Nat × Nat)
 | 0 => (e.w, [], [])
 | m + 1 => let r := e.getN st m
  if 4 ≤ r.2.1.length then r else
   match r.1.call (nodeN st m) (qGt st) with
   | (s1, .err c) => (s1, r.2.1, r.2.2 ++ [(nodeN st m, c)])
   | (s1, .ok y) => match pieceOf y.2.ps (e.gen st) m with
    | some p => (s1, r.2.1 ++ [(m, p.D)], r.2.2)
    | none => (s1, r.2.1, r.2.2 ++ [(nodeN st m, 7)])
theorem Ep.getN_zero (e : Ep) (st : Nat) : e.getN st 0 = (e.w, [], []) := rfl
theorem Ep.getN_full {e : Ep} {st m : Nat} (h : 4 ≤ (e.getN st m).2.1.length) : e.getN st (m + 1) = e.getN st m := by
 show (if 4 ≤ (e.getN st m).2.1.length then e.getN st m else _) = _
 rw [if_pos h]
theorem Ep.getN_err {e : Ep} {st m c : Nat} {s1 : Wp} (h : ¬ 4 ≤ (e.getN st m).2.1.length) (hc : (e.getN st m).1.call (nodeN st m) (qGt st) = (s1, .err c)) : e.getN st (m + 1) = (s1, (e.getN st m).2.1, (e.getN st m).2.2 ++ [(nodeN st m, c)]) := by
 show (if 4 ≤ (e.getN st m).2.1.length then e.getN st m else _) = _
 rw [if_neg h, hc]
theorem Ep.getN_some {e : Ep} {st m : Nat} {s1 : Wp} {y : Ns × Rp} {p : Pc} (h : ¬ 4 ≤ (e.getN st m).2.1.length) (hc : (e.getN st m).1.call (nodeN st m) (qGt st) = (s1, .ok y)) (hp : pieceOf y.2.ps (e.gen st) m = some p) : e.getN st (m + 1) = (s1, (e.getN st m).2.1 ++ [(m, p.D)], (e.getN st m).2.2) := by
 show (if 4 ≤ (e.getN st m).2.1.length then e.getN st m else _) = _
 rw [if_neg h, hc]
 dsimp only
 rw [hp]
theorem Ep.getN_none {e : Ep} {st m : Nat} {s1 : Wp} {y : Ns × Rp} (h : ¬ 4 ≤ (e.getN st m).2.1.length) (hc : (e.getN st m).1.call (nodeN st m) (qGt st) = (s1, .ok y)) (hp : pieceOf y.2.ps (e.gen st) m = none) : e.getN st (m + 1) = (s1, (e.getN st m).2.1, (e.getN st m).2.2 ++ [(nodeN st m, 7)]) := by
 show (if 4 ≤ (e.getN st m).2.1.length then e.getN st m else _) = _
 rw [if_neg h, hc]
 dsimp only
 rw [hp]
attribute [irreducible] Ep.getN
inductive Got where
 | no (l : List (Nat × Nat))
 | yes (D : Nat → Nat)
def Ep.fetch (dec : List (Nat × (Nat → Nat)) → Nat → Nat) (e : Ep) (st : Nat) : Wp × Got :=
 match e.pend st with
 | some D => (e.w, .yes D)
 | none => if e.gen st = 0 then (e.w, .yes (fun _ => 0)) else if (e.getN st 6).2.1.length < 4 then ((e.getN st 6).1, .no (e.getN st 6).2.2) else ((e.getN st 6).1, .yes (dec (e.getN st 6).2.1))
def Ep.read (E : (Nat → Nat) → Nat → Nat → Nat) (dec : List (Nat × (Nat → Nat)) → Nat → Nat) (e : Ep) (st : Nat) : Ep × Got :=
 match e.fetch dec st with
 | (s, .no l) => ({ e with w := s }, .no l)
 | (s, .yes D) => if e.doubt st = true then (match ({ e with w := s } : Ep).write E st D with
   | (e2, some l) => (e2, .no l)
   | (e2, none) => (e2, .yes D)) else ({ e with w := s }, .yes D)
theorem srt_mem (l : List Pc) (p : Pc) : p ∈ srt l ↔ p ∈ l := by
 unfold srt
 split
 ·split
  ·simp only [List.mem_cons, List.not_mem_nil, or_false]
   exact Or.comm
  ·exact Iff.rfl
 ·exact Iff.rfl
theorem Ns.act_gt (a : Ns) {s : Nat} (hs : s < 40) : a.act (qGt s) = (a, ⟨0, a.pcs s, []⟩) := by
 unfold Ns.act qGt
 simp [show (s : Int) < 40 by omega]
end Go.Proofs.YtobkmohoepgfmaaGreatDoor
namespace Go.Proofs.YtobkmohoepgfmaaGreatDoor
open Go.RowKit Go.Sort
set_option maxRecDepth 100000
set_option maxHeartbeats 1000000

theorem Wp.Fit.cal {s : Wp} {m n : Nat} {q : Rq} (h : s.Fit m) (hn : n < 8) (hD : ∀ j, j < q.n → q.D j < 256) : (s.call n q).1.Fit (m + 3) := h.call hn hD (a := (s.call n q).2) rfl
theorem none_lt {q : Rq} (h : q.n = 0) : ∀ j, j < q.n → q.D j < 256 := fun j hj => absurd hj (by omega)
theorem Wp.Fit.done {s : Wp} {m n : Nat} {q : Rq} (h : s.Fit m) (hn : n < 8) (hD : ∀ j, j < q.n → q.D j < 256) : (s.done n q).1.Fit (m + 6) := by
 have h1 := h.cal (q := q) hn hD
 unfold Wp.done
 split
 ·next s1 c e => rw [e] at h1; exact h1.mono (by omega)
 ·next s1 y e =>
  rw [e] at h1
  have h2 := h1.cal (n := n) (q := qFl) hn (none_lt rfl)
  split
  ·next s2 c e2 => rw [e2] at h2; exact h2
  ·next s2 z e2 => rw [e2] at h2; exact h2
theorem Wp.Fit.rels {n : Nat} (hn : n < 8) : ∀ (l : List It) (s : Wp) (m : Nat), s.Fit m → (s.rels n l).Fit (m + 3 * l.length)
 | [], s, m, h => h
 | x :: l, s, m, h => by
  have h1 := Wp.Fit.rels hn l _ _ (h.cal (n := n) (q := qRl x.s x.g) hn (none_lt rfl))
  refine Wp.Fit.mono (s := (s.rels n (x :: l))) h1 (by simp only [List.length_cons]; omega)
theorem Wp.its_le {s s' : Wp} {n : Nat} {y : Ns × Rp} (e : s.call n qIn = (s', .ok y)) : y.2.its.length ≤ 16 := by
 obtain ⟨a, _, h2, _⟩ := Wp.tries_some (P := fun _ => True) (fun _ _ => trivial) (fun _ _ => trivial) 3 s trivial e
 rw [h2, Ns.act_in]
 show ((liveT a.R).map (·.2)).length ≤ 16
 rw [List.length_map, liveT_len]
 exact colR_len _ _
theorem Ep.fit_sweep (e : Ep) {s : Wp} {m n : Nat} (h : s.Fit m) (hn : n < 8) : (e.sweep s n).Fit (m + 51) := by
 have h1 := h.cal (n := n) (q := qIn) hn (none_lt rfl)
 unfold Ep.sweep
 split
 ·next s1 c e1 => rw [e1] at h1; exact h1.mono (by omega)
 ·next s1 y e1 =>
  have hl := Wp.its_le e1
  rw [e1] at h1
  have h2 := List.length_filter_le e.rel y.2.its
  exact (Wp.Fit.rels hn (y.2.its.filter e.rel) s1 _ h1).mono (by omega)
theorem Ep.fit_logs (e : Ep) {s : Wp} {m n : Nat} {q : Rq} (h : s.Fit m) (hn : n < 8) (hD : ∀ j, j < q.n → q.D j < 256) : (e.logs s n q).1.Fit (m + 63) := by
 have h1 := h.done (q := q) hn hD
 unfold Ep.logs
 split
 ·exact ((e.fit_sweep h1 hn).done hn hD).mono (by omega)
 ·exact h1.mono (by omega)
theorem Ep.fit_askN {e : Ep} {m st : Nat} {q : Rq} (h : e.w.Fit m) (hD : ∀ j, j < q.n → q.D j < 256) : ∀ k, (e.askN q st k).1.Fit (m + 63 * k)
 | 0 => by rw [Ep.askN_zero]; exact h
 | k + 1 => by
  have ih := Ep.fit_askN h hD k (st := st)
  have h2 := e.fit_logs (n := logN st k) ih (by unfold logN; omega) hD
  rw [Ep.askN_succ]
  split
  ·exact ih.mono (by omega)
  ·split <;> exact h2.mono (by omega)
theorem Wp.fit_puts {s : Wp} {m st g : Nat} {C : Nat → Nat → Nat} (h : s.Fit m) (hC : ∀ i j, j < 32 → C i j < 256) : ∀ k, (s.puts st g C k).1.Fit (m + 6 * k)
 | 0 => by rw [Wp.puts_zero]; exact h
 | k + 1 => by
  have ih := Wp.fit_puts h hC k (st := st) (g := g)
  rw [Wp.puts_succ]
  exact (ih.done (n := nodeN st k) (by unfold nodeN; omega) (fun j hj => hC k j hj)).mono (by omega)
theorem Wp.fit_relAll {s : Wp} {m st g : Nat} (h : s.Fit m) : ∀ k, k ≤ 8 → (s.relAll st g k).Fit (m + 3 * k)
 | 0, _ => by rw [Wp.relAll_zero]; exact h
 | k + 1, hk => by
  have ih := Wp.fit_relAll h k (by omega) (st := st) (g := g)
  rw [Wp.relAll_succ]
  exact (ih.cal (by omega) (none_lt rfl)).mono (by omega)
theorem Ep.fit_fin {e : Ep} {m st : Nat} {C : Nat → Nat → Nat} (h : e.w.Fit m) (hC : ∀ i j, j < 32 → C i j < 256) : (e.fin st C).w.Fit (m + 60) := by
 have h1 := Wp.fit_puts h hC 6 (st := st) (g := e.gen st)
 have h2 := Wp.fit_relAll h1 8 (Nat.le_refl _) (st := st) (g := e.gen st)
 unfold Ep.fin
 dsimp only
 split
 ·exact h2.mono (by omega)
 ·exact h1.mono (by omega)
theorem Ep.fit_write {e : Ep} {m st : Nat} {E : (Nat → Nat) → Nat → Nat → Nat} {D : Nat → Nat} (h : e.w.Fit m) (hD : ∀ j, j < 128 → D j < 256) (hE : ∀ i j, j < 32 → E D i j < 256) : (e.write E st D).1.w.Fit (m + 564) := by
 have h1 := Ep.fit_askN (e := e.up st) (q := qLg st (e.next st) D) (st := st) h (fun j hj => hD j hj) 8
 unfold Ep.write Ep.carry
 dsimp only
 by_cases hk : ((e.up st).askN (qLg st (e.next st) D) st 8).2.1 < 3
 ·rw [if_pos hk]
  exact h1.mono (by omega)
 ·rw [if_neg hk]
  exact (Ep.fit_fin (e := (e.up st).held ((e.up st).askN (qLg st (e.next st) D) st 8).1 st (e.next st) D) (m := m + 63 * 8) h1 hE).mono (by omega)
theorem Ep.fit_getN {e : Ep} {m st : Nat} (h : e.w.Fit m) : ∀ k, (e.getN st k).1.Fit (m + 3 * k)
 | 0 => by rw [Ep.getN_zero]; exact h
 | k + 1 => by
  have ih := Ep.fit_getN h k (st := st)
  have h2 := ih.cal (n := nodeN st k) (q := qGt st) (by unfold nodeN; omega) (none_lt rfl)
  by_cases h4 : 4 ≤ (e.getN st k).2.1.length
  ·rw [Ep.getN_full h4]; exact ih.mono (by omega)
  ·obtain ⟨x, hx⟩ : ∃ x, (e.getN st k).1.call (nodeN st k) (qGt st) = x := ⟨_, rfl⟩
   rw [hx] at h2
   obtain ⟨s1, a⟩ := x
   cases a with
   | err c => rw [Ep.getN_err h4 hx]; exact h2.mono (by omega)
   | ok y =>
    cases hp : pieceOf y.2.ps (e.gen st) k with
    | some p => rw [Ep.getN_some h4 hx hp]; exact h2.mono (by omega)
    | none => rw [Ep.getN_none h4 hx hp]; exact h2.mono (by omega)
end Go.Proofs.YtobkmohoepgfmaaGreatDoor
