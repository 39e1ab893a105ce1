import Derived.Test.YtobkmohoepgfmaaGreatDoorV22
import Derived.Test.YtobkmohoepgfmaaGreatDoorV07
import Derived.Deep.RegionHeld
namespace Go.Proofs.YtobkmohoepgfmaaGreatDoor
open Go.RowKit Go.Sort
set_option maxRecDepth 100000
set_option maxHeartbeats 2000000

theorem take_succ_flat (Ls : List (List Nat)) (k : Nat) (L : List Nat) (h : Ls[k]? = some L) : (Ls.take (k + 1)).flatten = (Ls.take k).flatten ++ L := by
 rw [List.take_add_one, h]
 simp
theorem tot_take (Ls : List (List Nat)) : ∀ k, k ≤ Ls.length → tot (fun k => (Ls.getD k []).length) k = (Ls.take k).flatten.length
 | 0, _ => rfl
 | k + 1, h => by
  have e : Ls[k]? = some (Ls.getD k []) := by
   rw [List.getD_eq_getElem?_getD, List.getElem?_eq_getElem (by omega)]; rfl
  rw [tot_succ, tot_take Ls k (by omega), take_succ_flat Ls k _ e, List.length_append]
theorem gt_flat (Ls : List (List Nat)) (k j : Nat) (hk : k < Ls.length) (hj : j < (Ls.getD k []).length) : gt Ls.flatten (tot (fun k => (Ls.getD k []).length) k + j) = gt (Ls.getD k []) j := by
 have e : Ls[k]? = some (Ls.getD k []) := by
  rw [List.getD_eq_getElem?_getD, List.getElem?_eq_getElem (by omega)]; rfl
 have e2 : Ls.flatten = (Ls.take k).flatten ++ (Ls.getD k [] ++ (Ls.drop (k + 1)).flatten) := by
  conv => lhs; rw [← List.take_append_drop (k + 1) Ls]
  rw [List.flatten_append, take_succ_flat Ls k _ e, List.append_assoc]
 rw [tot_take Ls k (by omega), e2, gt_app, if_neg (by omega), gt_app, if_pos (by omega)]
 congr 1
 omega
def CatRet (L : List Nat) (w : World) (e : Ending) (w' : World) : Prop := ∃ g cap, e = .returned (.slice (some ⟨g, 0, none⟩) L.length cap) ∧ Blk8 w' g L.length (gt L) ∧ Below w.heap.size w w' ∧ L.length ≤ cap ∧ w.heap.size ≤ g
def RowsB (w : World) : List Value → List (List Nat) → Prop
 | [], [] => True
 | v :: vs, L :: Ls => (∃ (A : Option Addr) (c : Nat), v = Value.slice A L.length c ∧ BL w A L) ∧ RowsB w vs Ls
 | _, _ => False
theorem RowsB.get {w : World} : ∀ {cs : List Value} {Ls : List (List Nat)}, RowsB w cs Ls → ∀ (k : Nat) (L : List Nat), Ls[k]? = some L → ∃ (A : Option Addr) (c : Nat), cs[k]? = some (Value.slice A L.length c) ∧ BL w A L
 | [], [], _, k, L, e => by simp at e
 | v :: vs, M :: Ls, h, 0, L, e => by
  obtain ⟨⟨A, c, rfl, hb⟩, _⟩ := h
  simp only [List.getElem?_cons_zero, Option.some.injEq] at e
  subst e
  exact ⟨A, c, rfl, hb⟩
 | v :: vs, M :: Ls, h, k + 1, L, e => by
  rw [List.getElem?_cons_succ] at e ⊢
  exact RowsB.get h.2 k L e
 | [], M :: Ls, h, _, _, _ => h.elim
 | v :: vs, [], h, _, _, _ => h.elim
theorem mconcatL (w : World) (cs : List Value) (Ls : List (List Nat)) (hr : RowsB w cs Ls) (K : Nat) (hK : K = Ls.length) (hK2 : K ≤ 1000) (T : List Nat) (hT : T = Ls.flatten) (h1 : 1 ≤ T.length) (h2 : T.length ≤ 1000000) :
  Calls Tryz.prog 85 #[.slice (some ⟨w.heap.size, 0, none⟩) K K] (w.alloc (.cells cs.toArray 36)) (CatRet T w) := by
 have h : ∀ (k : Nat) (L : List Nat), Ls[k]? = some L → ∃ (A : Option Addr) (c : Nat), cs.toArray[k]? = some (Value.slice A L.length c) ∧ BL w A L := fun k L e => by
  rw [List.getElem?_toArray]
  exact hr.get k L e
 obtain ⟨cs, rfl⟩ : ∃ x : Array Value, x.toList = cs := ⟨cs.toArray, rfl⟩
 rw [show cs.toList.toArray = cs from rfl] at h ⊢
 subst hT
 subst hK
 have hk := alloc_block w (.cells cs 36)
 have hb : Below w.heap.size w (w.alloc (.cells cs 36)) := (Below.refl _ _).alloc (Nat.le_refl _) _
 have hget : ∀ k, k < Ls.length → Ls[k]? = some (Ls.getD k []) := fun k hk => by rw [List.getD_eq_getElem?_getD, List.getElem?_eq_getElem hk]; rfl
 have hA : ∃ (A : Nat → Option Addr) (C : Nat → Nat), ∀ k, k < Ls.length → cs[k]? = some (.slice (A k) (Ls.getD k []).length (C k)) ∧ BL w (A k) (Ls.getD k []) := by
  refine ⟨fun k => if hk : k < Ls.length then (h k _ (hget k hk)).choose else none, fun k => if hk : k < Ls.length then (h k _ (hget k hk)).choose_spec.choose else 0, fun k hk => ?_⟩
  simp only [dif_pos hk]
  exact (h k _ (hget k hk)).choose_spec.choose_spec
 obtain ⟨A, C, hAC⟩ := hA
 have ht := tot_take Ls Ls.length (Nat.le_refl _)
 rw [List.take_length] at ht
 have := mconcatK w.heap.size Ls.length Ls.length A (fun k => (Ls.getD k []).length) C (fun k => gt (Ls.getD k [])) (gt Ls.flatten) (w.alloc (.cells cs 36)) (by simp) (fun k hk' => (cell_of_block hk).trans (hAC k hk').1) (fun k hk' => ((hAC k hk').2.below hb).rd) (fun k j hk' hj => gt_flat Ls k j hk' hj) hK2 (by rw [ht]; exact h1) (by rw [ht]; exact h2)
 refine this.mono ?_
 rintro e w' ⟨g, cap, rfl, ho, hb2, hg, _, hc⟩
 rw [ht] at ho hc ⊢
 exact ⟨g, cap, rfl, own_blk ho, hb.trans (hb2.mono hb.size), hc, Nat.le_trans hb.size hg⟩
def LRet (L : List Nat) (w : World) (e : Ending) (w' : World) : Prop := ∃ g cap, e = .returned (.tuple #[.slice (some ⟨g, 0, none⟩) L.length cap, .int .i64 0]) ∧ Blk8 w' g L.length (gt L) ∧ Below w.heap.size w w' ∧ L.length ≤ cap
theorem BL.num {w : World} {g x m : Nat} (h : Blk8 w g m (byteAt x m)) : BL w (some ⟨g, 0, none⟩) (byteL x m) := BL.blk h (byteL_len x m) (fun _ hj => (gt_byteL hj).symm)
theorem nbytesL {B : Nat} {w0 : World} (x m : Nat) (s : Int) (hs : s = (m : Int)) (w : World) (hm : m ≤ 7) (hB : Below B w0 w) (hl : B ≤ w.heap.size) :
  Calls Tryz.prog 107 #[.int .i64 (x : Int), .int .i64 s] w fun e w' => ∃ g, e = .returned (.slice (some ⟨g, 0, none⟩) m m) ∧ BL w' (some ⟨g, 0, none⟩) (byteL x m) ∧ Below B w0 w' ∧ Below w.heap.size w w' ∧ B ≤ w'.heap.size :=
 (nbytesB x m s hs w hm hB hl).mono (by
  rintro e w' ⟨g, rfl, k, b1, b2, _, l⟩
  exact ⟨g, rfl, BL.num k, b1, b2, l⟩)
theorem clayReq (k s g i : Nat) (D : List Nat) (A : Option Addr) (c : Nat) (w : World) (hq : OkQ k s g i D.length) (h : BL w A D) :
  Calls Tryz.prog 73 #[rqv (k : Int) (s : Int) (g : Int) (i : Int) A D.length c] w (LRet (byteL k 1 ++ (byteL s 2 ++ (byteL g 6 ++ (byteL i 1 ++ (byteL D.length 2 ++ D))))) w) := by
 obtain ⟨w1, hw1⟩ : ∃ w1, w.alloc (.cells #[.int .i64 (k : Int), .int .i64 (s : Int), .int .i64 (g : Int), .int .i64 (i : Int), .slice A D.length c] 107) = w1 := ⟨_, rfl⟩
 obtain ⟨H, hH⟩ : ∃ H, w.heap.size = H := ⟨_, rfl⟩
 have HW1 := Lib.hid hw1
 have HH := Lib.hid hH
 have hv : QV w1 H (k : Int) (s : Int) (g : Int) (i : Int) A D.length c := by rw [← hw1]; exact QV.of_new hH
 have hb1 : Below H w w1 := by rw [← hw1, ← hH]; exact (Below.refl _ _).alloc (Nat.le_refl _) _
 have HB1 := Lib.hid hb1
 have HR := Lib.hid (crightReq (k : Int) (s : Int) (g : Int) (i : Int) A D.length c w1 true ⟨fun _ => hq, fun _ => rfl⟩)
 have HQ := Lib.hid hv
 have HD := Lib.hid (h.below (by rw [hH]; exact hb1))
 have HN : Hid (D.length ≤ 128) := Lib.hid hq.2.2.2.2.2.2.2.2
 have q0 := hv.c0
 have q1 := hv.c1
 have q2 := hv.c2
 have q3 := hv.c3
 have q4 := hv.c4
 have ql := hv.lt
 clear hw1 hH hb1 hv h hq
 unfold rqv at HR ⊢
 obtain ⟨n, hn⟩ : ∃ n, D.length = n := ⟨_, rfl⟩
 have HNN := Lib.hid hn
 rw [hn] at HR q4 HQ HW1 ⊢
 clear hn
 obtain ⟨T, hT⟩ : ∃ T, byteL k 1 ++ (byteL s 2 ++ (byteL g 6 ++ (byteL i 1 ++ (byteL n 2 ++ D)))) = T := ⟨_, rfl⟩
 have HT : Hid (T = [byteL k 1, byteL s 2, byteL g 6, byteL i 1, byteL n 2, D].flatten) := Lib.hid (by rw [← hT]; simp)
 have HTL : Hid (T.length = 12 + n) := Lib.hid (by rw [← hT]; simp only [List.length_append, byteL_len, HNN.out]; omega)
 rw [hT]
 clear hT
 go_enter Tryz.func73, Tryz.ntmps73
 go_wp2_with fail
 rw [HW1.out, HH.out]
 refine HR.out.mono ?_
 rintro e w2 ⟨rfl, hb2⟩
 try dsimp only
 have HQ2 := Lib.hid (HQ.out.below hb2)
 have HD2 := Lib.hid (HD.out.below hb2)
 have HB2 : Hid (Below H w w2) := Lib.hid (HB1.out.trans (hb2.mono (Nat.le_of_lt ql)))
 clear hb2 q0 q1 q2 q3 q4 ql
 have hZ : H ≤ w2.heap.size := Nat.le_of_lt HQ2.out.lt
 have HZ := Lib.hid hZ
 have hb0 : Below w2.heap.size w2 w2.drew := below_drewN 1 w2
 have HS : Hid (∀ W, Below w2.heap.size w2 W → W.cell? ⟨H, 0, none⟩ = some (.int .i64 (k : Int)) ∧ W.cell? ⟨H, 1, none⟩ = some (.int .i64 (s : Int)) ∧ W.cell? ⟨H, 2, none⟩ = some (.int .i64 (g : Int)) ∧ W.cell? ⟨H, 3, none⟩ = some (.int .i64 (i : Int)) ∧ W.cell? ⟨H, 4, none⟩ = some (.slice A n c)) := Lib.hid (fun W hW => by
  have := HQ2.out.below hW
  exact ⟨this.c0, this.c1, this.c2, this.c3, this.c4⟩)
 have HB2d : Hid (Below w2.heap.size w2 w2.drew) := Lib.hid hb0
 have HZd : Hid (w2.heap.size ≤ w2.drew.heap.size) := Lib.hid hb0.size
 go_wp2_with fail
 have HNL := HN.out
 rw [HNN.out] at HNL
 have HRW : Hid (∀ {W : World} {g3 g4 g5 g6 g7 : Nat}, BL W (some ⟨g3, 0, none⟩) (byteL k 1) → BL W (some ⟨g4, 0, none⟩) (byteL s 2) → BL W (some ⟨g5, 0, none⟩) (byteL g 6) → BL W (some ⟨g6, 0, none⟩) (byteL i 1) → BL W (some ⟨g7, 0, none⟩) (byteL n 2) → BL W A D →
   RowsB W [.slice (some ⟨g3, 0, none⟩) 1 1, .slice (some ⟨g4, 0, none⟩) 2 2, .slice (some ⟨g5, 0, none⟩) 6 6, .slice (some ⟨g6, 0, none⟩) 1 1, .slice (some ⟨g7, 0, none⟩) 2 2, .slice A n c] [byteL k 1, byteL s 2, byteL g 6, byteL i 1, byteL n 2, D]) := Lib.hid (fun a b c d e f =>
  ⟨⟨_, _, by rw [byteL_len], a⟩, ⟨_, _, by rw [byteL_len], b⟩, ⟨_, _, by rw [byteL_len], c⟩, ⟨_, _, by rw [byteL_len], d⟩, ⟨_, _, by rw [byteL_len], e⟩, ⟨_, _, by rw [HNN.out], f⟩, trivial⟩)
 go_region_held (fun W => W.cell? ⟨H, 0, none⟩ = some (.int .i64 (k : Int)) ∧ W.cell? ⟨H, 1, none⟩ = some (.int .i64 (s : Int)) ∧ W.cell? ⟨H, 2, none⟩ = some (.int .i64 (g : Int)) ∧ W.cell? ⟨H, 3, none⟩ = some (.int .i64 (i : Int)) ∧ W.cell? ⟨H, 4, none⟩ = some (.slice A n c))
  (first | (with_reducible assumption) | (with_reducible exact HS.out _ hb0) | (with_reducible exact HS.out _ hbW) | (with_reducible exact HS.out _ (hbW.alloc hbW.size _)))
  (first
   | (go_at_call 107; (with_reducible refine (nbytesL k 1 1 rfl _ (by omega) HB2d.out HZd.out).mono ?_); rintro e w3 ⟨g3, rfl, k3, hbW, b3, z3⟩; (try dsimp only); have K3 := Lib.hid k3; have HB3 := Lib.hid hbW; have HZ3 := Lib.hid z3; clear k3 b3 z3)
   | (go_at_call 107; (with_reducible refine (nbytesL s 2 2 rfl _ (by omega) HB3.out HZ3.out).mono ?_); rintro e w4 ⟨g4, rfl, k4, hbV, b4, z4⟩; (try dsimp only); have K4 := Lib.hid k4; have HB4 := Lib.hid hbV; have K34 := Lib.hid (K3.out.below b4); have HZ4 := Lib.hid z4; clear k4 b4 z4 hbW; have hbW := hbV)
   | (go_at_call 107; (with_reducible refine (nbytesL g 6 6 rfl _ (by omega) HB4.out HZ4.out).mono ?_); rintro e w5 ⟨g5, rfl, k5, hbV, b5, z5⟩; (try dsimp only); have K5 := Lib.hid k5; have HB5 := Lib.hid hbV; have K35 := Lib.hid (K34.out.below b5); have K45 := Lib.hid (K4.out.below b5); have HZ5 := Lib.hid z5; clear k5 b5 z5 hbW; have hbW := hbV)
   | (go_at_call 107; (with_reducible refine (nbytesL i 1 1 rfl _ (by omega) HB5.out HZ5.out).mono ?_); rintro e w6 ⟨g6, rfl, k6, hbV, b6, z6⟩; (try dsimp only); have K6 := Lib.hid k6; have HB6 := Lib.hid hbV; have K36 := Lib.hid (K35.out.below b6); have K46 := Lib.hid (K45.out.below b6); have K56 := Lib.hid (K5.out.below b6); have HZ6 := Lib.hid z6; clear k6 b6 z6 hbW; have hbW := hbV)
   | (go_at_call 107; (with_reducible refine (nbytesL n 2 2 rfl _ (by omega) HB6.out HZ6.out).mono ?_); rintro e w7 ⟨g7, rfl, k7, hbV, b7, z7⟩; (try dsimp only); have K7 := Lib.hid k7; have HB7 := Lib.hid hbV; have K37 := Lib.hid (K36.out.below b7); have K47 := Lib.hid (K46.out.below b7); have K57 := Lib.hid (K56.out.below b7); have K67 := Lib.hid (K6.out.below b7); have HD7 := Lib.hid (HD2.out.below hbV); have HZ7 := Lib.hid z7; clear k7 b7 z7 hbW; have hbW := hbV)
   | (go_at_call 85; (with_reducible refine (mconcatL w7 [.slice (some ⟨g3, 0, none⟩) 1 1, .slice (some ⟨g4, 0, none⟩) 2 2, .slice (some ⟨g5, 0, none⟩) 6 6, .slice (some ⟨g6, 0, none⟩) 1 1, .slice (some ⟨g7, 0, none⟩) 2 2, .slice A n c] [byteL k 1, byteL s 2, byteL g 6, byteL i 1, byteL n 2, D] (HRW.out K37.out K47.out K57.out K67.out K7.out HD7.out) 6 rfl (by omega) T HT.out (by rw [HTL.out]; omega) (by rw [HTL.out]; omega)).mono ?_); rintro e w8 ⟨g8, c8, rfl, k8, b8, z8, _⟩; (try dsimp only); have K8 := Lib.hid k8; have HZ8 := Lib.hid z8; have hbV := hbW.trans (b8.mono hbW.size); have HB8 := Lib.hid hbV; clear k8 b8 z8 hbW; have hbW := hbV)
   | fail)
 go_wp2_with fail
 go_ret2
 exact ⟨g8, c8, rfl, K8.out, by rw [HH.out]; exact HB2.out.trans (HB8.out.mono HZ.out), HZ8.out⟩
end Go.Proofs.YtobkmohoepgfmaaGreatDoor
namespace Go.Proofs.YtobkmohoepgfmaaGreatDoor
open Go.RowKit Go.Sort
set_option maxRecDepth 100000
set_option maxHeartbeats 2000000

theorem clayReq_no (k s g i : Int) (A : Option Addr) (n c : Nat) (w : World) (h : ¬ OkQ k s g i n) :
  Calls Tryz.prog 73 #[rqv k s g i A n c] w fun e w' => e = .returned (.tuple #[.slice none 0 0, .int .i64 1]) ∧ Below w.heap.size w w' := by
 obtain ⟨w1, hw1⟩ : ∃ w1, w.alloc (.cells #[.int .i64 k, .int .i64 s, .int .i64 g, .int .i64 i, .slice A n c] 107) = w1 := ⟨_, rfl⟩
 have hb1 : Below w.heap.size w w1 := by rw [← hw1]; exact (Below.refl _ _).alloc (Nat.le_refl _) _
 have hq : QV w1 w.heap.size k s g i A n c := by rw [← hw1]; exact QV.of_new rfl
 have q0 := hq.c0
 have q1 := hq.c1
 have q2 := hq.c2
 have q3 := hq.c3
 have q4 := hq.c4
 have ql := hq.lt
 have HR := Lib.hid (crightReq k s g i A n c w1 false ⟨fun e => (by cases e), fun e => absurd e h⟩)
 have HW := Lib.hid hw1
 have HB1 := Lib.hid hb1
 clear hw1 hb1 h hq
 unfold rqv at HR ⊢
 go_enter Tryz.func73, Tryz.ntmps73
 go_wp2_with fail
 rw [HW.out]
 refine HR.out.mono ?_
 rintro e w2 ⟨rfl, hb2⟩
 try dsimp only
 go_wp2_with fail
 go_ret2
 exact ⟨rfl, HB1.out.trans (hb2.mono HB1.out.size)⟩

section
variable {w0 v v' : World} {H n c : Nat} {k s g i : Int} {A : Option Addr} {D : List Nat} {st st' : St}
end
end Go.Proofs.YtobkmohoepgfmaaGreatDoor
namespace Go.Proofs.YtobkmohoepgfmaaGreatDoor
open Go.RowKit Go.Sort
set_option maxRecDepth 100000
set_option maxHeartbeats 2000000

theorem Wp.tries_down {s s1 : Wp} {n k : Nat} {q : Rq} (h : s.leads n = (s1, false)) : s.tries (k + 1) n q = (s1, .err 4) := by rw [Wp.tries, h]
theorem Wp.tries_none {s s1 s2 : Wp} {n k : Nat} {q : Rq} (h : s.leads n = (s1, true)) (h2 : s1.send n q = (s2, none)) : s.tries (k + 1) n q = s2.tries k n q := by rw [Wp.tries, h]; dsimp only; rw [h2]
theorem Wp.tries_ok {s s1 s2 : Wp} {n k : Nat} {q : Rq} {y : Ns × Rp} (h : s.leads n = (s1, true)) (h2 : s1.send n q = (s2, some y)) (h3 : y.2.code = 0) : s.tries (k + 1) n q = (s2, .ok y) := by rw [Wp.tries, h]; dsimp only; rw [h2]; dsimp only; rw [if_pos h3]
theorem Wp.tries_no {s s1 s2 : Wp} {n k : Nat} {q : Rq} {y : Ns × Rp} (h : s.leads n = (s1, true)) (h2 : s1.send n q = (s2, some y)) (h3 : y.2.code ≠ 0) : s.tries (k + 1) n q = (s2, .err y.2.code) := by rw [Wp.tries, h]; dsimp only; rw [h2]; dsimp only; rw [if_neg h3]
def Wp.Bd (s : Wp) (m : Nat) : Prop := -1000000000 ≤ s.fuse ∧ s.fuse ≤ 1000000000 ∧ s.sent ≤ m
theorem Wp.Bd.leads {s : Wp} {m : Nat} (h : s.Bd m) (n : Nat) : (s.leads n).1.Bd m := by
 obtain ⟨h1, h2, h3⟩ := h
 unfold Wp.leads
 repeat' split
 ·exact ⟨h1, h2, h3⟩
 ·exact ⟨h1, h2, h3⟩
 ·exact ⟨by dsimp only; omega, by dsimp only; omega, h3⟩
 ·exact ⟨h1, h2, h3⟩
theorem Wp.Bd.send {s : Wp} {m : Nat} (h : s.Bd m) (n : Nat) (q : Rq) : (s.send n q).1.Bd (m + 1) := by
 obtain ⟨h1, h2, h3⟩ := h
 unfold Wp.send Wp.sendF
 repeat' split
 all_goals exact ⟨h1, h2, by show s.sent + 1 ≤ m + 1; omega⟩
theorem bl_of_datN {w : World} {A : Option Addr} {n : Nat} {D : Nat → Nat} (h : DatN w A n D) : BL w A ((List.range n).map D) :=
 BL.of h (by simp) (fun j hj => by
  rw [gt_of (by simpa using hj)]
  simp)
theorem wl_fail (n c : Int) (w : World) : Calls Tryz.prog 74 #[.int .i64 n, .int .i64 c] w fun e w' => ∃ b, e = .returned (.tuple #[rpv 0 0 (.slice none 0 0) (.slice none 0 0), onv b]) ∧ w.heap.size ≤ b ∧ Below w.heap.size w w' ∧ OnE w' b n c := by
 obtain ⟨H, hH⟩ : ∃ H, w.heap.size = H := ⟨_, rfl⟩
 obtain ⟨w1, hw1⟩ : ∃ w1, w.alloc (.cells #[.int .i64 0, .int .i64 0, .slice none 0 0, .slice none 0 0] 103) = w1 := ⟨_, rfl⟩
 have HW1 := Lib.hid hw1
 have HH := Lib.hid hH
 have r1 : RV w1 H 0 0 (.slice none 0 0) (.slice none 0 0) := by rw [← hw1]; exact RV.of_new hH
 have HB1 : Hid (Below w.heap.size w w1) := Lib.hid (by rw [← hw1]; exact (Below.refl _ _).alloc (Nat.le_refl _) _)
 have HR1 := Lib.hid r1
 clear hw1 hH r1
 go_enter Tryz.func74, Tryz.ntmps74
 go_upto_region 1 with fail
 rw [HW1.out, HH.out]
 go_wp2_with fail
 refine (we_atNode n c _).mono ?_
 rintro e w2 ⟨b, rfl, hb, hb2, ho⟩
 try dsimp only
 have r2 := HR1.out.below hb2
 have HR2 := Lib.hid r2
 have rf : ∀ k, w2.frozen? ⟨H, k, none⟩ = false := r2.f
 have x0 := r2.c0
 have x1 := r2.c1
 have x2 := r2.c2
 have x3 := r2.c3
 have HX := Lib.hid (And.intro hb (And.intro hb2 ho))
 clear r2 hb hb2 ho
 go_wp2_with fail
 refine bodyPost_ret (v := .tuple #[rpv 0 0 (.slice none 0 0) (.slice none 0 0), onv b]) ?_ rfl ?_
 ·rw [results_cell_tmp rfl]
  simp [(HR2.out.put4 (code' := 0) (boot' := 0) (u' := .slice none 0 0) (v' := .slice none 0 0)).load, Result.andThen, asAddr]
 obtain ⟨hb, hb2, ho⟩ := HX.out
 have hs : w.heap.size ≤ H := Nat.le_of_eq HH.out
 have hs1 := HB1.out.size
 have hH1 : H < w1.heap.size := HR1.out.lt
 refine ⟨b, rfl, by omega, HB1.out.trans (((((hb2.mono hs1).setCell hs _).setCell hs _).setCell hs _).setCell hs _), ?_⟩
 have e : b ≠ H := by omega
 exact (((ho.keep (set_other e _ _)).keep (set_other e _ _)).keep (set_other e _ _)).keep (set_other e _ _)
theorem layReqW {w : World} (q : Rq) (A : Option Addr) (c : Nat) (hd : DatN w A q.n q.D) (t : Bool) (ht : t = true ↔ OkQ q.k q.s q.g q.i q.n) :
  Calls Tryz.prog 73 #[rqv q.k q.s q.g q.i A q.n c] w fun e w' => (∃ B m c', e = .returned (.tuple #[.slice B m c', .int .i64 (if t = true then 0 else 1)])) ∧ Below w.heap.size w w' := by
 obtain ⟨k, s, g, i, n, D⟩ := q
 dsimp only at hd ht ⊢
 cases t with
 | true =>
  have hq := ht.1 rfl
  have h1 := hq
  unfold OkQ at h1
  obtain ⟨k, rfl⟩ := Int.eq_ofNat_of_zero_le (show 0 ≤ k by omega)
  obtain ⟨s, rfl⟩ := Int.eq_ofNat_of_zero_le (show 0 ≤ s by omega)
  obtain ⟨g, rfl⟩ := Int.eq_ofNat_of_zero_le (show 0 ≤ g by omega)
  obtain ⟨i, rfl⟩ := Int.eq_ofNat_of_zero_le (show 0 ≤ i by omega)
  have hl : ((List.range n).map D).length = n := by simp
  have := clayReq k s g i ((List.range n).map D) A c w (by rw [hl]; exact hq) (bl_of_datN hd)
  rw [hl] at this
  refine this.mono ?_
  rintro e w' ⟨gg, cap, rfl, _, hb, _⟩
  exact ⟨⟨_, _, _, by rw [if_pos rfl]⟩, hb⟩
 | false =>
  refine (clayReq_no k s g i A n c w (fun hq => by have := ht.2 hq; cases this)).mono ?_
  rintro e w' ⟨rfl, hb⟩
  exact ⟨⟨_, _, _, rfl⟩, hb⟩
def CallRet (w0 v : World) (g : Nat) (nd : ND) (n : Int) (x : Wp × Ans) (e : Ending) (w' : World) : Prop :=
 ∃ r u, e = .returned (.tuple #[r, u]) ∧ WL w0 w' g nd x.1 ∧ KeepW v w' ∧ ((∃ c : Nat, x.2 = .err c ∧ r = rpv 0 0 (.slice none 0 0) (.slice none 0 0) ∧ ∃ b, u = onv b ∧ v.heap.size ≤ b ∧ OnE w' b n (c : Int)) ∨ ∃ y, x.2 = .ok y ∧ u = .nilIface ∧ RepV w' v.heap.size y r)
def Wp.call (s : Wp) (n : Nat) (q : Rq) : Wp × Ans := s.tries 3 n q
theorem OnE.set4 {w : World} {b B : Nat} {n c : Int} (h : OnE w B n c) (e : B ≠ b) (x0 x1 x2 x3 : Value) : OnE (set4 w b x0 x1 x2 x3) B n c := (((h.keep (set_other e _ _)).keep (set_other e _ _)).keep (set_other e _ _)).keep (set_other e _ _)
theorem wl_call {w0 v : World} {g : Nat} {nd : ND} {s : Wp} (h : WL w0 v g nd s) {m : Nat} (ho : s.Ok m) (hbd : s.Bd m) (hm : m ≤ 999999980) {n : Nat} (hn : n < 8) (q : Rq) (A : Option Addr) (c : Nat) (hd : DatN v A q.n q.D) (hD : ∀ j, j < q.n → q.D j < 256) (hq : OkQ q.k q.s q.g q.i q.n) :
  Calls Tryz.prog 47 #[.pointer (some ⟨g, 0, none⟩), .int .i64 (n : Int), rqv q.k q.s q.g q.i A q.n c] v (CallRet w0 v g nd (n : Int) (s.call n q)) := by
 obtain ⟨H, hH⟩ : ∃ H, v.heap.size = H := ⟨_, rfl⟩
 have HH := Lib.hid hH
 obtain ⟨v1, hv1⟩ : ∃ v1, (v.alloc (.cells #[.int .i64 q.k, .int .i64 q.s, .int .i64 q.g, .int .i64 q.i, .slice A q.n c] 107)).alloc (.cells #[.int .i64 0, .int .i64 0, .slice none 0 0, .slice none 0 0] 103) = v1 := ⟨_, rfl⟩
 have HV1 := Lib.hid hv1
 have B1 : Below v.heap.size v v1 := by rw [← hv1]; exact ((Below.refl _ _).alloc (Nat.le_refl _) _).alloc (by simp) _
 have q1 : QV v1 H q.k q.s q.g q.i A q.n c := by rw [← hv1]; exact (QV.of_new hH).below ((Below.refl _ _).alloc (Nat.le_refl _) _)
 have r1 : RV v1 (H + 1) 0 0 (.slice none 0 0) (.slice none 0 0) := by rw [← hv1]; exact RV.of_new (by simp [hH])
 have y0 := q1.c0
 have y1 := q1.c1
 have y2 := q1.c2
 have y3 := q1.c3
 have y4 := q1.c4
 have HL := Lib.hid (layReqW q A c (hd.below B1) true ⟨fun _ => hq, fun _ => rfl⟩)
 unfold rqv at HL
 have HW1 := Lib.hid (h.below B1)
 have HK1 := Lib.hid (KeepW.of B1)
 have HD1 := Lib.hid (hd.below B1)
 have HDV := Lib.hid hd
 have HDB := Lib.hid hD
 have HQ1 := Lib.hid q1
 have HR1 := Lib.hid r1
 have HN : Hid (w0.heap.size ≤ H ∧ nd.B ≤ H) := Lib.hid (by rw [← hH]; exact ⟨h.blw.size, h.zB⟩)
 have HO := Lib.hid ho
 have HBD := Lib.hid hbd
 obtain ⟨xx, hxx⟩ : ∃ xx, s.call n q = xx := ⟨_, rfl⟩
 rw [hxx]
 have HX : Hid (s.tries 3 n q = xx) := Lib.hid hxx
 clear h hd hD ho hH hv1 B1 q1 r1 hbd hq hxx
 go_enter Tryz.func47, Tryz.ntmps47
 go_upto_region 1 with fail
 rw [HV1.out, HH.out]
 go_wp2_with fail
 refine HL.out.mono ?_
 rintro e w2 ⟨⟨B, mm, cc, rfl⟩, hb2⟩
 try dsimp only
 have W2 := HW1.out.below hb2
 have HW2 := Lib.hid W2
 have K2 := HK1.out.trans (KeepW.of hb2)
 have q2 := HQ1.out.below hb2
 have HQ2 := Lib.hid q2
 have HR2 := Lib.hid (HR1.out.below hb2)
 have HD2 := Lib.hid (HD1.out.below hb2)
 have HH2 := Lib.hid (wl_has W2 hn)
 have HK2 := Lib.hid K2
 clear W2 K2 q2 hb2 y0 y1 y2 y3 y4 HL
 go_wp2_with fail
 refine HH2.out.mono ?_
 rintro e w3 ⟨rfl, hw⟩
 obtain rfl := hw.symm
 go_wp2_with fail
 go_loopg [29] 3 (fun k s29 wr => ∃ (i : Nat) (s' : Wp), s29 = .int .i64 (i : Int) ∧ i ≤ 3 ∧ k = 3 - i ∧ Hid (WL w0 wr g nd s' ∧ KeepW w2 wr ∧ s'.Ok (m + i) ∧ s'.Bd (m + i) ∧ s'.tries (3 - i) n q = xx))
 case atStart => exact ⟨0, s, rfl, by omega, rfl, Lib.hid ⟨HW2.out, KeepW.refl _, HO.out, HBD.out, HX.out⟩⟩
 case round =>
  obtain ⟨i, s', rfl, hi, rfl, HS⟩ := hrel
  obtain ⟨wo, rfl⟩ : ∃ wo : World, wo = wr := ⟨wr, rfl⟩
  have HVo : Hid (KeepW v wo) := Lib.hid (HK2.out.trans HS.out.2.1)
  have HRo := Lib.hid (HS.out.2.1.rv HR2.out)
  have HQo := Lib.hid (HS.out.2.1.qv HQ2.out)
  have HHo : Hid (v.heap.size = H) := HH
  by_cases h3 : i < 3
  ·have h3' : (i : Int) < 3 := by omega
   obtain ⟨j, hj⟩ : ∃ j, 3 - i = j + 1 := ⟨2 - i, by omega⟩
   have HXX : Hid (s'.tries (j + 1) n q = xx) := Lib.hid (by rw [← hj]; exact HS.out.2.2.2.2)
   have HLD := Lib.hid (wl_leads HS.out.1 hn HS.out.2.2.2.1.2.1 HS.out.2.2.2.1.1)
   obtain ⟨s1, b, hl⟩ : ∃ s1 b, s'.leads n = (s1, b) := ⟨_, _, rfl⟩
   have ho1 : s1.Ok (m + i) := by have := HS.out.2.2.1.congr (s'.leads_N n); rw [hl] at this; exact this
   have hb1 : s1.Bd (m + i) := by have := HS.out.2.2.2.1.leads n; rw [hl] at this; exact this
   rw [hl] at HLD
   dsimp only at HLD
   have HLL := Lib.hid hl
   have HOB := Lib.hid (And.intro ho1 hb1)
   clear hl ho1 hb1
   go_wp2_with fail
   refine HLD.out.mono ?_
   rintro e w4 ⟨rfl, W4, K4⟩
   try dsimp only
   have HW4 := Lib.hid W4
   have HK4 := Lib.hid (HVo.out.trans K4)
   have HKo4 := Lib.hid K4
   have HR4 := Lib.hid (K4.rv HRo.out)
   have q4 := K4.qv HQo.out
   have HQ4 := Lib.hid q4
   clear W4 K4
   cases b with
   | false =>
    have HY : Hid (xx = (s1, .err 4)) := Lib.hid (HXX.out.symm.trans (Wp.tries_down HLL.out))
    go_wp2_with fail
    refine (wl_fail (n : Int) 4 _).mono ?_
    rintro e w5 ⟨b, rfl, hb, hb5, ho5⟩
    try dsimp only
    have r5 := HR4.out.below hb5
    have HR5 := Lib.hid r5
    have rf : ∀ k, w5.frozen? ⟨H + 1, k, none⟩ = false := r5.f
    have x0 := r5.c0
    have x1 := r5.c1
    have x2 := r5.c2
    have x3 := r5.c3
    have HZ := Lib.hid (And.intro (HW4.out.below hb5) (And.intro (HK4.out.trans (KeepW.of hb5)) (And.intro hb ho5)))
    clear r5 hb5 hb ho5
    go_wp2_with fail
    refine bodyPost_ret (v := .tuple #[rpv 0 0 (.slice none 0 0) (.slice none 0 0), onv b]) ?_ rfl ?_
    ·rw [results_cell_tmp rfl]
     simp [(HR5.out.put4 (code' := 0) (boot' := 0) (u' := .slice none 0 0) (v' := .slice none 0 0)).load, Result.andThen, asAddr]
    obtain ⟨z1, z2, z3, z4⟩ := HZ.out
    have hlt := HR4.out.lt
    rw [HY.out]
    exact ⟨_, _, rfl, z1.set4 HR5.out (by have := HN.out; omega) _ _ _ _, z2.set4 (by have := HHo.out; omega) _ _ _ _, Or.inl ⟨4, rfl, rfl, b, rfl, by have := HHo.out; omega, z4.set4 (by omega) _ _ _ _⟩⟩
   | true =>
    have HSD := Lib.hid (wl_send HW4.out HOB.out.1 (by omega) hn (Nat.le_trans HOB.out.2.2.2 (by omega)) q A c (HK4.out.b.datN HDV.out) HDB.out)
    unfold rqv at HSD
    obtain ⟨s2, o, hsd⟩ : ∃ s2 o, s1.send n q = (s2, o) := ⟨_, _, rfl⟩
    have ho2 : s2.Ok (m + (i + 1)) := by have := HOB.out.1.send (q := q) hn HDB.out; rw [hsd] at this; exact this
    have hb2 : s2.Bd (m + (i + 1)) := by have := HOB.out.2.send n q; rw [hsd] at this; exact this
    rw [hsd] at HSD
    have HSS := Lib.hid hsd
    have HOB2 := Lib.hid (And.intro ho2 hb2)
    have y0 := q4.c0
    have y1 := q4.c1
    have y2 := q4.c2
    have y3 := q4.c3
    have y4 := q4.c4
    clear hsd ho2 hb2 HLD q4
    go_wp2_with fail
    refine HSD.out.mono ?_
    rintro e w5 ⟨r, b, rfl, W5, K5, hx⟩
    try dsimp only at W5 hx ⊢
    have HW5 := Lib.hid W5
    have HK5 := Lib.hid (HK4.out.trans K5)
    have HKo := Lib.hid K5
    have HR5 := Lib.hid (K5.rv HR4.out)
    have HS4 : Hid (v.heap.size ≤ w4.heap.size) := Lib.hid HK4.out.1
    clear W5 K5 y0 y1 y2 y3 y4 HSD
    rcases hx with ⟨rfl, rfl, rfl⟩ | ⟨y, rfl, rfl, hp⟩
    ·have HY : Hid (s2.tries j n q = xx) := Lib.hid (by rw [← HXX.out, Wp.tries_none HLL.out HSS.out])
     go_wp2_with fail
     go_roundg j
     case measure => omega
     case rel =>
      refine ⟨i + 1, s2, by go_num, by omega, by omega, Lib.hid ⟨HW5.out.below ?_, ?_, HOB2.out.1, HOB2.out.2, by rw [show 3 - (i + 1) = j by omega]; exact HY.out⟩⟩
      ·exact (Below.refl _ _).alloc (Nat.le_refl _) _
      ·exact (HS.out.2.1.trans (HKo4.out.trans HKo.out)).trans (KeepW.of ((Below.refl _ _).alloc (Nat.le_refl _) _))
    ·obtain ⟨A1, c1, A2, c2, rfl, hp'⟩ := hp
     have hp : RepV w5 w4.heap.size y (rpv (y.2.code : Int) (y.1.boot : Int) (.slice A1 y.2.ps.length c1) (.slice A2 y.2.its.length c2)) := ⟨A1, c1, A2, c2, rfl, hp'⟩
     clear hp'
     obtain ⟨P, hP⟩ : ∃ P, w5.heap.size = P := ⟨_, rfl⟩
     have HP := Lib.hid hP
     obtain ⟨k0, hk0⟩ : ∃ k0 : Nat, y.2.code = k0 := ⟨_, rfl⟩
     obtain ⟨k1, hk1⟩ : ∃ k1 : Nat, y.1.boot = k1 := ⟨_, rfl⟩
     obtain ⟨l0, hl0⟩ : ∃ l0, y.2.ps.length = l0 := ⟨_, rfl⟩
     obtain ⟨l1, hl1⟩ : ∃ l1, y.2.its.length = l1 := ⟨_, rfl⟩
     rw [hk0, hk1, hl0, hl1] at hp
     rw [hk0, hk1, hl0, hl1]
     have HYK : Hid (y.2.code = k0) := Lib.hid hk0
     obtain ⟨w6, hw6⟩ : ∃ w6, w5.alloc (.cells #[.int .i64 (k0 : Int), .int .i64 (k1 : Int), .slice A1 l0 c1, .slice A2 l1 c2] 103) = w6 := ⟨_, rfl⟩
     have B6 : Below w5.heap.size w5 w6 := by rw [← hw6]; exact (Below.refl _ _).alloc (Nat.le_refl _) _
     have p6 : RV w6 P (k0 : Int) (k1 : Int) (.slice A1 l0 c1) (.slice A2 l1 c2) := by rw [← hw6]; exact RV.of_new hP
     have r6 := HR5.out.below B6
     have HP6 := Lib.hid (hp.keep (KeepB.of B6))
     have HW6 := Lib.hid (HW5.out.below B6)
     have HK6 := Lib.hid (HK5.out.trans (KeepW.of B6))
     have HR6 := Lib.hid r6
     have HV6 := Lib.hid hw6
     have x0 := r6.c0
     have x1 := r6.c1
     have x2 := r6.c2
     have x3 := r6.c3
     have rf : ∀ k, w6.frozen? ⟨H + 1, k, none⟩ = false := r6.f
     have u0 := p6.c0
     have u1 := p6.c1
     have u2 := p6.c2
     have u3 := p6.c3
     have hne : ¬ P = H + 1 := by have := HR5.out.lt; omega
     have hlt := HR4.out.lt
     clear hP hk0 hk1 hl0 hl1 hp hw6 B6 p6 r6
     go_upto_region 10 with fail
     rw [HV6.out, HP.out]
     by_cases h0 : k0 = 0
     ·subst h0
      have HY : Hid (xx = (s2, .ok y)) := Lib.hid (HXX.out.symm.trans (Wp.tries_ok HLL.out HSS.out HYK.out))
      go_wp2_with fail
      refine bodyPost_ret (v := .tuple #[rpv 0 (k1 : Int) (.slice A1 l0 c1) (.slice A2 l1 c2), .nilIface]) ?_ rfl ?_
      ·rw [results_cell_tmp rfl]
       simp [(HR6.out.put4 (code' := 0) (boot' := (k1 : Int)) (u' := .slice A1 l0 c1) (v' := .slice A2 l1 c2)).load, Result.andThen, asAddr]
      rw [HY.out]
      exact ⟨_, _, rfl, HW6.out.set4 HR6.out (by have := HN.out; omega) _ _ _ _, HK6.out.set4 (by have := HHo.out; omega) _ _ _ _, Or.inr ⟨y, rfl, rfl, (HP6.out.set4 HR6.out _ _ _ _).mono HS4.out⟩⟩
     ·have hk : ((k0 : Int) != 0) = true := by simp [h0]
      have HY : Hid (xx = (s2, .err k0)) := Lib.hid (by rw [← HYK.out]; exact HXX.out.symm.trans (Wp.tries_no HLL.out HSS.out (by rw [HYK.out]; exact h0)))
      clear h0
      go_wp2_with fail
      refine (wl_fail (n : Int) (k0 : Int) _).mono ?_
      rintro e w7 ⟨b, rfl, hb, hb7, ho7⟩
      try dsimp only
      have r7 := HR6.out.below hb7
      have HR7 := Lib.hid r7
      have hlt6 := HR6.out.lt
      have HZ := Lib.hid (And.intro (HW6.out.below hb7) (And.intro (HK6.out.trans (KeepW.of hb7)) (And.intro hb ho7)))
      clear x0 x1 x2 x3 rf u0 u1 u2 u3
      have rf : ∀ k, w7.frozen? ⟨H + 1, k, none⟩ = false := r7.f
      have x0 := r7.c0
      have x1 := r7.c1
      have x2 := r7.c2
      have x3 := r7.c3
      have HHL : Hid (H + 1 < w6.heap.size) := Lib.hid hlt6
      clear r7 hb7 hb ho7
      go_wp2_with fail
      refine bodyPost_ret (v := .tuple #[rpv 0 0 (.slice none 0 0) (.slice none 0 0), onv b]) ?_ rfl ?_
      ·rw [results_cell_tmp rfl]
       simp [(HR7.out.put4 (code' := 0) (boot' := 0) (u' := .slice none 0 0) (v' := .slice none 0 0)).load, Result.andThen, asAddr]
      obtain ⟨z1, z2, z3, z4⟩ := HZ.out
      rw [HY.out]
      exact ⟨_, _, rfl, z1.set4 HR7.out (by have := HN.out; omega) _ _ _ _, z2.set4 (by have := HHo.out; omega) _ _ _ _, Or.inl ⟨k0, rfl, rfl, b, rfl, by have := HHo.out; omega, z4.set4 (by omega) _ _ _ _⟩⟩
  ·obtain rfl : i = 3 := by omega
   have HY : Hid (xx = (s', .err 5)) := Lib.hid HS.out.2.2.2.2.symm
   go_wp2_with fail
   refine (wl_fail (n : Int) 5 _).mono ?_
   rintro e w5 ⟨b, rfl, hb, hb5, ho5⟩
   try dsimp only
   have r5 := HRo.out.below hb5
   have HR5 := Lib.hid r5
   have rf : ∀ k, w5.frozen? ⟨H + 1, k, none⟩ = false := r5.f
   have x0 := r5.c0
   have x1 := r5.c1
   have x2 := r5.c2
   have x3 := r5.c3
   have HZ := Lib.hid (And.intro (HS.out.1.below hb5) (And.intro (HVo.out.trans (KeepW.of hb5)) (And.intro hb ho5)))
   clear r5 hb5 hb ho5
   go_wp2_with fail
   refine bodyPost_ret (v := .tuple #[rpv 0 0 (.slice none 0 0) (.slice none 0 0), onv b]) ?_ rfl ?_
   ·rw [results_cell_tmp rfl]
    simp [(HR5.out.put4 (code' := 0) (boot' := 0) (u' := .slice none 0 0) (v' := .slice none 0 0)).load, Result.andThen, asAddr]
   obtain ⟨z1, z2, z3, z4⟩ := HZ.out
   have hlt := HRo.out.lt
   rw [HY.out]
   exact ⟨_, _, rfl, z1.set4 HR5.out (by have := HN.out; omega) _ _ _ _, z2.set4 (by have := HHo.out; omega) _ _ _ _, Or.inl ⟨5, rfl, rfl, b, rfl, by have := HHo.out; omega, z4.set4 (by omega) _ _ _ _⟩⟩
end Go.Proofs.YtobkmohoepgfmaaGreatDoor
