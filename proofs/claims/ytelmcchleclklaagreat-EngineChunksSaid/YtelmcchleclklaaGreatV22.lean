import Derived.Test.YtelmcchleclklaaGreatV20
import Derived.Test.YtelmcchleclklaaGreatV21
import Derived.Test.YtelmcchleclklaaGreatV03
import Derived.Deep.RegionHeld
namespace Go.Proofs.YtelmcchleclklaaGreat
open Go.RowKit Go.Sort
set_option maxRecDepth 100000
set_option maxHeartbeats 1000000

def BL (w : World) (A : Option Addr) (L : List Nat) : Prop := DatN w A L.length (gt L)
theorem BL.rd {w : World} {A : Option Addr} {L : List Nat} (h : BL w A L) : Rd w A L.length (gt L) := DatN.rd h
theorem BL.below {w w' : World} {A : Option Addr} {L : List Nat} (h : BL w A L) (b : Below w.heap.size w w') : BL w' A L := DatN.below h b
theorem BL.of {w : World} {A : Option Addr} {n : Nat} {F : Nat → Nat} {L : List Nat} (h : DatN w A n F) (hn : L.length = n) (hF : ∀ j, j < n → F j = gt L j) : BL w A L := by
 subst hn
 rcases h with h | ⟨g, o, cs, h1, h2, h3⟩
 ·exact Or.inl h
 ·exact Or.inr ⟨g, o, cs, h1, h2, fun j hj => by rw [← hF j hj]; exact h3 j hj⟩
theorem BL.blk {w : World} {g : Nat} {n : Nat} {F : Nat → Nat} {L : List Nat} (h : Blk8 w g n F) (hn : L.length = n) (hF : ∀ j, j < n → F j = gt L j) : BL w (some ⟨g, 0, none⟩) L := BL.of (DatN.blk h) hn hF
section
variable {w w' : World} {r n c : Nat} {t : Bool} {A : Option Addr}
end
end Go.Proofs.YtelmcchleclklaaGreat
namespace Go.Proofs.YtelmcchleclklaaGreat
open Go.RowKit Go.Sort
set_option maxRecDepth 100000
set_option maxHeartbeats 1000000

theorem cwithin (n a b : Int) (t : Bool) (ht : t = true ↔ a ≤ n ∧ n ≤ b) (w : World) :
  Calls Tryz.prog 210 #[.int .i64 n, .int .i64 a, .int .i64 b] w fun e w' => e = .returned (.bool t) ∧ w' = w := by
 by_cases h1 : a ≤ n
 ·have e2 : decide (n ≤ b) = t := by
   cases t with
   | true => exact decide_eq_true (ht.1 rfl).2
   | false => refine decide_eq_false (fun h => ?_); have := ht.2 ⟨h1, h⟩; cases this
  clear ht
  go_enter Tryz.func210, Tryz.ntmps210
  go_wp2_with fail
  go_ret
  exact ⟨rfl, rfl⟩
 ·obtain rfl : t = false := not_true ht (fun h => h1 h.1)
  clear ht
  go_enter Tryz.func210, Tryz.ntmps210
  go_wp2_with fail
  go_ret
  exact ⟨rfl, rfl⟩
def OkQ (k s g i : Int) (n : Nat) : Prop := 1 ≤ k ∧ k ≤ 6 ∧ 0 ≤ s ∧ s ≤ 65535 ∧ 0 ≤ g ∧ g ≤ 1099511627776 ∧ 0 ≤ i ∧ i ≤ 255 ∧ n ≤ 128
theorem crightReq (k s g i : Int) (A : Option Addr) (n c : Nat) (w : World) (t : Bool) (ht : t = true ↔ OkQ k s g i n) :
  Calls Tryz.prog 193 #[rqv k s g i A n c] w fun e w' => e = .returned (.bool t) ∧ Below w.heap.size w w' := by
 obtain ⟨w1, hw1⟩ : ∃ w1, w.alloc (.cells #[.int .i64 k, .int .i64 s, .int .i64 g, .int .i64 i, .slice A n c] 50) = w1 := ⟨_, rfl⟩
 obtain ⟨H, hH⟩ : ∃ H, w.heap.size = H := ⟨_, rfl⟩
 have HW1 := Lib.hid hw1
 have HH := Lib.hid hH
 have hq : QV w1 H k s g i A n c := by rw [← hw1]; exact QV.of_new hH
 have HB1 : Hid (Below H w w1) := Lib.hid (by rw [← hw1, ← hH]; exact (Below.refl _ _).alloc (Nat.le_refl _) _)
 have q0 := hq.c0
 have q1 := hq.c1
 have q2 := hq.c2
 have q3 := hq.c3
 have q4 := hq.c4
 obtain ⟨t1, h1⟩ : ∃ t1 : Bool, t1 = true ↔ 1 ≤ k ∧ k ≤ 6 := ⟨decide (1 ≤ k ∧ k ≤ 6), by simp⟩
 obtain ⟨t2, h2⟩ : ∃ t2 : Bool, t2 = true ↔ 0 ≤ s ∧ s ≤ 65535 := ⟨decide (0 ≤ s ∧ s ≤ 65535), by simp⟩
 obtain ⟨t3, h3⟩ : ∃ t3 : Bool, t3 = true ↔ 0 ≤ g ∧ g ≤ 1099511627776 := ⟨decide (0 ≤ g ∧ g ≤ 1099511627776), by simp⟩
 obtain ⟨t4, h4⟩ : ∃ t4 : Bool, t4 = true ↔ 0 ≤ i ∧ i ≤ 255 := ⟨decide (0 ≤ i ∧ i ≤ 255), by simp⟩
 obtain ⟨t5, h5⟩ : ∃ t5 : Bool, decide ((n : Int) ≤ 128) = t5 := ⟨_, rfl⟩
 have hT : t = (t1 && t2 && t3 && t4 && t5) := by
  rw [Bool.eq_iff_iff, ht]
  unfold OkQ
  simp only [Bool.and_eq_true, h1, h2, h3, h4, ← h5, decide_eq_true_eq]
  omega
 have HC1 := Lib.hid (fun W => cwithin k 1 6 t1 h1 W)
 have HC2 := Lib.hid (fun W => cwithin s 0 65535 t2 h2 W)
 have HC3 := Lib.hid (fun W => cwithin g 0 1099511627776 t3 h3 W)
 have HC4 := Lib.hid (fun W => cwithin i 0 255 t4 h4 W)
 clear h1 h2 h3 h4 ht hw1 hH hq
 unfold rqv
 cases t1 with
 | false =>
  simp only [Bool.false_and] at hT
  subst hT
  go_enter Tryz.func193, Tryz.ntmps193
  go_wp2_with fail
  rw [HW1.out, HH.out]
  refine (HC1.out _).mono ?_
  rintro e w2 ⟨rfl, hw⟩
  obtain rfl := hw.symm
  try dsimp only
  go_wp2_with fail
  go_ret
  exact ⟨rfl, by rw [HH.out]; exact HB1.out⟩
 | true =>
  cases t2 with
  | false =>
   simp only [Bool.false_and, Bool.and_false] at hT
   subst hT
   go_enter Tryz.func193, Tryz.ntmps193
   go_wp2_with fail
   rw [HW1.out, HH.out]
   refine (HC1.out _).mono ?_
   rintro e w2 ⟨rfl, hw⟩
   obtain rfl := hw.symm
   try dsimp only
   go_wp2_with fail
   refine (HC2.out _).mono ?_
   rintro e w2 ⟨rfl, hw⟩
   obtain rfl := hw.symm
   try dsimp only
   go_wp2_with fail
   go_ret
   exact ⟨rfl, by rw [HH.out]; exact HB1.out⟩
  | true =>
   cases t3 with
   | false =>
    simp only [Bool.false_and, Bool.and_false] at hT
    subst hT
    go_enter Tryz.func193, Tryz.ntmps193
    go_wp2_with fail
    rw [HW1.out, HH.out]
    refine (HC1.out _).mono ?_
    rintro e w2 ⟨rfl, hw⟩
    obtain rfl := hw.symm
    try dsimp only
    go_wp2_with fail
    refine (HC2.out _).mono ?_
    rintro e w2 ⟨rfl, hw⟩
    obtain rfl := hw.symm
    try dsimp only
    go_wp2_with fail
    refine (HC3.out _).mono ?_
    rintro e w2 ⟨rfl, hw⟩
    obtain rfl := hw.symm
    try dsimp only
    go_wp2_with fail
    go_ret
    exact ⟨rfl, by rw [HH.out]; exact HB1.out⟩
   | true =>
    simp only [Bool.true_and] at hT
    have HT := Lib.hid hT
    clear hT
    go_enter Tryz.func193, Tryz.ntmps193
    go_wp2_with fail
    rw [HW1.out, HH.out]
    refine (HC1.out _).mono ?_
    rintro e w2 ⟨rfl, hw⟩
    obtain rfl := hw.symm
    try dsimp only
    go_wp2_with fail
    refine (HC2.out _).mono ?_
    rintro e w2 ⟨rfl, hw⟩
    obtain rfl := hw.symm
    try dsimp only
    go_wp2_with fail
    refine (HC3.out _).mono ?_
    rintro e w2 ⟨rfl, hw⟩
    obtain rfl := hw.symm
    try dsimp only
    go_wp2_with fail
    refine (HC4.out _).mono ?_
    rintro e w2 ⟨rfl, hw⟩
    obtain rfl := hw.symm
    try dsimp only
    cases t4 with
    | false =>
     go_wp2_with fail
     go_ret
     exact ⟨by rw [HT.out]; rfl, by rw [HH.out]; exact HB1.out⟩
    | true =>
     go_wp2_with fail
     go_ret
     exact ⟨by rw [HT.out]; rfl, by rw [HH.out]; exact HB1.out⟩
end Go.Proofs.YtelmcchleclklaaGreat
namespace Go.Proofs.YtelmcchleclklaaGreat
open Go.RowKit Go.Sort
set_option maxRecDepth 100000
set_option maxHeartbeats 2000000

theorem take_succ_flat (Ls : List (List Nat)) (k : Nat) (L : List Nat) (h : Ls[k]? = some L) : (Ls.take (k + 1)).flatten = (Ls.take k).flatten ++ L := by
 rw [List.take_add_one, h]
 simp
theorem tot_take (Ls : List (List Nat)) : ∀ k, k ≤ Ls.length → tot (fun k => (Ls.getD k []).length) k = (Ls.take k).flatten.length
 | 0, _ => rfl
 | k + 1, h => by
  have e : Ls[k]? = some (Ls.getD k []) := by
   rw [List.getD_eq_getElem?_getD, List.getElem?_eq_getElem (by omega)]; rfl
  rw [tot_succ, tot_take Ls k (by omega), take_succ_flat Ls k _ e, List.length_append]
theorem gt_flat (Ls : List (List Nat)) (k j : Nat) (hk : k < Ls.length) (hj : j < (Ls.getD k []).length) : gt Ls.flatten (tot (fun k => (Ls.getD k []).length) k + j) = gt (Ls.getD k []) j := by
 have e : Ls[k]? = some (Ls.getD k []) := by
  rw [List.getD_eq_getElem?_getD, List.getElem?_eq_getElem (by omega)]; rfl
 have e2 : Ls.flatten = (Ls.take k).flatten ++ (Ls.getD k [] ++ (Ls.drop (k + 1)).flatten) := by
  conv => lhs; rw [← List.take_append_drop (k + 1) Ls]
  rw [List.flatten_append, take_succ_flat Ls k _ e, List.append_assoc]
 rw [tot_take Ls k (by omega), e2, gt_app, if_neg (by omega), gt_app, if_pos (by omega)]
 congr 1
 omega
def CatRet (L : List Nat) (w : World) (e : Ending) (w' : World) : Prop := ∃ g cap, e = .returned (.slice (some ⟨g, 0, none⟩) L.length cap) ∧ Blk8 w' g L.length (gt L) ∧ Below w.heap.size w w' ∧ L.length ≤ cap ∧ w.heap.size ≤ g
def RowsB (w : World) : List Value → List (List Nat) → Prop
 | [], [] => True
 | v :: vs, L :: Ls => (∃ (A : Option Addr) (c : Nat), v = Value.slice A L.length c ∧ BL w A L) ∧ RowsB w vs Ls
 | _, _ => False
theorem RowsB.get {w : World} : ∀ {cs : List Value} {Ls : List (List Nat)}, RowsB w cs Ls → ∀ (k : Nat) (L : List Nat), Ls[k]? = some L → ∃ (A : Option Addr) (c : Nat), cs[k]? = some (Value.slice A L.length c) ∧ BL w A L
 | [], [], _, k, L, e => by simp at e
 | v :: vs, M :: Ls, h, 0, L, e => by
  obtain ⟨⟨A, c, rfl, hb⟩, _⟩ := h
  simp only [List.getElem?_cons_zero, Option.some.injEq] at e
  subst e
  exact ⟨A, c, rfl, hb⟩
 | v :: vs, M :: Ls, h, k + 1, L, e => by
  rw [List.getElem?_cons_succ] at e ⊢
  exact RowsB.get h.2 k L e
 | [], M :: Ls, h, _, _, _ => h.elim
 | v :: vs, [], h, _, _, _ => h.elim
theorem mconcatL (w : World) (cs : List Value) (Ls : List (List Nat)) (hr : RowsB w cs Ls) (K : Nat) (hK : K = Ls.length) (hK2 : K ≤ 1000) (T : List Nat) (hT : T = Ls.flatten) (h1 : 1 ≤ T.length) (h2 : T.length ≤ 1000000) :
  Calls Tryz.prog 118 #[.slice (some ⟨w.heap.size, 0, none⟩) K K] (w.alloc (.cells cs.toArray 33)) (CatRet T w) := by
 have h : ∀ (k : Nat) (L : List Nat), Ls[k]? = some L → ∃ (A : Option Addr) (c : Nat), cs.toArray[k]? = some (Value.slice A L.length c) ∧ BL w A L := fun k L e => by
  rw [List.getElem?_toArray]
  exact hr.get k L e
 obtain ⟨cs, rfl⟩ : ∃ x : Array Value, x.toList = cs := ⟨cs.toArray, rfl⟩
 rw [show cs.toList.toArray = cs from rfl] at h ⊢
 subst hT
 subst hK
 have hk := alloc_block w (.cells cs 33)
 have hb : Below w.heap.size w (w.alloc (.cells cs 33)) := (Below.refl _ _).alloc (Nat.le_refl _) _
 have hget : ∀ k, k < Ls.length → Ls[k]? = some (Ls.getD k []) := fun k hk => by rw [List.getD_eq_getElem?_getD, List.getElem?_eq_getElem hk]; rfl
 have hA : ∃ (A : Nat → Option Addr) (C : Nat → Nat), ∀ k, k < Ls.length → cs[k]? = some (.slice (A k) (Ls.getD k []).length (C k)) ∧ BL w (A k) (Ls.getD k []) := by
  refine ⟨fun k => if hk : k < Ls.length then (h k _ (hget k hk)).choose else none, fun k => if hk : k < Ls.length then (h k _ (hget k hk)).choose_spec.choose else 0, fun k hk => ?_⟩
  simp only [dif_pos hk]
  exact (h k _ (hget k hk)).choose_spec.choose_spec
 obtain ⟨A, C, hAC⟩ := hA
 have ht := tot_take Ls Ls.length (Nat.le_refl _)
 rw [List.take_length] at ht
 have := mconcatK w.heap.size Ls.length Ls.length A (fun k => (Ls.getD k []).length) C (fun k => gt (Ls.getD k [])) (gt Ls.flatten) (w.alloc (.cells cs 33)) (by simp) (fun k hk' => (cell_of_block hk).trans (hAC k hk').1) (fun k hk' => ((hAC k hk').2.below hb).rd) (fun k j hk' hj => gt_flat Ls k j hk' hj) hK2 (by rw [ht]; exact h1) (by rw [ht]; exact h2)
 refine this.mono ?_
 rintro e w' ⟨g, cap, rfl, ho, hb2, hg, _, hc⟩
 rw [ht] at ho hc ⊢
 exact ⟨g, cap, rfl, own_blk ho, hb.trans (hb2.mono hb.size), hc, Nat.le_trans hb.size hg⟩
def LRet (L : List Nat) (w : World) (e : Ending) (w' : World) : Prop := ∃ g cap, e = .returned (.tuple #[.slice (some ⟨g, 0, none⟩) L.length cap, .int .i64 0]) ∧ Blk8 w' g L.length (gt L) ∧ Below w.heap.size w w' ∧ L.length ≤ cap
theorem BL.num {w : World} {g x m : Nat} (h : Blk8 w g m (byteAt x m)) : BL w (some ⟨g, 0, none⟩) (byteL x m) := BL.blk h (byteL_len x m) (fun _ hj => (gt_byteL hj).symm)
theorem nbytesL {B : Nat} {w0 : World} (x m : Nat) (s : Int) (hs : s = (m : Int)) (w : World) (hm : m ≤ 7) (hB : Below B w0 w) (hl : B ≤ w.heap.size) :
  Calls Tryz.prog 119 #[.int .i64 (x : Int), .int .i64 s] w fun e w' => ∃ g, e = .returned (.slice (some ⟨g, 0, none⟩) m m) ∧ BL w' (some ⟨g, 0, none⟩) (byteL x m) ∧ Below B w0 w' ∧ Below w.heap.size w w' ∧ B ≤ w'.heap.size :=
 (nbytesB x m s hs w hm hB hl).mono (by
  rintro e w' ⟨g, rfl, k, b1, b2, _, l⟩
  exact ⟨g, rfl, BL.num k, b1, b2, l⟩)
theorem clayReq (k s g i : Nat) (D : List Nat) (A : Option Addr) (c : Nat) (w : World) (hq : OkQ k s g i D.length) (h : BL w A D) :
  Calls Tryz.prog 157 #[rqv (k : Int) (s : Int) (g : Int) (i : Int) A D.length c] w (LRet (byteL k 1 ++ (byteL s 2 ++ (byteL g 6 ++ (byteL i 1 ++ (byteL D.length 2 ++ D))))) w) := by
 obtain ⟨w1, hw1⟩ : ∃ w1, w.alloc (.cells #[.int .i64 (k : Int), .int .i64 (s : Int), .int .i64 (g : Int), .int .i64 (i : Int), .slice A D.length c] 50) = w1 := ⟨_, rfl⟩
 obtain ⟨H, hH⟩ : ∃ H, w.heap.size = H := ⟨_, rfl⟩
 have HW1 := Lib.hid hw1
 have HH := Lib.hid hH
 have hv : QV w1 H (k : Int) (s : Int) (g : Int) (i : Int) A D.length c := by rw [← hw1]; exact QV.of_new hH
 have hb1 : Below H w w1 := by rw [← hw1, ← hH]; exact (Below.refl _ _).alloc (Nat.le_refl _) _
 have HB1 := Lib.hid hb1
 have HR := Lib.hid (crightReq (k : Int) (s : Int) (g : Int) (i : Int) A D.length c w1 true ⟨fun _ => hq, fun _ => rfl⟩)
 have HQ := Lib.hid hv
 have HD := Lib.hid (h.below (by rw [hH]; exact hb1))
 have HN : Hid (D.length ≤ 128) := Lib.hid hq.2.2.2.2.2.2.2.2
 have q0 := hv.c0
 have q1 := hv.c1
 have q2 := hv.c2
 have q3 := hv.c3
 have q4 := hv.c4
 have ql := hv.lt
 clear hw1 hH hb1 hv h hq
 unfold rqv at HR ⊢
 obtain ⟨n, hn⟩ : ∃ n, D.length = n := ⟨_, rfl⟩
 have HNN := Lib.hid hn
 rw [hn] at HR q4 HQ HW1 ⊢
 clear hn
 obtain ⟨T, hT⟩ : ∃ T, byteL k 1 ++ (byteL s 2 ++ (byteL g 6 ++ (byteL i 1 ++ (byteL n 2 ++ D)))) = T := ⟨_, rfl⟩
 have HT : Hid (T = [byteL k 1, byteL s 2, byteL g 6, byteL i 1, byteL n 2, D].flatten) := Lib.hid (by rw [← hT]; simp)
 have HTL : Hid (T.length = 12 + n) := Lib.hid (by rw [← hT]; simp only [List.length_append, byteL_len, HNN.out]; omega)
 rw [hT]
 clear hT
 go_enter Tryz.func157, Tryz.ntmps157
 go_wp2_with fail
 rw [HW1.out, HH.out]
 refine HR.out.mono ?_
 rintro e w2 ⟨rfl, hb2⟩
 try dsimp only
 have HQ2 := Lib.hid (HQ.out.below hb2)
 have HD2 := Lib.hid (HD.out.below hb2)
 have HB2 : Hid (Below H w w2) := Lib.hid (HB1.out.trans (hb2.mono (Nat.le_of_lt ql)))
 clear hb2 q0 q1 q2 q3 q4 ql
 have hZ : H ≤ w2.heap.size := Nat.le_of_lt HQ2.out.lt
 have HZ := Lib.hid hZ
 have hb0 : Below w2.heap.size w2 w2.drew := below_drewN 1 w2
 have HS : Hid (∀ W, Below w2.heap.size w2 W → W.cell? ⟨H, 0, none⟩ = some (.int .i64 (k : Int)) ∧ W.cell? ⟨H, 1, none⟩ = some (.int .i64 (s : Int)) ∧ W.cell? ⟨H, 2, none⟩ = some (.int .i64 (g : Int)) ∧ W.cell? ⟨H, 3, none⟩ = some (.int .i64 (i : Int)) ∧ W.cell? ⟨H, 4, none⟩ = some (.slice A n c)) := Lib.hid (fun W hW => by
  have := HQ2.out.below hW
  exact ⟨this.c0, this.c1, this.c2, this.c3, this.c4⟩)
 have HB2d : Hid (Below w2.heap.size w2 w2.drew) := Lib.hid hb0
 have HZd : Hid (w2.heap.size ≤ w2.drew.heap.size) := Lib.hid hb0.size
 go_wp2_with fail
 have HNL := HN.out
 rw [HNN.out] at HNL
 have HRW : Hid (∀ {W : World} {g3 g4 g5 g6 g7 : Nat}, BL W (some ⟨g3, 0, none⟩) (byteL k 1) → BL W (some ⟨g4, 0, none⟩) (byteL s 2) → BL W (some ⟨g5, 0, none⟩) (byteL g 6) → BL W (some ⟨g6, 0, none⟩) (byteL i 1) → BL W (some ⟨g7, 0, none⟩) (byteL n 2) → BL W A D →
   RowsB W [.slice (some ⟨g3, 0, none⟩) 1 1, .slice (some ⟨g4, 0, none⟩) 2 2, .slice (some ⟨g5, 0, none⟩) 6 6, .slice (some ⟨g6, 0, none⟩) 1 1, .slice (some ⟨g7, 0, none⟩) 2 2, .slice A n c] [byteL k 1, byteL s 2, byteL g 6, byteL i 1, byteL n 2, D]) := Lib.hid (fun a b c d e f =>
  ⟨⟨_, _, by rw [byteL_len], a⟩, ⟨_, _, by rw [byteL_len], b⟩, ⟨_, _, by rw [byteL_len], c⟩, ⟨_, _, by rw [byteL_len], d⟩, ⟨_, _, by rw [byteL_len], e⟩, ⟨_, _, by rw [HNN.out], f⟩, trivial⟩)
 go_region_held (fun W => W.cell? ⟨H, 0, none⟩ = some (.int .i64 (k : Int)) ∧ W.cell? ⟨H, 1, none⟩ = some (.int .i64 (s : Int)) ∧ W.cell? ⟨H, 2, none⟩ = some (.int .i64 (g : Int)) ∧ W.cell? ⟨H, 3, none⟩ = some (.int .i64 (i : Int)) ∧ W.cell? ⟨H, 4, none⟩ = some (.slice A n c))
  (first | (with_reducible assumption) | (with_reducible exact HS.out _ hb0) | (with_reducible exact HS.out _ hbW) | (with_reducible exact HS.out _ (hbW.alloc hbW.size _)))
  (first
   | (go_at_call 119; (with_reducible refine (nbytesL k 1 1 rfl _ (by omega) HB2d.out HZd.out).mono ?_); rintro e w3 ⟨g3, rfl, k3, hbW, b3, z3⟩; (try dsimp only); have K3 := Lib.hid k3; have HB3 := Lib.hid hbW; have HZ3 := Lib.hid z3; clear k3 b3 z3)
   | (go_at_call 119; (with_reducible refine (nbytesL s 2 2 rfl _ (by omega) HB3.out HZ3.out).mono ?_); rintro e w4 ⟨g4, rfl, k4, hbV, b4, z4⟩; (try dsimp only); have K4 := Lib.hid k4; have HB4 := Lib.hid hbV; have K34 := Lib.hid (K3.out.below b4); have HZ4 := Lib.hid z4; clear k4 b4 z4 hbW; have hbW := hbV)
   | (go_at_call 119; (with_reducible refine (nbytesL g 6 6 rfl _ (by omega) HB4.out HZ4.out).mono ?_); rintro e w5 ⟨g5, rfl, k5, hbV, b5, z5⟩; (try dsimp only); have K5 := Lib.hid k5; have HB5 := Lib.hid hbV; have K35 := Lib.hid (K34.out.below b5); have K45 := Lib.hid (K4.out.below b5); have HZ5 := Lib.hid z5; clear k5 b5 z5 hbW; have hbW := hbV)
   | (go_at_call 119; (with_reducible refine (nbytesL i 1 1 rfl _ (by omega) HB5.out HZ5.out).mono ?_); rintro e w6 ⟨g6, rfl, k6, hbV, b6, z6⟩; (try dsimp only); have K6 := Lib.hid k6; have HB6 := Lib.hid hbV; have K36 := Lib.hid (K35.out.below b6); have K46 := Lib.hid (K45.out.below b6); have K56 := Lib.hid (K5.out.below b6); have HZ6 := Lib.hid z6; clear k6 b6 z6 hbW; have hbW := hbV)
   | (go_at_call 119; (with_reducible refine (nbytesL n 2 2 rfl _ (by omega) HB6.out HZ6.out).mono ?_); rintro e w7 ⟨g7, rfl, k7, hbV, b7, z7⟩; (try dsimp only); have K7 := Lib.hid k7; have HB7 := Lib.hid hbV; have K37 := Lib.hid (K36.out.below b7); have K47 := Lib.hid (K46.out.below b7); have K57 := Lib.hid (K56.out.below b7); have K67 := Lib.hid (K6.out.below b7); have HD7 := Lib.hid (HD2.out.below hbV); have HZ7 := Lib.hid z7; clear k7 b7 z7 hbW; have hbW := hbV)
   | (go_at_call 118; (with_reducible refine (mconcatL w7 [.slice (some ⟨g3, 0, none⟩) 1 1, .slice (some ⟨g4, 0, none⟩) 2 2, .slice (some ⟨g5, 0, none⟩) 6 6, .slice (some ⟨g6, 0, none⟩) 1 1, .slice (some ⟨g7, 0, none⟩) 2 2, .slice A n c] [byteL k 1, byteL s 2, byteL g 6, byteL i 1, byteL n 2, D] (HRW.out K37.out K47.out K57.out K67.out K7.out HD7.out) 6 rfl (by omega) T HT.out (by rw [HTL.out]; omega) (by rw [HTL.out]; omega)).mono ?_); rintro e w8 ⟨g8, c8, rfl, k8, b8, z8, _⟩; (try dsimp only); have K8 := Lib.hid k8; have HZ8 := Lib.hid z8; have hbV := hbW.trans (b8.mono hbW.size); have HB8 := Lib.hid hbV; clear k8 b8 z8 hbW; have hbW := hbV)
   | fail)
 go_wp2_with fail
 go_ret2
 exact ⟨g8, c8, rfl, K8.out, by rw [HH.out]; exact HB2.out.trans (HB8.out.mono HZ.out), HZ8.out⟩
end Go.Proofs.YtelmcchleclklaaGreat
namespace Go.Proofs.YtelmcchleclklaaGreat
open Go.RowKit Go.Sort
set_option maxRecDepth 100000
set_option maxHeartbeats 2000000

theorem clayReq_no (k s g i : Int) (A : Option Addr) (n c : Nat) (w : World) (h : ¬ OkQ k s g i n) :
  Calls Tryz.prog 157 #[rqv k s g i A n c] w fun e w' => e = .returned (.tuple #[.slice none 0 0, .int .i64 1]) ∧ Below w.heap.size w w' := by
 obtain ⟨w1, hw1⟩ : ∃ w1, w.alloc (.cells #[.int .i64 k, .int .i64 s, .int .i64 g, .int .i64 i, .slice A n c] 50) = w1 := ⟨_, rfl⟩
 have hb1 : Below w.heap.size w w1 := by rw [← hw1]; exact (Below.refl _ _).alloc (Nat.le_refl _) _
 have hq : QV w1 w.heap.size k s g i A n c := by rw [← hw1]; exact QV.of_new rfl
 have q0 := hq.c0
 have q1 := hq.c1
 have q2 := hq.c2
 have q3 := hq.c3
 have q4 := hq.c4
 have ql := hq.lt
 have HR := Lib.hid (crightReq k s g i A n c w1 false ⟨fun e => (by cases e), fun e => absurd e h⟩)
 have HW := Lib.hid hw1
 have HB1 := Lib.hid hb1
 clear hw1 hb1 h hq
 unfold rqv at HR ⊢
 go_enter Tryz.func157, Tryz.ntmps157
 go_wp2_with fail
 rw [HW.out]
 refine HR.out.mono ?_
 rintro e w2 ⟨rfl, hb2⟩
 try dsimp only
 go_wp2_with fail
 go_ret2
 exact ⟨rfl, HB1.out.trans (hb2.mono HB1.out.size)⟩

section
variable {w0 v v' : World} {H n c : Nat} {k s g i : Int} {A : Option Addr} {D : List Nat} {st st' : St}
end
end Go.Proofs.YtelmcchleclklaaGreat
