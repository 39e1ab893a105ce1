import Derived.Test.YtoofgcdilgfclaaU29
import Derived.Test.YtoofgcdilgfclaaU32
namespace Go.Proofs.Ytoofgcdilgfclaa
open Go.RowKit Go.Sort
set_option maxRecDepth 100000
set_option maxHeartbeats 2000000

/-- slices.Concat of a literal of rows: the row is one's own. -/
def CatOwn (B : Nat) (w0 : World) (L : List Nat) (e : Ending) (w' : World) : Prop := ∃ g cap, e = .returned (.slice (some ⟨g, 0, none⟩) L.length cap) ∧ OwnL w' B (.slice (some ⟨g, 0, none⟩) L.length cap) L ∧ Below B w0 w' ∧ B ≤ w'.heap.size
theorem mconcatO {B : Nat} {w0 : World} (w : World) (cs : List Value) (Ls : List (List Nat)) (hr : RowsB w cs Ls) (K : Nat) (hK : K = Ls.length) (hK2 : K ≤ 1000) (T : List Nat) (hT : T = Ls.flatten) (h1 : 1 ≤ T.length) (h2 : T.length ≤ 1000000) (hB : Below B w0 w) (hl : B ≤ w.heap.size) :
    Calls Try.prog 28 #[.slice (some ⟨w.heap.size, 0, none⟩) K K] (w.alloc (.cells cs.toArray 22)) (CatOwn B w0 T) := by
  have h : ∀ (k : Nat) (L : List Nat), Ls[k]? = some L → ∃ (A : Option Addr) (c : Nat), cs.toArray[k]? = some (Value.slice A L.length c) ∧ BL w A L := fun k L e => by
    rw [List.getElem?_toArray]
    exact hr.get k L e
  obtain ⟨cs, rfl⟩ : ∃ x : Array Value, x.toList = cs := ⟨cs.toArray, rfl⟩
  rw [show cs.toList.toArray = cs from rfl] at h ⊢
  subst hT
  subst hK
  have hk := alloc_block w (.cells cs 22)
  have hb : Below w.heap.size w (w.alloc (.cells cs 22)) := (Below.refl _ _).alloc (Nat.le_refl _) _
  have hget : ∀ k, k < Ls.length → Ls[k]? = some (Ls.getD k []) := fun k hk => by rw [List.getD_eq_getElem?_getD, List.getElem?_eq_getElem hk]; rfl
  have hA : ∃ (A : Nat → Option Addr) (C : Nat → Nat), ∀ k, k < Ls.length → cs[k]? = some (.slice (A k) (Ls.getD k []).length (C k)) ∧ BL w (A k) (Ls.getD k []) := by
    refine ⟨fun k => if hk : k < Ls.length then (h k _ (hget k hk)).choose else none, fun k => if hk : k < Ls.length then (h k _ (hget k hk)).choose_spec.choose else 0, fun k hk => ?_⟩
    simp only [dif_pos hk]
    exact (h k _ (hget k hk)).choose_spec.choose_spec
  obtain ⟨A, C, hAC⟩ := hA
  have ht := tot_take Ls Ls.length (Nat.le_refl _)
  rw [List.take_length] at ht
  have := mconcatK w.heap.size Ls.length Ls.length A (fun k => (Ls.getD k []).length) C (fun k => gt (Ls.getD k [])) (gt Ls.flatten) (w.alloc (.cells cs 22)) (by simp) (fun k hk' => (cell_of_block hk).trans (hAC k hk').1) (fun k hk' => ((hAC k hk').2.below hb).rd) (fun k j hk' hj => gt_flat Ls k j hk' hj) hK2 (by rw [ht]; exact h1) (by rw [ht]; exact h2)
  refine this.mono ?_
  rintro e w' ⟨g, cap, rfl, ho, hb2, hg, _, hc⟩
  rw [ht] at ho hc ⊢
  have hsz : B ≤ (w.alloc (.cells cs 22)).heap.size := by simp; omega
  exact ⟨g, cap, rfl, (OwnL.of ho rfl (fun _ _ => rfl)).mono hsz, (hB.alloc hl _).trans (hb2.mono hsz), Nat.le_trans hsz hb2.size⟩
theorem Px.nats {p : Px} (h : p.Right) : ∃ (s g i : Nat) (D : List Nat), p = ⟨(s : Int), (g : Int), (i : Int), D⟩ ∧ D.length = 32 ∧ p.lay = byteL s 1 ++ (byteL g 6 ++ (byteL i 1 ++ D)) := by
  obtain ⟨s, g, i, D⟩ := p
  obtain ⟨a, b, c, d, e, f, k⟩ := h
  dsimp only at a b c d e f k
  obtain ⟨s, rfl⟩ := Int.eq_ofNat_of_zero_le a
  obtain ⟨g, rfl⟩ := Int.eq_ofNat_of_zero_le (show 0 ≤ g by omega)
  obtain ⟨i, rfl⟩ := Int.eq_ofNat_of_zero_le e
  exact ⟨s, g, i, D, rfl, k, rfl⟩
theorem Ix.nats {p : Ix} (h : p.Right) : ∃ (s g : Nat) (D : List Nat), p = ⟨(s : Int), (g : Int), D⟩ ∧ D.length = 128 ∧ p.lay = byteL s 1 ++ (byteL g 6 ++ D) := by
  obtain ⟨s, g, D⟩ := p
  obtain ⟨a, b, c, d, k⟩ := h
  dsimp only at a b c d k
  obtain ⟨s, rfl⟩ := Int.eq_ofNat_of_zero_le a
  obtain ⟨g, rfl⟩ := Int.eq_ofNat_of_zero_le (show 0 ≤ g by omega)
  exact ⟨s, g, D, rfl, k, rfl⟩
theorem layPs_take_len {l : List Px} (h : ∀ x ∈ l, x.Right) {i : Nat} (hi : i ≤ l.length) : (layPs (l.take i)).length = 40 * i := by
  rw [layPs_len (fun x hx => h x (List.mem_of_mem_take hx)), List.length_take, Nat.min_eq_left hi]
theorem layIs_take_len {l : List Ix} (h : ∀ x ∈ l, x.Right) {i : Nat} (hi : i ≤ l.length) : (layIs (l.take i)).length = 135 * i := by
  rw [layIs_len (fun x hx => h x (List.mem_of_mem_take hx)), List.length_take, Nat.min_eq_left hi]
theorem layPs_take {l : List Px} {i : Nat} {x : Px} (h : l[i]? = some x) : layPs (l.take (i + 1)) = layPs (l.take i) ++ x.lay := by
  rw [List.take_add_one, h, ← layPs_snoc]; rfl
theorem layIs_take {l : List Ix} {i : Nat} {x : Ix} (h : l[i]? = some x) : layIs (l.take (i + 1)) = layIs (l.take i) ++ x.lay := by
  rw [List.take_add_one, h, ← layIs_snoc]; rfl
/-- LayRep of a reply that may be laid. -/
theorem clayRep {w : World} {v : Value} {p : Rx} (h : RVal w v p) (hp : p.Right) : Calls Try.prog 12 #[v] w (LRet p.lay w) := by
  have HR := Lib.hid (fun W (hW : RVal W v p) => crightRep hW (by have := hp.2.2.1; omega) (by have := hp.2.2.2.1; omega) true ⟨fun _ => hp, fun _ => rfl⟩)
  have h0 := h
  obtain ⟨A1, c1, A2, c2, rfl, h1, h2⟩ := h
  obtain ⟨code, boot, l, m⟩ := p
  obtain ⟨⟨e1, e2⟩, ⟨e3, e4⟩, e5, e6, e7, e8⟩ := hp
  dsimp only at h1 h2 e1 e2 e3 e4 e5 e6 e7 e8 HR ⊢
  obtain ⟨code, rfl⟩ := Int.eq_ofNat_of_zero_le e1
  obtain ⟨boot, rfl⟩ := Int.eq_ofNat_of_zero_le e3
  obtain ⟨H, hH⟩ : ∃ H, w.heap.size = H := ⟨_, rfl⟩
  have HH := Lib.hid hH
  obtain ⟨w1, hw1⟩ : ∃ w1, w.alloc (.cells #[.int .i64 (code : Int), .int .i64 (boot : Int), .slice A1 l.length c1, .slice A2 m.length c2] 39) = w1 := ⟨_, rfl⟩
  have HW1 := Lib.hid hw1
  have hb1 : Below H w w1 := by rw [← hw1, ← hH]; exact (Below.refl _ _).alloc (Nat.le_refl _) _
  have HB1 := Lib.hid hb1
  have HV1 : Hid (RV w1 H (code : Int) (boot : Int) (.slice A1 l.length c1) (.slice A2 m.length c2)) := Lib.hid (by rw [← hw1]; exact RV.of_new hH)
  have HP1 : Hid (PR w1 (.slice A1 l.length c1) l) := Lib.hid (h1.below (by rw [hH]; exact hb1))
  have HI1 : Hid (IR w1 (.slice A2 m.length c2) m) := Lib.hid (h2.below (by rw [hH]; exact hb1))
  have HR1 := Lib.hid (HR.out w1 (h0.below (by rw [hH]; exact hb1)))
  have HZ1 : Hid (H < w1.heap.size) := Lib.hid HV1.out.lt
  have HRP : Hid (∀ x ∈ l, x.Right) := Lib.hid e7
  have HRI : Hid (∀ x ∈ m, x.Right) := Lib.hid e8
  have z0 := HV1.out.c0
  have z1 := HV1.out.c1
  have z2 := HV1.out.c2
  have z3 := HV1.out.c3
  obtain ⟨n1, hn1⟩ : ∃ n, l.length = n := ⟨_, rfl⟩
  obtain ⟨n2, hn2⟩ : ∃ n, m.length = n := ⟨_, rfl⟩
  have HN1 := Lib.hid hn1
  have HN2 := Lib.hid hn2
  obtain ⟨T, hT⟩ : ∃ T, Rx.lay ⟨(code : Int), (boot : Int), l, m⟩ = T := ⟨_, rfl⟩
  have HT : Hid (T = byteL code 1 ++ byteL boot 4 ++ byteL n1 1 ++ layPs l ++ byteL n2 1 ++ layIs m) := Lib.hid (by
    rw [← hT, ← hn1, ← hn2]
    unfold Rx.lay
    simp only [Int.toNat_natCast, List.append_assoc])
  rw [hT]
  rw [hn1] at HW1 HV1 HP1 z2 e5 HR1 ⊢
  rw [hn2] at HW1 HV1 HI1 z3 e6 HR1 ⊢
  clear hw1 hb1 h1 h2 hH e7 e8 h0 hn1 hn2 hT e1 e2 e3 e4 HR
  unfold rpv at HR1 ⊢
  go_enter Try.func12, Try.ntmps12
  go_wp2_with fail
  rw [HW1.out, HH.out]
  refine HR1.out.mono ?_
  rintro e w2 ⟨rfl, hb2⟩
  try dsimp only
  have HB2 : Hid (Below w1.heap.size w1 w2) := Lib.hid hb2
  have HV2 := Lib.hid (HV1.out.below hb2)
  obtain ⟨base, hbase⟩ : ∃ base, w2.heap.size = base := ⟨_, rfl⟩
  have HBS := Lib.hid hbase
  have hb0 : Below base w2 w2.drew := by rw [← hbase]; exact below_drewN 1 w2
  have HZB : Hid (base ≤ w2.drew.heap.size) := Lib.hid (by rw [← hbase]; exact Nat.le_refl _)
  have HB0 := Lib.hid hb0
  have HVW : Hid (∀ W, Below base w2 W → RV W H (code : Int) (boot : Int) (.slice A1 n1 c1) (.slice A2 n2 c2)) := Lib.hid (fun W hW => HV2.out.below (by rw [HBS.out]; exact hW))
  have HPW : Hid (∀ W, Below base w2 W → PR W (.slice A1 n1 c1) l ∧ IR W (.slice A2 n2 c2) m) := Lib.hid (fun W hW => ⟨(HP1.out.below HB2.out).below (by rw [HBS.out]; exact hW), (HI1.out.below HB2.out).below (by rw [HBS.out]; exact hW)⟩)
  have HBH : Hid (∀ W, Below base w2 W → Below H w W) := Lib.hid (fun W hW => HB1.out.trans ((HB2.out.trans (hW.mono (by rw [← HBS.out]; exact HB2.out.size))).mono (Nat.le_of_lt HZ1.out)))
  have HS : Hid (∀ W, Below base w2 W → W.cell? ⟨H, 0, none⟩ = some (.int .i64 (code : Int)) ∧ W.cell? ⟨H, 1, none⟩ = some (.int .i64 (boot : Int))) := Lib.hid (fun W hW => ⟨(HVW.out W hW).c0, (HVW.out W hW).c1⟩)
  have HRW : Hid (∀ {W : World} {g3 g4 : Nat}, BL W (some ⟨g3, 0, none⟩) (byteL code 1) → BL W (some ⟨g4, 0, none⟩) (byteL boot 4) → RowsB W [.slice (some ⟨g3, 0, none⟩) 1 1, .slice (some ⟨g4, 0, none⟩) 4 4] [byteL code 1, byteL boot 4]) := Lib.hid (fun a b => ⟨⟨_, _, by rw [byteL_len], a⟩, ⟨_, _, by rw [byteL_len], b⟩, trivial⟩)
  have HT2 : Hid (byteL code 1 ++ byteL boot 4 = [byteL code 1, byteL boot 4].flatten ∧ (byteL code 1 ++ byteL boot 4).length = 5) := Lib.hid ⟨by simp, by rw [List.length_append, byteL_len, byteL_len]⟩
  obtain ⟨T2, hT2⟩ : ∃ T2, byteL code 1 ++ byteL boot 4 = T2 := ⟨_, rfl⟩
  rw [hT2] at HT2 HT
  clear hb2 z0 z1 z2 z3 hbase hT2
  go_wp2_with fail
  go_region_held (fun W => W.cell? ⟨H, 0, none⟩ = some (.int .i64 (code : Int)) ∧ W.cell? ⟨H, 1, none⟩ = some (.int .i64 (boot : Int)))
    (first | (with_reducible assumption) | (with_reducible exact HS.out _ hb0) | (with_reducible exact HS.out _ hbW) | (with_reducible exact HS.out _ (hbW.alloc HZ4.out _)))
    (first
      | (go_at_call 29; (with_reducible refine (nbytesL code 1 1 rfl _ (by omega) HB0.out HZB.out).mono ?_); rintro e w3 ⟨g3, rfl, k3, hbW, b3, z3⟩; (try dsimp only); have K3 := Lib.hid k3; have HB3 := Lib.hid hbW; have HZ3 := Lib.hid z3; clear k3 b3 z3)
      | (go_at_call 29; (with_reducible refine (nbytesL boot 4 4 rfl _ (by omega) HB3.out HZ3.out).mono ?_); rintro e w4 ⟨g4, rfl, k4, hbV, b4, z4⟩; (try dsimp only); have K4 := Lib.hid k4; have K34 := Lib.hid (K3.out.below b4); have HB4 := Lib.hid hbV; have HZ4 := Lib.hid z4; clear k4 b4 z4 hbW; have hbW := hbV)
      | (go_at_call 28; (with_reducible refine (mconcatO w4 [.slice (some ⟨g3, 0, none⟩) 1 1, .slice (some ⟨g4, 0, none⟩) 4 4] [byteL code 1, byteL boot 4] (HRW.out K34.out K4.out) 2 rfl (by omega) T2 HT2.out.1 (by rw [HT2.out.2]; omega) (by rw [HT2.out.2]; omega) HB4.out HZ4.out).mono ?_); rintro e w5 ⟨g5, c5, rfl, k5, b5, z5⟩; (try dsimp only); have K5 := Lib.hid k5; have HB5 := Lib.hid b5; have HZ5 := Lib.hid z5; clear k5 z5 hbW; have hbW := b5)
      | fail)
  rw [HT2.out.2] at K5 ⊢
  have y2 := (HVW.out _ HB5.out).c2
  clear hbW
  go_wp2_with fail
  refine (nbytesL n1 1 1 rfl _ (by omega) HB5.out HZ5.out).mono ?_
  rintro e w6 ⟨g6, rfl, k6, hb6, b6, z6⟩
  try dsimp only
  have K6 := Lib.hid k6
  have HB6 := Lib.hid hb6
  have HZ6 := Lib.hid z6
  have K56 := Lib.hid (K5.out.keep b6)
  clear k6 hb6 b6 z6 y2
  have HHead : Hid ((T2 ++ byteL n1 1).length = 6) := Lib.hid (by rw [List.length_append, HT2.out.2, byteL_len])
  go_wp2_with (at_builtin; refine append_L _ rfl (.tmp 20) (.tmp 24) 22 rfl Try.underlying22 (.slice (some ⟨g5, 0, none⟩) 5 c5) T2 rfl K56.out (some ⟨g6, 0, none⟩) 1 1 (byteL n1 1) rfl (byteL_len n1 1) K6.out (by rw [HT2.out.2]; omega) HB6.out HZ6.out ?_; intro v7 w7 own7 hb7 hz7 hne7; have HO7 := Lib.hid own7; have HB7 := Lib.hid hb7; have HZ7 := Lib.hid hz7; have HN7 := Lib.hid (hne7 (by simp)); have y2 := (HVW.out _ hb7).c2; clear own7 hb7 hz7 hne7)
  clear K56 K6
  go_loopg [4, 29] n1 (fun q s4 s29 v => ∃ (i : Nat) (vb : Value), vb = s4 ∧ s29 = .int .i64 (i : Int) ∧ i ≤ n1 ∧ q = n1 - i ∧ Hid (OwnL v base vb (T2 ++ byteL n1 1 ++ layPs (l.take i)) ∧ vb ≠ .slice none 0 0 ∧ Below base w2 v ∧ base ≤ v.heap.size))
  case atStart => exact ⟨0, v7, rfl, rfl, by omega, rfl, Lib.hid ⟨by rw [show layPs (l.take 0) = [] from rfl, List.append_nil]; exact HO7.out, HN7.out, HB7.out, HZ7.out⟩⟩
  case round =>
    obtain ⟨i, vb, rfl, rfl, hi, rfl, HL⟩ := hrel
    clear HO7
    by_cases hlt : i < n1
    · have hlt' : (i : Int) < (n1 : Int) := by omega
      obtain ⟨x, b, A', c', hx, rfl, hbl, a0, a1, a2, a3, hd, hy⟩ := (HPW.out _ HL.out.2.2.1).1.at hlt
      have hxr := HRP.out x (List.mem_of_getElem? hx)
      obtain ⟨s, g, k, D, rfl, hDl, hlay⟩ := Px.nats hxr
      dsimp only at a0 a1 a2 a3 hd hy hDl
      rw [hDl] at a3
      have HX := Lib.hid hx
      have HLA := Lib.hid hlay
      obtain ⟨wn, hwn⟩ : ∃ wn, wr.alloc (.cells #[.int .i64 (s : Int), .int .i64 (g : Int), .int .i64 (k : Int), .slice A' 32 c'] 31) = wn := ⟨_, rfl⟩
      have HWN := Lib.hid hwn
      have hbn : Below wr.heap.size wr wn := by rw [← hwn]; exact (Below.refl _ _).alloc (Nat.le_refl _) _
      have HBN := Lib.hid hbn
      have HCL := Lib.hid (clayPiece s g k D A' c' wn hDl (hd.below hbn))
      rw [← hlay] at HCL
      have HL40 := Lib.hid (Px.lay_len hxr)
      have HLB : Hid ((T2 ++ byteL n1 1 ++ layPs (l.take i)).length ≤ 100) := Lib.hid (by
        rw [List.length_append, HHead.out, layPs_take_len HRP.out (by rw [HN1.out]; omega)]; omega)
      obtain ⟨lx, hlx⟩ : ∃ lx, (⟨(s : Int), (g : Int), (k : Int), D⟩ : Px).lay = lx := ⟨_, rfl⟩
      have HLX := Lib.hid hlx
      rw [hlx] at HCL HL40 HLA
      unfold pv at HCL
      clear hx hxr hlay hwn hbn hd hy hDl hlx y2
      go_wp2_with fail
      rw [HWN.out]
      refine HCL.out.mono ?_
      rintro e w8 ⟨g8, c8, rfl, k8, b8, z8, _⟩
      try dsimp only
      rw [HL40.out]
      have K8 : Hid (BL w8 (some ⟨g8, 0, none⟩) lx) := Lib.hid (BL.blk k8 rfl (fun _ _ => rfl))
      have HBr : Hid (Below wr.heap.size wr w8) := Lib.hid (HBN.out.trans (b8.mono HBN.out.size))
      have HO8 := Lib.hid (HL.out.1.keep HBr.out)
      have HB8 : Hid (Below base w2 w8) := Lib.hid (HL.out.2.2.1.trans (HBr.out.mono HL.out.2.2.2))
      have HZ8 : Hid (base ≤ w8.heap.size) := Lib.hid (Nat.le_trans HL.out.2.2.2 HBr.out.size)
      clear k8 b8 z8 a0 a1 a2 a3
      go_wp2_with (at_builtin; refine append_L _ rfl (.tmp 33) (.tmp 35) 22 rfl Try.underlying22 vb _ rfl HO8.out (some ⟨g8, 0, none⟩) 40 c8 lx rfl HL40.out K8.out (by have := HLB.out; omega) HB8.out HZ8.out ?_; intro v9 w9 own9 hb9 hz9 hne9; have HO9 := Lib.hid own9; have HB9 := Lib.hid hb9; have HZ9 := Lib.hid hz9; have HN9 := Lib.hid (hne9 HL.out.2.1); clear own9 hb9 hz9 hne9)
      go_roundg (n1 - (i + 1))
      case measure => omega
      case rel => exact ⟨i + 1, v9, rfl, by go_num, by omega, rfl, Lib.hid ⟨by rw [layPs_take HX.out, HLX.out, ← List.append_assoc]; exact HO9.out, HN9.out, HB9.out, HZ9.out⟩⟩
    · obtain rfl : i = n1 := by omega
      have HO : Hid (OwnL wr base vb (T2 ++ byteL i 1 ++ layPs l)) := Lib.hid (by have := HL.out.1; rwa [← HN1.out, List.take_length, HN1.out] at this)
      have HNb := Lib.hid HL.out.2.1
      have HBb := Lib.hid HL.out.2.2.1
      have HZb := Lib.hid HL.out.2.2.2
      have y3 := (HVW.out _ HBb.out).c3
      have HLB : Hid ((T2 ++ byteL i 1 ++ layPs l).length ≤ 100) := Lib.hid (by
        rw [List.length_append, HHead.out, layPs_len HRP.out, HN1.out]; omega)
      clear HL y2
      obtain ⟨ww, rfl⟩ : ∃ ww : World, ww = wr := ⟨wr, rfl⟩
      go_wp2_with fail
      refine (nbytesL n2 1 1 rfl _ (by omega) HBb.out HZb.out).mono ?_
      rintro e w6 ⟨g6, rfl, k6, hb6, b6, z6⟩
      try dsimp only
      have K6 := Lib.hid k6
      have HB6' := Lib.hid hb6
      have HZ6' := Lib.hid z6
      have HOk := Lib.hid (HO.out.keep b6)
      clear k6 hb6 b6 z6 y3
      go_wp2_with (at_builtin; refine append_L _ rfl (.tmp 38) (.tmp 42) 22 rfl Try.underlying22 vb _ rfl HOk.out (some ⟨g6, 0, none⟩) 1 1 (byteL n2 1) rfl (byteL_len n2 1) K6.out (by have := HLB.out; omega) HB6'.out HZ6'.out ?_; intro v9 w9 own9 hb9 hz9 hne9; have HO9 := Lib.hid own9; have HB9 := Lib.hid hb9; have HZ9 := Lib.hid hz9; have HN9 := Lib.hid (hne9 HNb.out); have y3 := (HVW.out _ hb9).c3; clear own9 hb9 hz9 hne9)
      go_loopg [4, 47] n2 (fun q s4 s47 v => ∃ (j : Nat) (vb : Value), vb = s4 ∧ s47 = .int .i64 (j : Int) ∧ j ≤ n2 ∧ q = n2 - j ∧ Hid (OwnL v base vb (T2 ++ byteL i 1 ++ layPs l ++ byteL n2 1 ++ layIs (m.take j)) ∧ vb ≠ .slice none 0 0 ∧ Below base w2 v ∧ base ≤ v.heap.size))
      case atStart => exact ⟨0, v9, rfl, rfl, by omega, rfl, Lib.hid ⟨by rw [show layIs (m.take 0) = [] from rfl, List.append_nil]; exact HO9.out, HN9.out, HB9.out, HZ9.out⟩⟩
      case round =>
        obtain ⟨j, vc, rfl, rfl, hj, rfl, HL⟩ := hrel
        clear HO9 HO HOk
        by_cases hlt : j < n2
        · have hlt' : (j : Int) < (n2 : Int) := by omega
          obtain ⟨x, b, A', c', hx, rfl, hbl, a0, a1, a2, hd, hy⟩ := (HPW.out _ HL.out.2.2.1).2.at hlt
          have hxr := HRI.out x (List.mem_of_getElem? hx)
          obtain ⟨s, g, D, rfl, hDl, hlay⟩ := Ix.nats hxr
          dsimp only at a0 a1 a2 hd hy hDl
          rw [hDl] at a2
          have HX := Lib.hid hx
          obtain ⟨wn, hwn⟩ : ∃ wn, wr.alloc (.cells #[.int .i64 (s : Int), .int .i64 (g : Int), .slice A' 128 c'] 35) = wn := ⟨_, rfl⟩
          have HWN := Lib.hid hwn
          have hbn : Below wr.heap.size wr wn := by rw [← hwn]; exact (Below.refl _ _).alloc (Nat.le_refl _) _
          have HBN := Lib.hid hbn
          have HCL := Lib.hid (clayIntent s g D A' c' wn hDl (hd.below hbn))
          rw [← hlay] at HCL
          have HL135 := Lib.hid (Ix.lay_len hxr)
          have HLC : Hid ((T2 ++ byteL i 1 ++ layPs l ++ byteL n2 1 ++ layIs (m.take j)).length ≤ 10000) := Lib.hid (by
            rw [List.length_append, List.length_append, byteL_len, layIs_take_len HRI.out (by rw [HN2.out]; omega)]; have := HLB.out; omega)
          obtain ⟨lx, hlx⟩ : ∃ lx, (⟨(s : Int), (g : Int), D⟩ : Ix).lay = lx := ⟨_, rfl⟩
          have HLX := Lib.hid hlx
          rw [hlx] at HCL HL135
          unfold iv at HCL
          clear hx hxr hlay hwn hbn hd hy hDl hlx y3
          go_wp2_with fail
          rw [HWN.out]
          refine HCL.out.mono ?_
          rintro e w8 ⟨g8, c8, rfl, k8, b8, z8, _⟩
          try dsimp only
          rw [HL135.out]
          have K8 : Hid (BL w8 (some ⟨g8, 0, none⟩) lx) := Lib.hid (BL.blk k8 rfl (fun _ _ => rfl))
          have HBr : Hid (Below wr.heap.size wr w8) := Lib.hid (HBN.out.trans (b8.mono HBN.out.size))
          have HO8 := Lib.hid (HL.out.1.keep HBr.out)
          have HB8 : Hid (Below base w2 w8) := Lib.hid (HL.out.2.2.1.trans (HBr.out.mono HL.out.2.2.2))
          have HZ8 : Hid (base ≤ w8.heap.size) := Lib.hid (Nat.le_trans HL.out.2.2.2 HBr.out.size)
          clear k8 b8 z8 a0 a1 a2
          go_wp2_with (at_builtin; refine append_L _ rfl (.tmp 51) (.tmp 53) 22 rfl Try.underlying22 vc _ rfl HO8.out (some ⟨g8, 0, none⟩) 135 c8 lx rfl HL135.out K8.out (by have := HLC.out; omega) HB8.out HZ8.out ?_; intro v9 w9 own9 hb9 hz9 hne9; have HO9 := Lib.hid own9; have HB9 := Lib.hid hb9; have HZ9 := Lib.hid hz9; have HN9 := Lib.hid (hne9 HL.out.2.1); clear own9 hb9 hz9 hne9)
          go_roundg (n2 - (j + 1))
          case measure => omega
          case rel => exact ⟨j + 1, v9, rfl, by go_num, by omega, rfl, Lib.hid ⟨by rw [layIs_take HX.out, HLX.out, ← List.append_assoc]; exact HO9.out, HN9.out, HB9.out, HZ9.out⟩⟩
        · obtain rfl : j = n2 := by omega
          have HOf : Hid (OwnL wr base vc T) := Lib.hid (by have := HL.out.1; rw [← HN2.out, List.take_length, HN2.out] at this; rw [HT.out]; exact this)
          go_wp2_with fail
          go_ret2
          obtain ⟨g0, c0, rfl, hk, hg, _, hcap⟩ := HOf.out.some_ HL.out.2.1
          exact ⟨g0, c0, rfl, hk, by rw [HH.out]; exact HBH.out _ HL.out.2.2.1, hcap⟩
end Go.Proofs.Ytoofgcdilgfclaa
