import Derived.Test.YtelmcchleclklaaGreatV45
import Derived.Deep.MidRow
namespace Go.Proofs.YtelmcchleclklaaGreat
open Go.RowKit Go.Sort
set_option maxRecDepth 100000
set_option maxHeartbeats 8000000

theorem known_doubt (gn nx : Int) (db : Bool) (A : Option Addr) (l c : Nat) (w : World) : Calls Tryz.prog 62 #[.agg #[.int .i64 gn, .int .i64 nx, .bool db, .slice A l c]] w fun en w' => en = .returned (.bool db) ∧ Below w.heap.size w w' := by
 go_enter Tryz.func62, Tryz.ntmps62
 go_wp2_with fail
 go_ret
 exact ⟨rfl, (Below.refl _ _).alloc (Nat.le_refl _) _⟩
def knL (e : Ep) (B : Nat → Value) : List Value := (List.range 160).map (fun j => carF 0 0 e B (j + 1))
theorem knL_at (e : Ep) (B : Nat → Value) {j : Nat} (hj : j < 160) : (knL e B)[j]? = some (carF 0 0 e B (j + 1)) := by
 unfold knL
 rw [List.getElem?_map, List.getElem?_range hj]
 rfl
theorem knL_len (e : Ep) (B : Nat → Value) : (knL e B).length = 160 := by simp [knL]
theorem carF_mid (g c : Nat) (e : Ep) (B : Nat → Value) {j : Nat} (h0 : j ≠ 0) (h1 : j ≠ 161) : carF g c e B j = carF 0 0 e B j := by
 unfold carF
 rw [if_neg h0, if_neg h1, if_neg h0, if_neg h1]
theorem infoKn : (Tryz.prog.info? 84).map (fun i => (i.zero, i.size, i.bytes)) = some (some (.agg #[.int .i64 0, .int .i64 0, .bool false, .slice none 0 0]), 4, 48) := by kernel_rfl
theorem knL_ext (e : Ep) (B : Nat → Value) {i : Nat} (hi : i < 40) : (knL e B).toArray.extract (i * 4) (i * 4 + 4) = #[.int .i64 (e.gen i : Int), .int .i64 (e.next i : Int), .bool (e.doubt i), B i] := by
 apply Array.ext_getElem?
 intro j
 rw [Array.getElem?_extract]
 have hs : (knL e B).toArray.size = 160 := by simp [knL]
 by_cases hj : j < 4
 ·rw [if_pos (by rw [hs]; omega), List.getElem?_toArray, knL_at e B (by omega)]
  match j, hj with
  | 0, _ => rw [show i * 4 + 0 + 1 = 1 + 4 * i by omega, carF_g _ _ _ _ hi]; rfl
  | 1, _ => rw [show i * 4 + 1 + 1 = 2 + 4 * i by omega, carF_n _ _ _ _ hi]; rfl
  | 2, _ => rw [show i * 4 + 2 + 1 = 3 + 4 * i by omega, carF_d _ _ _ _ hi]; rfl
  | 3, _ => rw [show i * 4 + 3 + 1 = 4 + 4 * i by omega, carF_b _ _ _ _ hi]; rfl
 ·rw [if_neg (by rw [hs]; omega)]
  simp
  omega
theorem knL_index (e : Ep) (B : Nat → Value) {i : Nat} (hi : i < 40) (w : World) : (Instr.index 85 (.agg (knL e B).toArray) (.int .i64 (i : Int))).run Tryz.prog w = .ok (.agg #[.int .i64 (e.gen i : Int), .int .i64 (e.next i : Int), .bool (e.doubt i), B i]) w := by
 obtain ⟨i0, hi0, hz0, hz1, hz2⟩ := info_parts infoKn
 have hx := knL_ext e B hi
 simp at hx
 simp [Instr.index, run_underlying Tryz.underlying85, asIntOf, part, sizeOf, typeInfo, hi0, hz1, go_sem]
 rw [if_pos hi, hx]
theorem CM.range {w0 v : World} {g cb : Nat} {nd : ND} {e : Ep} {A C c f o cap : Nat} {B : Nat → Value} (h : CM w0 v g cb nd e A C c f o cap B) : v.rangeAt cb 1 (knL e B) := fun j u hj => by
 have hl : j < 160 := by have := (List.getElem?_eq_some_iff.1 hj).1; rwa [knL_len] at this
 rw [knL_at e B hl] at hj
 injection hj with hj
 subst hj
 rw [show 1 + j = j + 1 by omega, h.blk.cell (by omega), carF_mid _ _ _ _ (by omega) (by omega)]
def listTo (q : Nat → Bool) (i : Nat) : List Int := ((List.range i).filter q).map (fun i : Nat => (i : Int))
theorem listTo_no {q : Nat → Bool} {i : Nat} (h : q i = false) : listTo q (i + 1) = listTo q i := by
 unfold listTo
 rw [List.range_succ, List.filter_append, List.filter_cons_of_neg (by rw [h]; decide)]
 simp
theorem listTo_yes {q : Nat → Bool} {i : Nat} (h : q i = true) : listTo q (i + 1) = listTo q i ++ [(i : Int)] := by
 unfold listTo
 rw [List.range_succ, List.filter_append, List.filter_cons_of_pos h]
 simp
theorem listTo_all (q : Nat → Bool) : listTo q 40 = listE q := rfl
section
variable {w0 v : World} {g p lim : Nat} {nd : ND} {e : Ep}
theorem le_thoseP (h : LE w0 v g nd p lim e) (q : Nat → Bool) (hF : ∀ (i : Nat), i < 40 → ∀ (A : Option Addr) (l c : Nat), decide (0 < l) = (e.pend i).isSome → ∀ w, Calls Tryz.prog 61 #[.agg #[.int .i64 (e.gen i : Int), .int .i64 (e.next i : Int), .bool (e.doubt i), .slice A l c]] w fun en w' => en = .returned (.bool (q i)) ∧ Below w.heap.size w w') :
  Calls Tryz.prog 60 #[.pointer (some ⟨p, 0, none⟩), .func (.func 61) #[] #[]] v fun en w' => ∃ A c, en = .returned (.slice A (listE q).length c) ∧ w'.ownsRow v.heap.size 3 1 (.slice A (listE q).length c) (listE q).length (intsV (listE q)) ∧ Below v.heap.size v w' := by
 obtain ⟨cb, A, C, c, f, o, cap, B, h⟩ := h
 have HH := Lib.hid (le_made h.ep)
 have c0 := h.ep.c0
 have HM := Lib.hid h.cm
 have HFF := Lib.hid hF
 clear h hF
 go_enter Tryz.func60, Tryz.ntmps60
 go_wp2_with fail
 refine HH.out.mono ?_
 rintro en w' ⟨rfl, hw⟩
 obtain rfl := hw.symm
 have HRG := Lib.hid HM.out.range
 go_wp2_with (refine wpList_load_mid rfl 85 (.tmp 16) rfl cb 1 rfl (knL e B) _ HRG.out Tryz.underlying85 rfl (by rw [knL_len]; kernel_rfl) ?_)
 go_loopg [5, 6, 18] 40 (fun kk s5 s6 s18 wr => ∃ (i n : Nat), s18 = .int .i64 (i : Int) ∧ i ≤ 40 ∧ kk = 40 - i ∧ Hid (wr.ownsRow v.heap.size 3 1 s5 n (intsV (listTo q i)) ∧ n ≤ i) ∧ Hid (Below v.heap.size v wr))
 case atStart => exact ⟨0, 0, rfl, by omega, rfl, Lib.hid ⟨World.ownsRow_nil _ _ _ _, Nat.le_refl _⟩, Lib.hid (Below.refl _ _)⟩
 case round =>
  obtain ⟨i, n, rfl, hi, rfl, HO, HS⟩ := hrel
  obtain ⟨wo, rfl⟩ : ∃ wo : World, wo = wr := ⟨wr, rfl⟩
  by_cases hlt : i < 40
  ·have hlt' : (i : Int) < 40 := by omega
   obtain ⟨Q, l, j, hB, hl⟩ := HM.out.bl hlt
   have hidx := fun w => knL_index e B hlt w
   rw [hB] at hidx
   obtain ⟨gn, hgg⟩ : ∃ gn, e.gen i = gn := ⟨_, rfl⟩
   obtain ⟨nx, hnx⟩ : ∃ nx, e.next i = nx := ⟨_, rfl⟩
   obtain ⟨db, hdb⟩ : ∃ db, e.doubt i = db := ⟨_, rfl⟩
   obtain ⟨qi, hqi⟩ : ∃ qi, q i = qi := ⟨_, rfl⟩
   have HF1 := Lib.hid (HFF.out i hlt Q l j hl)
   rw [hgg, hnx, hdb] at hidx HF1
   rw [hqi] at HF1
   have HQI := Lib.hid hqi
   obtain ⟨H, hH⟩ : ∃ H, wo.heap.size = H := ⟨_, rfl⟩
   have HHH := Lib.hid hH
   obtain ⟨w2, hw2⟩ : ∃ w2, wo.alloc (.cells #[.int .i64 (gn : Int), .int .i64 (nx : Int), .bool db, .slice Q l j] 84) = w2 := ⟨_, rfl⟩
   have B2 : Below wo.heap.size wo w2 := by rw [← hw2]; exact (Below.refl _ _).alloc (Nat.le_refl _) _
   have p2 : KV w2 H (gn : Int) (nx : Int) db (.slice Q l j) := by rw [← hw2]; exact KV.of_new hH
   have y0 := p2.c0
   have y1 := p2.c1
   have y2 := p2.c2
   have y3 := p2.c3
   have HV2 := Lib.hid hw2
   have HB2 := Lib.hid B2
   clear hB hl hgg hnx hdb hqi hH hw2 B2 p2
   go_upto_region 7 with fail
   rw [HV2.out, HHH.out]
   go_wp2_with fail
   refine (HF1.out w2).mono ?_
   rintro en w3 ⟨rfl, b3⟩
   try dsimp only
   have HB3 : Hid (Below wo.heap.size wo w3) := Lib.hid (HB2.out.trans (b3.mono HB2.out.size))
   have HO3 : Hid (w3.ownsRow v.heap.size 3 1 u5 n (intsV (listTo q i))) := Lib.hid (own_keep HO.out.1 HB3.out)
   have HS3 := Lib.hid (HS.out.trans (HB3.out.mono HS.out.size))
   clear b3 y0 y1 y2 y3
   cases qi with
   | false =>
    go_wp2_with fail
    go_roundg (40 - (i + 1))
    case measure => omega
    case rel => exact ⟨i + 1, n, by go_num, by omega, rfl, Lib.hid ⟨by rw [listTo_no HQI.out]; exact HO3.out, Nat.le_succ_of_le HO.out.2⟩, HS3⟩
   | true =>
    obtain ⟨A5, c5, h5, _⟩ := own_form HO3.out
    obtain rfl := h5
    have b4 : Below w3.heap.size w3 (w3.alloc (.cells #[.int .i64 (i : Int)] 3)) := (Below.refl _ _).alloc (Nat.le_refl _) _
    have HO4 := Lib.hid (own_keep HO3.out b4)
    have HC4 : Hid ((w3.alloc (.cells #[.int .i64 (i : Int)] 3)).cell? ⟨w3.heap.size, 0, none⟩ = some (.int .i64 (i : Int))) := Lib.hid (by rw [cell_of_block (alloc_block w3 _)]; rfl)
    have HS4 := Lib.hid (HS3.out.trans (b4.mono HS3.out.size))
    have hn : n ≤ 40 := Nat.le_trans HO.out.2 hi
    clear b4
    go_wp2_with (at_builtin; refine append_int _ rfl (.tmp 25) (.tmp 27) rfl v.heap.size (.slice A5 n c5) n (listTo q i) rfl HO4.out w3.heap.size (i : Int) rfl HC4.out (by omega) HS4.out.size ?_; intro g6 c6 w6 ho6 gr6 _ _; have HO6 := Lib.hid ho6; have HB6 := Lib.hid (Below.grown HS4.out gr6 HS4.out.size (own_ge HO4.out)); clear ho6 gr6)
    go_roundg (40 - (i + 1))
    case measure => omega
    case rel => exact ⟨i + 1, n + 1, by go_num, by omega, rfl, Lib.hid ⟨by rw [listTo_yes HQI.out]; exact HO6.out, Nat.succ_le_succ HO.out.2⟩, HB6⟩
  ·obtain rfl : i = 40 := by omega
   obtain ⟨A5, c5, h5, _⟩ := own_form HO.out.1
   obtain rfl := h5
   obtain ⟨_, hlen⟩ := own_nums HO.out.1
   have hn := HO.out.1
   rw [listTo_all] at hn hlen
   subst hlen
   have HN := Lib.hid hn
   clear hn
   go_wp2_with fail
   go_ret
   exact ⟨A5, c5, rfl, HN.out, HS.out⟩
theorem le_thoseD (h : LE w0 v g nd p lim e) (q : Nat → Bool) (hF : ∀ (i : Nat), i < 40 → ∀ (A : Option Addr) (l c : Nat), decide (0 < l) = (e.pend i).isSome → ∀ w, Calls Tryz.prog 62 #[.agg #[.int .i64 (e.gen i : Int), .int .i64 (e.next i : Int), .bool (e.doubt i), .slice A l c]] w fun en w' => en = .returned (.bool (q i)) ∧ Below w.heap.size w w') :
  Calls Tryz.prog 60 #[.pointer (some ⟨p, 0, none⟩), .func (.func 62) #[] #[]] v fun en w' => ∃ A c, en = .returned (.slice A (listE q).length c) ∧ w'.ownsRow v.heap.size 3 1 (.slice A (listE q).length c) (listE q).length (intsV (listE q)) ∧ Below v.heap.size v w' := by
 obtain ⟨cb, A, C, c, f, o, cap, B, h⟩ := h
 have HH := Lib.hid (le_made h.ep)
 have c0 := h.ep.c0
 have HM := Lib.hid h.cm
 have HFF := Lib.hid hF
 clear h hF
 go_enter Tryz.func60, Tryz.ntmps60
 go_wp2_with fail
 refine HH.out.mono ?_
 rintro en w' ⟨rfl, hw⟩
 obtain rfl := hw.symm
 have HRG := Lib.hid HM.out.range
 go_wp2_with (refine wpList_load_mid rfl 85 (.tmp 16) rfl cb 1 rfl (knL e B) _ HRG.out Tryz.underlying85 rfl (by rw [knL_len]; kernel_rfl) ?_)
 go_loopg [5, 6, 18] 40 (fun kk s5 s6 s18 wr => ∃ (i n : Nat), s18 = .int .i64 (i : Int) ∧ i ≤ 40 ∧ kk = 40 - i ∧ Hid (wr.ownsRow v.heap.size 3 1 s5 n (intsV (listTo q i)) ∧ n ≤ i) ∧ Hid (Below v.heap.size v wr))
 case atStart => exact ⟨0, 0, rfl, by omega, rfl, Lib.hid ⟨World.ownsRow_nil _ _ _ _, Nat.le_refl _⟩, Lib.hid (Below.refl _ _)⟩
 case round =>
  obtain ⟨i, n, rfl, hi, rfl, HO, HS⟩ := hrel
  obtain ⟨wo, rfl⟩ : ∃ wo : World, wo = wr := ⟨wr, rfl⟩
  by_cases hlt : i < 40
  ·have hlt' : (i : Int) < 40 := by omega
   obtain ⟨Q, l, j, hB, hl⟩ := HM.out.bl hlt
   have hidx := fun w => knL_index e B hlt w
   rw [hB] at hidx
   obtain ⟨gn, hgg⟩ : ∃ gn, e.gen i = gn := ⟨_, rfl⟩
   obtain ⟨nx, hnx⟩ : ∃ nx, e.next i = nx := ⟨_, rfl⟩
   obtain ⟨db, hdb⟩ : ∃ db, e.doubt i = db := ⟨_, rfl⟩
   obtain ⟨qi, hqi⟩ : ∃ qi, q i = qi := ⟨_, rfl⟩
   have HF1 := Lib.hid (HFF.out i hlt Q l j hl)
   rw [hgg, hnx, hdb] at hidx HF1
   rw [hqi] at HF1
   have HQI := Lib.hid hqi
   obtain ⟨H, hH⟩ : ∃ H, wo.heap.size = H := ⟨_, rfl⟩
   have HHH := Lib.hid hH
   obtain ⟨w2, hw2⟩ : ∃ w2, wo.alloc (.cells #[.int .i64 (gn : Int), .int .i64 (nx : Int), .bool db, .slice Q l j] 84) = w2 := ⟨_, rfl⟩
   have B2 : Below wo.heap.size wo w2 := by rw [← hw2]; exact (Below.refl _ _).alloc (Nat.le_refl _) _
   have p2 : KV w2 H (gn : Int) (nx : Int) db (.slice Q l j) := by rw [← hw2]; exact KV.of_new hH
   have y0 := p2.c0
   have y1 := p2.c1
   have y2 := p2.c2
   have y3 := p2.c3
   have HV2 := Lib.hid hw2
   have HB2 := Lib.hid B2
   clear hB hl hgg hnx hdb hqi hH hw2 B2 p2
   go_upto_region 7 with fail
   rw [HV2.out, HHH.out]
   go_wp2_with fail
   refine (HF1.out w2).mono ?_
   rintro en w3 ⟨rfl, b3⟩
   try dsimp only
   have HB3 : Hid (Below wo.heap.size wo w3) := Lib.hid (HB2.out.trans (b3.mono HB2.out.size))
   have HO3 : Hid (w3.ownsRow v.heap.size 3 1 u5 n (intsV (listTo q i))) := Lib.hid (own_keep HO.out.1 HB3.out)
   have HS3 := Lib.hid (HS.out.trans (HB3.out.mono HS.out.size))
   clear b3 y0 y1 y2 y3
   cases qi with
   | false =>
    go_wp2_with fail
    go_roundg (40 - (i + 1))
    case measure => omega
    case rel => exact ⟨i + 1, n, by go_num, by omega, rfl, Lib.hid ⟨by rw [listTo_no HQI.out]; exact HO3.out, Nat.le_succ_of_le HO.out.2⟩, HS3⟩
   | true =>
    obtain ⟨A5, c5, h5, _⟩ := own_form HO3.out
    obtain rfl := h5
    have b4 : Below w3.heap.size w3 (w3.alloc (.cells #[.int .i64 (i : Int)] 3)) := (Below.refl _ _).alloc (Nat.le_refl _) _
    have HO4 := Lib.hid (own_keep HO3.out b4)
    have HC4 : Hid ((w3.alloc (.cells #[.int .i64 (i : Int)] 3)).cell? ⟨w3.heap.size, 0, none⟩ = some (.int .i64 (i : Int))) := Lib.hid (by rw [cell_of_block (alloc_block w3 _)]; rfl)
    have HS4 := Lib.hid (HS3.out.trans (b4.mono HS3.out.size))
    have hn : n ≤ 40 := Nat.le_trans HO.out.2 hi
    clear b4
    go_wp2_with (at_builtin; refine append_int _ rfl (.tmp 25) (.tmp 27) rfl v.heap.size (.slice A5 n c5) n (listTo q i) rfl HO4.out w3.heap.size (i : Int) rfl HC4.out (by omega) HS4.out.size ?_; intro g6 c6 w6 ho6 gr6 _ _; have HO6 := Lib.hid ho6; have HB6 := Lib.hid (Below.grown HS4.out gr6 HS4.out.size (own_ge HO4.out)); clear ho6 gr6)
    go_roundg (40 - (i + 1))
    case measure => omega
    case rel => exact ⟨i + 1, n + 1, by go_num, by omega, rfl, Lib.hid ⟨by rw [listTo_yes HQI.out]; exact HO6.out, Nat.succ_le_succ HO.out.2⟩, HB6⟩
  ·obtain rfl : i = 40 := by omega
   obtain ⟨A5, c5, h5, _⟩ := own_form HO.out.1
   obtain rfl := h5
   obtain ⟨_, hlen⟩ := own_nums HO.out.1
   have hn := HO.out.1
   rw [listTo_all] at hn hlen
   subst hlen
   have HN := Lib.hid hn
   clear hn
   go_wp2_with fail
   go_ret
   exact ⟨A5, c5, rfl, HN.out, HS.out⟩
theorem le_pending (h : LE w0 v g nd p lim e) : Calls Tryz.prog 24 #[.pointer (some ⟨p, 0, none⟩)] v fun en w' => ∃ A c, en = .returned (.slice A (listE (fun i => (e.pend i).isSome)).length c) ∧ Nums w' A (listE (fun i => (e.pend i).isSome)) ∧ Below v.heap.size v w' := by
 have HT := Lib.hid (le_thoseP h (fun i => (e.pend i).isSome) (fun i _ A l c hl w => by
  have := cy_pending (e.gen i : Int) (e.next i : Int) (e.doubt i) A l c w
  rw [hl] at this
  exact this))
 clear h
 go_enter Tryz.func24, Tryz.ntmps24
 go_wp2_with fail
 refine HT.out.mono ?_
 rintro en w1 ⟨A, c, rfl, hn, b1⟩
 try dsimp only
 have HZ := Lib.hid (And.intro hn b1)
 clear hn b1
 go_wp2_with fail
 go_ret
 exact ⟨A, c, rfl, (own_nums HZ.out.1).1, HZ.out.2⟩
theorem le_doubtT (h : LE w0 v g nd p lim e) : Calls Tryz.prog 25 #[.pointer (some ⟨p, 0, none⟩)] v fun en w' => ∃ A c, en = .returned (.slice A (listE e.doubt).length c) ∧ w'.ownsRow v.heap.size 3 1 (.slice A (listE e.doubt).length c) (listE e.doubt).length (intsV (listE e.doubt)) ∧ Below v.heap.size v w' := by
 have HT := Lib.hid (le_thoseD h e.doubt (fun i _ A l c _ w => known_doubt _ _ _ A l c w))
 clear h
 go_enter Tryz.func25, Tryz.ntmps25
 go_wp2_with fail
 refine HT.out.mono ?_
 rintro en w1 ⟨A, c, rfl, hn, b1⟩
 try dsimp only
 have HZ := Lib.hid (And.intro hn b1)
 clear hn b1
 go_wp2_with fail
 go_ret
 exact ⟨A, c, rfl, HZ.out.1, HZ.out.2⟩
theorem le_doubt (h : LE w0 v g nd p lim e) : Calls Tryz.prog 25 #[.pointer (some ⟨p, 0, none⟩)] v fun en w' => ∃ A c, en = .returned (.slice A (listE e.doubt).length c) ∧ Nums w' A (listE e.doubt) ∧ Below v.heap.size v w' := by
 refine (le_doubtT h).mono ?_
 rintro en w' ⟨A, c, h1, h2, h3⟩
 exact ⟨A, c, h1, (own_nums h2).1, h3⟩
end
end Go.Proofs.YtelmcchleclklaaGreat
