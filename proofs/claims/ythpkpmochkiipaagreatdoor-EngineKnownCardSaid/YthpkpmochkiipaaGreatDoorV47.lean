import Derived.Test.YthpkpmochkiipaaGreatDoorV46
import Derived.Deep.MidRow
import Derived.Test.YthpkpmochkiipaaGreatDoorV41
import Derived.Test.YthpkpmochkiipaaGreatDoorV31
import Derived.Maps.OwnSet
import Derived.Maps.RangeWalk
import Derived.Test.YthpkpmochkiipaaGreatDoorV10
import Derived.Test.YthpkpmochkiipaaGreatDoorV44
import Derived.StillTailTactics
import Derived.Lib.SliceRun
namespace Go.Proofs.YthpkpmochkiipaaGreatDoor
open Go.RowKit Go.Sort
set_option maxRecDepth 100000
set_option maxHeartbeats 8000000

theorem known_doubt (gn nx : Int) (db : Bool) (A : Option Addr) (l c : Nat) (w : World) : Calls Tryz.prog 39 #[.agg #[.int .i64 gn, .int .i64 nx, .bool db, .slice A l c]] w fun en w' => en = .returned (.bool db) ∧ Below w.heap.size w w' := by
  go_enter Tryz.func39, Tryz.ntmps39
  go_wp2_with fail
  go_ret
  exact ⟨rfl, (Below.refl _ _).alloc (Nat.le_refl _) _⟩
def knL (e : Ep) (B : Nat → Value) : List Value := (List.range 160).map (fun j => carF 0 0 e B (j + 1))
theorem knL_at (e : Ep) (B : Nat → Value) {j : Nat} (hj : j < 160) : (knL e B)[j]? = some (carF 0 0 e B (j + 1)) := by
  unfold knL
  rw [List.getElem?_map, List.getElem?_range hj]
  rfl
theorem knL_len (e : Ep) (B : Nat → Value) : (knL e B).length = 160 := by simp [knL]
theorem carF_mid (g c : Nat) (e : Ep) (B : Nat → Value) {j : Nat} (h0 : j ≠ 0) (h1 : j ≠ 161) : carF g c e B j = carF 0 0 e B j := by
  unfold carF
  rw [if_neg h0, if_neg h1, if_neg h0, if_neg h1]
theorem infoKn : (Tryz.prog.info? 76).map (fun i => (i.zero, i.size, i.bytes)) = some (some (.agg #[.int .i64 0, .int .i64 0, .bool false, .slice none 0 0]), 4, 48) := by kernel_rfl
theorem knL_ext (e : Ep) (B : Nat → Value) {i : Nat} (hi : i < 40) : (knL e B).toArray.extract (i * 4) (i * 4 + 4) = #[.int .i64 (e.gen i : Int), .int .i64 (e.next i : Int), .bool (e.doubt i), B i] := by
  apply Array.ext_getElem?
  intro j
  rw [Array.getElem?_extract]
  have hs : (knL e B).toArray.size = 160 := by simp [knL]
  by_cases hj : j < 4
  · rw [if_pos (by rw [hs]; omega), List.getElem?_toArray, knL_at e B (by omega)]
    match j, hj with
    | 0, _ => rw [show i * 4 + 0 + 1 = 1 + 4 * i by omega, carF_g _ _ _ _ hi]; rfl
    | 1, _ => rw [show i * 4 + 1 + 1 = 2 + 4 * i by omega, carF_n _ _ _ _ hi]; rfl
    | 2, _ => rw [show i * 4 + 2 + 1 = 3 + 4 * i by omega, carF_d _ _ _ _ hi]; rfl
    | 3, _ => rw [show i * 4 + 3 + 1 = 4 + 4 * i by omega, carF_b _ _ _ _ hi]; rfl
  · rw [if_neg (by rw [hs]; omega)]
    simp
    omega
theorem knL_index (e : Ep) (B : Nat → Value) {i : Nat} (hi : i < 40) (w : World) : (Instr.index 77 (.agg (knL e B).toArray) (.int .i64 (i : Int))).run Tryz.prog w = .ok (.agg #[.int .i64 (e.gen i : Int), .int .i64 (e.next i : Int), .bool (e.doubt i), B i]) w := by
  obtain ⟨i0, hi0, hz0, hz1, hz2⟩ := info_parts infoKn
  have hx := knL_ext e B hi
  simp at hx
  simp [Instr.index, run_underlying Tryz.underlying77, asIntOf, part, sizeOf, typeInfo, hi0, hz1, go_sem]
  rw [if_pos hi, hx]
theorem CM.range {w0 v : World} {g cb : Nat} {nd : ND} {e : Ep} {A C c f o cap : Nat} {B : Nat → Value} (h : CM w0 v g cb nd e A C c f o cap B) : v.rangeAt cb 1 (knL e B) := fun j u hj => by
  have hl : j < 160 := by have := (List.getElem?_eq_some_iff.1 hj).1; rwa [knL_len] at this
  rw [knL_at e B hl] at hj
  injection hj with hj
  subst hj
  rw [show 1 + j = j + 1 by omega, h.blk.cell (by omega), carF_mid _ _ _ _ (by omega) (by omega)]
theorem int_notW : ¬ WiT 3 := notWi (by decide) (by decide) (by decide) (by decide) (by decide) (by decide) (by decide)
theorem own_keepE {lim : Nat} {w w' : World} {B n : Nat} {v : Value} {xs : List Value} (h : w.ownsRow B 3 1 v n xs) (k : KeepE lim w w') : w'.ownsRow B 3 1 v n xs := by
  obtain ⟨h1, h2⟩ := h
  refine ⟨h1, ?_⟩
  rcases h2 with h2 | ⟨g, cap, cur, hv, hg, hh, r⟩
  · exact Or.inl h2
  · exact Or.inr ⟨g, cap, cur, hv, hg, (k.cells hh int_notW (by decide)).trans hh, r⟩
def listTo (q : Nat → Bool) (i : Nat) : List Int := ((List.range i).filter q).map (fun i : Nat => (i : Int))
theorem listTo_no {q : Nat → Bool} {i : Nat} (h : q i = false) : listTo q (i + 1) = listTo q i := by
  unfold listTo
  rw [List.range_succ, List.filter_append, List.filter_cons_of_neg (by rw [h]; decide)]
  simp
theorem listTo_yes {q : Nat → Bool} {i : Nat} (h : q i = true) : listTo q (i + 1) = listTo q i ++ [(i : Int)] := by
  unfold listTo
  rw [List.range_succ, List.filter_append, List.filter_cons_of_pos h]
  simp
theorem listTo_all (q : Nat → Bool) : listTo q 40 = listE q := rfl
section
variable {w0 v : World} {g p lim : Nat} {nd : ND} {e : Ep}
theorem le_thoseP (h : LE w0 v g nd p lim e) (q : Nat → Bool) (hF : ∀ (i : Nat), i < 40 → ∀ (A : Option Addr) (l c : Nat), decide (0 < l) = (e.pend i).isSome → ∀ w, Calls Tryz.prog 68 #[.agg #[.int .i64 (e.gen i : Int), .int .i64 (e.next i : Int), .bool (e.doubt i), .slice A l c]] w fun en w' => en = .returned (.bool (q i)) ∧ Below w.heap.size w w') :
    Calls Tryz.prog 38 #[.pointer (some ⟨p, 0, none⟩), .func (.func 68) #[] #[]] v fun en w' => ∃ A c, en = .returned (.slice A (listE q).length c) ∧ w'.ownsRow v.heap.size 3 1 (.slice A (listE q).length c) (listE q).length (intsV (listE q)) ∧ Below v.heap.size v w' := by
  obtain ⟨cb, A, C, c, f, o, cap, B, h⟩ := h
  have HH := Lib.hid (le_made h.ep)
  have c0 := h.ep.c0
  have HM := Lib.hid h.cm
  have HFF := Lib.hid hF
  clear h hF
  go_enter Tryz.func38, Tryz.ntmps38
  go_wp2_with fail
  refine HH.out.mono ?_
  rintro en w' ⟨rfl, hw⟩
  obtain rfl := hw.symm
  have HRG := Lib.hid HM.out.range
  go_wp2_with (refine wpList_load_mid rfl 77 (.tmp 16) rfl cb 1 rfl (knL e B) _ HRG.out Tryz.underlying77 rfl (by rw [knL_len]; kernel_rfl) ?_)
  go_loopg [5, 6, 18] 40 (fun kk s5 s6 s18 wr => ∃ (i n : Nat), s18 = .int .i64 (i : Int) ∧ i ≤ 40 ∧ kk = 40 - i ∧ Hid (wr.ownsRow v.heap.size 3 1 s5 n (intsV (listTo q i)) ∧ n ≤ i) ∧ Hid (Below v.heap.size v wr))
  case atStart => exact ⟨0, 0, rfl, by omega, rfl, Lib.hid ⟨World.ownsRow_nil _ _ _ _, Nat.le_refl _⟩, Lib.hid (Below.refl _ _)⟩
  case round =>
    obtain ⟨i, n, rfl, hi, rfl, HO, HS⟩ := hrel
    obtain ⟨wo, rfl⟩ : ∃ wo : World, wo = wr := ⟨wr, rfl⟩
    by_cases hlt : i < 40
    · have hlt' : (i : Int) < 40 := by omega
      obtain ⟨Q, l, j, hB, hl⟩ := HM.out.bl hlt
      have hidx := fun w => knL_index e B hlt w
      rw [hB] at hidx
      obtain ⟨gn, hgg⟩ : ∃ gn, e.gen i = gn := ⟨_, rfl⟩
      obtain ⟨nx, hnx⟩ : ∃ nx, e.next i = nx := ⟨_, rfl⟩
      obtain ⟨db, hdb⟩ : ∃ db, e.doubt i = db := ⟨_, rfl⟩
      obtain ⟨qi, hqi⟩ : ∃ qi, q i = qi := ⟨_, rfl⟩
      have HF1 := Lib.hid (HFF.out i hlt Q l j hl)
      rw [hgg, hnx, hdb] at hidx HF1
      rw [hqi] at HF1
      have HQI := Lib.hid hqi
      obtain ⟨H, hH⟩ : ∃ H, wo.heap.size = H := ⟨_, rfl⟩
      have HHH := Lib.hid hH
      obtain ⟨w2, hw2⟩ : ∃ w2, wo.alloc (.cells #[.int .i64 (gn : Int), .int .i64 (nx : Int), .bool db, .slice Q l j] 76) = w2 := ⟨_, rfl⟩
      have B2 : Below wo.heap.size wo w2 := by rw [← hw2]; exact (Below.refl _ _).alloc (Nat.le_refl _) _
      have p2 : KV w2 H (gn : Int) (nx : Int) db (.slice Q l j) := by rw [← hw2]; exact KV.of_new hH
      have y0 := p2.c0
      have y1 := p2.c1
      have y2 := p2.c2
      have y3 := p2.c3
      have HV2 := Lib.hid hw2
      have HB2 := Lib.hid B2
      clear hB hl hgg hnx hdb hqi hH hw2 B2 p2
      go_upto_region 7 with fail
      rw [HV2.out, HHH.out]
      go_wp2_with fail
      refine (HF1.out w2).mono ?_
      rintro en w3 ⟨rfl, b3⟩
      try dsimp only
      have HB3 : Hid (Below wo.heap.size wo w3) := Lib.hid (HB2.out.trans (b3.mono HB2.out.size))
      have HO3 : Hid (w3.ownsRow v.heap.size 3 1 u5 n (intsV (listTo q i))) := Lib.hid (own_keep HO.out.1 HB3.out)
      have HS3 := Lib.hid (HS.out.trans (HB3.out.mono HS.out.size))
      clear b3 y0 y1 y2 y3
      cases qi with
      | false =>
        go_wp2_with fail
        go_roundg (40 - (i + 1))
        case measure => omega
        case rel => exact ⟨i + 1, n, by go_num, by omega, rfl, Lib.hid ⟨by rw [listTo_no HQI.out]; exact HO3.out, Nat.le_succ_of_le HO.out.2⟩, HS3⟩
      | true =>
        obtain ⟨A5, c5, h5, _⟩ := own_form HO3.out
        obtain rfl := h5
        have b4 : Below w3.heap.size w3 (w3.alloc (.cells #[.int .i64 (i : Int)] 3)) := (Below.refl _ _).alloc (Nat.le_refl _) _
        have HO4 := Lib.hid (own_keep HO3.out b4)
        have HC4 : Hid ((w3.alloc (.cells #[.int .i64 (i : Int)] 3)).cell? ⟨w3.heap.size, 0, none⟩ = some (.int .i64 (i : Int))) := Lib.hid (by rw [cell_of_block (alloc_block w3 _)]; rfl)
        have HS4 := Lib.hid (HS3.out.trans (b4.mono HS3.out.size))
        have hn : n ≤ 40 := Nat.le_trans HO.out.2 hi
        clear b4
        go_wp2_with (at_builtin; refine append_int _ rfl (.tmp 25) (.tmp 27) rfl v.heap.size (.slice A5 n c5) n (listTo q i) rfl HO4.out w3.heap.size (i : Int) rfl HC4.out (by omega) HS4.out.size ?_; intro g6 c6 w6 ho6 gr6 _ _; have HO6 := Lib.hid ho6; have HB6 := Lib.hid (Below.grown HS4.out gr6 HS4.out.size (own_ge HO4.out)); clear ho6 gr6)
        go_roundg (40 - (i + 1))
        case measure => omega
        case rel => exact ⟨i + 1, n + 1, by go_num, by omega, rfl, Lib.hid ⟨by rw [listTo_yes HQI.out]; exact HO6.out, Nat.succ_le_succ HO.out.2⟩, HB6⟩
    · obtain rfl : i = 40 := by omega
      obtain ⟨A5, c5, h5, _⟩ := own_form HO.out.1
      obtain rfl := h5
      obtain ⟨_, hlen⟩ := own_nums HO.out.1
      have hn := HO.out.1
      rw [listTo_all] at hn hlen
      subst hlen
      have HN := Lib.hid hn
      clear hn
      go_wp2_with fail
      go_ret
      exact ⟨A5, c5, rfl, HN.out, HS.out⟩
theorem le_thoseD (h : LE w0 v g nd p lim e) (q : Nat → Bool) (hF : ∀ (i : Nat), i < 40 → ∀ (A : Option Addr) (l c : Nat), decide (0 < l) = (e.pend i).isSome → ∀ w, Calls Tryz.prog 39 #[.agg #[.int .i64 (e.gen i : Int), .int .i64 (e.next i : Int), .bool (e.doubt i), .slice A l c]] w fun en w' => en = .returned (.bool (q i)) ∧ Below w.heap.size w w') :
    Calls Tryz.prog 38 #[.pointer (some ⟨p, 0, none⟩), .func (.func 39) #[] #[]] v fun en w' => ∃ A c, en = .returned (.slice A (listE q).length c) ∧ w'.ownsRow v.heap.size 3 1 (.slice A (listE q).length c) (listE q).length (intsV (listE q)) ∧ Below v.heap.size v w' := by
  obtain ⟨cb, A, C, c, f, o, cap, B, h⟩ := h
  have HH := Lib.hid (le_made h.ep)
  have c0 := h.ep.c0
  have HM := Lib.hid h.cm
  have HFF := Lib.hid hF
  clear h hF
  go_enter Tryz.func38, Tryz.ntmps38
  go_wp2_with fail
  refine HH.out.mono ?_
  rintro en w' ⟨rfl, hw⟩
  obtain rfl := hw.symm
  have HRG := Lib.hid HM.out.range
  go_wp2_with (refine wpList_load_mid rfl 77 (.tmp 16) rfl cb 1 rfl (knL e B) _ HRG.out Tryz.underlying77 rfl (by rw [knL_len]; kernel_rfl) ?_)
  go_loopg [5, 6, 18] 40 (fun kk s5 s6 s18 wr => ∃ (i n : Nat), s18 = .int .i64 (i : Int) ∧ i ≤ 40 ∧ kk = 40 - i ∧ Hid (wr.ownsRow v.heap.size 3 1 s5 n (intsV (listTo q i)) ∧ n ≤ i) ∧ Hid (Below v.heap.size v wr))
  case atStart => exact ⟨0, 0, rfl, by omega, rfl, Lib.hid ⟨World.ownsRow_nil _ _ _ _, Nat.le_refl _⟩, Lib.hid (Below.refl _ _)⟩
  case round =>
    obtain ⟨i, n, rfl, hi, rfl, HO, HS⟩ := hrel
    obtain ⟨wo, rfl⟩ : ∃ wo : World, wo = wr := ⟨wr, rfl⟩
    by_cases hlt : i < 40
    · have hlt' : (i : Int) < 40 := by omega
      obtain ⟨Q, l, j, hB, hl⟩ := HM.out.bl hlt
      have hidx := fun w => knL_index e B hlt w
      rw [hB] at hidx
      obtain ⟨gn, hgg⟩ : ∃ gn, e.gen i = gn := ⟨_, rfl⟩
      obtain ⟨nx, hnx⟩ : ∃ nx, e.next i = nx := ⟨_, rfl⟩
      obtain ⟨db, hdb⟩ : ∃ db, e.doubt i = db := ⟨_, rfl⟩
      obtain ⟨qi, hqi⟩ : ∃ qi, q i = qi := ⟨_, rfl⟩
      have HF1 := Lib.hid (HFF.out i hlt Q l j hl)
      rw [hgg, hnx, hdb] at hidx HF1
      rw [hqi] at HF1
      have HQI := Lib.hid hqi
      obtain ⟨H, hH⟩ : ∃ H, wo.heap.size = H := ⟨_, rfl⟩
      have HHH := Lib.hid hH
      obtain ⟨w2, hw2⟩ : ∃ w2, wo.alloc (.cells #[.int .i64 (gn : Int), .int .i64 (nx : Int), .bool db, .slice Q l j] 76) = w2 := ⟨_, rfl⟩
      have B2 : Below wo.heap.size wo w2 := by rw [← hw2]; exact (Below.refl _ _).alloc (Nat.le_refl _) _
      have p2 : KV w2 H (gn : Int) (nx : Int) db (.slice Q l j) := by rw [← hw2]; exact KV.of_new hH
      have y0 := p2.c0
      have y1 := p2.c1
      have y2 := p2.c2
      have y3 := p2.c3
      have HV2 := Lib.hid hw2
      have HB2 := Lib.hid B2
      clear hB hl hgg hnx hdb hqi hH hw2 B2 p2
      go_upto_region 7 with fail
      rw [HV2.out, HHH.out]
      go_wp2_with fail
      refine (HF1.out w2).mono ?_
      rintro en w3 ⟨rfl, b3⟩
      try dsimp only
      have HB3 : Hid (Below wo.heap.size wo w3) := Lib.hid (HB2.out.trans (b3.mono HB2.out.size))
      have HO3 : Hid (w3.ownsRow v.heap.size 3 1 u5 n (intsV (listTo q i))) := Lib.hid (own_keep HO.out.1 HB3.out)
      have HS3 := Lib.hid (HS.out.trans (HB3.out.mono HS.out.size))
      clear b3 y0 y1 y2 y3
      cases qi with
      | false =>
        go_wp2_with fail
        go_roundg (40 - (i + 1))
        case measure => omega
        case rel => exact ⟨i + 1, n, by go_num, by omega, rfl, Lib.hid ⟨by rw [listTo_no HQI.out]; exact HO3.out, Nat.le_succ_of_le HO.out.2⟩, HS3⟩
      | true =>
        obtain ⟨A5, c5, h5, _⟩ := own_form HO3.out
        obtain rfl := h5
        have b4 : Below w3.heap.size w3 (w3.alloc (.cells #[.int .i64 (i : Int)] 3)) := (Below.refl _ _).alloc (Nat.le_refl _) _
        have HO4 := Lib.hid (own_keep HO3.out b4)
        have HC4 : Hid ((w3.alloc (.cells #[.int .i64 (i : Int)] 3)).cell? ⟨w3.heap.size, 0, none⟩ = some (.int .i64 (i : Int))) := Lib.hid (by rw [cell_of_block (alloc_block w3 _)]; rfl)
        have HS4 := Lib.hid (HS3.out.trans (b4.mono HS3.out.size))
        have hn : n ≤ 40 := Nat.le_trans HO.out.2 hi
        clear b4
        go_wp2_with (at_builtin; refine append_int _ rfl (.tmp 25) (.tmp 27) rfl v.heap.size (.slice A5 n c5) n (listTo q i) rfl HO4.out w3.heap.size (i : Int) rfl HC4.out (by omega) HS4.out.size ?_; intro g6 c6 w6 ho6 gr6 _ _; have HO6 := Lib.hid ho6; have HB6 := Lib.hid (Below.grown HS4.out gr6 HS4.out.size (own_ge HO4.out)); clear ho6 gr6)
        go_roundg (40 - (i + 1))
        case measure => omega
        case rel => exact ⟨i + 1, n + 1, by go_num, by omega, rfl, Lib.hid ⟨by rw [listTo_yes HQI.out]; exact HO6.out, Nat.succ_le_succ HO.out.2⟩, HB6⟩
    · obtain rfl : i = 40 := by omega
      obtain ⟨A5, c5, h5, _⟩ := own_form HO.out.1
      obtain rfl := h5
      obtain ⟨_, hlen⟩ := own_nums HO.out.1
      have hn := HO.out.1
      rw [listTo_all] at hn hlen
      subst hlen
      have HN := Lib.hid hn
      clear hn
      go_wp2_with fail
      go_ret
      exact ⟨A5, c5, rfl, HN.out, HS.out⟩
theorem le_pending (h : LE w0 v g nd p lim e) : Calls Tryz.prog 29 #[.pointer (some ⟨p, 0, none⟩)] v fun en w' => ∃ A c, en = .returned (.slice A (listE (fun i => (e.pend i).isSome)).length c) ∧ Nums w' A (listE (fun i => (e.pend i).isSome)) ∧ Below v.heap.size v w' := by
  have HT := Lib.hid (le_thoseP h (fun i => (e.pend i).isSome) (fun i _ A l c hl w => by
    have := cy_pending (e.gen i : Int) (e.next i : Int) (e.doubt i) A l c w
    rw [hl] at this
    exact this))
  clear h
  go_enter Tryz.func29, Tryz.ntmps29
  go_wp2_with fail
  refine HT.out.mono ?_
  rintro en w1 ⟨A, c, rfl, hn, b1⟩
  try dsimp only
  have HZ := Lib.hid (And.intro hn b1)
  clear hn b1
  go_wp2_with fail
  go_ret
  exact ⟨A, c, rfl, (own_nums HZ.out.1).1, HZ.out.2⟩
theorem le_doubtT (h : LE w0 v g nd p lim e) : Calls Tryz.prog 14 #[.pointer (some ⟨p, 0, none⟩)] v fun en w' => ∃ A c, en = .returned (.slice A (listE e.doubt).length c) ∧ w'.ownsRow v.heap.size 3 1 (.slice A (listE e.doubt).length c) (listE e.doubt).length (intsV (listE e.doubt)) ∧ Below v.heap.size v w' := by
  have HT := Lib.hid (le_thoseD h e.doubt (fun i _ A l c _ w => known_doubt _ _ _ A l c w))
  clear h
  go_enter Tryz.func14, Tryz.ntmps14
  go_wp2_with fail
  refine HT.out.mono ?_
  rintro en w1 ⟨A, c, rfl, hn, b1⟩
  try dsimp only
  have HZ := Lib.hid (And.intro hn b1)
  clear hn b1
  go_wp2_with fail
  go_ret
  exact ⟨A, c, rfl, HZ.out.1, HZ.out.2⟩
theorem le_doubt (h : LE w0 v g nd p lim e) : Calls Tryz.prog 14 #[.pointer (some ⟨p, 0, none⟩)] v fun en w' => ∃ A c, en = .returned (.slice A (listE e.doubt).length c) ∧ Nums w' A (listE e.doubt) ∧ Below v.heap.size v w' := by
  refine (le_doubtT h).mono ?_
  rintro en w' ⟨A, c, h1, h2, h3⟩
  exact ⟨A, c, h1, (own_nums h2).1, h3⟩
end
end Go.Proofs.YthpkpmochkiipaaGreatDoor
namespace Go.Proofs.YthpkpmochkiipaaGreatDoor
open Go.RowKit Go.Sort
set_option maxRecDepth 100000
set_option maxHeartbeats 2000000

end Go.Proofs.YthpkpmochkiipaaGreatDoor
namespace Go.Proofs.YthpkpmochkiipaaGreatDoor
open Go.RowKit Go.Sort
set_option maxRecDepth 100000
set_option maxHeartbeats 1000000

end Go.Proofs.YthpkpmochkiipaaGreatDoor
namespace Go.Proofs.YthpkpmochkiipaaGreatDoor
open Go.RowKit Go.Sort
set_option maxRecDepth 100000
set_option maxHeartbeats 2000000

theorem lbegin (w : World) : Calls Tryz.prog 6 #[] w fun e w' => ∃ g nd p, e = .returned (.tuple #[.pointer (some ⟨p, 0, none⟩), .pointer (some ⟨g, 0, none⟩)]) ∧ LE w w' g nd p w'.heap.size (Ep.new Wp.new) ∧ Below w.heap.size w w' := by
  have q4 := we_neqNilNil
  go_enter Tryz.func6, Tryz.ntmps6
  go_wp2_with fail
  refine (wl_new (w0 := w) w (Below.refl _ _)).mono ?_
  rintro e w1 ⟨g, nd, rfl, W1, b1⟩
  try dsimp only
  have HW := Lib.hid W1
  have HB := Lib.hid b1
  clear W1 b1
  go_wp2_with fail
  refine (le_blank HW.out).mono ?_
  rintro e w2 ⟨p, nd2, rfl, L2, b2, _⟩
  try dsimp only
  have HL := Lib.hid L2
  have HB2 : Hid (Below w.heap.size w w2) := Lib.hid (HB.out.trans (b2.mono HB.out.size))
  clear L2 b2 HB
  go_wp2_with fail
  go_ret2
  exact ⟨g, nd2, p, rfl, HL.out, HB2.out⟩
theorem Blk8.keepE {lim : Nat} {w w' : World} {g n : Nat} {F : Nat → Nat} (h : Blk8 w g n F) (k : KeepE lim w w') : Blk8 w' g n F := by
  obtain ⟨cs, hb, hc⟩ := h
  exact ⟨cs, (k.cells hb (notWi (by decide) (by decide) (by decide) (by decide) (by decide) (by decide) (by decide)) (by decide)).trans hb, hc⟩
def kn14 : Ep := { Ep.new Wp.new with w := ((Wp.new.setD 3 true).setD 5 true).setD 7 true }
theorem kn14_tl : kn14.Tl 0 1 := Ep.Tl.new.same rfl ⟨rfl, rfl, by show (-1 : Int) < 0; decide⟩
theorem kn14_fit : kn14.w.Fit 0 := Wp.Fit.new.congr rfl rfl rfl
theorem kn14_dn : ∀ n, n < 8 → kn14.w.dn n = true → n ∈ [3, 5, 7] := by decide
theorem kn14_write (D : Nat → Nat) : (kn14.write encK 3 D).2 = none ∧ (kn14.write encK 3 D).1.gen 3 = 1 ∧ (kn14.write encK 3 D).1.pend 3 = some D ∧ (kn14.write encK 3 D).1.doubt 3 = false ∧ ∀ i, i ≠ 3 → (kn14.write encK 3 D).1.pend i = none := by
  obtain ⟨w1, _, _, w4⟩ := kn14_tl.write (st := 3) (by omega) (by omega) encK D
  have hn : (kn14.write encK 3 D).2 = none := by
    cases hr : (kn14.write encK 3 D).2 with
    | none => rfl
    | some l =>
      exfalso
      obtain ⟨k, hk, h⟩ := w4 [3, 5, 7] kn14_dn (by rw [hr]; simp)
      have : [3, 5, 7].length = 3 := rfl
      omega
  obtain ⟨d1, d2⟩ := Ep.write_down (e := kn14) kn14_tl.calm (st := 3) (by omega) (by decide) (by decide) encK D (i := 0) (by omega) (by decide) hn
  exact ⟨hn, d2, d1, (w1.ok hn).2.1, fun i hi => w1.pnd i hi⟩
theorem lknown14 (w : World) : Calls Tryz.prog 8 #[] w fun e w' => e = .returned (.bool true) ∧ Below w.heap.size w w' := by
  have q1 := we_eqlNil
  have q2 := we_neqNil
  have q3 := we_eqlNilNil
  have q4 := we_neqNilNil
  go_enter Tryz.func8, Tryz.ntmps8
  go_wp2_with fail
  refine (lbegin w).mono ?_
  rintro e w1 ⟨g, nd, p, rfl, L1, b1⟩
  try dsimp only
  have HL1 := Lib.hid L1
  obtain ⟨lim, hlim⟩ : ∃ lim, w1.heap.size = lim := ⟨_, rfl⟩
  rw [hlim] at HL1
  clear L1 b1 hlim
  go_wp2_with fail
  refine (wl_down HL1.out.wl (n := 3) (by omega) true).mono ?_
  rintro e w2 ⟨rfl, W2, K2⟩
  try dsimp only
  have HL2 := Lib.hid (HL1.out.wire W2 (KeepF.of K2))
  clear W2 K2 HL1
  go_wp2_with fail
  refine (wl_down HL2.out.wl (n := 5) (by omega) true).mono ?_
  rintro e w3 ⟨rfl, W3, K3⟩
  try dsimp only
  have HL3 := Lib.hid (HL2.out.wire W3 (KeepF.of K3))
  clear W3 K3 HL2
  go_wp2_with fail
  refine (wl_down HL3.out.wl (n := 7) (by omega) true).mono ?_
  rintro e w4 ⟨rfl, W4, K4⟩
  try dsimp only
  have HL4 : Hid (LE w w4 g nd p lim kn14) := Lib.hid (HL3.out.wire W4 (KeepF.of K4))
  clear W4 K4 HL3
  go_wp2_with fail
  refine (cbytes 1 128 128 rfl w4 (by omega)).mono ?_
  rintro e w5 ⟨b, rfl, B5, b5, _⟩
  try dsimp only
  have HL5 := Lib.hid (HL4.out.below b5)
  have HS5 := Lib.hid B5
  clear B5 b5 HL4
  obtain ⟨k1, k2, k3, k4, k5⟩ := kn14_write (bytesF 1)
  have HW := Lib.hid (le_write HL5.out (m := 0) kn14_fit (by omega) (fun _ => by show (1 : Nat) ≤ _; omega) (st := 3) (by omega) (some ⟨b, 0, none⟩) 128 (bytesF 1) HS5.out.dat (fun j _ => bytesF_lt 1 j))
  obtain ⟨x, hx⟩ : ∃ x, kn14.write encK 3 (bytesF 1) = x := ⟨_, rfl⟩
  have HF6 : Hid (x.1.w.Fit 564) := Lib.hid (by rw [← hx]; exact (Ep.fit_write (m := 0) kn14_fit (fun j _ => bytesF_lt 1 j) (fun i j hj => encK_lt' _ i j)))
  have HN6 : Hid (∀ i, x.1.next i ≤ 1000000) := Lib.hid (fun i => by
    rw [← hx, Ep.write_next]
    show (if i = 3 then 1 + 1 else 1) ≤ 1000000
    split <;> omega)
  rw [hx] at HW k1 k2 k3 k4 k5
  have HP : Hid (listE (fun i => (x.1.pend i).isSome) = [3]) := Lib.hid (by
    rw [listE_congr (f' := fun i => decide (i = 3)) (fun i _ => by
      by_cases e : i = 3
      · subst e; rw [k3]; rfl
      · rw [k5 i e, decide_eq_false e]; rfl)]
    decide)
  have HR : Hid (x.1.read encK decK 3 = ({ x.1 with w := x.1.w }, .yes (bytesF 1))) := Lib.hid (by
    unfold Ep.read Ep.fetch
    rw [k3]
    dsimp only
    rw [k4, if_neg (by decide)])
  have HG := Lib.hid k2
  have HE := Lib.hid k1
  clear hx k1 k2 k3 k4 k5
  go_wp2_with fail
  refine HW.out.mono ?_
  rintro e w6 ⟨u, rfl, L6, K6, E6⟩
  try dsimp only
  rw [HE.out] at E6
  obtain rfl : u = .nilIface := E6
  have HL6 := Lib.hid L6
  have HS6 := Lib.hid (HS5.out.keepE K6)
  clear L6 K6 HW HL5 HS5
  have HPE := Lib.hid (le_pending HL6.out)
  rw [HP.out] at HPE
  go_wp2_with fail
  refine HPE.out.mono ?_
  rintro e w7 ⟨A, c, rfl, n7, b7⟩
  try dsimp only
  have HL7 := Lib.hid (HL6.out.below b7)
  have HS7 := Lib.hid (HS6.out.below b7)
  have HN7 := Lib.hid n7
  clear n7 b7 HL6 HS6 HPE
  have hb8 : Below w7.heap.size w7 (w7.alloc (.cells #[.int .i64 3] 3)) := (Below.refl _ _).alloc (Nat.le_refl _) _
  have HSA := Lib.hid (lsame A (some ⟨w7.heap.size, 0, none⟩) [3] [3] c 1 _ (HN7.out.keep hb8) (litNums rfl) (by simp) true ⟨fun _ => rfl, fun _ => rfl⟩)
  have HL8 := Lib.hid (HL7.out.below hb8)
  have HS8 := Lib.hid (HS7.out.below hb8)
  clear hb8 HL7 HS7 HN7
  go_wp2_with fail
  refine HSA.out.mono ?_
  rintro e w9 ⟨rfl, b9⟩
  try dsimp only
  have HL9 := Lib.hid (HL8.out.below b9)
  have HS9 := Lib.hid (HS8.out.below b9)
  clear b9 HL8 HS8 HSA
  have HGE := Lib.hid (le_gen HL9.out (st := 3) (by omega))
  rw [HG.out] at HGE
  go_wp2_with fail
  refine HGE.out.mono ?_
  rintro e wa ⟨rfl, hw⟩
  obtain rfl := hw.symm
  try dsimp only
  have HLa := HL9
  have HSa := HS9
  clear HL9 HS9 HGE
  have HRD := Lib.hid (le_read HLa.out HF6.out (by omega) HN6.out (st := 3) (by omega))
  rw [HR.out] at HRD
  go_wp2_with fail
  refine HRD.out.mono ?_
  rintro e wb ⟨r, u, rfl, Lb, Kb, ⟨l, hl, _⟩ | ⟨D, P2, c2, hD, rfl, rfl, Rb, _, _⟩⟩
  · cases hl
  · cases hD
    try dsimp only
    have v1 := conv_rd (cap := c2) Rb.rd
    have v2 := conv_rd (cap := 128) (HSa.out.keepE Kb).rd
    have HLb := Lib.hid Lb
    clear Lb Kb Rb HRD HSa HLa
    go_wp2_with fail
    go_ret
    exact ⟨by simp, HLb.out.wl.blw⟩
end Go.Proofs.YthpkpmochkiipaaGreatDoor
namespace Go.Proofs.YthpkpmochkiipaaGreatDoor.Kc
open Go.RowKit Go.Sort
set_option maxRecDepth 100000
set_option maxHeartbeats 2000000

end Go.Proofs.YthpkpmochkiipaaGreatDoor.Kc
