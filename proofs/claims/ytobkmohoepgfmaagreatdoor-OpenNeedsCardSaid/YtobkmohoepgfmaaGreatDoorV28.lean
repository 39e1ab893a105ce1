import Derived.Test.YtobkmohoepgfmaaGreatDoorV27
namespace Go.Proofs.YtobkmohoepgfmaaGreatDoor.Kc
open Go.RowKit Go.Shelf
attribute [local go_sem] Oper.semAt_some
set_option maxRecDepth 100000
set_option maxHeartbeats 4000000

theorem chunk_in (F : Fence) (n : Nat) (h5 : F.fn 133) (hro : F.round = none) (h q cap : Nat) (w : World) :
  CallsIn F n Tryz.prog 133 #[.slice (some ⟨h, q, none⟩) 128 cap, .int .i64 32] w fun e w' => e = .returned (.func (.func 164) #[] #[.pointer (some ⟨w.heap.size, 0, none⟩), .pointer (some ⟨w.heap.size + 1, 0, none⟩)]) ∧
   w' = (w.alloc (.cells #[.slice (some ⟨h, q, none⟩) 128 cap] 36)).alloc (.cells #[.int .i64 32] 3) := by
 refine callsIn_of_wp Tryz.func133 rfl h5 ?_ hro
 simp only [Tryz.ntmps133, List.size_toArray, List.length_cons, List.length_nil, Nat.reduceAdd, Nat.reduceSub, Array.replicate_succ, Array.replicate_zero, List.push_toArray, List.append_toArray, List.nil_append, List.cons_append]
 gi_wp2
 go_ret
 exact ⟨rfl, rfl⟩

theorem chunk_stops (F : Fence) (n : Nat) (h6 : F.fn 164) (hro : F.round = none) (hn : 1 ≤ n) (Bs Bn n₀ h q cap : Nat) (hcap : 128 ≤ cap) (w : World) (hbs : Bs < n₀) (hbn : Bn < n₀) (hn₀ : n₀ ≤ w.heap.size)
  (hBs : w.cell? ⟨Bs, 0, none⟩ = some (.slice (some ⟨h, q, none⟩) 128 cap)) (hBn : w.cell? ⟨Bn, 0, none⟩ = some (.int .i64 32)) :
  SeqStopsK F n Tryz.prog 164 #[.pointer (some ⟨Bs, 0, none⟩), .pointer (some ⟨Bn, 0, none⟩)] (fun k : Nat => #[partV h q k]) (Below n₀) (fun ys => ys = List.range 4) (fun pre => ∃ k, k ≤ 4 ∧ pre = List.range k) 4 w := fun l J Jx W hW hJ _ hY h0 =>
 chunk1_in F n h6 hro hn l Bs Bn n₀ h q cap hcap hbs hbn J Jx (fun pre V hV => hJ pre V _ none hV (only_drew (only_refl V none)) (fun r e => by cases e)) hY W ((hW.cell (p := ⟨Bs, 0, none⟩) (show Bs < _ by omega)).trans hBs) ((hW.cell (p := ⟨Bn, 0, none⟩) (show Bn < _ by omega)).trans hBn) h0

theorem appendSeq_in (F : Fence) (n : Nat) (h3 : F.fn 163) (h6 : F.fn 164) (hro : F.round = none) (hn : 3 ≤ n) (Bs Bn h q cap : Nat) (hcap : 128 ≤ cap) (w : World)
  (hBs : w.cell? ⟨Bs, 0, none⟩ = some (.slice (some ⟨h, q, none⟩) 128 cap)) (hBn : w.cell? ⟨Bn, 0, none⟩ = some (.int .i64 32)) :
  CallsIn F n Tryz.prog 163 #[.slice none 0 0, .func (.func 164) #[] #[.pointer (some ⟨Bs, 0, none⟩), .pointer (some ⟨Bn, 0, none⟩)]] w
   fun e W' => ∃ v, e = .returned v ∧ W'.ownsRow w.heap.size 36 1 v 4 ((List.range 4).map (partV h q)) ∧ Below w.heap.size w W' := by
 have h1 : 1 ≤ n := by omega
 have ls : Bs < w.heap.size := cell?_lt hBs
 have ln : Bn < w.heap.size := cell?_lt hBn
 obtain ⟨i0, hi, hz0, hz1, hz2⟩ := info_parts infoRow
 refine callsIn_of_wp_marks Tryz.func163 rfl h3 ?_ hro
 simp only [Tryz.ntmps163, List.size_toArray, List.length_cons, List.length_nil, Nat.reduceAdd, Nat.reduceSub, Array.replicate_succ, Array.replicate_zero, List.push_toArray, List.append_toArray, List.nil_append, List.cons_append]
 gi_wp2
 have bO := Boxed.new w 117 (.slice none 0 0)
 have hB0 : Below w.heap.size w (w.alloc (.cells #[.slice none 0 0] 117)) := (Below.refl _ w).alloc (Nat.le_refl _) _
 refine wpIn_rangeFunc_ownG hro h1 (gf := 164) (lb := #[.pointer (some ⟨Bs, 0, none⟩), .pointer (some ⟨Bn, 0, none⟩)]) rfl h6 (enters_of Tryz.func164 (by kernel_rfl) rfl)
  (chunk_stops F (n - 1) h6 hro (by omega) Bs Bn w.heap.size h q cap hcap _ ls ln hB0.size ((hB0.cell (p := ⟨Bs, 0, none⟩) ls).trans hBs) ((hB0.cell (p := ⟨Bn, 0, none⟩) ln).trans hBn)) belowK_t (belowK_b (by simp)) (Below.refl _ _) (fun _ => rfl)
  (fun pre W => (∃ v, Boxed W w.heap.size 117 v ∧ W.ownsRow w.heap.size 36 1 v pre.length (pre.map (partV h q)) ∧ True) ∧ Below w.heap.size w W)
  (fun _ _ _ => False)
  (OwnFrom.and (Own.from (holdsRow_own w.heap.size w.heap.size 117 36 1 (fun pre : List Nat => pre.length) (fun pre => pre.map (partV h q)) (fun _ _ => True)) _) (ownFrom_below (Nat.le_refl _) (by simp)))
  (fun _ _ _ _ _ hs _ _ => hs)
  ⟨⟨_, bO, World.ownsRow_nil _ _ _ _, trivial⟩, hB0⟩
  (fun x => { tmps := #[.slice none 0 0, .func (.func 164) #[] #[.pointer (some ⟨Bs, 0, none⟩), .pointer (some ⟨Bn, 0, none⟩)], .pointer (some ⟨w.heap.size, 0, none⟩), undef, .slice none 0 0, partV h q x, .func (.func 164) #[] #[.pointer (some ⟨Bs, 0, none⟩), .pointer (some ⟨Bn, 0, none⟩)], partV h q x, undef, undef, undef, undef, undef], defers := [] }) ?assign ?body ?done ?stop
 case assign =>
  intro l x W K hK
  unfold partV at hK ⊢
  gi_wp2
  exact hK
 case body =>
  rintro l pre x W ⟨⟨v, hv, hrow, _⟩, hB⟩ hlt
  have hc := hv.cell
  dsimp only [partV]
  gi_wp2_with (gi_at_builtin; refine wpListIn_append_own _ rfl _ _ 117 rfl w.heap.size 36 i0 (.slice none 0 0) 1 24 Tryz.underlying117 hi hz0 hz1 hz2 rfl (by decide) _ _ _ rfl (hrow.alloc _) ⟨W.heap.size, 0, none⟩ 1 1 [partV h q x] rfl rfl (cell_one_new _ _ _) (by simp [partV, Value.oneCell']) (by unfold maxLen; omega) (by omega) (by have := hB.size; simp; omega) ?_; intro v' w1 hown' hgrow _; obtain ⟨g', cap', rfl⟩ := ownsRow_succ hown'; obtain ⟨hv1, hv2, hr2, hk2, hb2⟩ := hv.appended (by decide) hrow hB.size (Nat.le_refl _) hown' hgrow; have hc1 := hv1.cell; have hf1 := hv1.frozen)
  exact ⟨hk2.from _, hb2, ⟨_, hv2, by simpa using hr2, trivial⟩, hB.trans hb2⟩
 case done =>
  rintro D ys W hD rfl ⟨⟨v, hv, hrow, _⟩, hB⟩ hK
  have hc := hv.cell
  gi_wp2
  refine ⟨by simp, .inl ⟨_, _, rfl, run_takeDeferred hK, ?_⟩⟩
  exact ⟨_, results_tmp rfl _ _ _, v, rfl, ownsRow_putObj hrow _ hK rfl, hB.trans (belowK_b (w := w) (Nat.le_refl _) W D _ _ (by simp at hD; omega) hK rfl rfl)⟩
 case stop =>
  rintro D c pre W _ _ h _
  exact h.elim

theorem collect_in (F : Fence) (n : Nat) (h2 : F.fn 132) (h3 : F.fn 163) (h6 : F.fn 164) (hro : F.round = none) (hn : 4 ≤ n) (Bs Bn h q cap : Nat) (hcap : 128 ≤ cap) (w : World)
  (hBs : w.cell? ⟨Bs, 0, none⟩ = some (.slice (some ⟨h, q, none⟩) 128 cap)) (hBn : w.cell? ⟨Bn, 0, none⟩ = some (.int .i64 32)) :
  CallsIn F n Tryz.prog 132 #[.func (.func 164) #[] #[.pointer (some ⟨Bs, 0, none⟩), .pointer (some ⟨Bn, 0, none⟩)]] w
   fun e W' => ∃ v, e = .returned v ∧ W'.ownsRow w.heap.size 36 1 v 4 ((List.range 4).map (partV h q)) ∧ Below w.heap.size w W' := by
 have h1 : 1 ≤ n := by omega
 have hHid := Lib.hid (appendSeq_in F (n - 1) h3 h6 hro (by omega) Bs Bn h q cap hcap w hBs hBn)
 refine callsIn_of_wp Tryz.func132 rfl h2 ?_ hro
 simp only [Tryz.ntmps132, List.size_toArray, List.length_cons, List.length_nil, Nat.reduceAdd, Nat.reduceSub, Array.replicate_succ, Array.replicate_zero, List.push_toArray, List.append_toArray, List.nil_append, List.cons_append]
 gi_wp2_with (gi_at_call 163; refine hHid.out.mono ?_; rintro e w' ⟨v, rfl, ho, hb⟩)
 go_ret
 exact ⟨v, rfl, ho, hb⟩

theorem mchunk (h q cap : Nat) (w : World) : Calls Tryz.prog 133 #[.slice (some ⟨h, q, none⟩) 128 cap, .int .i64 32] w fun e w' => e = .returned (.func (.func 164) #[] #[.pointer (some ⟨w.heap.size, 0, none⟩), .pointer (some ⟨w.heap.size + 1, 0, none⟩)]) ∧
   w'.cell? ⟨w.heap.size, 0, none⟩ = some (.slice (some ⟨h, q, none⟩) 128 cap) ∧ w'.cell? ⟨w.heap.size + 1, 0, none⟩ = some (.int .i64 32) ∧ Below w.heap.size w w' := by
 refine (callsIn_wide (n := 3)).1 ((chunk_in Fence.wide 3 trivial rfl h q cap w).mono ?_)
 rintro e w' ⟨rfl, rfl⟩
 have h1 := alloc_block w (.cells #[.slice (some ⟨h, q, none⟩) 128 cap] 36)
 have h2 := alloc_block (w.alloc (.cells #[.slice (some ⟨h, q, none⟩) 128 cap] 36)) (.cells #[.int .i64 32] 3)
 rw [alloc_size] at h2
 have h3 := (alloc_old (w.alloc (.cells #[.slice (some ⟨h, q, none⟩) 128 cap] 36)) (.cells #[.int .i64 32] 3) (k := w.heap.size) (by rw [alloc_size]; omega)).trans h1
 exact ⟨rfl, by rw [cell_of_block h3]; rfl, by rw [cell_of_block h2]; rfl, ((Below.refl _ w).alloc (Nat.le_refl _) _).alloc (by simp) _⟩

theorem mcollect (Bs Bn h q cap : Nat) (hcap : 128 ≤ cap) (w : World)
  (hBs : w.cell? ⟨Bs, 0, none⟩ = some (.slice (some ⟨h, q, none⟩) 128 cap)) (hBn : w.cell? ⟨Bn, 0, none⟩ = some (.int .i64 32)) :
  Calls Tryz.prog 132 #[.func (.func 164) #[] #[.pointer (some ⟨Bs, 0, none⟩), .pointer (some ⟨Bn, 0, none⟩)]] w
   fun e W' => ∃ v, e = .returned v ∧ W'.ownsRow w.heap.size 36 1 v 4 ((List.range 4).map (partV h q)) ∧ Below w.heap.size w W' :=
 (callsIn_wide (n := 9)).1 (collect_in Fence.wide 9 trivial trivial trivial rfl (by omega) Bs Bn h q cap hcap w hBs hBn)
end Go.Proofs.YtobkmohoepgfmaaGreatDoor.Kc
namespace Go.Proofs.YtobkmohoepgfmaaGreatDoor.Kc
open Go.RowKit Go.Sort
set_option maxRecDepth 100000
set_option maxHeartbeats 1000000

def parts (S : Nat → Nat) : Mx := fun j k => S (j * 32 + k)
end Go.Proofs.YtobkmohoepgfmaaGreatDoor.Kc
namespace Go.Proofs.YtobkmohoepgfmaaGreatDoor.Kc
open Go.RowKit Go.Sort
set_option maxRecDepth 100000
set_option maxHeartbeats 1000000

theorem mfits (n : Int) (w : World) (t : Bool) (ht : t = decide (1 ≤ n ∧ n ≤ 64)) : Calls Tryz.prog 113 #[.int .i64 n] w fun e w' => e = .returned (.bool t) ∧ w' = w := by
 by_cases h1 : 1 ≤ n
 ·by_cases h2 : n ≤ 64
  ·have : t = true := by rw [ht]; exact decide_eq_true ⟨h1, h2⟩
   subst this
   clear ht
   go_enter Tryz.func113, Tryz.ntmps113
   go_wp2
   go_ret
   exact ⟨rfl, rfl⟩
  ·have : t = false := by rw [ht]; exact decide_eq_false (fun h => h2 h.2)
   subst this
   clear ht
   go_enter Tryz.func113, Tryz.ntmps113
   go_wp2
   go_ret
   exact ⟨rfl, rfl⟩
 ·have : t = false := by rw [ht]; exact decide_eq_false (fun h => h1 h.1)
  subst this
  clear ht
  go_enter Tryz.func113, Tryz.ntmps113
  go_wp2
  go_ret
  exact ⟨rfl, rfl⟩

theorem mright (a : Option Addr) (xss : List (List Nat)) (cap : Nat) (w : World) (h : RawIn w a xss) (hl : xss.length ≤ 9223372036854775807) (t : Bool) (ht : t = true ↔ RightP xss) :
  Calls Tryz.prog 117 #[.slice a xss.length cap] w fun e w' => e = .returned (.bool t) ∧ w' = w := by
 have HH := Lib.hid h
 have HTT := Lib.hid ht
 clear h ht
 by_cases h1 : 1 ≤ xss.length ∧ xss.length ≤ 64
 ·obtain ⟨x0, hx0⟩ : ∃ x0, xss[0]? = some x0 := ⟨_, List.getElem?_eq_getElem (by omega)⟩
  obtain ⟨b, o, rfl, hb, g0, cap0, c0, _⟩ := HH.out 0 x0 hx0
  rw [Nat.add_zero] at c0
  have h0' : (0 : Int) < (xss.length : Int) := by omega
  have HX := Lib.hid hx0
  have HL := Lib.hid h1
  by_cases h3 : 1 ≤ x0.length ∧ x0.length ≤ 64
  ·have H3 := Lib.hid h3
   have F1 := Lib.hid (mfits xss.length w true (by rw [decide_eq_true]; have := HL.out; omega))
   have F2 := Lib.hid (mfits x0.length w true (by rw [decide_eq_true]; have := H3.out; omega))
   clear h3 hx0 h1
   go_enter Tryz.func117, Tryz.ntmps117
   go_wp2_with fail
   refine F1.out.mono ?_
   rintro e w2 ⟨rfl, rfl⟩
   go_wp2_with fail
   refine F2.out.mono ?_
   rintro e w3 ⟨rfl, rfl⟩
   go_wp2_with fail
   go_loop [4, 19] (fun _ s => ∃ k : Nat, s = .int .i64 (k : Int) ∧ k ≤ xss.length ∧ Hid (∀ i xs, i < k → xss[i]? = some xs → xs.length = x0.length)) (fun _ s => xss.length - (intOf s).toNat)
   case atStart => exact ⟨0, rfl, Nat.zero_le _, Lib.hid (fun i xs hi => absurd hi (Nat.not_lt_zero _))⟩
   case round =>
    obtain ⟨k, rfl, hk, HK⟩ := hrel
    by_cases hlt : k < xss.length
    ·obtain ⟨xs, hxs⟩ : ∃ xs, xss[k]? = some xs := ⟨_, List.getElem?_eq_getElem hlt⟩
     obtain ⟨b', o', e, _, g1, cap1, c1, _⟩ := HH.out k xs hxs
     cases e
     have hk' : (k : Int) < (xss.length : Int) := by omega
     have HXS := Lib.hid hxs
     clear hxs
     by_cases he : xs.length = x0.length
     ·have t1 : ((xs.length : Int) != (x0.length : Int)) = false := by rw [bne_eq_false_iff_eq]; omega
      have HE := Lib.hid he
      clear he
      go_wp2_with fail
      go_round
      case measure => simp [intOf]; omega
      case rel => exact ⟨k + 1, by go_num, by omega, Lib.hid (fun i ys hi hys => by
        by_cases e : i = k
        ·subst e
         rw [HXS.out] at hys
         cases hys
         exact HE.out
        ·exact HK.out i ys (by omega) hys)⟩
     ·have t1 : ((xs.length : Int) != (x0.length : Int)) = true := by rw [bne_iff_ne]; omega
      have HN : Hid (t = false) := Lib.hid (not_true HTT.out (fun h => by
       obtain ⟨_, _, c, hc1, hc2, hc⟩ := h
       have a1 := hc 0 x0 HX.out
       have a2 := hc k xs HXS.out
       omega))
      clear he
      go_wp2_with fail
      go_ret
      rw [HN.out]
      exact ⟨rfl, rfl⟩
    ·have hge : ¬ (k : Int) < (xss.length : Int) := by omega
     have HN : Hid (t = true) := Lib.hid (HTT.out.2 ⟨by have := HL.out.1; omega, by have := HL.out.2; omega, x0.length, by have := H3.out.1; omega, by have := H3.out.2; omega, fun i xs hi => HK.out i xs (by
      have := (List.getElem?_eq_some_iff.1 hi).1
      omega) hi⟩)
     clear hlt hk
     go_wp2_with fail
     go_ret
     rw [HN.out]
     exact ⟨rfl, rfl⟩
  ·have F1 := Lib.hid (mfits xss.length w true (by rw [decide_eq_true]; have := HL.out; omega))
   have F2 := Lib.hid (mfits x0.length w false (by rw [decide_eq_false]; omega))
   have HN : Hid (t = false) := Lib.hid (not_true HTT.out (fun h => by
    obtain ⟨_, _, c, hc1, hc2, hc⟩ := h
    have := hc 0 x0 hx0
    omega))
   clear h3 hx0 h1
   go_enter Tryz.func117, Tryz.ntmps117
   go_wp2_with fail
   refine F1.out.mono ?_
   rintro e w2 ⟨rfl, rfl⟩
   go_wp2_with fail
   refine F2.out.mono ?_
   rintro e w3 ⟨rfl, rfl⟩
   go_wp2_with fail
   go_ret
   rw [HN.out]
   exact ⟨rfl, rfl⟩
 ·have F1 := Lib.hid (mfits xss.length w false (by rw [decide_eq_false]; omega))
  have HN : Hid (t = false) := Lib.hid (not_true HTT.out (fun h => h1 ⟨h.1, h.2.1⟩))
  clear h1
  go_enter Tryz.func117, Tryz.ntmps117
  go_wp2_with fail
  refine F1.out.mono ?_
  rintro e w2 ⟨rfl, rfl⟩
  go_wp2_with fail
  go_ret
  rw [HN.out]
  exact ⟨rfl, rfl⟩
end Go.Proofs.YtobkmohoepgfmaaGreatDoor.Kc
namespace Go.Proofs.YtobkmohoepgfmaaGreatDoor.Kc
open Go.RowKit Go.Sort
set_option maxRecDepth 100000
set_option maxHeartbeats 1000000

theorem make88 (n : Nat) (hn : n ≤ 1000000) : ∃ zs : Array Value, (∀ j, j < n → zs[j]? = some (.slice none 0 0)) ∧
  ∀ W : World, Sem.run Tryz.prog (Instr.makeSlice 117 (.int .i64 (n : Int)) (.int .i64 (n : Int))) W = .ok (.slice (some ⟨W.heap.size, 0, none⟩) n n) (W.alloc (.cells zs 36)) := by
 obtain ⟨i0, hi0, hz0, hz1, hz2⟩ := info_parts infoRow
 refine ⟨madeCells (Value.slice none 0 0).cells (n * i0.size), fun j hj => ?_, fun W => ?_⟩
 ·rw [hz1]
  simp [madeCells, Value.cells, hj]
  rw [Nat.mod_one]; rfl
 ·have h := run_make W 117 36 i0 (.slice none 0 0) Tryz.underlying117 hi0 hz0 .i64 .i64 (n : Int) (n : Int) (by omega) (by omega) (by rw [hz2]; omega) (by omega)
  simpa using h

structure Zs (w : World) (H n m k : Nat) : Prop where
 size : w.heap.size = H + 1 + k
 room : ∀ i, i < n → ∃ v, w.cell? ⟨H, i, none⟩ = some v
 outer : ∀ i, i < k → w.cell? ⟨H, i, none⟩ = some (.slice (some ⟨H + 1 + i, 0, none⟩) m m)
 cell : ∀ i, i < k → ∀ j, j < m → w.cell? ⟨H + 1 + i, j, none⟩ = some (.int .u8 ((0 : Nat) : Int))
 free : ∀ j, w.frozen? ⟨H, j, none⟩ = false
 freeG : ∀ i, i < k → ∀ j, w.frozen? ⟨H + 1 + i, j, none⟩ = false
 ty : ∀ i, i < k → ∃ cs, w.heap[H + 1 + i]? = some (.cells cs 5 (0, 0))
def OwnTy (w : World) (H n : Nat) : Prop := ∀ i, i < n → ∃ cs, w.heap[H + 1 + i]? = some (.cells cs 5 (0, 0))

theorem Zs.next {w : World} {H n m k : Nat} {zs : Array Value} (h : Zs w H n m k) (hk : k < n) (hz : ∀ j, j < m → zs[j]? = some (.int .u8 0)) :
  Zs ((w.alloc (.cells zs 5)).setCell ⟨H, k, none⟩ (.slice (some ⟨w.heap.size, 0, none⟩) m m)) H n m (k + 1) := by
 have hs := h.size
 have old : ∀ (b j : Nat), b < w.heap.size → (w.alloc (.cells zs 5)).cell? ⟨b, j, none⟩ = w.cell? ⟨b, j, none⟩ := fun b j hb => World.cell?_of_block (alloc_old w _ hb)
 have oldf : ∀ (b j : Nat), b < w.heap.size → (w.alloc (.cells zs 5)).frozen? ⟨b, j, none⟩ = w.frozen? ⟨b, j, none⟩ := fun b j hb => World.frozen?_of_block (alloc_old w _ hb)
 have nb : (w.alloc (.cells zs 5)).heap[H + 1 + k]? = some (.cells zs 5 (0, 0)) := by rw [← hs]; exact alloc_block _ _
 have nf : ∀ j, (w.alloc (.cells zs 5)).frozen? ⟨H + 1 + k, j, none⟩ = false := fun j => free_of_block nb
 have asz := alloc_size w (.cells zs 5)
 have oldh : ∀ b, b < w.heap.size → (w.alloc (.cells zs 5)).heap[b]? = w.heap[b]? := fun b hb => alloc_old w _ hb
 generalize w.alloc (.cells zs 5) = w1 at *
 obtain ⟨v0, e0⟩ := h.room k hk
 refine ⟨by simp [World.setCell]; omega, fun i hi => ?_, fun i hi => ?_, fun i hi j hj => ?_, fun j => ?_, fun i hi j => ?_, fun i hi => ?_⟩
 ·by_cases e : i = k
  ·subst e; exact ⟨_, World.cell?_setCell_same _ _ _ ((old H i (by omega)).trans e0)⟩
  ·rw [cell_far (Or.inr e), old H i (by omega)]; exact h.room i hi
 ·by_cases e : i = k
  ·subst e; rw [World.cell?_setCell_same _ _ _ ((old H i (by omega)).trans e0), hs]
  ·rw [cell_far (Or.inr e), old H i (by omega)]; exact h.outer i (by omega)
 ·rw [cell_far (Or.inl (by omega))]
  by_cases e : i = k
  ·subst e; rw [cell_of_block nb, hz j hj]; rfl
  ·rw [old _ j (by omega)]; exact h.cell i (by omega) j hj
 ·rw [World.frozen?_setCell, oldf H j (by omega)]; exact h.free j
 ·rw [World.frozen?_setCell]
  by_cases e : i = k
  ·subst e; exact nf j
  ·rw [oldf _ j (by omega)]; exact h.freeG i (by omega) j
 ·rw [Below.heap_setCell w1 ⟨H, k, none⟩ _ (H + 1 + i) (by show H + 1 + i ≠ H; omega)]
  by_cases e : i = k
  ·subst e; exact ⟨_, nb⟩
  ·rw [oldh _ (by omega)]; exact h.ty i (by omega)

theorem mzerosT (n m : Nat) (w : World) (hn : n ≤ 1000000) (hm : m ≤ 1000000) :
  Calls Tryz.prog 114 #[.int .i64 (n : Int), .int .i64 (m : Int)] w fun e w' => e = .returned (.slice (some ⟨w.heap.size, 0, none⟩) n n) ∧
   Own w' w.heap.size n m (fun i => w.heap.size + 1 + i) (fun _ => m) (fun _ _ => 0) ∧ Below w.heap.size w w' ∧ OwnTy w' w.heap.size n := by
 obtain ⟨zs, z1, z2⟩ := make8 m hm
 obtain ⟨zr, r1, r2⟩ := make88 n hn
 have HZ := Lib.hid z1
 have H0 : Hid (Zs (w.alloc (.cells zr 36)) w.heap.size n m 0 ∧ Below w.heap.size w (w.alloc (.cells zr 36))) :=
  Lib.hid ⟨⟨by rw [alloc_size], fun i hi => ⟨_, (cell_of_block (alloc_block w _)).trans (r1 i hi)⟩, fun i hi => absurd hi (Nat.not_lt_zero _), fun i hi => absurd hi (Nat.not_lt_zero _), fun j => free_of_block (alloc_block w _), fun i hi => absurd hi (Nat.not_lt_zero _), fun i hi => absurd hi (Nat.not_lt_zero _)⟩, (Below.refl _ _).alloc (Nat.le_refl _) _⟩
 obtain ⟨H, hH⟩ : ∃ H, w.heap.size = H := ⟨_, rfl⟩
 have HH := Lib.hid hH
 rw [hH] at H0 ⊢
 clear z1 r1
 go_enter Tryz.func114, Tryz.ntmps114
 go_wp2_with fail
 generalize w.alloc (.cells zr 36) = w1 at *
 clear r2
 clear hH
 go_loopg [6, 11] n (fun q s6 s11 v => ∃ k : Nat, s11 = .int .i64 (k : Int) ∧ k ≤ n ∧ q = n - k ∧ Hid (Zs v H n m k ∧ Below H w v))
 case atStart => exact ⟨0, rfl, by omega, rfl, H0⟩
 case round =>
  obtain ⟨k, rfl, hk, rfl, HS⟩ := hrel
  clear H0
  by_cases hlt : k < n
  ·have hl : (k : Int) < (n : Int) := by omega
   obtain ⟨v0, c0⟩ := HS.out.1.room k hlt
   have hHs : H < wr.heap.size := by have := HS.out.1.size; omega
   have c1 : (wr.alloc (.cells zs 5)).cell? ⟨H, k, none⟩ = some v0 := (World.cell?_of_block (alloc_old wr _ hHs)).trans c0
   have f0 := HS.out.1.free k
   have f1 : (wr.alloc (.cells zs 5)).frozen? ⟨H, k, none⟩ = false := (World.frozen?_of_block (alloc_old wr _ hHs)).trans f0
   have hn0 := HS.out.1.next hlt HZ.out
   rw [World.setCell_alloc_past _ _ _ _ hHs] at hn0
   have HN := Lib.hid hn0
   clear hn0
   have HB : Hid (∀ v, Below H w ((wr.setCell ⟨H, k, none⟩ v).alloc (.cells zs 5))) := Lib.hid (fun v => (HS.out.2.setCell (Nat.le_refl _) _).alloc (by have := HS.out.1.size; simp [World.setCell]; omega) _)
   clear HS
   go_wp2_with fail
   go_roundg (n - (k + 1))
   case measure => omega
   case rel => exact ⟨k + 1, by go_num, by omega, rfl, Lib.hid ⟨HN.out, HB.out _⟩⟩
  ·have hge : ¬ (k : Int) < (n : Int) := by omega
   have e : k = n := by omega
   subst e
   go_wp2_with fail
   go_ret
   have hs := HS.out.1
   exact ⟨rfl, ⟨hs.outer, hs.cell, hs.free, hs.freeG, fun i hi => by omega, fun i hi k' hk' e => by omega⟩, HS.out.2, hs.ty⟩
theorem mzeros (n m : Nat) (w : World) (hn : n ≤ 1000000) (hm : m ≤ 1000000) :
  Calls Tryz.prog 114 #[.int .i64 (n : Int), .int .i64 (m : Int)] w fun e w' => e = .returned (.slice (some ⟨w.heap.size, 0, none⟩) n n) ∧
   Own w' w.heap.size n m (fun i => w.heap.size + 1 + i) (fun _ => m) (fun _ _ => 0) ∧ Below w.heap.size w w' := by
 refine (mzerosT n m w hn hm).mono ?_
 rintro e w' ⟨h1, h2, h3, _⟩
 exact ⟨h1, h2, h3⟩
end Go.Proofs.YtobkmohoepgfmaaGreatDoor.Kc
namespace Go.Proofs.YtobkmohoepgfmaaGreatDoor.Kc
open Go.RowKit Go.Sort
set_option maxRecDepth 100000
set_option maxHeartbeats 1000000

theorem midentity (n : Nat) (w : World) (hn1 : 1 ≤ n) (hn2 : n ≤ 64) :
  Calls Tryz.prog 80 #[.int .i64 (n : Int)] w fun e w' => e = .returned (.slice (some ⟨w.heap.size, 0, none⟩) n n) ∧
   Own w' w.heap.size n n (fun i => w.heap.size + 1 + i) (fun _ => n) one ∧ Below w.heap.size w w' := by
 have F1 := Lib.hid (mfits n w true (by rw [decide_eq_true]; omega))
 have F2 := Lib.hid (mzeros n n w (by omega) (by omega))
 obtain ⟨H, hH⟩ : ∃ H, w.heap.size = H := ⟨_, rfl⟩
 rw [hH] at F2 ⊢
 have HH := Lib.hid hH
 clear hH
 go_enter Tryz.func80, Tryz.ntmps80
 go_wp2_with fail
 refine F1.out.mono ?_
 rintro e w2 ⟨rfl, rfl⟩
 go_wp2_with fail
 refine F2.out.mono ?_
 rintro e w3 ⟨rfl, o3, b3⟩
 have H0 : Hid (Own w3 H n n (fun i => H + 1 + i) (fun _ => n) (fun i j => if i = j ∧ i < 0 then 1 else 0) ∧ Below H w2 w3) := Lib.hid ⟨o3.congr (fun i _ j _ => by rw [if_neg (by omega)]), b3⟩
 clear o3 b3
 go_wp2_with fail
 go_loopg [4, 13] n (fun q s4 s13 v => ∃ k : Nat, s13 = .int .i64 (k : Int) ∧ k ≤ n ∧ q = n - k ∧ Hid (Own v H n n (fun i => H + 1 + i) (fun _ => n) (fun i j => if i = j ∧ i < k then 1 else 0) ∧ Below H w2 v))
 case atStart => exact ⟨0, rfl, by omega, rfl, H0⟩
 case round =>
  obtain ⟨k, rfl, hk, rfl, HS⟩ := hrel
  clear H0
  by_cases hlt : k < n
  ·have hl : (k : Int) < (n : Int) := by omega
   have c1 := HS.out.1.outer k hlt
   have c2 := HS.out.1.cell k hlt k hlt
   have f2 := HS.out.1.freeG k hlt k
   have HN : Hid (Own (wr.setCell ⟨H + 1 + k, k, none⟩ (.int .u8 1)) H n n (fun i => H + 1 + i) (fun _ => n) (fun i j => if i = j ∧ i < k + 1 then 1 else 0)) :=
    Lib.hid ((HS.out.1.put (x := 1) hlt hlt).congr (fun i _ j _ => by
     dsimp only
     by_cases e : i = k ∧ j = k
     ·rw [if_pos e, if_pos (by omega)]
     ·rw [if_neg e]
      by_cases e2 : i = j ∧ i < k
      ·rw [if_pos e2, if_pos (by omega)]
      ·rw [if_neg e2, if_neg (by omega)]))
   have HB : Hid (∀ v, Below H w2 (wr.setCell ⟨H + 1 + k, k, none⟩ v)) := Lib.hid (fun v => HS.out.2.setCell (by show H ≤ H + 1 + k; omega) _)
   clear HS
   go_wp2_with fail
   go_roundg (n - (k + 1))
   case measure => omega
   case rel => exact ⟨k + 1, by go_num, by omega, rfl, Lib.hid ⟨HN.out, HB.out _⟩⟩
  ·have hge : ¬ (k : Int) < (n : Int) := by omega
   have e : k = n := by omega
   subst e
   go_wp2_with fail
   go_ret
   refine ⟨rfl, HS.out.1.congr (fun i hi j _ => ?_), HS.out.2⟩
   unfold one
   dsimp only
   by_cases e : i = j
   ·rw [if_pos ⟨e, hi⟩, if_pos e]
   ·rw [if_neg (fun h => e h.1), if_neg e]

def TyK (w w' : World) (g : Nat) : Prop := (∃ cs, w.heap[g]? = some (.cells cs 5 (0, 0))) → ∃ cs, w'.heap[g]? = some (.cells cs 5 (0, 0))
theorem TyK.set {w v : World} {g : Nat} (h : TyK w v g) (k : Nat) (u : Value) : TyK w (v.setCell ⟨g, k, none⟩ u) g := fun hw => by
 obtain ⟨cs, hb⟩ := h hw
 refine ⟨cs.setIfInBounds k u, ?_⟩
 simp only [World.setCell, Array.getElem?_modify, hb]
 simp
theorem maddTimesT (f g c x : Nat) (cap cap' : Nat) (h q : Nat) (F R : Nat → Nat) (w : World) (hf : Fld w f) (hfg : f ≠ g) (hx : x < 256) (hF : ∀ j, j < c → F j < 256) (hR : ∀ j, j < c → R j < 256)
  (hs : Row8 w g c F) (hr : ∀ j, j < c → w.cell? ⟨h, q + j, none⟩ = some (.int .u8 (R j : Nat))) (hhg : h ≠ g) (hc : c ≤ 1000000) (hc0 : 0 < c) :
  Calls Tryz.prog 120 #[.pointer (some ⟨f, 0, none⟩), .slice (some ⟨g, 0, none⟩) c cap, .int .u8 (x : Int), .slice (some ⟨h, q, none⟩) c cap'] w
   fun e w' => e = .returned (.tuple #[]) ∧ Row8 w' g c (fun j => F j ^^^ mul x (R j)) ∧ w.grownBy w' (some g) ∧ TyK w w' g := by
 have hl := cell?_lt (hr 0 hc0)
 have HR := Lib.hid hr
 have HRB := Lib.hid hR
 have HFB := Lib.hid hF
 have HF := Lib.hid hf
 have H0 : Hid (Row8 w g c (fun j => if j < 0 then F j ^^^ mul x (R j) else F j) ∧ w.grownBy w (some g) ∧ TyK w w g) := Lib.hid ⟨hs.congr (fun j _ => by rw [if_neg (by omega)]), only_refl _ _, fun h => h⟩
 clear hr hf hs hF hR
 go_enter Tryz.func120, Tryz.ntmps120
 go_wp2_with fail
 go_loopg [8, 9, 12] c (fun q' s8 s9 s12 v => ∃ k : Nat, s12 = .int .i64 (k : Int) ∧ k ≤ c ∧ q' = c - k ∧ Hid (Row8 v g c (fun j => if j < k then F j ^^^ mul x (R j) else F j) ∧ w.grownBy v (some g) ∧ TyK w v g))
 case atStart => exact ⟨0, rfl, by omega, rfl, H0⟩
 case round =>
  obtain ⟨k, rfl, hk, rfl, HS⟩ := hrel
  clear H0
  by_cases hlt : k < c
  ·have hl' : (k : Int) < (c : Int) := by omega
   have d1 : wr.cell? ⟨h, q + k, none⟩ = some (.int .u8 (R k : Nat)) := (World.cell?_of_block (HS.out.2.1.block h hl (fun e => hhg (by injection e)))).trans (HR.out k hlt)
   have e1 := HS.out.1.cell k hlt
   have f1 := HS.out.1.free k
   rw [if_neg (Nat.lt_irrefl k)] at e1
   have HFld : Hid (∀ v : World, v.heap = wr.heap → Fld v f) := Lib.hid (fun v hv => by
    have hfl := HF.out.lt
    have hb : v.heap[f]? = w.heap[f]? := by rw [hv]; exact HS.out.2.1.block f hfl (fun e => hfg (by injection e))
    exact ⟨fun k hk => (World.cell?_of_block hb).trans (HF.out.exp k hk), fun k hk => (World.cell?_of_block hb).trans (HF.out.log k hk)⟩)
   have hRk := HRB.out k hlt
   have hFk := HFB.out k hlt
   obtain ⟨s1, hs1⟩ : ∃ s1, s1 = F k ^^^ mul x (R k) := ⟨_, rfl⟩
   have HS1 := Lib.hid hs1
   clear hs1
   generalize hRv : R k = rv at hRk d1
   have HRv := Lib.hid hRv
   clear hRv
   generalize hFv : F k = fv at hFk e1
   have HFv := Lib.hid hFv
   clear hFv
   have hm := mul_lt x rv
   go_wp2_with fail
   refine wp_region_still_tail 13 (by kernel_rfl) (by kernel_rfl) ?_
   simp only [List.take_succ_cons, List.take_zero, List.drop_succ_cons, List.drop_zero]
   repeat still_step
   still_call (fmul f x rv _ (HFld.out _ rfl) hx hRk)
   repeat still_step
   still_call (fadd f fv (mul x rv) _ (HFld.out _ rfl) hFk hm)
   repeat still_step
   refine wpStill_nil ?_
   change wpList _ _ _ _ _ wr.drew
   have e1d : wr.drew.cell? ⟨g, k, none⟩ = some (.int .u8 (fv : Int)) := e1
   have f1d : wr.drew.frozen? ⟨g, k, none⟩ = false := f1
   have HX : Hid (fv ^^^ mul x rv = s1) := Lib.hid (by rw [HS1.out, HFv.out, HRv.out])
   rw [HX.out]
   go_wp2_with fail
   go_roundg (c - (k + 1))
   case measure => omega
   case rel => exact ⟨k + 1, by go_num, by omega, rfl, Lib.hid ⟨(Row8.put (x := s1) (w := wr.drew) (HS.out.1.keep rfl) hlt).congr (fun j _ => by
    by_cases e : j = k
    ·subst e; rw [if_pos rfl, if_pos (by omega)]; exact HS1.out
    ·rw [if_neg e]
     by_cases h : j < k
     ·rw [if_pos h, if_pos (by omega)]
     ·rw [if_neg h, if_neg (by omega)]), only_setCell (only_drew HS.out.2.1) _ _, TyK.set (v := wr.drew) HS.out.2.2 _ _⟩⟩
  ·have hge : ¬ (k : Int) < (c : Int) := by omega
   have e : k = c := by omega
   subst e
   go_wp2_with fail
   go_end0
   exact ⟨rfl, HS.out.1.congr (fun j hj => by rw [if_pos hj]), HS.out.2⟩
theorem maddTimes (f g c x : Nat) (cap cap' : Nat) (h q : Nat) (F R : Nat → Nat) (w : World) (hf : Fld w f) (hfg : f ≠ g) (hx : x < 256) (hF : ∀ j, j < c → F j < 256) (hR : ∀ j, j < c → R j < 256)
  (hs : Row8 w g c F) (hr : ∀ j, j < c → w.cell? ⟨h, q + j, none⟩ = some (.int .u8 (R j : Nat))) (hhg : h ≠ g) (hc : c ≤ 1000000) (hc0 : 0 < c) :
  Calls Tryz.prog 120 #[.pointer (some ⟨f, 0, none⟩), .slice (some ⟨g, 0, none⟩) c cap, .int .u8 (x : Int), .slice (some ⟨h, q, none⟩) c cap'] w
   fun e w' => e = .returned (.tuple #[]) ∧ Row8 w' g c (fun j => F j ^^^ mul x (R j)) ∧ w.grownBy w' (some g) := by
 refine (maddTimesT f g c x cap cap' h q F R w hf hfg hx hF hR hs hr hhg hc hc0).mono ?_
 rintro e w' ⟨h1, h2, h3, _⟩
 exact ⟨h1, h2, h3⟩
end Go.Proofs.YtobkmohoepgfmaaGreatDoor.Kc
namespace Go.Proofs.YtobkmohoepgfmaaGreatDoor.Kc
open Go.RowKit Go.Sort
set_option maxRecDepth 100000
set_option maxHeartbeats 1000000

theorem mmulT (f : Nat) (a b : Option Addr) (xss yss : List (List Nat)) (ca cb c : Nat) (w : World) (hf : Fld w f) (hx : RawIn w a xss) (hy : RawIn w b yss) (px : RightP xss) (py : RightP yss) (bx : Bytes xss) (bY : Bytes yss)
  (hm : ∀ (i : Nat) (xs : List Nat), xss[i]? = some xs → xs.length = yss.length) (hc : ∀ (i : Nat) (ys : List Nat), yss[i]? = some ys → ys.length = c) :
  Calls Tryz.prog 86 #[.pointer (some ⟨f, 0, none⟩), .slice a xss.length ca, .slice b yss.length cb] w fun e w' => e = .returned (.slice (some ⟨w.heap.size, 0, none⟩) xss.length xss.length) ∧
   Own w' w.heap.size xss.length c (fun i => w.heap.size + 1 + i) (fun _ => c) (mm yss.length (ent xss) (ent yss)) ∧ Below w.heap.size w w' ∧ OwnTy w' w.heap.size xss.length := by
 have hr := And.intro px.1 px.2.1
 have hn := And.intro py.1 py.2.1
 have hc1 : 1 ≤ c ∧ c ≤ 64 := by
  obtain ⟨_, _, c', h1, h2, h3⟩ := py
  obtain ⟨y0, hy0⟩ : ∃ y0, yss[0]? = some y0 := ⟨_, List.getElem?_eq_getElem (by omega)⟩
  have := h3 0 y0 hy0
  have := hc 0 y0 hy0
  omega
 have HX := Lib.hid hx
 have HY := Lib.hid hy
 have HF := Lib.hid hf
 have PX := Lib.hid px
 have PY := Lib.hid py
 have BX := Lib.hid (ent_lt bx)
 have BY := Lib.hid (ent_lt bY)
 have HM := Lib.hid (fun i xs => hm i xs)
 have HC := Lib.hid (fun i ys => hc i ys)
 obtain ⟨ab, ao, ag, aq, acap, rfl, hab, hag, a0, _⟩ := hx.at (i := 0) (j := 0) (by omega) (fun xs h => hm 0 xs h) (by omega)
 obtain ⟨bb, bo, bg, bq, bcap, rfl, hbb, hbg, b0, _⟩ := hy.at (i := 0) (j := 0) (by omega) (fun ys h => hc 0 ys h) (by omega)
 rw [Nat.add_zero] at a0 b0
 have R1 := Lib.hid (mright (some ⟨ab, ao, none⟩) xss ca w hx (by omega) true ⟨fun _ => px, fun _ => rfl⟩)
 have R2 := Lib.hid (mright (some ⟨bb, bo, none⟩) yss cb w hy (by omega) true ⟨fun _ => py, fun _ => rfl⟩)
 have R3 := Lib.hid (mzerosT xss.length c w (by omega) (by omega))
 clear hx hy hf px py bx bY hm hc
 obtain ⟨r, hrl⟩ : ∃ r, xss.length = r := ⟨_, rfl⟩
 obtain ⟨n, hnl⟩ : ∃ n, yss.length = n := ⟨_, rfl⟩
 have HRL := Lib.hid hrl
 have HNL := Lib.hid hnl
 obtain ⟨H, hH⟩ : ∃ H, w.heap.size = H := ⟨_, rfl⟩
 have HH := Lib.hid hH
 rw [hH] at hab hbb hag hbg
 rw [hrl] at hr R1
 rw [hnl] at hn a0 R2
 rw [hrl, hH] at R3
 rw [hrl, hnl, hH]
 clear hH hrl hnl
 obtain ⟨P, hP⟩ : ∃ P, P = mm n (ent xss) (ent yss) := ⟨_, rfl⟩
 rw [← hP]
 have HP := Lib.hid hP
 clear hP
 have hr0 : (0 : Int) < (r : Int) := by omega
 have hn0 : (0 : Int) < (n : Int) := by omega
 go_enter Tryz.func86, Tryz.ntmps86
 go_wp2_with fail
 refine R1.out.mono ?_
 rintro e w' ⟨rfl, hw⟩
 obtain rfl := hw.symm
 go_wp2_with fail
 refine R2.out.mono ?_
 rintro e w' ⟨rfl, hw⟩
 obtain rfl := hw.symm
 go_wp2_with fail
 refine R3.out.mono ?_
 rintro e w3 ⟨rfl, o3, b3, t3⟩
 have H0 : Hid (Own w3 H r c (fun i => H + 1 + i) (fun _ => c) (fun i k => if i < 0 then P i k else 0) ∧ Below H w w3 ∧ OwnTy w3 H r) := Lib.hid ⟨o3.congr (fun i _ j _ => by rw [if_neg (by omega)]), b3, t3⟩
 clear o3 b3 t3 R1 R2 R3
 go_wp2_with fail
 go_loopg [8, 9, 10, 11, 42] r (fun q s8 s9 s10 s11 s42 v => ∃ i : Nat, s42 = .int .i64 (i : Int) ∧ i ≤ r ∧ q = r - i ∧ Hid (Own v H r c (fun i => H + 1 + i) (fun _ => c) (fun i' k => if i' < i then P i' k else 0) ∧ Below H w v ∧ OwnTy v H r))
 case atStart => exact ⟨0, rfl, by omega, rfl, H0⟩
 case round =>
  obtain ⟨i, rfl, hi, rfl, HS⟩ := hrel
  clear H0
  by_cases hlt : i < r
  ·have hl : (i : Int) < (r : Int) := by omega
   obtain ⟨wr0, rfl⟩ : ∃ wr0 : World, wr0 = wr := ⟨wr, rfl⟩
   obtain ⟨ab', ao', g1, q1, cp1, e, _, hg1, x1, _⟩ := HX.out.at (i := i) (j := 0) (c := n) (by rw [HRL.out]; exact hlt) (fun xs h => (HM.out i xs h).trans HNL.out) (by omega)
   cases e
   rw [HH.out] at hg1
   have x1' := (HS.out.2.1.cell (p := ⟨ab, ao + i, none⟩) hab).trans x1
   clear x1
   go_wp2_with fail
   go_loopg [10, 11, 49] n (fun q s10 s11 s49 v => ∃ j : Nat, s49 = .int .i64 (j : Int) ∧ j ≤ n ∧ q = n - j ∧ Hid (Own v H r c (fun i => H + 1 + i) (fun _ => c) (fun i' k => if i' < i then P i' k else if i' = i then sx j (fun t => mul (ent xss i t) (ent yss t k)) else 0) ∧ Below H w v ∧ OwnTy v H r))
   case atStart => exact ⟨0, rfl, by omega, rfl, Lib.hid ⟨HS.out.1.congr (fun i' _ k _ => by
    dsimp only
    by_cases h : i' < i
    ·rw [if_pos h, if_pos h]
    ·rw [if_neg h, if_neg h]
     split <;> rfl), HS.out.2⟩⟩
   case round =>
    obtain ⟨j, rfl, hj, rfl, HJ⟩ := hrel
    by_cases hlj : j < n
    ·have hlj' : (j : Int) < (n : Int) := by omega
     obtain ⟨ab', ao', g1', q1', cp1', e, _, hg1', y1, y2⟩ := HX.out.at (i := i) (j := j) (c := n) (by rw [HRL.out]; exact hlt) (fun xs h => (HM.out i xs h).trans HNL.out) hlj
     cases e
     rw [HH.out] at hg1'
     have y1' := (HS.out.2.1.cell (p := ⟨ab, ao + i, none⟩) hab).trans y1
     have e3 := x1'.symm.trans y1'
     have eg : g1' = g1 ∧ q1' = q1 := by injection e3 with e3; injection e3 with e3; injection e3 with e3; injection e3 with e3 e4; exact ⟨e3.symm, e4.symm⟩
     obtain ⟨rfl, rfl⟩ := eg
     have y2' := (HJ.out.2.1.cell (p := ⟨g1', q1' + j, none⟩) hg1).trans y2
     obtain ⟨bb', bo', g2, q2, cp2, e, _, hg2, z1, _⟩ := HY.out.at (i := j) (j := 0) (c := c) (by rw [HNL.out]; exact hlj) (fun ys h => HC.out j ys h) (by omega)
     cases e
     rw [HH.out] at hg2
     have z1' := (HJ.out.2.1.cell (p := ⟨bb, bo + j, none⟩) hbb).trans z1
     have HZ2 : Hid (∀ k, k < c → wr.cell? ⟨g2, q2 + k, none⟩ = some (.int .u8 (ent yss j k : Nat))) := Lib.hid (fun k hk => by
      obtain ⟨bb', bo', g3, q3, cp3, e, _, hg3, u1, u2⟩ := HY.out.at (i := j) (j := k) (c := c) (by rw [HNL.out]; exact hlj) (fun ys h => HC.out j ys h) hk
      cases e
      have e3 := z1.symm.trans u1
      have eg : g3 = g2 ∧ q3 = q2 := by injection e3 with e3; injection e3 with e3; injection e3 with e3; injection e3 with e3 e4; exact ⟨e3.symm, e4.symm⟩
      obtain ⟨rfl, rfl⟩ := eg
      exact (HJ.out.2.1.cell (p := ⟨g3, q3 + k, none⟩) hg2).trans u2)
     have o1 := HJ.out.1.outer i hlt
     have HR8 := Lib.hid (HJ.out.1.row8 hlt)
     have HFv : Hid (Fld wr f) := Lib.hid (HF.out.keep (by rw [HH.out]; exact HJ.out.2.1))
     have HAT := Lib.hid (maddTimesT f (H + 1 + i) c (ent xss i j) c cp2 g2 q2 _ (fun k => ent yss j k) wr.drew (HFv.out.keep (Below.refl _ _).drew) (by have := HFv.out.lt; have := HF.out.lt; have := HH.out; omega) (BX.out i j)
      (fun k _ => by
       split
       ·rw [HP.out]; exact sx_lt (fun _ _ => mul_lt _ _)
       ·split
        ·exact sx_lt (fun _ _ => mul_lt _ _)
        ·decide) (fun k _ => BY.out j k) (HR8.out.keep rfl) HZ2.out (by omega) (by omega) (by omega))
     clear y1 y1' z1 e3
     generalize hxv : ent xss i j = xv at HAT y2'
     have HXV := Lib.hid hxv
     clear hxv
     go_wp2_with fail
     go_still_tail 10, (by kernel_rfl)
     change wpList _ _ _ _ _ wr.drew
     go_wp2_with fail
     refine HAT.out.mono ?_
     rintro e w5 ⟨rfl, r5, g5, t5⟩
     have HTY : Hid (OwnTy w5 H r) := Lib.hid (fun i' hi' => by
      by_cases e : i' = i
      ·subst e
       exact t5 (HJ.out.2.2 i' hi')
      ·obtain ⟨cs, hb⟩ := HJ.out.2.2 i' hi'
       exact ⟨cs, (g5.block (H + 1 + i') (by
        have := HJ.out.1.ltG hi' (by omega)
        exact this) (fun e2 => e (by injection e2; omega))).trans hb⟩)
     have HN : Hid (Own w5 H r c (fun i => H + 1 + i) (fun _ => c) (fun i' k => if i' < i then P i' k else if i' = i then sx (j + 1) (fun t => mul (ent xss i t) (ent yss t k)) else 0)) :=
      Lib.hid ((HJ.out.1.drew.row_put hlt (by omega) r5 g5).congr (fun i' _ k _ => by
       dsimp only
       by_cases e : i' = i
       ·subst e
        rw [if_pos rfl, if_neg (Nat.lt_irrefl _), if_neg (Nat.lt_irrefl _), if_pos rfl, sx_succ, HXV.out]
        first | rfl | (rw [if_pos trivial]) | (rw [if_pos rfl])
       ·rw [if_neg e]
        by_cases h : i' < i
        ·rw [if_pos h, if_pos h]
        ·rw [if_neg h, if_neg h, if_neg e, if_neg e]))
     have HB : Hid (Below H w w5) := Lib.hid (Below.of_only HJ.out.2.1.drew g5 (by omega) (by rw [← HH.out]; exact HJ.out.2.1.drew.size))
     clear r5 g5 t5
     go_wp2_with fail
     go_roundg (n - (j + 1))
     case measure => omega
     case rel => exact ⟨j + 1, by go_num, by omega, rfl, Lib.hid ⟨HN.out, HB.out, HTY.out⟩⟩
    ·have hge : ¬ (j : Int) < (n : Int) := by omega
     have e : j = n := by omega
     subst e
     go_wp2_with fail
     go_roundg (r - (i + 1))
     case measure => omega
     case rel => exact ⟨i + 1, by go_num, by omega, rfl, Lib.hid ⟨HJ.out.1.congr (fun i' _ k _ => by
      dsimp only
      by_cases h : i' < i
      ·rw [if_pos h, if_pos (by omega)]
      ·rw [if_neg h]
       by_cases e : i' = i
       ·subst e
        rw [if_pos rfl, if_pos (by omega), HP.out]; rfl
       ·rw [if_neg e, if_neg (by omega)]), HJ.out.2⟩⟩
  ·have hge : ¬ (i : Int) < (r : Int) := by omega
   have e : i = r := by omega
   subst e
   go_wp2_with fail
   go_ret
   exact ⟨rfl, HS.out.1.congr (fun i hi j _ => by dsimp only; rw [if_pos hi]), HS.out.2.1, HS.out.2.2⟩
theorem mmul (f : Nat) (a b : Option Addr) (xss yss : List (List Nat)) (ca cb c : Nat) (w : World) (hf : Fld w f) (hx : RawIn w a xss) (hy : RawIn w b yss) (px : RightP xss) (py : RightP yss) (bx : Bytes xss) (bY : Bytes yss)
  (hm : ∀ (i : Nat) (xs : List Nat), xss[i]? = some xs → xs.length = yss.length) (hc : ∀ (i : Nat) (ys : List Nat), yss[i]? = some ys → ys.length = c) :
  Calls Tryz.prog 86 #[.pointer (some ⟨f, 0, none⟩), .slice a xss.length ca, .slice b yss.length cb] w fun e w' => e = .returned (.slice (some ⟨w.heap.size, 0, none⟩) xss.length xss.length) ∧
   Own w' w.heap.size xss.length c (fun i => w.heap.size + 1 + i) (fun _ => c) (mm yss.length (ent xss) (ent yss)) ∧ Below w.heap.size w w' := by
 refine (mmulT f a b xss yss ca cb c w hf hx hy px py bx bY hm hc).mono ?_
 rintro e w' ⟨h1, h2, h3, _⟩
 exact ⟨h1, h2, h3⟩
end Go.Proofs.YtobkmohoepgfmaaGreatDoor.Kc
