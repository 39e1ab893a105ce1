import Derived.Test.YtajpnbmfeapmcaaK8
namespace Go.Proofs.Ytajpnbmfeapmcaa
open Go.RowKit Go.Shelf
attribute [local go_sem] Oper.semAt_some
set_option maxRecDepth 100000
set_option maxHeartbeats 4000000

theorem chunk_in (F : Fence) (n : Nat) (h5 : F.fn 26) (hro : F.round = none) (h q cap : Nat) (w : World) :
    CallsIn F n Try.prog 26 #[.slice (some ⟨h, q, none⟩) 128 cap, .int .i64 32] w fun e w' => e = .returned (.func (.func 44) #[] #[.pointer (some ⟨w.heap.size, 0, none⟩), .pointer (some ⟨w.heap.size + 1, 0, none⟩)]) ∧
      w' = (w.alloc (.cells #[.slice (some ⟨h, q, none⟩) 128 cap] 29)).alloc (.cells #[.int .i64 32] 3) := by
  refine callsIn_of_wp Try.func26 rfl h5 ?_ hro
  simp only [Try.ntmps26, List.size_toArray, List.length_cons, List.length_nil, Nat.reduceAdd, Nat.reduceSub, Array.replicate_succ, Array.replicate_zero, List.push_toArray, List.append_toArray, List.nil_append, List.cons_append]
  gi_wp2
  go_ret
  exact ⟨rfl, rfl⟩

theorem chunk_stops (F : Fence) (n : Nat) (h6 : F.fn 44) (hro : F.round = none) (hn : 1 ≤ n) (Bs Bn n₀ h q cap : Nat) (hcap : 128 ≤ cap) (w : World) (hbs : Bs < n₀) (hbn : Bn < n₀) (hn₀ : n₀ ≤ w.heap.size)
    (hBs : w.cell? ⟨Bs, 0, none⟩ = some (.slice (some ⟨h, q, none⟩) 128 cap)) (hBn : w.cell? ⟨Bn, 0, none⟩ = some (.int .i64 32)) :
    SeqStopsK F n Try.prog 44 #[.pointer (some ⟨Bs, 0, none⟩), .pointer (some ⟨Bn, 0, none⟩)] (fun k : Nat => #[partV h q k]) (Below n₀) (fun ys => ys = List.range 4) (fun pre => ∃ k, k ≤ 4 ∧ pre = List.range k) 4 w := fun l J Jx W hW hJ _ hY h0 =>
  chunk1_in F n h6 hro hn l Bs Bn n₀ h q cap hcap hbs hbn J Jx (fun pre V hV => hJ pre V _ none hV (only_drew (only_refl V none)) (fun r e => by cases e)) hY W ((hW.cell (p := ⟨Bs, 0, none⟩) (show Bs < _ by omega)).trans hBs) ((hW.cell (p := ⟨Bn, 0, none⟩) (show Bn < _ by omega)).trans hBn) h0

theorem appendSeq_in (F : Fence) (n : Nat) (h3 : F.fn 43) (h6 : F.fn 44) (hro : F.round = none) (hn : 3 ≤ n) (Bs Bn h q cap : Nat) (hcap : 128 ≤ cap) (w : World)
    (hBs : w.cell? ⟨Bs, 0, none⟩ = some (.slice (some ⟨h, q, none⟩) 128 cap)) (hBn : w.cell? ⟨Bn, 0, none⟩ = some (.int .i64 32)) :
    CallsIn F n Try.prog 43 #[.slice none 0 0, .func (.func 44) #[] #[.pointer (some ⟨Bs, 0, none⟩), .pointer (some ⟨Bn, 0, none⟩)]] w
      fun e W' => ∃ v, e = .returned v ∧ W'.ownsRow w.heap.size 29 1 v 4 ((List.range 4).map (partV h q)) ∧ Below w.heap.size w W' := by
  have h1 : 1 ≤ n := by omega
  have ls : Bs < w.heap.size := cell?_lt hBs
  have ln : Bn < w.heap.size := cell?_lt hBn
  obtain ⟨i0, hi, hz0, hz1, hz2⟩ := info_parts infoRow
  refine callsIn_of_wp_marks Try.func43 rfl h3 ?_ hro
  simp only [Try.ntmps43, List.size_toArray, List.length_cons, List.length_nil, Nat.reduceAdd, Nat.reduceSub, Array.replicate_succ, Array.replicate_zero, List.push_toArray, List.append_toArray, List.nil_append, List.cons_append]
  gi_wp2
  have bO := Boxed.new w 25 (.slice none 0 0)
  have hB0 : Below w.heap.size w (w.alloc (.cells #[.slice none 0 0] 25)) := (Below.refl _ w).alloc (Nat.le_refl _) _
  refine wpIn_rangeFunc_ownG hro h1 (gf := 44) (lb := #[.pointer (some ⟨Bs, 0, none⟩), .pointer (some ⟨Bn, 0, none⟩)]) rfl h6 (enters_of Try.func44 (by kernel_rfl) rfl)
    (chunk_stops F (n - 1) h6 hro (by omega) Bs Bn w.heap.size h q cap hcap _ ls ln hB0.size ((hB0.cell (p := ⟨Bs, 0, none⟩) ls).trans hBs) ((hB0.cell (p := ⟨Bn, 0, none⟩) ln).trans hBn)) belowK_t (belowK_b (by simp)) (Below.refl _ _) (fun _ => rfl)
    (fun pre W => (∃ v, Boxed W w.heap.size 25 v ∧ W.ownsRow w.heap.size 29 1 v pre.length (pre.map (partV h q)) ∧ True) ∧ Below w.heap.size w W)
    (fun _ _ _ => False)
    (OwnFrom.and (Own.from (holdsRow_own w.heap.size w.heap.size 25 29 1 (fun pre : List Nat => pre.length) (fun pre => pre.map (partV h q)) (fun _ _ => True)) _) (ownFrom_below (Nat.le_refl _) (by simp)))
    (fun _ _ _ _ _ hs _ _ => hs)
    ⟨⟨_, bO, World.ownsRow_nil _ _ _ _, trivial⟩, hB0⟩
    (fun x => { tmps := #[.slice none 0 0, .func (.func 44) #[] #[.pointer (some ⟨Bs, 0, none⟩), .pointer (some ⟨Bn, 0, none⟩)], .pointer (some ⟨w.heap.size, 0, none⟩), undef, .slice none 0 0, partV h q x, .func (.func 44) #[] #[.pointer (some ⟨Bs, 0, none⟩), .pointer (some ⟨Bn, 0, none⟩)], partV h q x, undef, undef, undef, undef, undef], defers := [] }) ?assign ?body ?done ?stop
  case assign =>
    intro l x W K hK
    unfold partV at hK ⊢
    gi_wp2
    exact hK
  case body =>
    rintro l pre x W ⟨⟨v, hv, hrow, _⟩, hB⟩ hlt
    have hc := hv.cell
    dsimp only [partV]
    gi_wp2_with (gi_at_builtin; refine wpListIn_append_own _ rfl _ _ 25 rfl w.heap.size 29 i0 (.slice none 0 0) 1 24 Try.underlying25 hi hz0 hz1 hz2 rfl (by decide) _ _ _ rfl (hrow.alloc _) ⟨W.heap.size, 0, none⟩ 1 1 [partV h q x] rfl rfl (cell_one_new _ _ _) (by simp [partV, Value.oneCell']) (by unfold maxLen; omega) (by omega) (by have := hB.size; simp; omega) ?_; intro v' w1 hown' hgrow _; obtain ⟨g', cap', rfl⟩ := ownsRow_succ hown'; obtain ⟨hv1, hv2, hr2, hk2, hb2⟩ := hv.appended (by decide) hrow hB.size (Nat.le_refl _) hown' hgrow; have hc1 := hv1.cell; have hf1 := hv1.frozen)
    exact ⟨hk2.from _, hb2, ⟨_, hv2, by simpa using hr2, trivial⟩, hB.trans hb2⟩
  case done =>
    rintro D ys W hD rfl ⟨⟨v, hv, hrow, _⟩, hB⟩ hK
    have hc := hv.cell
    gi_wp2
    refine ⟨by simp, .inl ⟨_, _, rfl, run_takeDeferred hK, ?_⟩⟩
    exact ⟨_, results_tmp rfl _ _ _, v, rfl, ownsRow_putObj hrow _ hK rfl, hB.trans (belowK_b (w := w) (Nat.le_refl _) W D _ _ (by simp at hD; omega) hK rfl rfl)⟩
  case stop =>
    rintro D c pre W _ _ h _
    exact h.elim

theorem collect_in (F : Fence) (n : Nat) (h2 : F.fn 25) (h3 : F.fn 43) (h6 : F.fn 44) (hro : F.round = none) (hn : 4 ≤ n) (Bs Bn h q cap : Nat) (hcap : 128 ≤ cap) (w : World)
    (hBs : w.cell? ⟨Bs, 0, none⟩ = some (.slice (some ⟨h, q, none⟩) 128 cap)) (hBn : w.cell? ⟨Bn, 0, none⟩ = some (.int .i64 32)) :
    CallsIn F n Try.prog 25 #[.func (.func 44) #[] #[.pointer (some ⟨Bs, 0, none⟩), .pointer (some ⟨Bn, 0, none⟩)]] w
      fun e W' => ∃ v, e = .returned v ∧ W'.ownsRow w.heap.size 29 1 v 4 ((List.range 4).map (partV h q)) ∧ Below w.heap.size w W' := by
  have h1 : 1 ≤ n := by omega
  have hHid := Lib.hid (appendSeq_in F (n - 1) h3 h6 hro (by omega) Bs Bn h q cap hcap w hBs hBn)
  refine callsIn_of_wp Try.func25 rfl h2 ?_ hro
  simp only [Try.ntmps25, List.size_toArray, List.length_cons, List.length_nil, Nat.reduceAdd, Nat.reduceSub, Array.replicate_succ, Array.replicate_zero, List.push_toArray, List.append_toArray, List.nil_append, List.cons_append]
  gi_wp2_with (gi_at_call 43; refine hHid.out.mono ?_; rintro e w' ⟨v, rfl, ho, hb⟩)
  go_ret
  exact ⟨v, rfl, ho, hb⟩

theorem mchunk (h q cap : Nat) (w : World) : Calls Try.prog 26 #[.slice (some ⟨h, q, none⟩) 128 cap, .int .i64 32] w fun e w' => e = .returned (.func (.func 44) #[] #[.pointer (some ⟨w.heap.size, 0, none⟩), .pointer (some ⟨w.heap.size + 1, 0, none⟩)]) ∧
      w'.cell? ⟨w.heap.size, 0, none⟩ = some (.slice (some ⟨h, q, none⟩) 128 cap) ∧ w'.cell? ⟨w.heap.size + 1, 0, none⟩ = some (.int .i64 32) ∧ Below w.heap.size w w' := by
  refine (callsIn_wide (n := 3)).1 ((chunk_in Fence.wide 3 trivial rfl h q cap w).mono ?_)
  rintro e w' ⟨rfl, rfl⟩
  have h1 := alloc_block w (.cells #[.slice (some ⟨h, q, none⟩) 128 cap] 29)
  have h2 := alloc_block (w.alloc (.cells #[.slice (some ⟨h, q, none⟩) 128 cap] 29)) (.cells #[.int .i64 32] 3)
  rw [alloc_size] at h2
  have h3 := (alloc_old (w.alloc (.cells #[.slice (some ⟨h, q, none⟩) 128 cap] 29)) (.cells #[.int .i64 32] 3) (k := w.heap.size) (by rw [alloc_size]; omega)).trans h1
  exact ⟨rfl, by rw [cell_of_block h3]; rfl, by rw [cell_of_block h2]; rfl, ((Below.refl _ w).alloc (Nat.le_refl _) _).alloc (by simp) _⟩

theorem mcollect (Bs Bn h q cap : Nat) (hcap : 128 ≤ cap) (w : World)
    (hBs : w.cell? ⟨Bs, 0, none⟩ = some (.slice (some ⟨h, q, none⟩) 128 cap)) (hBn : w.cell? ⟨Bn, 0, none⟩ = some (.int .i64 32)) :
    Calls Try.prog 25 #[.func (.func 44) #[] #[.pointer (some ⟨Bs, 0, none⟩), .pointer (some ⟨Bn, 0, none⟩)]] w
      fun e W' => ∃ v, e = .returned v ∧ W'.ownsRow w.heap.size 29 1 v 4 ((List.range 4).map (partV h q)) ∧ Below w.heap.size w W' :=
  (callsIn_wide (n := 9)).1 (collect_in Fence.wide 9 trivial trivial trivial rfl (by omega) Bs Bn h q cap hcap w hBs hBn)
end Go.Proofs.Ytajpnbmfeapmcaa
