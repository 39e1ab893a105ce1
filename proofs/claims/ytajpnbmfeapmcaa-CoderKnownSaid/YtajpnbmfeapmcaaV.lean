import Derived.Test.YtajpnbmfeapmcaaU
namespace Go.Proofs.Ytajpnbmfeapmcaa
open Go.RowKit Go.Sort
set_option maxRecDepth 100000
set_option maxHeartbeats 1000000

theorem midentity (n : Nat) (w : World) (hn1 : 1 ≤ n) (hn2 : n ≤ 64) :
    Calls Try.prog 23 #[.int .i64 (n : Int)] w fun e w' => e = .returned (.slice (some ⟨w.heap.size, 0, none⟩) n n) ∧
      Own w' w.heap.size n n (fun i => w.heap.size + 1 + i) (fun _ => n) one ∧ Below w.heap.size w w' := by
  have F1 := Lib.hid (mfits n w true (by rw [decide_eq_true]; omega))
  have F2 := Lib.hid (mzeros n n w (by omega) (by omega))
  obtain ⟨H, hH⟩ : ∃ H, w.heap.size = H := ⟨_, rfl⟩
  rw [hH] at F2 ⊢
  have HH := Lib.hid hH
  clear hH
  go_enter Try.func23, Try.ntmps23
  go_wp2_with fail
  refine F1.out.mono ?_
  rintro e w2 ⟨rfl, rfl⟩
  go_wp2_with fail
  refine F2.out.mono ?_
  rintro e w3 ⟨rfl, o3, b3⟩
  have H0 : Hid (Own w3 H n n (fun i => H + 1 + i) (fun _ => n) (fun i j => if i = j ∧ i < 0 then 1 else 0) ∧ Below H w2 w3) := Lib.hid ⟨o3.congr (fun i _ j _ => by rw [if_neg (by omega)]), b3⟩
  clear o3 b3
  go_wp2_with fail
  go_loopg [4, 13] n (fun q s4 s13 v => ∃ k : Nat, s13 = .int .i64 (k : Int) ∧ k ≤ n ∧ q = n - k ∧ Hid (Own v H n n (fun i => H + 1 + i) (fun _ => n) (fun i j => if i = j ∧ i < k then 1 else 0) ∧ Below H w2 v))
  case atStart => exact ⟨0, rfl, by omega, rfl, H0⟩
  case round =>
    obtain ⟨k, rfl, hk, rfl, HS⟩ := hrel
    clear H0
    by_cases hlt : k < n
    · have hl : (k : Int) < (n : Int) := by omega
      have c1 := HS.out.1.outer k hlt
      have c2 := HS.out.1.cell k hlt k hlt
      have f2 := HS.out.1.freeG k hlt k
      have HN : Hid (Own (wr.setCell ⟨H + 1 + k, k, none⟩ (.int .u8 1)) H n n (fun i => H + 1 + i) (fun _ => n) (fun i j => if i = j ∧ i < k + 1 then 1 else 0)) :=
        Lib.hid ((HS.out.1.put (x := 1) hlt hlt).congr (fun i _ j _ => by
          dsimp only
          by_cases e : i = k ∧ j = k
          · rw [if_pos e, if_pos (by omega)]
          · rw [if_neg e]
            by_cases e2 : i = j ∧ i < k
            · rw [if_pos e2, if_pos (by omega)]
            · rw [if_neg e2, if_neg (by omega)]))
      have HB : Hid (∀ v, Below H w2 (wr.setCell ⟨H + 1 + k, k, none⟩ v)) := Lib.hid (fun v => HS.out.2.setCell (by show H ≤ H + 1 + k; omega) _)
      clear HS
      go_wp2_with fail
      go_roundg (n - (k + 1))
      case measure => omega
      case rel => exact ⟨k + 1, by go_num, by omega, rfl, Lib.hid ⟨HN.out, HB.out _⟩⟩
    · have hge : ¬ (k : Int) < (n : Int) := by omega
      have e : k = n := by omega
      subst e
      go_wp2_with fail
      go_ret
      refine ⟨rfl, HS.out.1.congr (fun i hi j _ => ?_), HS.out.2⟩
      unfold one
      dsimp only
      by_cases e : i = j
      · rw [if_pos ⟨e, hi⟩, if_pos e]
      · rw [if_neg (fun h => e h.1), if_neg e]

theorem midentity_none (n : Int) (w : World) (hn : ¬ (1 ≤ n ∧ n ≤ 64)) :
    Calls Try.prog 23 #[.int .i64 n] w fun e w' => e = .returned (.slice none 0 0) ∧ w' = w := by
  have F1 := Lib.hid (mfits n w false (by rw [decide_eq_false hn]))
  clear hn
  go_enter Try.func23, Try.ntmps23
  go_wp2_with fail
  refine F1.out.mono ?_
  rintro e w2 ⟨rfl, rfl⟩
  go_wp2_with fail
  go_ret
  exact ⟨rfl, rfl⟩

/-- A row is added x times. -/
theorem maddTimes (f g c x : Nat) (cap cap' : Nat) (h q : Nat) (F R : Nat → Nat) (w : World) (hf : Fld w f) (hfg : f ≠ g) (hx : x < 256) (hF : ∀ j, j < c → F j < 256) (hR : ∀ j, j < c → R j < 256)
    (hs : Row8 w g c F) (hr : ∀ j, j < c → w.cell? ⟨h, q + j, none⟩ = some (.int .u8 (R j : Nat))) (hhg : h ≠ g) (hc : c ≤ 1000000) (hc0 : 0 < c) :
    Calls Try.prog 46 #[.pointer (some ⟨f, 0, none⟩), .slice (some ⟨g, 0, none⟩) c cap, .int .u8 (x : Int), .slice (some ⟨h, q, none⟩) c cap'] w
      fun e w' => e = .returned (.tuple #[]) ∧ Row8 w' g c (fun j => F j ^^^ mul x (R j)) ∧ w.grownBy w' (some g) := by
  have hl := cell?_lt (hr 0 hc0)
  have HR := Lib.hid hr
  have HRB := Lib.hid hR
  have HFB := Lib.hid hF
  have HF := Lib.hid hf
  have H0 : Hid (Row8 w g c (fun j => if j < 0 then F j ^^^ mul x (R j) else F j) ∧ w.grownBy w (some g)) := Lib.hid ⟨hs.congr (fun j _ => by rw [if_neg (by omega)]), only_refl _ _⟩
  clear hr hf hs hF hR
  go_enter Try.func46, Try.ntmps46
  go_wp2_with fail
  go_loopg [8, 9, 12] c (fun q' s8 s9 s12 v => ∃ k : Nat, s12 = .int .i64 (k : Int) ∧ k ≤ c ∧ q' = c - k ∧ Hid (Row8 v g c (fun j => if j < k then F j ^^^ mul x (R j) else F j) ∧ w.grownBy v (some g)))
  case atStart => exact ⟨0, rfl, by omega, rfl, H0⟩
  case round =>
    obtain ⟨k, rfl, hk, rfl, HS⟩ := hrel
    clear H0
    by_cases hlt : k < c
    · have hl' : (k : Int) < (c : Int) := by omega
      have d1 : wr.cell? ⟨h, q + k, none⟩ = some (.int .u8 (R k : Nat)) := (World.cell?_of_block (HS.out.2.block h hl (fun e => hhg (by injection e)))).trans (HR.out k hlt)
      have e1 := HS.out.1.cell k hlt
      have f1 := HS.out.1.free k
      rw [if_neg (Nat.lt_irrefl k)] at e1
      have HFld : Hid (∀ v : World, v.heap = wr.heap → Fld v f) := Lib.hid (fun v hv => by
        have hfl := HF.out.lt
        have hb : v.heap[f]? = w.heap[f]? := by rw [hv]; exact HS.out.2.block f hfl (fun e => hfg (by injection e))
        exact ⟨fun k hk => (World.cell?_of_block hb).trans (HF.out.exp k hk), fun k hk => (World.cell?_of_block hb).trans (HF.out.log k hk)⟩)
      have hRk := HRB.out k hlt
      have hFk := HFB.out k hlt
      obtain ⟨s1, hs1⟩ : ∃ s1, s1 = F k ^^^ mul x (R k) := ⟨_, rfl⟩
      have HS1 := Lib.hid hs1
      clear hs1
      generalize hRv : R k = rv at hRk d1
      have HRv := Lib.hid hRv
      clear hRv
      generalize hFv : F k = fv at hFk e1
      have HFv := Lib.hid hFv
      clear hFv
      have hm := mul_lt x rv
      go_wp2_with fail
      refine wp_region_still_tail 13 (by kernel_rfl) (by kernel_rfl) ?_
      simp only [List.take_succ_cons, List.take_zero, List.drop_succ_cons, List.drop_zero]
      repeat still_step
      still_call (fmul f x rv _ (HFld.out _ rfl) hx hRk)
      repeat still_step
      still_call (fadd f fv (mul x rv) _ (HFld.out _ rfl) hFk hm)
      repeat still_step
      refine wpStill_nil ?_
      change wpList _ _ _ _ _ wr.drew
      have e1d : wr.drew.cell? ⟨g, k, none⟩ = some (.int .u8 (fv : Int)) := e1
      have f1d : wr.drew.frozen? ⟨g, k, none⟩ = false := f1
      have HX : Hid (fv ^^^ mul x rv = s1) := Lib.hid (by rw [HS1.out, HFv.out, HRv.out])
      rw [HX.out]
      go_wp2_with fail
      go_roundg (c - (k + 1))
      case measure => omega
      case rel => exact ⟨k + 1, by go_num, by omega, rfl, Lib.hid ⟨(Row8.put (x := s1) (w := wr.drew) (HS.out.1.keep rfl) hlt).congr (fun j _ => by
        by_cases e : j = k
        · subst e; rw [if_pos rfl, if_pos (by omega)]; exact HS1.out
        · rw [if_neg e]
          by_cases h : j < k
          · rw [if_pos h, if_pos (by omega)]
          · rw [if_neg h, if_neg (by omega)]), only_setCell (only_drew HS.out.2) _ _⟩⟩
    · have hge : ¬ (k : Int) < (c : Int) := by omega
      have e : k = c := by omega
      subst e
      go_wp2_with fail
      go_end0
      exact ⟨rfl, HS.out.1.congr (fun j hj => by rw [if_pos hj]), HS.out.2⟩
end Go.Proofs.Ytajpnbmfeapmcaa
