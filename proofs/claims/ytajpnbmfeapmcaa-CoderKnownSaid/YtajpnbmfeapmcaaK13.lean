import Derived.Test.YtajpnbmfeapmcaaK7
namespace Go.Proofs.Ytajpnbmfeapmcaa
open Go.RowKit Go.Sort
set_option maxRecDepth 100000
set_option maxHeartbeats 1000000

/-- A chunk of another length? -/
theorem ccut (a : Option Addr) (n cap : Nat) (w : World) (t : Bool) (ht : t = decide (n ≠ 0 ∧ n ≠ 32)) :
    Calls Try.prog 47 #[.slice a n cap] w fun e w' => e = .returned (.bool t) ∧ w' = w := by
  by_cases h0 : n = 0
  · have e0 : ((n : Int) != 0) = false := by rw [bne_eq_false_iff_eq]; omega
    obtain rfl : t = false := by rw [ht]; exact decide_eq_false (fun h => h.1 h0)
    clear h0 ht
    go_enter Try.func47, Try.ntmps47
    go_wp2_with fail
    go_ret
    exact ⟨rfl, rfl⟩
  · have e0 : ((n : Int) != 0) = true := by rw [bne_iff_ne]; omega
    have e1 : ((n : Int) != 32) = t := by
      rw [ht]
      by_cases h : n = 32
      · rw [decide_eq_false (fun h2 => h2.2 h), bne_eq_false_iff_eq]; omega
      · rw [decide_eq_true ⟨h0, h⟩, bne_iff_ne]; omega
    clear ht h0
    go_enter Try.func47, Try.ntmps47
    go_wp2_with fail
    go_ret
    exact ⟨rfl, rfl⟩

def Cuts (xss : List (List Nat)) (n : Nat) : Prop := ∀ l, l < n → lenOf xss l = 0 ∨ lenOf xss l = 32
def CutAt (xss : List (List Nat)) (w : World) (e : Ending) (w' : World) : Prop := ∃ fd : Int, e = .returned (.int .i64 fd) ∧ ((fd = -1 ∧ Cuts xss xss.length) ∨ (∃ d : Nat, fd = (d : Int) ∧ ¬ Cuts xss xss.length)) ∧ w' = w
theorem RawIn.len {w : World} {a : Option Addr} {xss : List (List Nat)} (h : RawIn w a xss) {i : Nat} (hi : i < xss.length) :
    ∃ b o g cap, a = some ⟨b, o, none⟩ ∧ b < w.heap.size ∧ w.cell? ⟨b, o + i, none⟩ = some (.slice g (lenOf xss i) cap) := by
  obtain ⟨xs, hxs⟩ : ∃ xs, xss[i]? = some xs := ⟨_, List.getElem?_eq_getElem hi⟩
  obtain ⟨b, o, e, hb, g, cap, hc, _⟩ := h i xs hxs
  refine ⟨b, o, g, cap, e, hb, ?_⟩
  unfold lenOf
  rw [hxs, Option.getD_some]
  exact hc

theorem cindex (a : Option Addr) (xss : List (List Nat)) (cap : Nat) (w : World) (h : RawIn w a xss) (hl : xss.length ≤ 9223372036854775807) :
    Calls Try.prog 58 #[.slice a xss.length cap, .func (.func 47) #[] #[]] w (CutAt xss w) := by
  have HX := Lib.hid h
  clear h
  obtain ⟨m, hm⟩ : ∃ m, xss.length = m := ⟨_, rfl⟩
  have HM := Lib.hid hm
  rw [hm] at hl ⊢
  clear hm
  go_enter Try.func58, Try.ntmps58
  go_wp2_with fail
  go_loop [5, 8] (fun _ s => ∃ k : Nat, s = .int .i64 (k : Int) ∧ k ≤ m ∧ Hid (Cuts xss k)) (fun _ s => m - (intOf s).toNat)
  case atStart => exact ⟨0, rfl, Nat.zero_le _, Lib.hid (fun l hl => absurd hl (Nat.not_lt_zero _))⟩
  case round =>
    obtain ⟨k, rfl, hk, HZ⟩ := hrel
    by_cases hlt : k < m
    · have hk' : (k : Int) < (m : Int) := by omega
      obtain ⟨b, o, g, cap', rfl, hb, hc⟩ := HX.out.len (i := k) (by have := HM.out; omega)
      have HT := Lib.hid (fun t ht => ccut g (lenOf xss k) cap' w t ht)
      by_cases h0 : lenOf xss k = 0 ∨ lenOf xss k = 32
      · have HT2 := Lib.hid (HT.out false (decide_eq_false (fun h => by omega)).symm)
        have H0 := Lib.hid h0
        clear h0 HT
        go_wp2_with fail
        refine HT2.out.mono ?_
        rintro e w' ⟨rfl, hw⟩
        obtain rfl := hw.symm
        go_wp2_with fail
        go_round
        case measure => simp [intOf]; omega
        case rel => exact ⟨k + 1, by go_num, by omega, Lib.hid (fun l hl => by
          by_cases e : l = k
          · rw [e]; exact H0.out
          · exact HZ.out l (by omega))⟩
      · have HT2 := Lib.hid (HT.out true (decide_eq_true (by omega)).symm)
        have H0 : Hid (¬ Cuts xss xss.length) := Lib.hid (fun h => h0 (h k (by have := HM.out; omega)))
        clear h0 HT
        go_wp2_with fail
        refine HT2.out.mono ?_
        rintro e w' ⟨rfl, hw⟩
        obtain rfl := hw.symm
        go_wp2_with fail
        go_ret
        exact ⟨_, rfl, Or.inr ⟨k, rfl, H0.out⟩, rfl⟩
    · have hge : ¬ (k : Int) < (m : Int) := by omega
      have HE : Hid (Cuts xss xss.length) := Lib.hid (fun l hl => HZ.out l (by have := HM.out; omega))
      go_wp2_with fail
      go_ret
      exact ⟨_, rfl, Or.inl ⟨rfl, HE.out⟩, rfl⟩

theorem ccontains (a : Option Addr) (xss : List (List Nat)) (cap : Nat) (w : World) (h : RawIn w a xss) (hl : xss.length ≤ 9223372036854775807) (t : Bool) (ht : t = true ↔ ¬ Cuts xss xss.length) :
    Calls Try.prog 48 #[.slice a xss.length cap, .func (.func 47) #[] #[]] w fun e w' => e = .returned (.bool t) ∧ w' = w := by
  have HI := Lib.hid (cindex a xss cap w h hl)
  have HT := Lib.hid ht
  clear h ht
  go_enter Try.func48, Try.ntmps48
  go_wp2_with fail
  refine HI.out.mono ?_
  rintro e w' ⟨fd, rfl, hfd, hw⟩
  obtain rfl := hw.symm
  rcases hfd with ⟨rfl, hC⟩ | ⟨d, rfl, hC⟩
  · obtain rfl : t = false := not_true HT.out (fun h => h hC)
    clear hC HI HT
    go_wp2_with fail
    go_ret
    exact ⟨rfl, rfl⟩
  · obtain rfl : t = true := HT.out.2 hC
    clear hC HI HT
    go_wp2_with fail
    go_ret
    exact ⟨rfl, rfl⟩
theorem csized (a : Option Addr) (xss : List (List Nat)) (cap : Nat) (w : World) (h : RawIn w a xss) (hl : xss.length ≤ 9223372036854775807) (t : Bool) (ht : t = true ↔ xss.length = 6 ∧ Cuts xss 6) :
    Calls Try.prog 28 #[.slice a xss.length cap] w fun e w' => e = .returned (.bool t) ∧ w' = w := by
  by_cases h6 : xss.length = 6
  · have HC : Hid (∀ t', (t' = true ↔ ¬ Cuts xss xss.length) → _) := Lib.hid (fun t' ht' => ccontains a xss cap w h hl t' ht')
    rw [h6] at HC ⊢
    by_cases hcut : Cuts xss 6
    · obtain rfl : t = true := ht.2 ⟨h6, hcut⟩
      have HC2 := Lib.hid (HC.out false ⟨fun h => (by cases h), fun h => absurd hcut h⟩)
      clear HC h ht hcut
      go_enter Try.func28, Try.ntmps28
      go_wp2_with fail
      refine HC2.out.mono ?_
      rintro e w' ⟨rfl, hw⟩
      obtain rfl := hw.symm
      go_wp2_with fail
      go_ret
      exact ⟨rfl, rfl⟩
    · obtain rfl : t = false := not_true ht (fun h => hcut h.2)
      have HC2 := Lib.hid (HC.out true ⟨fun _ => hcut, fun _ => rfl⟩)
      clear HC h ht hcut
      go_enter Try.func28, Try.ntmps28
      go_wp2_with fail
      refine HC2.out.mono ?_
      rintro e w' ⟨rfl, hw⟩
      obtain rfl := hw.symm
      go_wp2_with fail
      go_ret
      exact ⟨rfl, rfl⟩
  · obtain rfl : t = false := not_true ht (fun h => h6 h.1)
    have e1 : ((xss.length : Int) == 6) = false := by rw [beq_eq_false_iff_ne]; omega
    clear h ht
    generalize xss.length = m at *
    go_enter Try.func28, Try.ntmps28
    go_wp2_with fail
    go_ret
    exact ⟨rfl, rfl⟩
end Go.Proofs.Ytajpnbmfeapmcaa
