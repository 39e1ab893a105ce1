import Derived.Test.YtjbicpekpgaokaaE2
namespace Go.Proofs.Ytjbicpekpgaokaa
open Go.RowKit Go.Sort
set_option maxRecDepth 100000
set_option maxHeartbeats 2000000

/-- Read. -/
theorem rread {w : World} {r : Nat} {S : List Nat} {N : Nat} {d : Disk} {nw : Nat} (k : Nat) (h : RPlt w r S N d nw) (hk : k < N) (hnw : nw ≤ 1000000000) :
    Calls Try.prog 72 #[.pointer (some ⟨r, 0, none⟩), .int .i64 (k : Int)] w fun e w' => e = .returned (.string (bstr (d.now k))) ∧ w' = w := by
  obtain ⟨dv, pv, h, rfl⟩ := h
  have hl := h.len
  have HF := h.form
  obtain ⟨n, hn⟩ : ∃ n, d.pend.length = n := ⟨_, rfl⟩
  rw [hn] at HF hl
  obtain ⟨a, cap, rfl, ha⟩ := HF
  obtain ⟨gd, cd, rfl, hcd⟩ := h.slice
  have c0 := h.c0
  have c1 := h.c1
  have d0 := hcd k hk
  have hkN : (k : Int) < (N : Int) := by omega
  have HA := Lib.hid ha
  have HN := Lib.hid hn
  have HP := Lib.hid h
  have HE : Hid (d.now k = d.pend.foldl upd d.done k) := Lib.hid rfl
  clear h ha hn hcd
  go_enter Try.func72, Try.ntmps72
  go_wp2_with fail
  go_loopg [5, 6] n (fun q s5 s6 v => ∃ i : Nat, s6 = .int .i64 (i : Int) ∧ i ≤ n ∧ q = n - i ∧ Hid (s5 = .string (bstr ((d.pend.take i).foldl upd d.done k))) ∧ w = v)
  case atStart => exact ⟨0, rfl, by omega, rfl, Lib.hid rfl, rfl⟩
  case round =>
    obtain ⟨i, rfl, hi, rfl, HS, rfl⟩ := hrel
    by_cases hlt : i < n
    · have t1 : (i : Int) < (n : Int) := by omega
      obtain ⟨⟨k', F⟩, hx⟩ : ∃ x, d.pend[i]? = some x := ⟨_, List.getElem?_eq_getElem (by rw [HN.out]; exact hlt)⟩
      obtain ⟨q, rfl⟩ := HA.out (by omega)
      obtain ⟨hk', d1, d2⟩ := HP.out.at hx
      have HX := Lib.hid hx
      clear hx
      by_cases e : k' = k
      · have t2 : ((k' : Int) == (k : Int)) = true := by rw [beq_iff_eq]; omega
        have HEE := Lib.hid e
        clear e
        go_wp2_with fail
        go_roundg (n - (i + 1))
        case measure => omega
        case rel => exact ⟨i + 1, by go_num, by omega, rfl, Lib.hid (by rw [List.take_add_one, HX.out]; simp [List.foldl_append, upd, HEE.out]), rfl⟩
      · have t2 : ((k' : Int) == (k : Int)) = false := by rw [beq_eq_false_iff_ne]; omega
        have HEE := Lib.hid e
        clear e
        go_wp2_with fail
        go_roundg (n - (i + 1))
        case measure => omega
        case rel => exact ⟨i + 1, by go_num, by omega, rfl, Lib.hid (by rw [HS.out, List.take_add_one, HX.out]; simp [List.foldl_append, upd]; rw [if_neg (fun h : k = k' => HEE.out h.symm)]), rfl⟩
    · obtain rfl : i = n := by omega
      have t1 : ¬ (i : Int) < (i : Int) := by omega
      clear hlt
      have h5 := HS.out
      subst h5
      have HL : Hid (d.pend.take i = d.pend) := Lib.hid (List.take_of_length_le (by rw [HN.out]; omega))
      go_wp2_with fail
      go_ret
      exact ⟨by rw [HE.out, HL.out]; rfl, rfl⟩
theorem rwrite_no {w : World} {r : Nat} {S : List Nat} {N : Nat} {d : Disk} {nw : Nat} (k : Int) (A : Option Addr) (n c : Nat) (h : RPlt w r S N d nw) (hk : ¬ (0 ≤ k ∧ k < (N : Int) ∧ n = 160)) :
    Calls Try.prog 41 #[.pointer (some ⟨r, 0, none⟩), .int .i64 k, .slice A n c] w fun e w' => e = .returned (.bool false) ∧ w' = w := by
  obtain ⟨dv, pv, h, rfl⟩ := h
  obtain ⟨gd, cd, rfl, hcd⟩ := h.slice
  have c0 := h.c0
  clear h hcd
  by_cases h0 : k < 0
  · clear hk
    go_enter Try.func41, Try.ntmps41
    go_wp2_with fail
    go_ret
    exact ⟨rfl, rfl⟩
  · by_cases h1 : (N : Int) ≤ k
    · have t1 : decide ((N : Int) ≤ k) = true := decide_eq_true h1
      clear hk
      go_enter Try.func41, Try.ntmps41
      go_wp2_with fail
      go_ret
      exact ⟨rfl, rfl⟩
    · have t1 : decide ((N : Int) ≤ k) = false := decide_eq_false h1
      have e1 : ((n : Int) != 160) = true := by rw [bne_iff_ne]; omega
      clear hk
      go_enter Try.func41, Try.ntmps41
      go_wp2_with fail
      go_ret
      exact ⟨rfl, rfl⟩
end Go.Proofs.Ytjbicpekpgaokaa
