import Derived.Test.YtkdnliogoobgmaaE
namespace Go.Proofs.Ytkdnliogoobgmaa
open Go.RowKit Go.Sort
set_option maxRecDepth 100000
set_option maxHeartbeats 1000000

theorem zero34 : ∃ zs : Array Value, zs.size = 256 ∧ zs ≠ #[] ∧ (∀ k : Nat, k < 256 → zs[k]? = some (.bool false)) ∧ ∀ w, Sem.run Try.prog (zeroValue 34) w = .ok (.agg zs) w := by
  refine ⟨Array.replicate 256 (.bool false), Array.size_replicate, ?_, ?_, ?_⟩
  · intro h
    have := congrArg Array.size h
    simp at this
  · intro k hk
    rw [Array.getElem?_replicate, if_pos hk]
  · intro w
    kernel_rfl


/-- The i-th power on the way from n. -/
def pf (n : Int) (i : Nat) : Nat := pw ((n + i) % 255).toNat
theorem pf_def (n : Int) (i : Nat) : pf n i = pw ((n + i) % 255).toNat := rfl
theorem pf_lt (n : Int) (i : Nat) : pf n i < 256 := pw_lt _
theorem pf_pos (n : Int) (i : Nat) : pf n i ≠ 0 := pw_pos _
theorem pf_inj {n : Int} {i j : Nat} (hi : i < 255) (hj : j < 255) (e : pf n i = pf n j) : i = j := by
  have := pw_inj (n := ((n + i) % 255).toNat) (m := ((n + j) % 255).toNat) (by omega) (by omega) e
  omega
theorem pf_succ (n : Int) (i : Nat) : mul (pf n i) 2 = pf n (i + 1) := by
  rw [mul_two (pf_lt n i), pf_def, pf_def, ← pw_succ, ← pw_mod, ← pw_mod ((n + (i + 1 : Nat)) % 255).toNat]
  congr 1
  omega
attribute [irreducible] pf

/-- What was had: block h. -/
structure Had (w : World) (h : Nat) (n : Int) (i : Nat) : Prop where
  yes : ∀ j, j < i → w.cell? ⟨h, pf n j, none⟩ = some (.bool true)
  no : ∀ y, y < 256 → (∀ j, j < i → pf n j ≠ y) → w.cell? ⟨h, y, none⟩ = some (.bool false)
  fz : ∀ k, w.frozen? ⟨h, k, none⟩ = false

theorem Had.next {w : World} {h : Nat} {n : Int} {i : Nat} (H : Had w h n i) (hi : i < 255) : Had (w.setCell ⟨h, pf n i, none⟩ (.bool true)) h n (i + 1) := by
  have ne : ∀ a b : Nat, a ≠ b → (⟨h, a, none⟩ : Addr) ≠ ⟨h, b, none⟩ := fun a b hab e => hab (by injection e)
  have e0 := H.no (pf n i) (pf_lt n i) (fun j hj e => by have := pf_inj (by omega) hi e; omega)
  refine ⟨fun j hj => ?_, fun y hy hno => ?_, fun k => by rw [World.frozen?_setCell]; exact H.fz k⟩
  · by_cases e : pf n j = pf n i
    · rw [e, World.cell?_setCell_same _ _ _ e0]
    · rw [World.cell?_setCell_other _ _ _ _ (ne _ _ (by omega))]
      exact H.yes j (by
        rcases Nat.lt_or_eq_of_le (Nat.le_of_lt_succ hj) with h1 | h1
        · exact h1
        · subst h1; exact absurd rfl e)
  · have := hno i (by omega)
    rw [World.cell?_setCell_other _ _ _ _ (ne _ _ (by omega))]
    exact H.no y hy (fun j hj => hno j (by omega))

theorem fieldPowers6 (n : Int) (w : World) : Calls Try.prog 6 #[.int .i64 n] w fun e w' => e = .returned (.bool true) ∧ Below w.heap.size w w' := by
  have n1 : -100000 < n.tmod 100000 := by have := Int.lt_tmod_of_pos n (show (0 : Int) < 100000 by decide); omega
  have n2 : n.tmod 100000 < 100000 := Int.tmod_lt_of_pos n (by decide)
  obtain ⟨zs, z1, z2, z3, z4⟩ := zero34
  have HZ := Lib.hid z3
  clear z3
  go_enter Try.func6, Try.ntmps6
  go_wp2_with fail
  refine (new8 _).mono ?_
  rintro e w2 ⟨rfl, hf, hb⟩
  have HF := Lib.hid hf
  have HB := Lib.hid hb
  clear hf hb
  go_wp2_with fail
  refine (known9 _).mono ?_
  rintro e w3 ⟨rfl, hb⟩
  have HF := Lib.hid (HF.out.keep hb)
  have HB := Lib.hid (HB.out.trans (hb.mono HB.out.size))
  have HL : Hid (w.heap.size < w3.heap.size) := Lib.hid HF.out.lt
  clear hb
  have H0 : Hid (Had (w3.alloc (.cells zs 34)) w3.heap.size (n.tmod 100000) 0 ∧ Below w3.heap.size w3 (w3.alloc (.cells zs 34))) := by
    have hb : (w3.alloc (.cells zs 34)).heap[w3.heap.size]? = some (.cells zs 34 (0, 0)) := by
      show (w3.heap.push _)[w3.heap.size]? = _
      rw [Array.getElem?_push, if_pos rfl]
    refine Lib.hid ⟨⟨fun j hj => by omega, fun y hy _ => ?_, fun k => ?_⟩, (Below.refl _ _).alloc (Nat.le_refl _) _⟩
    · rw [cell_of_block hb, HZ.out y hy]
    · generalize w3.alloc _ = w1 at *
      simp [World.frozen?, hb]
  go_wp2_with fail
  generalize w3.alloc (.cells zs 34) = w1 at *
  generalize n.tmod 100000 = p at *
  clear z1 z2 z4 HZ
  go_loopg [5] 255 (fun q s5 v => ∃ i : Nat, s5 = .int .i64 (i : Int) ∧ i ≤ 255 ∧ q = 255 - i ∧ Hid (Had v w3.heap.size p i ∧ Below w3.heap.size w3 v))
  case atStart => exact ⟨0, rfl, by omega, rfl, H0⟩
  case round =>
    obtain ⟨i, rfl, hi, rfl, HS⟩ := hrel
    have HF := Lib.hid (HF.out.keep' HL.out HS.out.2)
    by_cases hlt : i < 255
    · have hl : (i : Int) < 255 := by omega
      have HX := Lib.hid (pf_lt p i)
      have HP := Lib.hid (pf_succ p i)
      have e0 := HS.out.1.no (pf p i) (pf_lt p i) (fun j hj e => by have := pf_inj (by omega) hlt e; omega)
      have f0 := HS.out.1.fz (pf p i)
      have HN := Lib.hid (HS.out.1.next hlt)
      have HBB := Lib.hid HS.out.2
      have hx0 : ((pf p i : Int) == 0) = false := beq_eq_false_iff_ne.2 (by have := pf_pos p i; omega)
      have hxi : (pf p i : Int) < 256 := by have := pf_lt p i; omega
      have E1 : Hid (pw ((p + (i : Int)) % 255).toNat = pf p i) := Lib.hid (pf_def p i).symm
      have E2 : Hid (pw ((p + (i : Int) + 1) % 255).toNat = pf p (i + 1)) := Lib.hid (by rw [pf_def]; congr 3; omega)
      clear HS H0
      generalize pf p i = x at *
      generalize pf p (i + 1) = y at *
      go_wp2_with fail
      refine (exp13 w.heap.size _ _ HF.out (by omega)).mono ?_
      rintro e wz ⟨rfl, rfl⟩
      rw [E1.out]
      go_wp2_with fail
      refine (exp13 w.heap.size _ _ HF.out (by omega)).mono ?_
      rintro e wz ⟨rfl, rfl⟩
      rw [E2.out]
      go_wp2_with fail
      refine (mul14 w.heap.size x 2 _ HF.out HX.out (by omega)).mono ?_
      rintro e wz ⟨rfl, rfl⟩
      rw [HP.out]
      go_wp2_with fail
      go_roundg (255 - (i + 1))
      case measure => omega
      case rel => exact ⟨i + 1, by go_num, by omega, rfl, Lib.hid ⟨HN.out, HBB.out.setCell (Nat.le_refl _) _⟩⟩
    · have hge : ¬ (i : Int) < 255 := by omega
      have E3 : Hid (((p + 255) % 255).toNat = (p % 255).toNat) := Lib.hid (by omega)
      have HBB := Lib.hid HS.out.2
      clear HS H0
      go_wp2_with fail
      refine (exp13 w.heap.size _ _ HF.out (by omega)).mono ?_
      rintro e wz ⟨rfl, rfl⟩
      rw [E3.out]
      go_wp2_with fail
      refine (exp13 w.heap.size _ _ HF.out (by omega)).mono ?_
      rintro e wz ⟨rfl, rfl⟩
      go_wp2_with fail
      go_ret
      exact ⟨rfl, HB.out.trans (HBB.out.mono (Nat.le_of_lt HL.out))⟩
end Go.Proofs.Ytkdnliogoobgmaa
