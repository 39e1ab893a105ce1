import Derived.Test.YtajpnbmfeapmcaaI4
import Derived.Test.YtajpnbmfeapmcaaJ4
namespace Go.Proofs.Ytajpnbmfeapmcaa
open Go.RowKit Go.Sort
set_option maxRecDepth 100000
set_option maxHeartbeats 1000000

theorem Found.congr {n : Nat} {A B X : Mx} {ok : Bool} (h : Found n A X ok) (e : EqM n n A B) : Found n B X ok := by
  rcases h with ⟨h1, h2, h3⟩ | ⟨h1, v, hv, hc, h0⟩
  · exact Or.inl ⟨h1, ⟨h2.bx, (mm_congr e.symm (EqM.refl _ _ _)).trans h2.right, (mm_congr (EqM.refl _ _ _) e.symm).trans h2.left⟩, by rw [← det_congr e]; exact h3⟩
  · exact Or.inr ⟨h1, v, hv, hc, fun r hr => by rw [← h0 r hr]; exact sx_congr (fun j hj => by rw [e r hr j hj])⟩

/-- The calls once more, by matrices. -/
theorem mulC (f oa ob ca cb r n c : Nat) (M N : Mx) (w : World) (hf : Fld w f) (ha : RawIn w (some ⟨oa, 0, none⟩) (rowsOf r n M)) (hb : RawIn w (some ⟨ob, 0, none⟩) (rowsOf n c N)) (r1 : 1 ≤ r) (r2 : r ≤ 64) (n1 : 1 ≤ n) (n2 : n ≤ 64) (c1 : 1 ≤ c) (c2 : c ≤ 64)
    (hM : Bd r n M) (hN : Bd n c N) : Calls Try.prog 27 #[.pointer (some ⟨f, 0, none⟩), .slice (some ⟨oa, 0, none⟩) r ca, .slice (some ⟨ob, 0, none⟩) n cb] w
      fun e w' => ∃ o, e = .returned (.slice (some ⟨o, 0, none⟩) r r) ∧ Hid (RawIn w' (some ⟨o, 0, none⟩) (rowsOf r c (mm n M N)) ∧ Below w.heap.size w w') := by
  obtain ⟨a1, a2, a3⟩ := rowsOf_facts hM r1 r2 n1 n2
  obtain ⟨b1, b2, b3⟩ := rowsOf_facts hN n1 n2 c1 c2
  refine (mmulr f _ _ _ _ ca cb r n c w hf ha hb (rowsOf_len _ _ _) (rowsOf_len _ _ _) a1 b1 a2 b2 (fun i xs h => by rw [rowsOf_len]; exact a3 i xs h) b3).mono ?_
  rintro e w' ⟨o, rfl, h1, h2⟩
  refine ⟨o, rfl, Lib.hid ⟨?_, h2⟩⟩
  rw [rowsOf_congr (mm_congr (rowsOf_ent M) (rowsOf_ent N))] at h1
  exact h1

/-- What Inverse answers, in two ways. -/
def InvC (n : Nat) (M : Mx) (w : World) (e : Ending) (w' : World) : Prop :=
  (e = .returned (.tuple #[.slice none 0 0, .bool false]) ∧ Hid ((∃ X, Found n M X false) ∧ Below w.heap.size w w')) ∨
  (∃ o X, e = .returned (.tuple #[.slice (some ⟨o, 0, none⟩) n n, .bool true]) ∧ Hid (Found n M X true ∧ RawIn w' (some ⟨o, 0, none⟩) (rowsOf n n X) ∧ Below w.heap.size w w'))
theorem invC (f oa ca n : Nat) (M : Mx) (w : World) (hf : Fld w f) (ha : RawIn w (some ⟨oa, 0, none⟩) (rowsOf n n M)) (n1 : 1 ≤ n) (n2 : n ≤ 64) (hM : Bd n n M) :
    Calls Try.prog 30 #[.pointer (some ⟨f, 0, none⟩), .slice (some ⟨oa, 0, none⟩) n ca] w (InvC n M w) := by
  obtain ⟨a1, a2, a3⟩ := rowsOf_facts hM n1 n2 n1 n2
  have h := minverse f _ _ ca w hf ha a1 a2 (fun i xs h => by rw [rowsOf_len]; exact a3 i xs h)
  rw [rowsOf_len] at h
  refine h.mono ?_
  rintro e w' ⟨ok, X, v, rfl, hF, hb, h1, h2⟩
  have hF' := hF.congr (rowsOf_ent M)
  cases ok with
  | false => rw [h1 rfl]; exact Or.inl ⟨rfl, Lib.hid ⟨⟨X, hF'⟩, hb⟩⟩
  | true => obtain ⟨b, rfl, h3⟩ := h2 rfl; exact Or.inr ⟨b, X, rfl, Lib.hid ⟨hF', h3, hb⟩⟩

theorem sameC (oa ob ca cb r c : Nat) (M N : Mx) (w : World) (ha : RawIn w (some ⟨oa, 0, none⟩) (rowsOf r c M)) (hb : RawIn w (some ⟨ob, 0, none⟩) (rowsOf r c N)) (r2 : r ≤ 64) (c1 : 1 ≤ c) (hM : Bd r c M) (hN : Bd r c N) (t : Bool) (ht : t = true ↔ EqM r c M N) :
    Calls Try.prog 33 #[.slice (some ⟨oa, 0, none⟩) r ca, .slice (some ⟨ob, 0, none⟩) r cb] w fun e w' => e = .returned (.bool t) ∧ w = w' :=
  msamer _ _ _ _ ca cb r r w ha hb (rowsOf_len _ _ _) (rowsOf_len _ _ _) (by rw [rowsOf_len]; omega) (rowsOf_bytes hM) (rowsOf_bytes hN) (fun i xs h => by rw [rowsOf_rowlen h]; exact c1) (fun i xs h => by rw [rowsOf_rowlen h]; exact c1) t
    (ht.trans ⟨fun h => rowsOf_congr h, fun h => rowsOf_inj h⟩)
theorem sameNone (w : World) : Calls Try.prog 33 #[.slice none 0 0, .slice none 0 0] w fun e w' => e = .returned (.bool true) ∧ w = w' :=
  msamer none none [] [] 0 0 0 0 w (fun i xs h => by simp at h) (fun i xs h => by simp at h) rfl rfl (by simp) (fun i xs h => by simp at h) (fun i xs h => by simp at h) (fun i xs h => by simp at h) (fun i xs h => by simp at h) true (by simp)

theorem identC (n : Nat) (w : World) (hn1 : 1 ≤ n) (hn2 : n ≤ 64) : Calls Try.prog 23 #[.int .i64 (n : Int)] w
    fun e w' => ∃ o, e = .returned (.slice (some ⟨o, 0, none⟩) n n) ∧ Hid (RawIn w' (some ⟨o, 0, none⟩) (rowsOf n n one) ∧ Below w.heap.size w w') :=
  (midentity n w hn1 hn2).mono fun _ _ ⟨he, ho, hb⟩ => ⟨_, he, Lib.hid ⟨ho.raw, hb⟩⟩

/-- The two inverses are alike. -/
theorem inv_alike {n : Nat} {A X : Mx} (hA : Bd n n A) (n1 : 1 ≤ n) (h : Found n A X true) : EqM n n X (adjM n A) := by
  obtain ⟨k, rfl⟩ : ∃ k, n = k + 1 := ⟨n - 1, by omega⟩
  exact h.doc hA
theorem found_det {n : Nat} {A X : Mx} {ok : Bool} (hA : Bd n n A) (h : Found n A X ok) : ok = true ↔ det n A ≠ 0 := by
  rw [h.iff_det hA, decide_eq_true_iff]
end Go.Proofs.Ytajpnbmfeapmcaa
