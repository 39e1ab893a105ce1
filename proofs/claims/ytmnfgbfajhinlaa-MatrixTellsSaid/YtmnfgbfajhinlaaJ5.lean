import Derived.Test.YtmnfgbfajhinlaaJ4
namespace Go.Proofs.Ytmnfgbfajhinlaa
open Go.RowKit Go.Sort
set_option maxRecDepth 100000
set_option maxHeartbeats 4000000

/-- The calls of MatrixTells, by what they leave. -/
theorem rmulC (oa : Nat) (b : Option Addr) (yss : List (List Nat)) (ca cb r n c : Nat) (M : Mx) (w : World) (ha : RawIn w (some ⟨oa, 0, none⟩) (rowsOf r n M)) (hb : RawIn w b yss) (r1 : 1 ≤ r) (r2 : r ≤ 64) (n1 : 1 ≤ n) (n2 : n ≤ 64) (hM : Bd r n M)
    (py : RightP yss) (bY : Bytes yss) (hn : yss.length = n) (hc : ∀ (i : Nat) (ys : List Nat), yss[i]? = some ys → ys.length = c) :
    Calls Try.prog 18 #[.slice (some ⟨oa, 0, none⟩) r ca, .slice b yss.length cb] w
      fun e w' => ∃ o cap, e = .returned (.slice (some ⟨o, 0, none⟩) r cap) ∧ Hid (RawIn w' (some ⟨o, 0, none⟩) (rowsOf r c (mm n M (ent yss))) ∧ Below w.heap.size w w') := by
  subst hn
  obtain ⟨a1, a2, a3⟩ := rowsOf_facts hM r1 r2 n1 n2
  have h := rmulm _ b _ yss ca cb c w ha hb a1 py a2 bY a3 hc
  rw [rowsOf_len] at h
  refine h.mono ?_
  rintro e w' ⟨v, G, rfl, h1, h2⟩
  obtain ⟨o, cap, rfl, h3⟩ := h1.mat r1
  rw [rowsOf_congr (mm_congr (rowsOf_ent M) (EqM.refl yss.length c (ent yss)))] at h3
  exact ⟨o, cap, rfl, Lib.hid ⟨h3, h2⟩⟩
theorem mmulG (f oa : Nat) (b : Option Addr) (yss : List (List Nat)) (ca cb r n c : Nat) (M : Mx) (w : World) (hf : Fld w f) (ha : RawIn w (some ⟨oa, 0, none⟩) (rowsOf r n M)) (hb : RawIn w b yss) (r1 : 1 ≤ r) (r2 : r ≤ 64) (n1 : 1 ≤ n) (n2 : n ≤ 64) (hM : Bd r n M)
    (py : RightP yss) (bY : Bytes yss) (hn : yss.length = n) (hc : ∀ (i : Nat) (ys : List Nat), yss[i]? = some ys → ys.length = c) :
    Calls Try.prog 13 #[.pointer (some ⟨f, 0, none⟩), .slice (some ⟨oa, 0, none⟩) r ca, .slice b yss.length cb] w
      fun e w' => ∃ o, e = .returned (.slice (some ⟨o, 0, none⟩) r r) ∧ Hid (RawIn w' (some ⟨o, 0, none⟩) (rowsOf r c (mm n M (ent yss))) ∧ Below w.heap.size w w') := by
  obtain ⟨a1, a2, a3⟩ := rowsOf_facts hM r1 r2 n1 n2
  refine (mmulr f _ b _ yss ca cb r yss.length c w hf ha hb (rowsOf_len _ _ _) rfl a1 py a2 bY (fun i xs h => by rw [hn]; exact a3 i xs h) hc).mono ?_
  rintro e w' ⟨o, rfl, h1, h2⟩
  rw [hn, rowsOf_congr (mm_congr (rowsOf_ent M) (EqM.refl n c (ent yss)))] at h1
  exact ⟨o, rfl, Lib.hid ⟨h1, h2⟩⟩
theorem Rows8.matC {w : World} {B n : Nat} {v : Value} {G : Nat → Nat} {A : Mx} (h : Rows8 w B v n n G A) (hn : 1 ≤ n) : ∃ o cap, v = .slice (some ⟨o, 0, none⟩) n cap ∧ RawC w (some ⟨o, 0, none⟩) n A := by
  obtain ⟨xs, hx, hg⟩ := h.own
  rcases hx.2 with ⟨_, h0⟩ | ⟨g, cap, cur, rfl, _, hblk, _⟩
  · omega
  · refine ⟨g, cap, rfl, fun i hi => ⟨g, 0, G i, 0, n, rfl, heap_lt hblk, (h.base i hi).2, ?_, Nat.le_refl _, fun j hj => by rw [Nat.zero_add]; exact (h.row i hi).cell j hj⟩⟩
    have := hx.cells (g := g) rfl i _ (hg i hi)
    rw [addr_add] at this
    exact this
theorem ofS (n : Nat) (a : Option Addr) (l : List Int) (cap : Nat) (w : World) (hr1 : 1 ≤ n) (hr : n ≤ 64) (hl : Nums w a l) (hll : l.length ≤ 9223372036854775807) :
    Calls Try.prog 15 #[.int .i64 (n : Int), .int .i64 (n : Int), .slice a l.length cap] w
      fun e w' => ∃ o cap', e = .returned (.slice (some ⟨o, 0, none⟩) n cap') ∧ Hid (RawC w' (some ⟨o, 0, none⟩) n (ofv l n) ∧ Below w.heap.size w w') := by
  refine (lof n n a l cap w hr hr1 hr hl hll).mono ?_
  rintro e w' ⟨v, G, rfl, h, hb⟩
  obtain ⟨o, cap', rfl, h2⟩ := h.matC hr1
  exact ⟨o, cap', rfl, Lib.hid ⟨h2, hb⟩⟩
def RInvC (n : Nat) (A : Mx) (w : World) (e : Ending) (w' : World) : Prop :=
  (e = .returned (.tuple #[.slice none 0 0, .bool false]) ∧ Hid (det n A = 0 ∧ Below w.heap.size w w')) ∨
  (∃ o cap, e = .returned (.tuple #[.slice (some ⟨o, 0, none⟩) n cap, .bool true]) ∧ Hid (det n A ≠ 0 ∧ RawIn w' (some ⟨o, 0, none⟩) (rowsOf n n (adjM n A)) ∧ Below w.heap.size w w'))
theorem rinvC (n ca oa : Nat) (A : Mx) (w : World) (h : RawC w (some ⟨oa, 0, none⟩) n A) (hA : Bd n n A) (n1 : 1 ≤ n) (n2 : n ≤ 64) :
    Calls Try.prog 16 #[.slice (some ⟨oa, 0, none⟩) n ca] w (RInvC n A w) := by
  refine (rinverse n ca oa A w h hA n1 n2).mono ?_
  rintro e w' (h | ⟨v, G, rfl, h⟩)
  · exact Or.inl h
  · obtain ⟨o, cap, rfl, h2⟩ := h.out.2.1.mat n1
    exact Or.inr ⟨o, cap, rfl, Lib.hid ⟨h.out.1, h2, h.out.2.2⟩⟩
theorem invAny (f oa ca n : Nat) (M : Mx) (w : World) (hf : Fld w f) (ha : RawIn w (some ⟨oa, 0, none⟩) (rowsOf n n M)) (n1 : 1 ≤ n) (n2 : n ≤ 64) (hM : Bd n n M) :
    Calls Try.prog 8 #[.pointer (some ⟨f, 0, none⟩), .slice (some ⟨oa, 0, none⟩) n ca] w fun e w' => ∃ (v : Value) (t : Bool), e = .returned (.tuple #[v, .bool t]) ∧ Hid (Below w.heap.size w w') := by
  refine (invC f oa ca n M w hf ha n1 n2 hM).mono ?_
  rintro e w' (⟨rfl, h⟩ | ⟨o, X, rfl, h⟩)
  · exact ⟨_, false, rfl, Lib.hid h.out.2⟩
  · exact ⟨_, true, rfl, Lib.hid h.out.2.2⟩
theorem invNone (f oa ca n c : Nat) (M : Mx) (w : World) (ha : RawIn w (some ⟨oa, 0, none⟩) (rowsOf n c M)) (n1 : 1 ≤ n) (n2 : n ≤ 64) (c1 : 1 ≤ c) (c2 : c ≤ 64) (hne : ¬ c = n) :
    Calls Try.prog 8 #[.pointer (some ⟨f, 0, none⟩), .slice (some ⟨oa, 0, none⟩) n ca] w fun e w' => e = .returned (.tuple #[.slice none 0 0, .bool false]) ∧ w' = w := by
  have h := minverse_none f _ (rowsOf n c M) ca c w ha (by rw [rowsOf_len]; omega) (rowsOf_right M n1 n2 c1 c2) (fun _ _ h => rowsOf_rowlen h) (by rw [rowsOf_len]; exact hne)
  rw [rowsOf_len] at h
  exact h
theorem ridentC (n : Nat) (w : World) (hn1 : 1 ≤ n) (hn2 : n ≤ 64) : Calls Try.prog 19 #[.int .i64 (n : Int)] w
    fun e w' => ∃ o cap, e = .returned (.slice (some ⟨o, 0, none⟩) n cap) ∧ Hid (RawIn w' (some ⟨o, 0, none⟩) (rowsOf n n one) ∧ Below w.heap.size w w') := by
  refine (ridentity n w (by omega)).mono ?_
  rintro e w' ⟨v, m, G, rfl, h1, h2, h3, _⟩
  have hm : m = n := by rw [h3, if_pos (by omega)]; omega
  subst hm
  obtain ⟨o, cap, rfl, h4⟩ := h1.mat hn1
  exact ⟨o, cap, rfl, Lib.hid ⟨h4, h2⟩⟩
/-- The two inverses are alike. -/
theorem inv_alike {n : Nat} {A X : Mx} (hA : Bd n n A) (n1 : 1 ≤ n) (h : Found n A X true) : EqM n n X (adjM n A) := by
  obtain ⟨k, rfl⟩ : ∃ k, n = k + 1 := ⟨n - 1, by omega⟩
  exact h.doc hA
theorem found_det {n : Nat} {A X : Mx} {ok : Bool} (hA : Bd n n A) (h : Found n A X ok) : ok = true ↔ det n A ≠ 0 := by
  rw [h.iff_det hA, decide_eq_true_iff]
end Go.Proofs.Ytmnfgbfajhinlaa
