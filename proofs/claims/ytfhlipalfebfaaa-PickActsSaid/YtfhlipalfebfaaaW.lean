import Derived.Test.YtfhlipalfebfaaaT
namespace Go.Proofs.Ytfhlipalfebfaaa
open Go.RowKit Go.Sort

/-- A slice of items: from somewhere in a row on. -/
def Sl (w : World) (P : Nat → Prop) (v : Value) (L : List It) : Prop :=
  ∃ a cap, v = .slice a L.length cap ∧ L.length ≤ cap ∧ cap ≤ maxLen ∧ (a = none ∧ cap = 0 ∨ ∃ g o, a = some ⟨g, o, none⟩) ∧ (0 < L.length → ∃ g o, a = some ⟨g, o, none⟩ ∧ P g ∧ g < w.heap.size ∧
    ∀ i, i < L.length → w.cell? ⟨g, o + i * 2, none⟩ = some (.int .i64 (at' L i).1) ∧ w.cell? ⟨g, o + i * 2 + 1, none⟩ = some (.int .i64 (at' L i).2))

theorem ins_split : ∀ (L : List It) (x : It) (k : Nat), k ≤ L.length → (∀ j, j < k → ltIt (at' L j) x = true) → (k < L.length → ltIt (at' L k) x = false) → ins x L = L.take k ++ x :: L.drop k
  | [], x, k, hk, _, _ => by
    have : k = 0 := Nat.le_zero.1 hk
    subst this
    rfl
  | y :: L, x, 0, _, _, h2 => by
    have : ltIt y x = false := h2 (by simp)
    unfold ins
    rw [this]
    rfl
  | y :: L, x, k + 1, hk, h1, h2 => by
    have : ltIt y x = true := h1 0 (by omega)
    unfold ins
    rw [this]
    have := ins_split L x k (by simpa using hk) (fun j hj => h1 (j + 1) (by omega)) (fun hj => h2 (by simpa using hj))
    simp [this]

theorem heap_new (w : World) (o : Obj) : (w.alloc o).heap[w.heap.size]? = some o := by
  show (w.heap.push o)[w.heap.size]? = _
  rw [Array.getElem?_push, if_pos rfl]
theorem heap_new2 (w : World) (o p : Obj) : ((w.alloc o).alloc p).heap[w.heap.size]? = some o :=
  ((Turn.alloc [] (w.alloc o) p).block w.heap.size (by simp) (by simp)).trans (heap_new w o)
theorem own_empty {w : World} {b : Nat} (h : w.heap[b]? = some (.cells #[] 26 (0, 0))) : w.ownsRow 0 26 2 (.slice (some ⟨b, 0, none⟩) 0 0) 0 [] :=
  ⟨rfl, Or.inr ⟨b, 0, #[], rfl, Nat.zero_le _, h, Nat.le_refl _, Nat.zero_le _, rfl, rfl⟩⟩

theorem own_le {w : World} {B g n cap : Nat} {R : List Value} (h : w.ownsRow B 26 2 (.slice (some ⟨g, 0, none⟩) n cap) n R) : n ≤ cap := by
  obtain ⟨h1, h | ⟨g', cap', cur, e, hb, hg, h2, h3, h4, h5⟩⟩ := h
  · cases h.1
  · injection e with e1 e2 e3
    subst e3
    omega
theorem heap_new3 (w : World) (o p : Obj) : ((w.alloc o).alloc p).heap[w.heap.size + 1]? = some p := by
  have := heap_new (w.alloc o) p
  simpa using this
/-- The cells of a slice, flat. -/
theorem Sl.flat {w : World} {P : Nat → Prop} {g o cap : Nat} {L : List It} (h : Sl w P (.slice (some ⟨g, o, none⟩) L.length cap) L) (hl : 0 < L.length) : P g ∧ g < w.heap.size ∧ L.length ≤ cap ∧ cap ≤ maxLen ∧ ∀ j u, (Ytfhlipalfebfaaa.flat L)[j]? = some u → w.cell? ⟨g, o + j, none⟩ = some u := by
  obtain ⟨a, c, e, h1, h2, _, h3⟩ := h
  cases e
  obtain ⟨g', o', e, hP, hg, hc⟩ := h3 hl
  cases e
  refine ⟨hP, hg, h1, h2, fun j u hj => ?_⟩
  have hj' : j < L.length * 2 := by
    have := (List.getElem?_eq_some_iff.1 hj).1
    rwa [length_flat] at this
  have f := flat_get L (j / 2) (by omega)
  have c := hc (j / 2) (by omega)
  rcases (show j = j / 2 * 2 ∨ j = j / 2 * 2 + 1 by omega) with e | e
  · rw [e] at hj ⊢
    rw [f.1] at hj
    cases hj
    exact c.1
  · rw [e] at hj ⊢
    rw [f.2] at hj
    cases hj
    rw [← Nat.add_assoc]
    exact c.2

theorem cell_addr (W : World) (g o j : Nat) : W.cell? ((⟨g, o, none⟩ : Addr).add j) = W.cell? ⟨g, o + j, none⟩ := by
  unfold Addr.add
  by_cases h : j = 0
  · subst h; rfl
  · rw [if_neg h]

theorem news_take {w W : World} {g o k B : Nat} {L : List It} (HC : ∀ j u, (flat L)[j]? = some u → w.cell? ⟨g, o + j, none⟩ = some u) (BW : Below B w W) (hg : g < B) (hk : k ≤ L.length) :
    ∀ j u, (flat (L.take k))[j]? = some u → W.cell? ((⟨g, o, none⟩ : Addr).add j) = some u := by
  intro j u hj
  rw [cell_addr]
  refine (BW.cell (p := ⟨g, o + j, none⟩) hg).trans (HC j u ?_)
  have e : flat L = flat (L.take k) ++ flat (L.drop k) := by rw [← flat_append, List.take_append_drop]
  rw [e, List.getElem?_append_left (List.getElem?_eq_some_iff.1 hj).1]
  exact hj

theorem news_all {w W : World} {g o B : Nat} {L : List It} (HC : ∀ j u, (flat L)[j]? = some u → w.cell? ⟨g, o + j, none⟩ = some u) (BW : Below B w W) (hg : g < B) :
    ∀ j u, (flat L)[j]? = some u → W.cell? ((⟨g, o, none⟩ : Addr).add j) = some u := by
  intro j u hj
  rw [cell_addr]
  exact (BW.cell (p := ⟨g, o + j, none⟩) hg).trans (HC j u hj)

theorem news_drop {w W : World} {g o k B : Nat} {L : List It} (HC : ∀ j u, (flat L)[j]? = some u → w.cell? ⟨g, o + j, none⟩ = some u) (BW : Below B w W) (hg : g < B) (hk : k ≤ L.length) :
    ∀ j u, (flat (L.drop k))[j]? = some u → W.cell? ((⟨g, o + k * 2, none⟩ : Addr).add j) = some u := by
  intro j u hj
  rw [cell_addr, Nat.add_assoc]
  refine (BW.cell (p := ⟨g, o + (k * 2 + j), none⟩) hg).trans (HC _ u ?_)
  have e : flat L = flat (L.take k) ++ flat (L.drop k) := by rw [← flat_append, List.take_append_drop]
  have hl : (flat (L.take k)).length = k * 2 := by rw [length_flat, List.length_take]; omega
  rw [e, List.getElem?_append_right (by omega), hl, Nat.add_sub_cancel_left]
  exact hj

def SortedPost (L : List It) (x : It) (w : World) (e : Ending) (w' : World) : Prop :=
  ∃ g cap, e = .returned (.slice (some ⟨g, 0, none⟩) (L.length + 1) cap) ∧ Below w.heap.size w w' ∧ w.heap.size ≤ g ∧ Row w' g cap (ins x L) ∧ cap ≤ maxLen

theorem sorted_end {w W : World} {L : List It} {x1 x2 : Int} {k n g cap B : Nat} (hE : ins (x1, x2) L = L.take k ++ (x1, x2) :: L.drop k) (hk : k = L.length) (hn : n = L.length + 1)
    (hown : W.ownsRow B 26 2 (.slice (some ⟨g, 0, none⟩) n cap) n (flat (L.take k) ++ [.int .i64 x1, .int .i64 x2]))
    (hB : Below w.heap.size w W) (hg : w.heap.size ≤ g) : SortedPost L (x1, x2) w (.returned (.slice (some ⟨g, 0, none⟩) n cap)) W := by
  have e : flat (L.take k) ++ [.int .i64 x1, .int .i64 x2] = flat (ins (x1, x2) L) := by
    rw [hE, flat_append, hk]
    simp [flat, enc]
  rw [e] at hown
  obtain ⟨R, h2, _⟩ := row_of_owns hown
  exact ⟨g, cap, by rw [hn], hB, hg, R, h2⟩

theorem sorted_post {w W : World} {L : List It} {x1 x2 : Int} {k n g cap B : Nat} (hE : ins (x1, x2) L = L.take k ++ (x1, x2) :: L.drop k) (hn : n = L.length + 1)
    (hown : W.ownsRow B 26 2 (.slice (some ⟨g, 0, none⟩) n cap) n (flat (L.take k) ++ [.int .i64 x1, .int .i64 x2] ++ flat (L.drop k)))
    (hB : Below w.heap.size w W) (hg : w.heap.size ≤ g) : SortedPost L (x1, x2) w (.returned (.slice (some ⟨g, 0, none⟩) n cap)) W := by
  have e : flat (L.take k) ++ [.int .i64 x1, .int .i64 x2] ++ flat (L.drop k) = flat (ins (x1, x2) L) := by
    rw [hE, flat_append]
    simp [flat, enc]
  rw [e] at hown
  obtain ⟨R, h2, _⟩ := row_of_owns hown
  exact ⟨g, cap, by rw [hn], hB, hg, R, h2⟩

set_option maxHeartbeats 8000000 in
set_option maxRecDepth 100000 in
theorem sorted17 (a : Option Addr) (cap : Nat) (L : List It) (x1 x2 : Int) (w : World) (P : Nat → Prop) (h : Sl w P (.slice a L.length cap) L) (hs : L.length ≤ 100) :
    Calls Try.prog 17 #[.slice a L.length cap, .agg #[.int .i64 x1, .int .i64 x2]] w (SortedPost L (x1, x2) w) := by
  have HS := Lib.hid h
  clear h
  obtain ⟨i0, hi0, hz0, hz1, hz2⟩ := info_parts info26
  go_enter Try.func17, Try.ntmps17
  go_wp2_with fail
  have x0 : (w.alloc (.cells #[.int .i64 x1, .int .i64 x2] 26)).cell? ⟨w.heap.size, 0, none⟩ = some (.int .i64 x1) := by simp [go_sem]
  have x9 : (w.alloc (.cells #[.int .i64 x1, .int .i64 x2] 26)).cell? ⟨w.heap.size, 1, none⟩ = some (.int .i64 x2) := by simp [go_sem]
  have HB := Lib.hid ((Below.refl w.heap.size w).alloc (Nat.le_refl _) (.cells #[.int .i64 x1, .int .i64 x2] 26))
  have HSZ : Hid ((w.alloc (.cells #[.int .i64 x1, .int .i64 x2] 26)).heap.size = w.heap.size + 1) := Lib.hid (by simp)
  revert x0 x9 HB HSZ
  generalize w.alloc (.cells #[.int .i64 x1, .int .i64 x2] 26) = wb
  generalize hxb : w.heap.size = xb
  intro x0 x9 HB HSZ
  have HX := Lib.hid (And.intro x0 x9)
  clear x0 x9
  go_loopg [5] (L.length + 1) (fun gh s5 wr => ∃ (k q : Nat), s5 = .int .i64 k ∧ k ≤ L.length ∧ gh = L.length + 1 - k ∧ wr = wb.drewN q ∧ Hid (∀ j, j < k → ltIt (at' L j) (x1, x2) = true))
  case atStart => exact ⟨0, 0, rfl, Nat.zero_le _, rfl, rfl, Lib.hid (fun j hj => absurd hj (Nat.not_lt_zero _))⟩
  case round =>
    obtain ⟨k, q, rfl, hk, rfl, rfl, HK⟩ := hrel
    have x0 : (wb.drewN q).cell? ⟨xb, 0, none⟩ = some (.int .i64 x1) := HX.out.1
    have x9 : (wb.drewN q).cell? ⟨xb, 1, none⟩ = some (.int .i64 x2) := HX.out.2
    have HBQ0 : Hid (Below xb w (wb.drewN q)) := Lib.hid (HB.out.trans ((below_drewN q wb).mono (show xb ≤ wb.heap.size by rw [HSZ.out]; omega)))
    have hq0 : xb < (wb.drewN q).heap.size := by show xb < wb.heap.size; rw [HSZ.out]; omega
    by_cases hlt : k < L.length
    · have hS := HS.out
      obtain ⟨a', cap', e, hc1, hc2, _, hcell⟩ := hS
      cases e
      obtain ⟨g, o, rfl, hPg, hg, hcs⟩ := hcell (by omega)
      have HC := Lib.hid (HS.out.flat (by omega)).2.2.2.2
      have y0 : (wb.drewN q).cell? ⟨g, o + k * 2, none⟩ = some (.int .i64 (at' L k).1) := (HB.out.cell (p := ⟨g, o + k * 2, none⟩) (by rw [← hxb]; exact hg)).trans (hcs k hlt).1
      have y9 : (wb.drewN q).cell? ⟨g, o + k * 2 + 1, none⟩ = some (.int .i64 (at' L k).2) := (HB.out.cell (p := ⟨g, o + k * 2 + 1, none⟩) (by rw [← hxb]; exact hg)).trans (hcs k hlt).2
      obtain ⟨y1, y2, hy⟩ : ∃ y1 y2, at' L k = (y1, y2) := ⟨_, _, rfl⟩
      rw [hy] at y0 y9
      dsimp only at y0 y9
      have HY := Lib.hid hy
      have qk : (k : Int) < (L.length : Int) := by omega
      have hgx : g < xb := by rw [← hxb]; exact hg
      clear hcs hcell hy hPg hg
      generalize hw0 : wb.drewN q = w0 at x0 x9 y0 y9 HBQ0 hq0 ⊢
      have HW0 := Lib.hid hw0
      clear hw0
      cases hl : ltIt (y1, y2) (x1, x2)
      · have hl' : ¬ (y2 < x2 ∨ y2 = x2 ∧ y1 < x1) := fun h => by
          have := (lt_iff (y1, y2) (x1, x2)).2 h
          rw [hl] at this
          cases this
        have HE : Hid (ins (x1, x2) L = L.take k ++ (x1, x2) :: L.drop k) := Lib.hid (ins_split L (x1, x2) k hk HK.out (fun _ => by rw [HY.out]; exact hl))
        have t1 : decide (y2 < x2) = false := decide_eq_false (by omega)
        have hck : ¬ cap = k := by omega
        have hck' : ¬ k = cap := by omega
        have hkc : k ≤ cap := by omega
        have hlc : L.length ≤ cap := hc1
        by_cases h2 : y2 = x2
        · have t2 : (y2 == x2) = true := beq_iff_eq.2 h2
          have t3 : decide (y1 < x1) = false := decide_eq_false (by omega)
          clear h2 hl hl'
          go_wp2_with fail
          go_big_quiet (fail)
          go_wp2_with fail
          generalize hwq : w0.drewN _ = wq
          have HBQ : Hid (Below xb w wq) := Lib.hid (by rw [← hwq]; exact HBQ0.out.trans ((below_drewN _ _).mono (Nat.le_of_lt hq0)))
          have hq : xb < wq.heap.size := by rw [← hwq]; exact hq0
          have x0' : wq.cell? ⟨xb, 0, none⟩ = some (.int .i64 x1) := by rw [← hwq]; exact x0
          have x9' : wq.cell? ⟨xb, 1, none⟩ = some (.int .i64 x2) := by rw [← hwq]; exact x9
          clear x0 x9 y0 y9 hwq
          have x0 := x0'
          have x9 := x9'
          clear x0' x9' t1 HY
          have HXX : Hid (Below (xb + 1) wq wq) := Lib.hid (Below.refl _ _)
          by_cases hk0 : 0 < k
          · go_region_law (first | (refine step_append_lies _ rfl _ _ 33 rfl 0 26 i0 (.agg #[.int .i64 0, .int .i64 0]) 2 16 Try.underlying33 hi0 hz0 hz1 hz2 rfl (by decide) (.slice (some ⟨_, 0, none⟩) 0 0) 0 [] rfl (own_empty (by first | exact heap_new _ _ | exact heap_new2 _ _ _ | exact heap_new3 _ _ _)) ⟨g, o, none⟩ k cap (flat (L.take k)) rfl (by rw [length_flat, List.length_take]; omega) (news_take HC.out (by repeat' (first | exact HBQ.out | exact BC | exact BB | exact BA | refine Below.drew ?_ | refine Below.alloc ?_ (by first | omega | (simp; done) | (simp; omega)) _)) hgx hk) (flat_one _) (hm := by omega) (h63 := by unfold maxLen; omega) (hbytes := by omega) (hbase := Nat.zero_le _) _ rfl ?_; intro gA capA wA ownA grA liesA ltA; have hA : xb < wA.heap.size := Nat.lt_of_lt_of_le (by first | omega | (simp; done) | (simp; omega)) grA.size; have BA : Below xb w wA := Below.grown (by repeat' (first | exact HBQ.out | exact BC | exact BB | exact BA | refine Below.drew ?_ | refine Below.alloc ?_ (by first | omega | (simp; done) | (simp; omega)) _)) grA (by first | omega | (simp; done) | (simp; omega)) (by intro m hm; simp [Value.ownBlock] at hm; omega); have CA : Below (xb + 1) wq wA := Below.grown (by repeat' (first | exact HXX.out | exact CC | exact CB | exact CA | refine Below.drew ?_ | refine Below.alloc ?_ (by first | omega | (simp; done) | (simp; omega)) _)) grA (by first | omega | (simp; done) | (simp; omega)) (by intro m hm; simp [Value.ownBlock] at hm; omega); have sA0 : wA.cell? ⟨xb, 0, none⟩ = some (.int .i64 x1) := (CA.cell (p := ⟨xb, 0, none⟩) (Nat.lt_succ_self xb)).trans x0; have sA1 : wA.cell? ⟨xb, 1, none⟩ = some (.int .i64 x2) := (CA.cell (p := ⟨xb, 1, none⟩) (Nat.lt_succ_self xb)).trans x9; have ownAk : wA.ownsRow 0 26 2 (.slice (some ⟨gA, 0, none⟩) k capA) k (flat (L.take k)) := (by rw [Nat.zero_add] at ownA; exact ownA); have gAx : xb < gA := (by rcases liesA with e | e; (simp [Value.ownBlock] at e; omega); (first | omega | (simp at e; omega)))) | (refine step_append_lies _ rfl _ _ 33 rfl 0 26 i0 (.agg #[.int .i64 0, .int .i64 0]) 2 16 Try.underlying33 hi0 hz0 hz1 hz2 rfl (by decide) (.slice (some ⟨gA, 0, none⟩) k capA) k _ rfl (by first | exact ownAk | exact ownAk.alloc _ | exact (ownAk.alloc _).alloc _) ⟨_, 0, none⟩ 1 1 [.int .i64 x1, .int .i64 x2] rfl rfl (by intro j u hj; match j, hj with | 0, hj => (simp at hj; subst hj; first | (simp [Addr.add, go_sem]; done) | (rw [cell_addr, grA.cell_far _ (by first | omega | (simp; done) | (simp; omega)) (by first | (simp [Value.ownBlock]; done) | (simp [Value.ownBlock]; omega))]; simp [go_sem])) | 1, hj => (simp at hj; subst hj; first | (simp [Addr.add, go_sem]; done) | (rw [cell_addr, grA.cell_far _ (by first | omega | (simp; done) | (simp; omega)) (by first | (simp [Value.ownBlock]; done) | (simp [Value.ownBlock]; omega))]; simp [go_sem]))) (by intro u hu; simp at hu; rcases hu with rfl | rfl <;> rfl) (hm := by omega) (h63 := by unfold maxLen; omega) (hbytes := by omega) (hbase := Nat.zero_le _) _ rfl ?_; intro gB capB wB ownB grB liesB ltB; have hB : xb < wB.heap.size := Nat.lt_of_lt_of_le (by first | omega | (simp; done) | (simp; omega)) grB.size; have BB : Below xb w wB := Below.grown (by repeat' (first | exact HBQ.out | exact BC | exact BB | exact BA | refine Below.drew ?_ | refine Below.alloc ?_ (by first | omega | (simp; done) | (simp; omega)) _)) grB (by first | omega | (simp; done) | (simp; omega)) (by intro m hm; simp [Value.ownBlock] at hm; omega); have CB : Below (xb + 1) wq wB := Below.grown (by repeat' (first | exact HXX.out | exact CC | exact CB | exact CA | refine Below.drew ?_ | refine Below.alloc ?_ (by first | omega | (simp; done) | (simp; omega)) _)) grB (by first | omega | (simp; done) | (simp; omega)) (by intro m hm; simp [Value.ownBlock] at hm; omega); have leB : k + 1 ≤ capB := own_le ownB; have gBx : xb < gB := (by rcases liesB with e | e; (simp [Value.ownBlock] at e; omega); (first | omega | (simp at e; omega)))) | (refine step_append_lies _ rfl _ _ 33 rfl 0 26 i0 (.agg #[.int .i64 0, .int .i64 0]) 2 16 Try.underlying33 hi0 hz0 hz1 hz2 rfl (by decide) (.slice (some ⟨gB, 0, none⟩) (k + 1) capB) (k + 1) _ rfl ownB ⟨g, o + k * 2, none⟩ (L.length - k) (cap - k) (flat (L.drop k)) rfl (by rw [length_flat, List.length_drop]) (news_drop HC.out (by repeat' (first | exact HBQ.out | exact BC | exact BB | exact BA | refine Below.drew ?_ | refine Below.alloc ?_ (by first | omega | (simp; done) | (simp; omega)) _)) hgx hk) (flat_one _) (hm := by omega) (h63 := by unfold maxLen; omega) (hbytes := by omega) (hbase := Nat.zero_le _) _ rfl ?_; intro gC capC wC ownC grC liesC ltC; have hC : xb < wC.heap.size := Nat.lt_of_lt_of_le (by first | omega | (simp; done) | (simp; omega)) grC.size; have BC : Below xb w wC := Below.grown (by repeat' (first | exact HBQ.out | exact BC | exact BB | exact BA | refine Below.drew ?_ | refine Below.alloc ?_ (by first | omega | (simp; done) | (simp; omega)) _)) grC (by first | omega | (simp; done) | (simp; omega)) (by intro m hm; simp [Value.ownBlock] at hm; omega); have CC : Below (xb + 1) wq wC := Below.grown (by repeat' (first | exact HXX.out | exact CC | exact CB | exact CA | refine Below.drew ?_ | refine Below.alloc ?_ (by first | omega | (simp; done) | (simp; omega)) _)) grC (by first | omega | (simp; done) | (simp; omega)) (by intro m hm; simp [Value.ownBlock] at hm; omega); have gCx : xb < gC := (by rcases liesC with e | e; (simp [Value.ownBlock] at e; omega); (first | omega | (simp at e; omega)))))
            all_goals
              go_wp2_with fail
              go_ret
              exact sorted_post HE.out (by omega) ownC (by rw [hxb]; exact BC) (by omega)
          · have hk1 : k = 0 := by omega
            clear hk0
            subst hk1
            go_region_law (first | (refine step_append_lies _ rfl _ _ 33 rfl 0 26 i0 (.agg #[.int .i64 0, .int .i64 0]) 2 16 Try.underlying33 hi0 hz0 hz1 hz2 rfl (by decide) (.slice (some ⟨_, 0, none⟩) 0 0) 0 _ rfl (own_empty (by first | exact heap_new _ _ | exact heap_new2 _ _ _ | exact heap_new3 _ _ _)) ⟨_, 0, none⟩ 1 1 [.int .i64 x1, .int .i64 x2] rfl rfl (by intro j u hj; match j, hj with | 0, hj => (simp at hj; subst hj; first | (simp [Addr.add, go_sem]; done) | (rw [cell_addr, grA.cell_far _ (by first | omega | (simp; done) | (simp; omega)) (by first | (simp [Value.ownBlock]; done) | (simp [Value.ownBlock]; omega))]; simp [go_sem])) | 1, hj => (simp at hj; subst hj; first | (simp [Addr.add, go_sem]; done) | (rw [cell_addr, grA.cell_far _ (by first | omega | (simp; done) | (simp; omega)) (by first | (simp [Value.ownBlock]; done) | (simp [Value.ownBlock]; omega))]; simp [go_sem]))) (by intro u hu; simp at hu; rcases hu with rfl | rfl <;> rfl) (hm := by omega) (h63 := by unfold maxLen; omega) (hbytes := by omega) (hbase := Nat.zero_le _) _ rfl ?_; intro gB capB wB ownB grB liesB ltB; have hB : xb < wB.heap.size := Nat.lt_of_lt_of_le (by first | omega | (simp; done) | (simp; omega)) grB.size; have BB : Below xb w wB := Below.grown (by repeat' (first | exact HBQ.out | exact BC | exact BB | exact BA | refine Below.drew ?_ | refine Below.alloc ?_ (by first | omega | (simp; done) | (simp; omega)) _)) grB (by first | omega | (simp; done) | (simp; omega)) (by intro m hm; simp [Value.ownBlock] at hm; omega); have CB : Below (xb + 1) wq wB := Below.grown (by repeat' (first | exact HXX.out | exact CC | exact CB | exact CA | refine Below.drew ?_ | refine Below.alloc ?_ (by first | omega | (simp; done) | (simp; omega)) _)) grB (by first | omega | (simp; done) | (simp; omega)) (by intro m hm; simp [Value.ownBlock] at hm; omega); have leB : 1 ≤ capB := own_le ownB; have gBx : xb < gB := (by rcases liesB with e | e; (simp [Value.ownBlock] at e; omega); (first | omega | (simp at e; omega)))) | (refine step_append_lies _ rfl _ _ 33 rfl 0 26 i0 (.agg #[.int .i64 0, .int .i64 0]) 2 16 Try.underlying33 hi0 hz0 hz1 hz2 rfl (by decide) (.slice (some ⟨gB, 0, none⟩) 1 capB) 1 _ rfl ownB ⟨g, o, none⟩ L.length cap (flat L) rfl (by rw [length_flat]) (news_all HC.out (by repeat' (first | exact HBQ.out | exact BC | exact BB | exact BA | refine Below.drew ?_ | refine Below.alloc ?_ (by first | omega | (simp; done) | (simp; omega)) _)) hgx) (flat_one _) (hm := by omega) (h63 := by unfold maxLen; omega) (hbytes := by omega) (hbase := Nat.zero_le _) _ rfl ?_; intro gC capC wC ownC grC liesC ltC; have hC : xb < wC.heap.size := Nat.lt_of_lt_of_le (by first | omega | (simp; done) | (simp; omega)) grC.size; have BC : Below xb w wC := Below.grown (by repeat' (first | exact HBQ.out | exact BC | exact BB | exact BA | refine Below.drew ?_ | refine Below.alloc ?_ (by first | omega | (simp; done) | (simp; omega)) _)) grC (by first | omega | (simp; done) | (simp; omega)) (by intro m hm; simp [Value.ownBlock] at hm; omega); have CC : Below (xb + 1) wq wC := Below.grown (by repeat' (first | exact HXX.out | exact CC | exact CB | exact CA | refine Below.drew ?_ | refine Below.alloc ?_ (by first | omega | (simp; done) | (simp; omega)) _)) grC (by first | omega | (simp; done) | (simp; omega)) (by intro m hm; simp [Value.ownBlock] at hm; omega); have gCx : xb < gC := (by rcases liesC with e | e; (simp [Value.ownBlock] at e; omega); (first | omega | (simp at e; omega)))))
            all_goals
              go_wp2_with fail
              go_ret
              exact sorted_post HE.out (by omega) ownC (by rw [hxb]; exact BC) (by omega)
        · have t2 : (y2 == x2) = false := beq_eq_false_iff_ne.2 h2
          clear h2 hl hl'
          go_wp2_with fail
          go_big_quiet (fail)
          go_wp2_with fail
          generalize hwq : w0.drewN _ = wq
          have HBQ : Hid (Below xb w wq) := Lib.hid (by rw [← hwq]; exact HBQ0.out.trans ((below_drewN _ _).mono (Nat.le_of_lt hq0)))
          have hq : xb < wq.heap.size := by rw [← hwq]; exact hq0
          have x0' : wq.cell? ⟨xb, 0, none⟩ = some (.int .i64 x1) := by rw [← hwq]; exact x0
          have x9' : wq.cell? ⟨xb, 1, none⟩ = some (.int .i64 x2) := by rw [← hwq]; exact x9
          clear x0 x9 y0 y9 hwq
          have x0 := x0'
          have x9 := x9'
          clear x0' x9' t1 HY
          have HXX : Hid (Below (xb + 1) wq wq) := Lib.hid (Below.refl _ _)
          by_cases hk0 : 0 < k
          · go_region_law (first | (refine step_append_lies _ rfl _ _ 33 rfl 0 26 i0 (.agg #[.int .i64 0, .int .i64 0]) 2 16 Try.underlying33 hi0 hz0 hz1 hz2 rfl (by decide) (.slice (some ⟨_, 0, none⟩) 0 0) 0 [] rfl (own_empty (by first | exact heap_new _ _ | exact heap_new2 _ _ _ | exact heap_new3 _ _ _)) ⟨g, o, none⟩ k cap (flat (L.take k)) rfl (by rw [length_flat, List.length_take]; omega) (news_take HC.out (by repeat' (first | exact HBQ.out | exact BC | exact BB | exact BA | refine Below.drew ?_ | refine Below.alloc ?_ (by first | omega | (simp; done) | (simp; omega)) _)) hgx hk) (flat_one _) (hm := by omega) (h63 := by unfold maxLen; omega) (hbytes := by omega) (hbase := Nat.zero_le _) _ rfl ?_; intro gA capA wA ownA grA liesA ltA; have hA : xb < wA.heap.size := Nat.lt_of_lt_of_le (by first | omega | (simp; done) | (simp; omega)) grA.size; have BA : Below xb w wA := Below.grown (by repeat' (first | exact HBQ.out | exact BC | exact BB | exact BA | refine Below.drew ?_ | refine Below.alloc ?_ (by first | omega | (simp; done) | (simp; omega)) _)) grA (by first | omega | (simp; done) | (simp; omega)) (by intro m hm; simp [Value.ownBlock] at hm; omega); have CA : Below (xb + 1) wq wA := Below.grown (by repeat' (first | exact HXX.out | exact CC | exact CB | exact CA | refine Below.drew ?_ | refine Below.alloc ?_ (by first | omega | (simp; done) | (simp; omega)) _)) grA (by first | omega | (simp; done) | (simp; omega)) (by intro m hm; simp [Value.ownBlock] at hm; omega); have sA0 : wA.cell? ⟨xb, 0, none⟩ = some (.int .i64 x1) := (CA.cell (p := ⟨xb, 0, none⟩) (Nat.lt_succ_self xb)).trans x0; have sA1 : wA.cell? ⟨xb, 1, none⟩ = some (.int .i64 x2) := (CA.cell (p := ⟨xb, 1, none⟩) (Nat.lt_succ_self xb)).trans x9; have ownAk : wA.ownsRow 0 26 2 (.slice (some ⟨gA, 0, none⟩) k capA) k (flat (L.take k)) := (by rw [Nat.zero_add] at ownA; exact ownA); have gAx : xb < gA := (by rcases liesA with e | e; (simp [Value.ownBlock] at e; omega); (first | omega | (simp at e; omega)))) | (refine step_append_lies _ rfl _ _ 33 rfl 0 26 i0 (.agg #[.int .i64 0, .int .i64 0]) 2 16 Try.underlying33 hi0 hz0 hz1 hz2 rfl (by decide) (.slice (some ⟨gA, 0, none⟩) k capA) k _ rfl (by first | exact ownAk | exact ownAk.alloc _ | exact (ownAk.alloc _).alloc _) ⟨_, 0, none⟩ 1 1 [.int .i64 x1, .int .i64 x2] rfl rfl (by intro j u hj; match j, hj with | 0, hj => (simp at hj; subst hj; first | (simp [Addr.add, go_sem]; done) | (rw [cell_addr, grA.cell_far _ (by first | omega | (simp; done) | (simp; omega)) (by first | (simp [Value.ownBlock]; done) | (simp [Value.ownBlock]; omega))]; simp [go_sem])) | 1, hj => (simp at hj; subst hj; first | (simp [Addr.add, go_sem]; done) | (rw [cell_addr, grA.cell_far _ (by first | omega | (simp; done) | (simp; omega)) (by first | (simp [Value.ownBlock]; done) | (simp [Value.ownBlock]; omega))]; simp [go_sem]))) (by intro u hu; simp at hu; rcases hu with rfl | rfl <;> rfl) (hm := by omega) (h63 := by unfold maxLen; omega) (hbytes := by omega) (hbase := Nat.zero_le _) _ rfl ?_; intro gB capB wB ownB grB liesB ltB; have hB : xb < wB.heap.size := Nat.lt_of_lt_of_le (by first | omega | (simp; done) | (simp; omega)) grB.size; have BB : Below xb w wB := Below.grown (by repeat' (first | exact HBQ.out | exact BC | exact BB | exact BA | refine Below.drew ?_ | refine Below.alloc ?_ (by first | omega | (simp; done) | (simp; omega)) _)) grB (by first | omega | (simp; done) | (simp; omega)) (by intro m hm; simp [Value.ownBlock] at hm; omega); have CB : Below (xb + 1) wq wB := Below.grown (by repeat' (first | exact HXX.out | exact CC | exact CB | exact CA | refine Below.drew ?_ | refine Below.alloc ?_ (by first | omega | (simp; done) | (simp; omega)) _)) grB (by first | omega | (simp; done) | (simp; omega)) (by intro m hm; simp [Value.ownBlock] at hm; omega); have leB : k + 1 ≤ capB := own_le ownB; have gBx : xb < gB := (by rcases liesB with e | e; (simp [Value.ownBlock] at e; omega); (first | omega | (simp at e; omega)))) | (refine step_append_lies _ rfl _ _ 33 rfl 0 26 i0 (.agg #[.int .i64 0, .int .i64 0]) 2 16 Try.underlying33 hi0 hz0 hz1 hz2 rfl (by decide) (.slice (some ⟨gB, 0, none⟩) (k + 1) capB) (k + 1) _ rfl ownB ⟨g, o + k * 2, none⟩ (L.length - k) (cap - k) (flat (L.drop k)) rfl (by rw [length_flat, List.length_drop]) (news_drop HC.out (by repeat' (first | exact HBQ.out | exact BC | exact BB | exact BA | refine Below.drew ?_ | refine Below.alloc ?_ (by first | omega | (simp; done) | (simp; omega)) _)) hgx hk) (flat_one _) (hm := by omega) (h63 := by unfold maxLen; omega) (hbytes := by omega) (hbase := Nat.zero_le _) _ rfl ?_; intro gC capC wC ownC grC liesC ltC; have hC : xb < wC.heap.size := Nat.lt_of_lt_of_le (by first | omega | (simp; done) | (simp; omega)) grC.size; have BC : Below xb w wC := Below.grown (by repeat' (first | exact HBQ.out | exact BC | exact BB | exact BA | refine Below.drew ?_ | refine Below.alloc ?_ (by first | omega | (simp; done) | (simp; omega)) _)) grC (by first | omega | (simp; done) | (simp; omega)) (by intro m hm; simp [Value.ownBlock] at hm; omega); have CC : Below (xb + 1) wq wC := Below.grown (by repeat' (first | exact HXX.out | exact CC | exact CB | exact CA | refine Below.drew ?_ | refine Below.alloc ?_ (by first | omega | (simp; done) | (simp; omega)) _)) grC (by first | omega | (simp; done) | (simp; omega)) (by intro m hm; simp [Value.ownBlock] at hm; omega); have gCx : xb < gC := (by rcases liesC with e | e; (simp [Value.ownBlock] at e; omega); (first | omega | (simp at e; omega)))))
            all_goals
              go_wp2_with fail
              go_ret
              exact sorted_post HE.out (by omega) ownC (by rw [hxb]; exact BC) (by omega)
          · have hk1 : k = 0 := by omega
            clear hk0
            subst hk1
            go_region_law (first | (refine step_append_lies _ rfl _ _ 33 rfl 0 26 i0 (.agg #[.int .i64 0, .int .i64 0]) 2 16 Try.underlying33 hi0 hz0 hz1 hz2 rfl (by decide) (.slice (some ⟨_, 0, none⟩) 0 0) 0 _ rfl (own_empty (by first | exact heap_new _ _ | exact heap_new2 _ _ _ | exact heap_new3 _ _ _)) ⟨_, 0, none⟩ 1 1 [.int .i64 x1, .int .i64 x2] rfl rfl (by intro j u hj; match j, hj with | 0, hj => (simp at hj; subst hj; first | (simp [Addr.add, go_sem]; done) | (rw [cell_addr, grA.cell_far _ (by first | omega | (simp; done) | (simp; omega)) (by first | (simp [Value.ownBlock]; done) | (simp [Value.ownBlock]; omega))]; simp [go_sem])) | 1, hj => (simp at hj; subst hj; first | (simp [Addr.add, go_sem]; done) | (rw [cell_addr, grA.cell_far _ (by first | omega | (simp; done) | (simp; omega)) (by first | (simp [Value.ownBlock]; done) | (simp [Value.ownBlock]; omega))]; simp [go_sem]))) (by intro u hu; simp at hu; rcases hu with rfl | rfl <;> rfl) (hm := by omega) (h63 := by unfold maxLen; omega) (hbytes := by omega) (hbase := Nat.zero_le _) _ rfl ?_; intro gB capB wB ownB grB liesB ltB; have hB : xb < wB.heap.size := Nat.lt_of_lt_of_le (by first | omega | (simp; done) | (simp; omega)) grB.size; have BB : Below xb w wB := Below.grown (by repeat' (first | exact HBQ.out | exact BC | exact BB | exact BA | refine Below.drew ?_ | refine Below.alloc ?_ (by first | omega | (simp; done) | (simp; omega)) _)) grB (by first | omega | (simp; done) | (simp; omega)) (by intro m hm; simp [Value.ownBlock] at hm; omega); have CB : Below (xb + 1) wq wB := Below.grown (by repeat' (first | exact HXX.out | exact CC | exact CB | exact CA | refine Below.drew ?_ | refine Below.alloc ?_ (by first | omega | (simp; done) | (simp; omega)) _)) grB (by first | omega | (simp; done) | (simp; omega)) (by intro m hm; simp [Value.ownBlock] at hm; omega); have leB : 1 ≤ capB := own_le ownB; have gBx : xb < gB := (by rcases liesB with e | e; (simp [Value.ownBlock] at e; omega); (first | omega | (simp at e; omega)))) | (refine step_append_lies _ rfl _ _ 33 rfl 0 26 i0 (.agg #[.int .i64 0, .int .i64 0]) 2 16 Try.underlying33 hi0 hz0 hz1 hz2 rfl (by decide) (.slice (some ⟨gB, 0, none⟩) 1 capB) 1 _ rfl ownB ⟨g, o, none⟩ L.length cap (flat L) rfl (by rw [length_flat]) (news_all HC.out (by repeat' (first | exact HBQ.out | exact BC | exact BB | exact BA | refine Below.drew ?_ | refine Below.alloc ?_ (by first | omega | (simp; done) | (simp; omega)) _)) hgx) (flat_one _) (hm := by omega) (h63 := by unfold maxLen; omega) (hbytes := by omega) (hbase := Nat.zero_le _) _ rfl ?_; intro gC capC wC ownC grC liesC ltC; have hC : xb < wC.heap.size := Nat.lt_of_lt_of_le (by first | omega | (simp; done) | (simp; omega)) grC.size; have BC : Below xb w wC := Below.grown (by repeat' (first | exact HBQ.out | exact BC | exact BB | exact BA | refine Below.drew ?_ | refine Below.alloc ?_ (by first | omega | (simp; done) | (simp; omega)) _)) grC (by first | omega | (simp; done) | (simp; omega)) (by intro m hm; simp [Value.ownBlock] at hm; omega); have CC : Below (xb + 1) wq wC := Below.grown (by repeat' (first | exact HXX.out | exact CC | exact CB | exact CA | refine Below.drew ?_ | refine Below.alloc ?_ (by first | omega | (simp; done) | (simp; omega)) _)) grC (by first | omega | (simp; done) | (simp; omega)) (by intro m hm; simp [Value.ownBlock] at hm; omega); have gCx : xb < gC := (by rcases liesC with e | e; (simp [Value.ownBlock] at e; omega); (first | omega | (simp at e; omega)))))
            all_goals
              go_wp2_with fail
              go_ret
              exact sorted_post HE.out (by omega) ownC (by rw [hxb]; exact BC) (by omega)
      · have hl' := (lt_iff _ _).1 hl
        dsimp only at hl'
        have HK1 : Hid (∀ j, j < k + 1 → ltIt (at' L j) (x1, x2) = true) := Lib.hid (fun j hj => by
          by_cases e : j = k
          · rw [e, HY.out]; exact hl
          · exact HK.out j (by omega))
        by_cases h1 : y2 < x2
        · clear hl hl'
          go_wp2_with fail
          go_big_quiet (fail)
          go_wp2_with fail
          go_roundg (L.length + 1 - (k + 1))
          case measure => omega
          case rel => exact ⟨k + 1, q + nq, by go_num, by omega, rfl, (by rw [← HW0.out]; simp [World.drewN, Nat.add_assoc]), HK1⟩
        · have t1 : decide (y2 < x2) = false := decide_eq_false h1
          have t2 : (y2 == x2) = true := beq_iff_eq.2 (by omega)
          have t3 : y1 < x1 := by omega
          clear hl hl' h1
          go_wp2_with fail
          go_big_quiet (fail)
          go_wp2_with fail
          go_roundg (L.length + 1 - (k + 1))
          case measure => omega
          case rel => exact ⟨k + 1, q + nq, by go_num, by omega, rfl, (by rw [← HW0.out]; simp [World.drewN, Nat.add_assoc]), HK1⟩
    · have hge : decide ((k : Int) < (L.length : Int)) = false := decide_eq_false (by omega)
      have hge' : decide (k < L.length) = false := decide_eq_false hlt
      have HE : Hid (ins (x1, x2) L = L.take k ++ (x1, x2) :: L.drop k) := Lib.hid (ins_split L (x1, x2) k hk HK.out (fun h => absurd h hlt))
      have hkl : k = L.length := by omega
      clear hge hge' hlt
      rcases HS.out with ⟨a', cap', e, hc1, hc2, ha, hcell⟩
      cases e
      have HL := Lib.hid hkl
      by_cases hk0 : 0 < k
      · obtain ⟨g, o, rfl, hPg, hg, hcs⟩ := hcell (by omega)
        have HC := Lib.hid (HS.out.flat (by omega)).2.2.2.2
        have hgx : g < xb := by rw [← hxb]; exact hg
        clear hcs hcell hPg hg ha
        generalize wb.drewN q = w0 at x0 x9 HBQ0 hq0 ⊢
        simp only [← hkl]
        clear hkl
        by_cases hck : k = cap
        · subst hck
          go_wp2_with fail
          go_big_quiet (fail)
          go_wp2_with fail
          generalize hwq : w0.drewN _ = wq
          have HBQ : Hid (Below xb w wq) := Lib.hid (by rw [← hwq]; exact HBQ0.out.trans ((below_drewN _ _).mono (Nat.le_of_lt hq0)))
          have hq : xb < wq.heap.size := by rw [← hwq]; exact hq0
          have x0' : wq.cell? ⟨xb, 0, none⟩ = some (.int .i64 x1) := by rw [← hwq]; exact x0
          have x9' : wq.cell? ⟨xb, 1, none⟩ = some (.int .i64 x2) := by rw [← hwq]; exact x9
          clear x0 x9 hwq
          have x0 := x0'
          have x9 := x9'
          clear x0' x9'
          have HXX : Hid (Below (xb + 1) wq wq) := Lib.hid (Below.refl _ _)
          go_region_law (first | (refine step_append_lies _ rfl _ _ 33 rfl 0 26 i0 (.agg #[.int .i64 0, .int .i64 0]) 2 16 Try.underlying33 hi0 hz0 hz1 hz2 rfl (by decide) (.slice (some ⟨_, 0, none⟩) 0 0) 0 [] rfl (own_empty (by first | exact heap_new _ _ | exact heap_new2 _ _ _ | exact heap_new3 _ _ _)) ⟨g, o, none⟩ k k (flat (L.take k)) rfl (by rw [length_flat, List.length_take]; omega) (news_take HC.out (by repeat' (first | exact HBQ.out | exact BC | exact BB | exact BA | refine Below.drew ?_ | refine Below.alloc ?_ (by first | omega | (simp; done) | (simp; omega)) _)) hgx hk) (flat_one _) (hm := by omega) (h63 := by unfold maxLen; omega) (hbytes := by omega) (hbase := Nat.zero_le _) _ rfl ?_; intro gA capA wA ownA grA liesA ltA; have hA : xb < wA.heap.size := Nat.lt_of_lt_of_le (by first | omega | (simp; done) | (simp; omega)) grA.size; have BA : Below xb w wA := Below.grown (by repeat' (first | exact HBQ.out | exact BC | exact BB | exact BA | refine Below.drew ?_ | refine Below.alloc ?_ (by first | omega | (simp; done) | (simp; omega)) _)) grA (by first | omega | (simp; done) | (simp; omega)) (by intro m hm; simp [Value.ownBlock] at hm; omega); have CA : Below (xb + 1) wq wA := Below.grown (by repeat' (first | exact HXX.out | exact CC | exact CB | exact CA | refine Below.drew ?_ | refine Below.alloc ?_ (by first | omega | (simp; done) | (simp; omega)) _)) grA (by first | omega | (simp; done) | (simp; omega)) (by intro m hm; simp [Value.ownBlock] at hm; omega); have sA0 : wA.cell? ⟨xb, 0, none⟩ = some (.int .i64 x1) := (CA.cell (p := ⟨xb, 0, none⟩) (Nat.lt_succ_self xb)).trans x0; have sA1 : wA.cell? ⟨xb, 1, none⟩ = some (.int .i64 x2) := (CA.cell (p := ⟨xb, 1, none⟩) (Nat.lt_succ_self xb)).trans x9; have ownAk : wA.ownsRow 0 26 2 (.slice (some ⟨gA, 0, none⟩) k capA) k (flat (L.take k)) := (by rw [Nat.zero_add] at ownA; exact ownA); have gAx : xb < gA := (by rcases liesA with e | e; (simp [Value.ownBlock] at e; omega); (first | omega | (simp at e; omega)))) | (refine step_append_lies _ rfl _ _ 33 rfl 0 26 i0 (.agg #[.int .i64 0, .int .i64 0]) 2 16 Try.underlying33 hi0 hz0 hz1 hz2 rfl (by decide) (.slice (some ⟨gA, 0, none⟩) k capA) k _ rfl (by first | exact ownAk | exact ownAk.alloc _ | exact (ownAk.alloc _).alloc _) ⟨_, 0, none⟩ 1 1 [.int .i64 x1, .int .i64 x2] rfl rfl (by intro j u hj; match j, hj with | 0, hj => (simp at hj; subst hj; first | (simp [Addr.add, go_sem]; done) | (rw [cell_addr, grA.cell_far _ (by first | omega | (simp; done) | (simp; omega)) (by first | (simp [Value.ownBlock]; done) | (simp [Value.ownBlock]; omega))]; simp [go_sem])) | 1, hj => (simp at hj; subst hj; first | (simp [Addr.add, go_sem]; done) | (rw [cell_addr, grA.cell_far _ (by first | omega | (simp; done) | (simp; omega)) (by first | (simp [Value.ownBlock]; done) | (simp [Value.ownBlock]; omega))]; simp [go_sem]))) (by intro u hu; simp at hu; rcases hu with rfl | rfl <;> rfl) (hm := by omega) (h63 := by unfold maxLen; omega) (hbytes := by omega) (hbase := Nat.zero_le _) _ rfl ?_; intro gB capB wB ownB grB liesB ltB; have hB : xb < wB.heap.size := Nat.lt_of_lt_of_le (by first | omega | (simp; done) | (simp; omega)) grB.size; have BB : Below xb w wB := Below.grown (by repeat' (first | exact HBQ.out | exact BC | exact BB | exact BA | refine Below.drew ?_ | refine Below.alloc ?_ (by first | omega | (simp; done) | (simp; omega)) _)) grB (by first | omega | (simp; done) | (simp; omega)) (by intro m hm; simp [Value.ownBlock] at hm; omega); have CB : Below (xb + 1) wq wB := Below.grown (by repeat' (first | exact HXX.out | exact CC | exact CB | exact CA | refine Below.drew ?_ | refine Below.alloc ?_ (by first | omega | (simp; done) | (simp; omega)) _)) grB (by first | omega | (simp; done) | (simp; omega)) (by intro m hm; simp [Value.ownBlock] at hm; omega); have leB : k + 1 ≤ capB := own_le ownB; have gBx : xb < gB := (by rcases liesB with e | e; (simp [Value.ownBlock] at e; omega); (first | omega | (simp at e; omega)))))
          all_goals
            go_wp2_with fail
            go_ret
            exact sorted_end HE.out HL.out (by have := HL.out; omega) ownB (by rw [hxb]; exact BB) (by omega)
        · have hkc : k ≤ cap := by have := HL.out; omega
          have hck' : ¬ cap = k := by omega
          go_wp2_with fail
          go_big_quiet (fail)
          go_wp2_with fail
          generalize hwq : w0.drewN _ = wq
          have HBQ : Hid (Below xb w wq) := Lib.hid (by rw [← hwq]; exact HBQ0.out.trans ((below_drewN _ _).mono (Nat.le_of_lt hq0)))
          have hq : xb < wq.heap.size := by rw [← hwq]; exact hq0
          have x0' : wq.cell? ⟨xb, 0, none⟩ = some (.int .i64 x1) := by rw [← hwq]; exact x0
          have x9' : wq.cell? ⟨xb, 1, none⟩ = some (.int .i64 x2) := by rw [← hwq]; exact x9
          clear x0 x9 hwq
          have x0 := x0'
          have x9 := x9'
          clear x0' x9'
          have HXX : Hid (Below (xb + 1) wq wq) := Lib.hid (Below.refl _ _)
          go_region_law (first | (refine step_append_lies _ rfl _ _ 33 rfl 0 26 i0 (.agg #[.int .i64 0, .int .i64 0]) 2 16 Try.underlying33 hi0 hz0 hz1 hz2 rfl (by decide) (.slice (some ⟨_, 0, none⟩) 0 0) 0 [] rfl (own_empty (by first | exact heap_new _ _ | exact heap_new2 _ _ _ | exact heap_new3 _ _ _)) ⟨g, o, none⟩ k cap (flat (L.take k)) rfl (by rw [length_flat, List.length_take]; omega) (news_take HC.out (by repeat' (first | exact HBQ.out | exact BC | exact BB | exact BA | refine Below.drew ?_ | refine Below.alloc ?_ (by first | omega | (simp; done) | (simp; omega)) _)) hgx hk) (flat_one _) (hm := by omega) (h63 := by unfold maxLen; omega) (hbytes := by omega) (hbase := Nat.zero_le _) _ rfl ?_; intro gA capA wA ownA grA liesA ltA; have hA : xb < wA.heap.size := Nat.lt_of_lt_of_le (by first | omega | (simp; done) | (simp; omega)) grA.size; have BA : Below xb w wA := Below.grown (by repeat' (first | exact HBQ.out | exact BC | exact BB | exact BA | refine Below.drew ?_ | refine Below.alloc ?_ (by first | omega | (simp; done) | (simp; omega)) _)) grA (by first | omega | (simp; done) | (simp; omega)) (by intro m hm; simp [Value.ownBlock] at hm; omega); have CA : Below (xb + 1) wq wA := Below.grown (by repeat' (first | exact HXX.out | exact CC | exact CB | exact CA | refine Below.drew ?_ | refine Below.alloc ?_ (by first | omega | (simp; done) | (simp; omega)) _)) grA (by first | omega | (simp; done) | (simp; omega)) (by intro m hm; simp [Value.ownBlock] at hm; omega); have sA0 : wA.cell? ⟨xb, 0, none⟩ = some (.int .i64 x1) := (CA.cell (p := ⟨xb, 0, none⟩) (Nat.lt_succ_self xb)).trans x0; have sA1 : wA.cell? ⟨xb, 1, none⟩ = some (.int .i64 x2) := (CA.cell (p := ⟨xb, 1, none⟩) (Nat.lt_succ_self xb)).trans x9; have ownAk : wA.ownsRow 0 26 2 (.slice (some ⟨gA, 0, none⟩) k capA) k (flat (L.take k)) := (by rw [Nat.zero_add] at ownA; exact ownA); have gAx : xb < gA := (by rcases liesA with e | e; (simp [Value.ownBlock] at e; omega); (first | omega | (simp at e; omega)))) | (refine step_append_lies _ rfl _ _ 33 rfl 0 26 i0 (.agg #[.int .i64 0, .int .i64 0]) 2 16 Try.underlying33 hi0 hz0 hz1 hz2 rfl (by decide) (.slice (some ⟨gA, 0, none⟩) k capA) k _ rfl (by first | exact ownAk | exact ownAk.alloc _ | exact (ownAk.alloc _).alloc _) ⟨_, 0, none⟩ 1 1 [.int .i64 x1, .int .i64 x2] rfl rfl (by intro j u hj; match j, hj with | 0, hj => (simp at hj; subst hj; first | (simp [Addr.add, go_sem]; done) | (rw [cell_addr, grA.cell_far _ (by first | omega | (simp; done) | (simp; omega)) (by first | (simp [Value.ownBlock]; done) | (simp [Value.ownBlock]; omega))]; simp [go_sem])) | 1, hj => (simp at hj; subst hj; first | (simp [Addr.add, go_sem]; done) | (rw [cell_addr, grA.cell_far _ (by first | omega | (simp; done) | (simp; omega)) (by first | (simp [Value.ownBlock]; done) | (simp [Value.ownBlock]; omega))]; simp [go_sem]))) (by intro u hu; simp at hu; rcases hu with rfl | rfl <;> rfl) (hm := by omega) (h63 := by unfold maxLen; omega) (hbytes := by omega) (hbase := Nat.zero_le _) _ rfl ?_; intro gB capB wB ownB grB liesB ltB; have hB : xb < wB.heap.size := Nat.lt_of_lt_of_le (by first | omega | (simp; done) | (simp; omega)) grB.size; have BB : Below xb w wB := Below.grown (by repeat' (first | exact HBQ.out | exact BC | exact BB | exact BA | refine Below.drew ?_ | refine Below.alloc ?_ (by first | omega | (simp; done) | (simp; omega)) _)) grB (by first | omega | (simp; done) | (simp; omega)) (by intro m hm; simp [Value.ownBlock] at hm; omega); have CB : Below (xb + 1) wq wB := Below.grown (by repeat' (first | exact HXX.out | exact CC | exact CB | exact CA | refine Below.drew ?_ | refine Below.alloc ?_ (by first | omega | (simp; done) | (simp; omega)) _)) grB (by first | omega | (simp; done) | (simp; omega)) (by intro m hm; simp [Value.ownBlock] at hm; omega); have leB : k + 1 ≤ capB := own_le ownB; have gBx : xb < gB := (by rcases liesB with e | e; (simp [Value.ownBlock] at e; omega); (first | omega | (simp at e; omega)))))
          all_goals
            go_wp2_with fail
            go_ret
            exact sorted_end HE.out HL.out (by have := HL.out; omega) ownB (by rw [hxb]; exact BB) (by omega)
      · have hk1 : k = 0 := by omega
        subst hk1
        generalize wb.drewN q = w0 at x0 x9 HBQ0 hq0 ⊢
        simp only [← hkl]
        clear hkl hk0 hcell
        rcases ha with ⟨rfl, rfl⟩ | ⟨g, o, rfl⟩
        · clear hc1
          go_wp2_with fail
          go_big_quiet (fail)
          go_wp2_with fail
          generalize hwq : w0.drewN _ = wq
          have HBQ : Hid (Below xb w wq) := Lib.hid (by rw [← hwq]; exact HBQ0.out.trans ((below_drewN _ _).mono (Nat.le_of_lt hq0)))
          have hq : xb < wq.heap.size := by rw [← hwq]; exact hq0
          have x0' : wq.cell? ⟨xb, 0, none⟩ = some (.int .i64 x1) := by rw [← hwq]; exact x0
          have x9' : wq.cell? ⟨xb, 1, none⟩ = some (.int .i64 x2) := by rw [← hwq]; exact x9
          clear x0 x9 hwq
          have x0 := x0'
          have x9 := x9'
          clear x0' x9'
          have HXX : Hid (Below (xb + 1) wq wq) := Lib.hid (Below.refl _ _)
          go_region_law ((refine step_append_lies _ rfl _ _ 33 rfl 0 26 i0 (.agg #[.int .i64 0, .int .i64 0]) 2 16 Try.underlying33 hi0 hz0 hz1 hz2 rfl (by decide) (.slice (some ⟨_, 0, none⟩) 0 0) 0 _ rfl (own_empty (by first | exact heap_new _ _ | exact heap_new2 _ _ _ | exact heap_new3 _ _ _)) ⟨_, 0, none⟩ 1 1 [.int .i64 x1, .int .i64 x2] rfl rfl (by intro j u hj; match j, hj with | 0, hj => (simp at hj; subst hj; first | (simp [Addr.add, go_sem]; done) | (rw [cell_addr, grA.cell_far _ (by first | omega | (simp; done) | (simp; omega)) (by first | (simp [Value.ownBlock]; done) | (simp [Value.ownBlock]; omega))]; simp [go_sem])) | 1, hj => (simp at hj; subst hj; first | (simp [Addr.add, go_sem]; done) | (rw [cell_addr, grA.cell_far _ (by first | omega | (simp; done) | (simp; omega)) (by first | (simp [Value.ownBlock]; done) | (simp [Value.ownBlock]; omega))]; simp [go_sem]))) (by intro u hu; simp at hu; rcases hu with rfl | rfl <;> rfl) (hm := by omega) (h63 := by unfold maxLen; omega) (hbytes := by omega) (hbase := Nat.zero_le _) _ rfl ?_; intro gB capB wB ownB grB liesB ltB; have hB : xb < wB.heap.size := Nat.lt_of_lt_of_le (by first | omega | (simp; done) | (simp; omega)) grB.size; have BB : Below xb w wB := Below.grown (by repeat' (first | exact HBQ.out | exact BC | exact BB | exact BA | refine Below.drew ?_ | refine Below.alloc ?_ (by first | omega | (simp; done) | (simp; omega)) _)) grB (by first | omega | (simp; done) | (simp; omega)) (by intro m hm; simp [Value.ownBlock] at hm; omega); have CB : Below (xb + 1) wq wB := Below.grown (by repeat' (first | exact HXX.out | exact CC | exact CB | exact CA | refine Below.drew ?_ | refine Below.alloc ?_ (by first | omega | (simp; done) | (simp; omega)) _)) grB (by first | omega | (simp; done) | (simp; omega)) (by intro m hm; simp [Value.ownBlock] at hm; omega); have leB : 1 ≤ capB := own_le ownB; have gBx : xb < gB := (by rcases liesB with e | e; (simp [Value.ownBlock] at e; omega); (first | omega | (simp at e; omega)))))
          all_goals
            go_wp2_with fail
            go_ret
            exact sorted_end HE.out HL.out (by have := HL.out; omega) ownB (by rw [hxb]; exact BB) (by omega)
        · by_cases hck : cap = 0
          · subst hck
            go_wp2_with fail
            go_big_quiet (fail)
            go_wp2_with fail
            generalize hwq : w0.drewN _ = wq
            have HBQ : Hid (Below xb w wq) := Lib.hid (by rw [← hwq]; exact HBQ0.out.trans ((below_drewN _ _).mono (Nat.le_of_lt hq0)))
            have hq : xb < wq.heap.size := by rw [← hwq]; exact hq0
            have x0' : wq.cell? ⟨xb, 0, none⟩ = some (.int .i64 x1) := by rw [← hwq]; exact x0
            have x9' : wq.cell? ⟨xb, 1, none⟩ = some (.int .i64 x2) := by rw [← hwq]; exact x9
            clear x0 x9 hwq
            have x0 := x0'
            have x9 := x9'
            clear x0' x9'
            have HXX : Hid (Below (xb + 1) wq wq) := Lib.hid (Below.refl _ _)
            go_region_law ((refine step_append_lies _ rfl _ _ 33 rfl 0 26 i0 (.agg #[.int .i64 0, .int .i64 0]) 2 16 Try.underlying33 hi0 hz0 hz1 hz2 rfl (by decide) (.slice (some ⟨_, 0, none⟩) 0 0) 0 _ rfl (own_empty (by first | exact heap_new _ _ | exact heap_new2 _ _ _ | exact heap_new3 _ _ _)) ⟨_, 0, none⟩ 1 1 [.int .i64 x1, .int .i64 x2] rfl rfl (by intro j u hj; match j, hj with | 0, hj => (simp at hj; subst hj; first | (simp [Addr.add, go_sem]; done) | (rw [cell_addr, grA.cell_far _ (by first | omega | (simp; done) | (simp; omega)) (by first | (simp [Value.ownBlock]; done) | (simp [Value.ownBlock]; omega))]; simp [go_sem])) | 1, hj => (simp at hj; subst hj; first | (simp [Addr.add, go_sem]; done) | (rw [cell_addr, grA.cell_far _ (by first | omega | (simp; done) | (simp; omega)) (by first | (simp [Value.ownBlock]; done) | (simp [Value.ownBlock]; omega))]; simp [go_sem]))) (by intro u hu; simp at hu; rcases hu with rfl | rfl <;> rfl) (hm := by omega) (h63 := by unfold maxLen; omega) (hbytes := by omega) (hbase := Nat.zero_le _) _ rfl ?_; intro gB capB wB ownB grB liesB ltB; have hB : xb < wB.heap.size := Nat.lt_of_lt_of_le (by first | omega | (simp; done) | (simp; omega)) grB.size; have BB : Below xb w wB := Below.grown (by repeat' (first | exact HBQ.out | exact BC | exact BB | exact BA | refine Below.drew ?_ | refine Below.alloc ?_ (by first | omega | (simp; done) | (simp; omega)) _)) grB (by first | omega | (simp; done) | (simp; omega)) (by intro m hm; simp [Value.ownBlock] at hm; omega); have CB : Below (xb + 1) wq wB := Below.grown (by repeat' (first | exact HXX.out | exact CC | exact CB | exact CA | refine Below.drew ?_ | refine Below.alloc ?_ (by first | omega | (simp; done) | (simp; omega)) _)) grB (by first | omega | (simp; done) | (simp; omega)) (by intro m hm; simp [Value.ownBlock] at hm; omega); have leB : 1 ≤ capB := own_le ownB; have gBx : xb < gB := (by rcases liesB with e | e; (simp [Value.ownBlock] at e; omega); (first | omega | (simp at e; omega)))))
            all_goals
              go_wp2_with fail
              go_ret
              exact sorted_end HE.out HL.out (by have := HL.out; omega) ownB (by rw [hxb]; exact BB) (by omega)
          · have hck' : ¬ 0 = cap := by omega
            go_wp2_with fail
            go_big_quiet (fail)
            go_wp2_with fail
            generalize hwq : w0.drewN _ = wq
            have HBQ : Hid (Below xb w wq) := Lib.hid (by rw [← hwq]; exact HBQ0.out.trans ((below_drewN _ _).mono (Nat.le_of_lt hq0)))
            have hq : xb < wq.heap.size := by rw [← hwq]; exact hq0
            have x0' : wq.cell? ⟨xb, 0, none⟩ = some (.int .i64 x1) := by rw [← hwq]; exact x0
            have x9' : wq.cell? ⟨xb, 1, none⟩ = some (.int .i64 x2) := by rw [← hwq]; exact x9
            clear x0 x9 hwq
            have x0 := x0'
            have x9 := x9'
            clear x0' x9'
            have HXX : Hid (Below (xb + 1) wq wq) := Lib.hid (Below.refl _ _)
            go_region_law ((refine step_append_lies _ rfl _ _ 33 rfl 0 26 i0 (.agg #[.int .i64 0, .int .i64 0]) 2 16 Try.underlying33 hi0 hz0 hz1 hz2 rfl (by decide) (.slice (some ⟨_, 0, none⟩) 0 0) 0 _ rfl (own_empty (by first | exact heap_new _ _ | exact heap_new2 _ _ _ | exact heap_new3 _ _ _)) ⟨_, 0, none⟩ 1 1 [.int .i64 x1, .int .i64 x2] rfl rfl (by intro j u hj; match j, hj with | 0, hj => (simp at hj; subst hj; first | (simp [Addr.add, go_sem]; done) | (rw [cell_addr, grA.cell_far _ (by first | omega | (simp; done) | (simp; omega)) (by first | (simp [Value.ownBlock]; done) | (simp [Value.ownBlock]; omega))]; simp [go_sem])) | 1, hj => (simp at hj; subst hj; first | (simp [Addr.add, go_sem]; done) | (rw [cell_addr, grA.cell_far _ (by first | omega | (simp; done) | (simp; omega)) (by first | (simp [Value.ownBlock]; done) | (simp [Value.ownBlock]; omega))]; simp [go_sem]))) (by intro u hu; simp at hu; rcases hu with rfl | rfl <;> rfl) (hm := by omega) (h63 := by unfold maxLen; omega) (hbytes := by omega) (hbase := Nat.zero_le _) _ rfl ?_; intro gB capB wB ownB grB liesB ltB; have hB : xb < wB.heap.size := Nat.lt_of_lt_of_le (by first | omega | (simp; done) | (simp; omega)) grB.size; have BB : Below xb w wB := Below.grown (by repeat' (first | exact HBQ.out | exact BC | exact BB | exact BA | refine Below.drew ?_ | refine Below.alloc ?_ (by first | omega | (simp; done) | (simp; omega)) _)) grB (by first | omega | (simp; done) | (simp; omega)) (by intro m hm; simp [Value.ownBlock] at hm; omega); have CB : Below (xb + 1) wq wB := Below.grown (by repeat' (first | exact HXX.out | exact CC | exact CB | exact CA | refine Below.drew ?_ | refine Below.alloc ?_ (by first | omega | (simp; done) | (simp; omega)) _)) grB (by first | omega | (simp; done) | (simp; omega)) (by intro m hm; simp [Value.ownBlock] at hm; omega); have leB : 1 ≤ capB := own_le ownB; have gBx : xb < gB := (by rcases liesB with e | e; (simp [Value.ownBlock] at e; omega); (first | omega | (simp at e; omega)))))
            all_goals
              go_wp2_with fail
              go_ret
              exact sorted_end HE.out HL.out (by have := HL.out; omega) ownB (by rw [hxb]; exact BB) (by omega)
end Go.Proofs.Ytfhlipalfebfaaa
