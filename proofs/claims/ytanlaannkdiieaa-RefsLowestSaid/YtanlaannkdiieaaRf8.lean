import Derived.Test.YtanlaannkdiieaaRf7
namespace Go.Proofs.Ytanlaannkdiieaa.Pk
open Go.RowKit Go.Sort
set_option maxRecDepth 100000
set_option maxHeartbeats 2000000

/-! The states of RefsLowest. -/
def sT (a i c : Nat) (H : List Int) : RfS := ⟨rng (a + i) (c - i), fun x => if (a : Int) ≤ x ∧ x < (a : Int) + (i : Int) ∧ x ∉ H then 1 else 0, i - H.length, H⟩
theorem sT_zero (a c : Nat) : sT a 0 c [] = ⟨rng a c, fun _ => 0, 0, []⟩ := by
  unfold sT
  congr 1
  funext x
  rw [if_neg (by omega)]
theorem sT_S {a i c : Nat} (h : i < c) (H : List Int) : (sT a i c H).S = (((a + i : Nat) : Int), ((a + i : Nat) : Int)) :: rng (a + (i + 1)) (c - (i + 1)) := by
  unfold sT
  dsimp only
  rw [show c - i = (c - (i + 1)) + 1 by omega, rng_cons]
  rfl
theorem sT_took {a i c : Nat} (h : i < c) : (sT a i c []).took ((a + i : Nat) : Int) = sT a (i + 1) c [] := by
  have h0 : (sT a i c []).f ((a + i : Nat) : Int) = 0 := by
    unfold sT
    dsimp only
    rw [if_neg (by omega)]
  unfold RfS.took
  rw [h0, sT_S h, if_pos rfl]
  unfold sT
  congr 1
  funext x
  unfold upF
  dsimp only
  by_cases e : x = ((a + i : Nat) : Int)
  · rw [if_pos e, if_pos ⟨by omega, by omega, by simp⟩]
  · rw [if_neg e]
    by_cases e2 : (a : Int) ≤ x ∧ x < (a : Int) + (i : Int)
    · rw [if_pos ⟨e2.1, e2.2, by simp⟩, if_pos ⟨e2.1, by omega, by simp⟩]
    · rw [if_neg (fun q => e2 ⟨q.1, q.2.1⟩), if_neg (fun q => e2 ⟨q.1, by have := q.2.1; omega⟩)]
theorem sT_end (a c : Nat) (H : List Int) : (sT a c c H).S = [] := by
  unfold sT
  dsimp only
  rw [Nat.sub_self]
  rfl
theorem sT_f {a c : Nat} {H : List Int} {p : Nat} (h : p < c) : (sT a c c H).f ((a : Int) + (p : Int)) = if ((a : Int) + (p : Int)) ∈ H then 0 else 1 := by
  unfold sT
  dsimp only
  by_cases e : ((a : Int) + (p : Int)) ∈ H
  · rw [if_pos e, if_neg (fun q => q.2.2 e)]
  · rw [if_neg e, if_pos ⟨by omega, by omega, e⟩]
theorem sT_drop {a c : Nat} {H : List Int} {p : Nat} (h : p < c) : (sT a c c H).drop ((a : Int) + (p : Int)) = sT a c c (if ((a : Int) + (p : Int)) ∈ H then H else H ++ [(a : Int) + (p : Int)]) := by
  unfold RfS.drop
  rw [sT_f h]
  by_cases e : ((a : Int) + (p : Int)) ∈ H
  · rw [if_pos e, if_pos rfl, if_pos e]
  · rw [if_neg e, if_neg (by decide), if_pos rfl, if_neg e]
    unfold sT
    dsimp only
    congr 1
    · funext x
      unfold upF
      dsimp only
      by_cases e1 : x = (a : Int) + (p : Int)
      · rw [if_pos e1, if_neg (fun q => q.2.2 (by simp [e1]))]
      · rw [if_neg e1]
        by_cases e2 : (a : Int) ≤ x ∧ x < (a : Int) + (c : Int) ∧ x ∉ H
        · rw [if_pos e2, if_pos ⟨e2.1, e2.2.1, by simp [e1, e2.2.2]⟩]
        · rw [if_neg e2, if_neg (fun q => e2 ⟨q.1, q.2.1, fun m => q.2.2 (by simp [m])⟩)]
    · simp
      omega

/-! What Settle lays back. -/
def fl (a n : Nat) (H : List Int) : List It := ((List.range' a n).filter (fun i : Nat => decide ((i : Int) ∈ H))).map dup
theorem fl_yes {a n : Nat} {H : List Int} (h : (a : Int) ∈ H) : fl a (n + 1) H = dup a :: fl (a + 1) n H := by
  unfold fl
  rw [List.range'_succ, List.filter_cons_of_pos (by simpa using h), List.map_cons]
theorem fl_no {a n : Nat} {H : List Int} (h : (a : Int) ∉ H) : fl a (n + 1) H = fl (a + 1) n H := by
  unfold fl
  rw [List.range'_succ, List.filter_cons_of_neg (by simpa using h)]
theorem srt_putI {S : List It} (h : Srt S) (id : Int) : Srt (putI S id) := ins_srt (rem_srt h id) (fun y hy => by
  have := (List.mem_filter.1 hy).2
  simpa using this)
theorem mem_putI {S : List It} (hd : ∀ y ∈ S, y.2 = y.1) (id : Int) (y : It) : y ∈ putI S id ↔ y = (id, id) ∨ y ∈ S := by
  unfold putI
  rw [(ins_perm (id, id) (rem id S)).mem_iff, List.mem_cons]
  constructor
  · rintro (h | h)
    · exact Or.inl h
    · exact Or.inr (List.mem_filter.1 h).1
  · rintro (h | h)
    · exact Or.inl h
    · by_cases e : y.1 = id
      · left
        have := hd y h
        exact Prod.ext e (by rw [this]; exact e)
      · right
        exact List.mem_filter.2 ⟨h, by simpa using e⟩
theorem foldl_srt (H : List Int) : ∀ S : List It, Srt S → (∀ y ∈ S, y.2 = y.1) → Srt (H.foldl putI S) ∧ ∀ y, y ∈ H.foldl putI S ↔ (y.2 = y.1 ∧ y.1 ∈ H) ∨ y ∈ S := by
  induction H with
  | nil => exact fun S h _ => ⟨h, fun y => by simp⟩
  | cons x H ih =>
    intro S h hd
    have hd2 : ∀ y ∈ putI S x, y.2 = y.1 := fun y hy => by
      rcases (mem_putI hd x y).1 hy with rfl | e
      · rfl
      · exact hd y e
    obtain ⟨i1, i2⟩ := ih (putI S x) (srt_putI h x) hd2
    refine ⟨i1, fun y => ?_⟩
    rw [List.foldl_cons, i2 y, mem_putI hd x y]
    constructor
    · rintro (⟨e1, e2⟩ | rfl | e)
      · exact Or.inl ⟨e1, by simp [e2]⟩
      · exact Or.inl ⟨rfl, by simp⟩
      · exact Or.inr e
    · rintro (⟨e1, e2⟩ | e)
      · rcases List.mem_cons.1 e2 with e3 | e3
        · exact Or.inr (Or.inl (Prod.ext e3 (by rw [e1]; exact e3)))
        · exact Or.inl ⟨e1, e3⟩
      · exact Or.inr (Or.inr e)
theorem srt_fl (a n : Nat) (H : List Int) : Srt (fl a n H) := by
  unfold fl Srt
  rw [List.pairwise_map]
  refine ((List.pairwise_lt_range' (s := a) (n := n)).filter _).imp ?_
  intro x y h
  rw [lt_iff]
  unfold dup
  dsimp only
  omega
theorem settle_fl {a c : Nat} {H : List Int} (h : ∀ x ∈ H, (a : Int) ≤ x ∧ x < (a : Int) + (c : Int)) : H.foldl putI [] = fl a c H := by
  obtain ⟨h1, h2⟩ := foldl_srt H [] List.Pairwise.nil (fun y hy => by cases hy)
  have nd : ∀ {S : List It}, Srt S → S.Nodup := fun {S} hs => hs.imp (fun {x y} q e => by subst e; rw [lt_irrefl'] at q; cases q)
  refine srt_unique h1 (srt_fl a c H) ((List.perm_ext_iff_of_nodup (nd h1) (nd (srt_fl a c H))).2 (fun y => ?_))
  rw [h2 y]
  unfold fl
  rw [List.mem_map]
  constructor
  · rintro (⟨e1, e2⟩ | e)
    · have b := h _ e2
      refine ⟨y.1.toNat, List.mem_filter.2 ⟨List.mem_range'.2 ⟨y.1.toNat - a, by omega, by omega⟩, ?_⟩, ?_⟩
      · rw [decide_eq_true_iff, show ((y.1.toNat : Nat) : Int) = y.1 by omega]
        exact e2
      · unfold dup
        rw [show ((y.1.toNat : Nat) : Int) = y.1 by omega]
        exact Prod.ext rfl e1.symm
    · cases e
  · rintro ⟨i, hi, rfl⟩
    have := (List.mem_filter.1 hi).2
    exact Or.inl ⟨rfl, by unfold dup; simpa using this⟩

/-! gone: a set of numbers, its size told. -/
abbrev bvl (b : Bool) : DataW Unit := .lit (.bool b)
structure GM (w : World) (mb : Nat) (D : DataW Unit) (H : List Int) : Prop where
  own : w.ownsMap Try.prog 3 (plainElem Try.prog 4) mb (Maps.size D) D
  tidy : Maps.Tidy D
  val : ∀ k, D.atKey (key k) (bvl false) = bvl (decide (k ∈ H))
  has : ∀ k, Maps.has D (key k) = decide (k ∈ H)
  size : Maps.size D = H.length
theorem GM.made (w : World) : GM (w.alloc (.map #[] 0)) w.heap.size (.map []) [] := ⟨World.ownsMap_made w Try.prog _ _, Maps.tidy_empty, fun _ => rfl, fun _ => rfl, rfl⟩
theorem GM.keep {w w' : World} {mb : Nat} {D : DataW Unit} {H : List Int} (h : GM w mb D H) (e : w'.heap[mb]? = w.heap[mb]?) : GM w' mb D H := by
  obtain ⟨⟨es, clock, hb, r⟩, h2, h3, h4, h5⟩ := h
  exact ⟨⟨es, clock, e.trans hb, r⟩, h2, h3, h4, h5⟩
theorem GM.lt {w : World} {mb : Nat} {D : DataW Unit} {H : List Int} (h : GM w mb D H) : mb < w.heap.size := World.ownsMap.lt h.own
theorem zeroBl (w : World) : (zeroValue 4).run Try.prog w = .ok (.bool false) w := by kernel_rfl
theorem GM.look {w : World} {mb : Nat} {D : DataW Unit} {H : List Int} (h : GM w mb D H) {k : Int} (hk : I64 k) : (Instr.lookup 32 (.map (some mb)) (.int .i64 k) false).run Try.prog w = .ok (.bool (decide (k ∈ H))) w := by
  have h3 := h.val k
  obtain ⟨⟨es, clock, hb, F, _, rfl⟩, _⟩ := h
  rcases Maps.fit_look false law3 Try.underlying32 (zeroBl w) hb F (Maps.keyOf_int_mk Try.underlying3 (wf_of hk)) with ⟨hrun, _, hat⟩ | ⟨e0, y, _, _, hrun, hRv, hat, _⟩
  · rw [hat] at h3
    injection h3 with h3
    injection h3 with h3
    rw [← h3]
    exact hrun
  · rw [hat] at h3
    have : e0.val = .bool (decide (k ∈ H)) := by
      unfold plainElem at hRv
      rw [Try.underlying4] at hRv
      split at hRv
      · rename_i x hx
        simp at hRv
        rw [← hRv] at h3
        injection h3 with h3
        injection h3 with h3
        rw [hx, h3]
      · rename_i hh _
        cases hh
      · rename_i hh _
        cases hh
      · cases hRv
    rw [hrun, this]
    rfl
theorem GM.put {w w' : World} {mb m : Nat} {D : DataW Unit} {H : List Int} {k : Int} (h : GM w mb D H) (ho : w'.ownsMap Try.prog 3 (plainElem Try.prog 4) mb m (D.put (key k) (bvl true))) :
    GM w' mb (D.put (key k) (bvl true)) (if k ∈ H then H else H ++ [k]) := by
  have hmem : ∀ x, (x ∈ (if k ∈ H then H else H ++ [k])) ↔ (x = k ∨ x ∈ H) := fun x => by
    by_cases e : k ∈ H
    · rw [if_pos e]
      exact ⟨Or.inr, fun q => q.elim (fun r => r ▸ e) id⟩
    · rw [if_neg e]
      simp [or_comm]
  refine ⟨ownsMap_exact ho, h.tidy.put (isKey k) _, fun x => ?_, fun x => ?_, ?_⟩
  · by_cases e : x = k
    · subst e
      rw [Maps.atKey_put_same h.tidy.isMap (isKey x)]
      congr 2
      exact (decide_eq_true ((hmem x).2 (Or.inl rfl))).symm
    · rw [Maps.atKey_put_other (key_ne e), h.val x]
      have : decide (x ∈ H) = decide (x ∈ if k ∈ H then H else H ++ [k]) := decide_eq_decide.2 ⟨fun q => (hmem x).2 (Or.inr q), fun q => ((hmem x).1 q).resolve_left e⟩
      rw [this]
  · by_cases e : x = k
    · subst e
      rw [Maps.has_put_same h.tidy.isMap (isKey x)]
      exact (decide_eq_true ((hmem x).2 (Or.inl rfl))).symm
    · rw [Maps.has_put_other (key_ne e), h.has x]
      exact decide_eq_decide.2 ⟨fun q => (hmem x).2 (Or.inr q), fun q => ((hmem x).1 q).resolve_left e⟩
  · rw [Maps.size_put h.tidy, h.has, h.size]
    by_cases e : k ∈ H
    · rw [if_pos e, if_pos (by simpa using e)]
    · rw [if_neg e, if_neg (by simpa using e)]
      simp
end Go.Proofs.Ytanlaannkdiieaa.Pk
