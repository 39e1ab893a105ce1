import Derived.Test.YtoofgcdilgfclaaU16
namespace Go.Proofs.Ytoofgcdilgfclaa
open Go.RowKit Go.Sort
set_option maxRecDepth 100000
set_option maxHeartbeats 2000000

/-! A ring, said as a list of numbers and intents, by their numbers. -/
abbrev Nt := Nat × It
def ntOf (x : Sx) : Nt := (x.no, x.it)
theorem perm_sorted : ∀ {T l : List Nt}, l.Perm T → l.Pairwise (fun a b => a.1 ≤ b.1) → T.Pairwise (fun a b => a.1 < b.1) → l = T
  | [], l, hp, _, _ => List.Perm.eq_nil hp
  | t :: T, l, hp, hl, hT => by
    rcases l with _ | ⟨a, l⟩
    · exact absurd hp.symm.eq_nil (by simp)
    · have hat : a = t := by
        have h1 : a ∈ t :: T := hp.mem_iff.1 (by simp)
        have h2 : t ∈ a :: l := hp.mem_iff.2 (by simp)
        rw [List.mem_cons] at h1 h2
        rcases h1 with h1 | h1
        · exact h1
        · rcases h2 with h2 | h2
          · exact h2.symm
          · have h3 := (List.pairwise_cons.1 hl).1 t h2
            have h4 := (List.pairwise_cons.1 hT).1 a h1
            omega
      subst hat
      rw [perm_sorted hp.cons_inv (List.pairwise_cons.1 hl).2 (List.pairwise_cons.1 hT).2]
theorem zer_lv (X : Nat → Sx) : ∀ k, zer X k + (lv X k).length = k
  | 0 => rfl
  | k + 1 => by
    have := zer_lv X k
    unfold zer lv
    split <;> simp <;> omega
theorem zer_first (X : Nat → Sx) : ∀ n, 0 < zer X n → ∃ k, k < n ∧ (X k).no = 0 ∧ ∀ j, j < k → (X j).no ≠ 0
  | 0, h => by unfold zer at h; omega
  | n + 1, h => by
    by_cases hz : 0 < zer X n
    · obtain ⟨k, h1, h2, h3⟩ := zer_first X n hz
      exact ⟨k, by omega, h2, h3⟩
    · have h0 : zer X n = 0 := by omega
      unfold zer at h
      rw [h0] at h
      have hn : (X n).no = 0 := by
        by_cases e : (X n).no = 0
        · exact e
        · rw [if_neg e] at h; omega
      have hall : ∀ m, m ≤ n → zer X m = 0 := by
        intro m hm
        have : ∀ d, zer X m ≤ zer X (m + d) := by
          intro d
          induction d with
          | zero => exact Nat.le_refl _
          | succ d ih => exact Nat.le_trans ih (Nat.le_add_right _ _)
        have h1 := this (n - m)
        rw [show m + (n - m) = n by omega] at h1
        omega
      refine ⟨n, by omega, hn, fun j hj e => ?_⟩
      have h1 := hall (j + 1) (by omega)
      unfold zer at h1
      rw [if_pos e] at h1
      omega
theorem zer_none (X : Nat → Sx) : ∀ n, zer X n = 0 → ∀ k, k < n → (X k).no ≠ 0
  | 0, _, k, hk => by omega
  | n + 1, h, k, hk => by
    unfold zer at h
    by_cases e : k = n
    · subst e
      intro hz
      rw [if_pos hz] at h
      omega
    · exact zer_none X n (by omega) k (by omega)
theorem lv_upd (X : Nat → Sx) (k : Nat) (y : Sx) (hk : (X k).no = 0) (hy : y.no ≠ 0) : ∀ n, (n ≤ k → lv (updS X k y) n = lv X n) ∧ (k < n → (lv (updS X k y) n).Perm (lv X n ++ [y]))
  | 0 => ⟨fun _ => rfl, fun h => by omega⟩
  | n + 1 => by
    obtain ⟨h1, h2⟩ := lv_upd X k y hk hy n
    constructor
    · intro hn
      unfold lv
      rw [h1 (by omega)]
      have e : updS X k y n = X n := by unfold updS; rw [if_neg (by omega)]
      rw [e]
    · intro hn
      unfold lv
      by_cases e : n = k
      · subst e
        have e2 : updS X n y n = y := by unfold updS; rw [if_pos rfl]
        rw [h1 (Nat.le_refl _), e2, if_neg hy, if_pos hk, List.append_nil]
      · have e2 : updS X k y n = X n := by unfold updS; rw [if_neg e]
        rw [e2]
        refine (List.Perm.append_right _ (h2 (by omega))).trans ?_
        rw [List.append_assoc, List.append_assoc]
        exact List.Perm.append_left _ List.perm_append_comm
def keepsR (s g : Int) (e : Nt) : Bool := !(decide ((e.2.s : Int) = s) && decide ((e.2.g : Int) = g))
theorem relS_no (s g : Int) (x : Sx) (h : x.no ≠ 0) : (relS s g x).no ≠ 0 ↔ keepsR s g (ntOf x) = true := by
  unfold relS keepsR ntOf Sx.it
  by_cases h1 : (x.s : Int) = s
  · by_cases h2 : (x.g : Int) = g
    · rw [if_pos ⟨h, h1, h2⟩]
      simp [h1, h2, Sx.z]
    · rw [if_neg (fun e => h2 e.2.2)]
      simp [h1, h2, h]
  · rw [if_neg (fun e => h1 e.2.1)]
    simp [h1, h]
theorem lv_rel (s g : Int) (X : Nat → Sx) (m : Nat) : ∀ n, n ≤ m → lv (relX s g m X) n = (lv X n).filter (fun x => keepsR s g (ntOf x)) ∧ relC s g X n + (lv (relX s g m X) n).length = (lv X n).length
  | 0, _ => ⟨rfl, rfl⟩
  | n + 1, hn => by
    obtain ⟨h1, h2⟩ := lv_rel s g X m n (by omega)
    have e : relX s g m X n = relS s g (X n) := by unfold relX; rw [if_pos (by omega)]
    unfold lv relC
    rw [e, List.filter_append, h1]
    rw [h1] at h2
    by_cases h0 : (X n).no = 0
    · have hr : relS s g (X n) = X n := by unfold relS; rw [if_neg (fun h => h.1 h0)]
      rw [hr, if_pos h0, if_neg (fun h => h.1 h0)]
      exact ⟨by simp, by simpa using h2⟩
    · have hk := relS_no s g (X n) h0
      rw [if_neg h0]
      by_cases hh : keepsR s g (ntOf (X n)) = true
      · have hno := hk.2 hh
        have hr : relS s g (X n) = X n := by
          unfold relS
          rw [if_neg (fun h => by
            unfold keepsR ntOf Sx.it at hh
            simp [h.2.1, h.2.2] at hh)]
        rw [if_neg hno, hr, if_neg (fun h => by
            unfold keepsR ntOf Sx.it at hh
            simp [h.2.1, h.2.2] at hh)]
        refine ⟨by simp [hh], by simp; omega⟩
      · have hno : (relS s g (X n)).no = 0 := by
          by_cases e0 : (relS s g (X n)).no = 0
          · exact e0
          · exact absurd (hk.1 e0) hh
        have hm : (X n).no ≠ 0 ∧ ((X n).s : Int) = s ∧ ((X n).g : Int) = g := by
          refine ⟨h0, ?_⟩
          unfold keepsR ntOf Sx.it at hh
          simp at hh
          exact hh
        rw [if_pos hno, if_pos hm]
        refine ⟨by simp [hh], by simp; omega⟩
/-- A ring that says such a list. -/
def AG (X : Nat → Sx) (T : List Nt) (last : Nat) : Prop := ((lv X 16).map ntOf).Perm T ∧ T.Pairwise (fun a b => a.1 < b.1) ∧ ∀ e ∈ T, e.1 ≤ last
theorem AG.len {X : Nat → Sx} {T : List Nt} {last : Nat} (h : AG X T last) : zer X 16 + T.length = 16 := by
  have := h.1.length_eq
  rw [List.length_map] at this
  have := zer_lv X 16
  omega
theorem AG.mem {X : Nat → Sx} {T : List Nt} {last : Nat} (h : AG X T last) {k : Nat} (hk : k < 16) (h0 : (X k).no ≠ 0) : ntOf (X k) ∈ T := h.1.mem_iff.1 (List.mem_map.2 ⟨X k, lv_mem.2 ⟨k, hk, h0, rfl⟩, rfl⟩)
theorem AG.put {X : Nat → Sx} {T : List Nt} {last k : Nat} (h : AG X T last) (hk : k < 16) (h0 : (X k).no = 0) (y : Sx) (hy : y.no = last + 1) : AG (updS X k y) (T ++ [ntOf y]) (last + 1) := by
  obtain ⟨h1, h2, h3⟩ := h
  refine ⟨?_, List.pairwise_append.2 ⟨h2, List.pairwise_singleton _ _, fun a ha b hb => ?_⟩, fun e he => ?_⟩
  · refine (((lv_upd X k y h0 (by omega) 16).2 hk).map ntOf).trans ?_
    rw [List.map_append]
    exact List.Perm.append_right _ h1
  · rw [List.mem_singleton] at hb
    subst hb
    have := h3 a ha
    show a.1 < y.no
    omega
  · rw [List.mem_append, List.mem_singleton] at he
    rcases he with he | rfl
    · have := h3 e he; omega
    · show y.no ≤ _; omega
theorem AG.rel {X : Nat → Sx} {T : List Nt} {last : Nat} (h : AG X T last) (s g : Int) : AG (relX s g 16 X) (T.filter (keepsR s g)) last ∧ relC s g X 16 = T.length - (T.filter (keepsR s g)).length := by
  obtain ⟨h1, h2, h3⟩ := h
  obtain ⟨l1, l2⟩ := lv_rel s g X 16 16 (Nat.le_refl _)
  have hp : ((lv (relX s g 16 X) 16).map ntOf).Perm (T.filter (keepsR s g)) := by
    rw [l1]
    have := h1.filter (keepsR s g)
    rw [List.filter_map] at this
    exact this
  refine ⟨⟨hp, h2.filter _, fun e he => h3 e (List.mem_filter.1 he).1⟩, ?_⟩
  have e1 := hp.length_eq
  have e2 := h1.length_eq
  rw [List.length_map] at e1 e2
  omega
theorem AG.live {X : Nat → Sx} {T : List Nt} {last : Nat} (h : AG X T last) {L : List Sx} (hp : L.Perm (lv X 16)) (hs : SoN L) : L.map Sx.it = T.map (·.2) := by
  have e : L.map ntOf = T := perm_sorted ((hp.map ntOf).trans h.1) (List.Pairwise.map _ (fun a b hab => hab) hs) h.2.1
  rw [← e, List.map_map]
  rfl
theorem AG.empty {X : Nat → Sx} (h : ∀ k, k < 16 → (X k).no = 0) : AG X [] 0 := by
  have e : ∀ n, n ≤ 16 → lv X n = [] := by
    intro n
    induction n with
    | zero => intro _; rfl
    | succ n ih =>
      intro hn
      unfold lv
      rw [ih (by omega), if_pos (h n (by omega))]
      rfl
  exact ⟨by rw [e 16 (Nat.le_refl _)]; exact List.Perm.nil, List.Pairwise.nil, fun e he => by cases he⟩
/-- Of a law's own memory nothing is turned. -/
def KeepI (w w' : World) : Prop := w.heap.size ≤ w'.heap.size ∧ ∀ (g : Nat) (cs : Array Value) (t : TypeId), w.heap[g]? = some (Obj.cells cs t (0, 0)) → (t = 5 ∨ t = 35) → w'.heap[g]? = w.heap[g]?
theorem KeepI.of {w w' : World} (b : Below w.heap.size w w') : KeepI w w' := ⟨b.size, fun g _ _ hg _ => b.block g (heap_lt hg)⟩
theorem KeepI.trans {a b c : World} (h : KeepI a b) (k : KeepI b c) : KeepI a c := ⟨Nat.le_trans h.1 k.1, fun g cs t hg ht => (k.2 g cs t ((h.2 g cs t hg ht).trans hg) ht).trans (h.2 g cs t hg ht)⟩
theorem LI.keepI {w w' : World} {B : Nat} {v : Value} {l : List It} (h : LI w B v l) (k : KeepI w w') : LI w' B v l := by
  obtain ⟨xs, ⟨h1, h2⟩, h3⟩ := h
  refine ⟨xs, ⟨h1, ?_⟩, fun i p hi => (h3 i p hi).keep (fun g cs hg => k.2 g cs _ hg (Or.inl rfl))⟩
  rcases h2 with h2 | ⟨g, cap, cur, hv, hg, hh, r⟩
  · exact Or.inl h2
  · exact Or.inr ⟨g, cap, cur, hv, hg, (k.2 _ _ _ hh (Or.inr rfl)).trans hh, r⟩
theorem DatI.keepI {w w' : World} {A : Option Addr} {D : Nat → Nat} (h : DatI w A D) (k : KeepI w w') : DatI w' A D := h.keep (fun g cs hg => k.2 g cs _ hg (Or.inl rfl))
theorem IV.keepI {w w' : World} {b n c : Nat} {s g : Int} {A : Option Addr} (h : IV w b s g A n c) (k : KeepI w w') : IV w' b s g A n c := (k.2 _ _ _ h (Or.inr rfl)).trans h
section
variable {w0 v v' : World} {r p sb last : Nat} {T : List Nt}
def RLiveRet (T : List Nt) (v : World) (e : Ending) (w' : World) : Prop := ∃ u, e = .returned u ∧ LI w' v.heap.size u (T.map (·.2)) ∧ Below v.heap.size v w'
end
end Go.Proofs.Ytoofgcdilgfclaa
