import Derived.Test.YtjgbfghkiahfaaaGreatDoorV19
import Derived.Test.YtjgbfghkiahfaaaGreatDoorV10
namespace Go.Proofs.YtjgbfghkiahfaaaGreatDoor
open Go.RowKit Go.Sort
set_option maxRecDepth 100000
set_option maxHeartbeats 2000000

/-! A ring, said as a list of numbers and intents, by their numbers. -/
abbrev Nt := Nat × It
def ntOf (x : Sx) : Nt := (x.no, x.it)
theorem perm_sorted : ∀ {T l : List Nt}, l.Perm T → l.Pairwise (fun a b => a.1 ≤ b.1) → T.Pairwise (fun a b => a.1 < b.1) → l = T
  | [], l, hp, _, _ => List.Perm.eq_nil hp
  | t :: T, l, hp, hl, hT => by
    rcases l with _ | ⟨a, l⟩
    · exact absurd hp.symm.eq_nil (by simp)
    · have hat : a = t := by
        have h1 : a ∈ t :: T := hp.mem_iff.1 (by simp)
        have h2 : t ∈ a :: l := hp.mem_iff.2 (by simp)
        rw [List.mem_cons] at h1 h2
        rcases h1 with h1 | h1
        · exact h1
        · rcases h2 with h2 | h2
          · exact h2.symm
          · have h3 := (List.pairwise_cons.1 hl).1 t h2
            have h4 := (List.pairwise_cons.1 hT).1 a h1
            omega
      subst hat
      rw [perm_sorted hp.cons_inv (List.pairwise_cons.1 hl).2 (List.pairwise_cons.1 hT).2]
theorem zer_lv (X : Nat → Sx) : ∀ k, zer X k + (lv X k).length = k
  | 0 => rfl
  | k + 1 => by
    have := zer_lv X k
    unfold zer lv
    split <;> simp <;> omega
theorem zer_first (X : Nat → Sx) : ∀ n, 0 < zer X n → ∃ k, k < n ∧ (X k).no = 0 ∧ ∀ j, j < k → (X j).no ≠ 0
  | 0, h => by unfold zer at h; omega
  | n + 1, h => by
    by_cases hz : 0 < zer X n
    · obtain ⟨k, h1, h2, h3⟩ := zer_first X n hz
      exact ⟨k, by omega, h2, h3⟩
    · have h0 : zer X n = 0 := by omega
      unfold zer at h
      rw [h0] at h
      have hn : (X n).no = 0 := by
        by_cases e : (X n).no = 0
        · exact e
        · rw [if_neg e] at h; omega
      have hall : ∀ m, m ≤ n → zer X m = 0 := by
        intro m hm
        have : ∀ d, zer X m ≤ zer X (m + d) := by
          intro d
          induction d with
          | zero => exact Nat.le_refl _
          | succ d ih => exact Nat.le_trans ih (Nat.le_add_right _ _)
        have h1 := this (n - m)
        rw [show m + (n - m) = n by omega] at h1
        omega
      refine ⟨n, by omega, hn, fun j hj e => ?_⟩
      have h1 := hall (j + 1) (by omega)
      unfold zer at h1
      rw [if_pos e] at h1
      omega
theorem zer_none (X : Nat → Sx) : ∀ n, zer X n = 0 → ∀ k, k < n → (X k).no ≠ 0
  | 0, _, k, hk => by omega
  | n + 1, h, k, hk => by
    unfold zer at h
    by_cases e : k = n
    · subst e
      intro hz
      rw [if_pos hz] at h
      omega
    · exact zer_none X n (by omega) k (by omega)
theorem lv_upd (X : Nat → Sx) (k : Nat) (y : Sx) (hk : (X k).no = 0) (hy : y.no ≠ 0) : ∀ n, (n ≤ k → lv (updS X k y) n = lv X n) ∧ (k < n → (lv (updS X k y) n).Perm (lv X n ++ [y]))
  | 0 => ⟨fun _ => rfl, fun h => by omega⟩
  | n + 1 => by
    obtain ⟨h1, h2⟩ := lv_upd X k y hk hy n
    constructor
    · intro hn
      unfold lv
      rw [h1 (by omega)]
      have e : updS X k y n = X n := by unfold updS; rw [if_neg (by omega)]
      rw [e]
    · intro hn
      unfold lv
      by_cases e : n = k
      · subst e
        have e2 : updS X n y n = y := by unfold updS; rw [if_pos rfl]
        rw [h1 (Nat.le_refl _), e2, if_neg hy, if_pos hk, List.append_nil]
      · have e2 : updS X k y n = X n := by unfold updS; rw [if_neg e]
        rw [e2]
        refine (List.Perm.append_right _ (h2 (by omega))).trans ?_
        rw [List.append_assoc, List.append_assoc]
        exact List.Perm.append_left _ List.perm_append_comm
def keepsR (s g : Int) (e : Nt) : Bool := !(decide ((e.2.s : Int) = s) && decide ((e.2.g : Int) = g))
theorem relS_no (s g : Int) (x : Sx) (h : x.no ≠ 0) : (relS s g x).no ≠ 0 ↔ keepsR s g (ntOf x) = true := by
  unfold relS keepsR ntOf Sx.it
  by_cases h1 : (x.s : Int) = s
  · by_cases h2 : (x.g : Int) = g
    · rw [if_pos ⟨h, h1, h2⟩]
      simp [h1, h2, Sx.z]
    · rw [if_neg (fun e => h2 e.2.2)]
      simp [h1, h2, h]
  · rw [if_neg (fun e => h1 e.2.1)]
    simp [h1, h]
theorem lv_rel (s g : Int) (X : Nat → Sx) (m : Nat) : ∀ n, n ≤ m → lv (relX s g m X) n = (lv X n).filter (fun x => keepsR s g (ntOf x)) ∧ relC s g X n + (lv (relX s g m X) n).length = (lv X n).length
  | 0, _ => ⟨rfl, rfl⟩
  | n + 1, hn => by
    obtain ⟨h1, h2⟩ := lv_rel s g X m n (by omega)
    have e : relX s g m X n = relS s g (X n) := by unfold relX; rw [if_pos (by omega)]
    unfold lv relC
    rw [e, List.filter_append, h1]
    rw [h1] at h2
    by_cases h0 : (X n).no = 0
    · have hr : relS s g (X n) = X n := by unfold relS; rw [if_neg (fun h => h.1 h0)]
      rw [hr, if_pos h0, if_neg (fun h => h.1 h0)]
      exact ⟨by simp, by simpa using h2⟩
    · have hk := relS_no s g (X n) h0
      rw [if_neg h0]
      by_cases hh : keepsR s g (ntOf (X n)) = true
      · have hno := hk.2 hh
        have hr : relS s g (X n) = X n := by
          unfold relS
          rw [if_neg (fun h => by
            unfold keepsR ntOf Sx.it at hh
            simp [h.2.1, h.2.2] at hh)]
        rw [if_neg hno, hr, if_neg (fun h => by
            unfold keepsR ntOf Sx.it at hh
            simp [h.2.1, h.2.2] at hh)]
        refine ⟨by simp [hh], by simp; omega⟩
      · have hno : (relS s g (X n)).no = 0 := by
          by_cases e0 : (relS s g (X n)).no = 0
          · exact e0
          · exact absurd (hk.1 e0) hh
        have hm : (X n).no ≠ 0 ∧ ((X n).s : Int) = s ∧ ((X n).g : Int) = g := by
          refine ⟨h0, ?_⟩
          unfold keepsR ntOf Sx.it at hh
          simp at hh
          exact hh
        rw [if_pos hno, if_pos hm]
        refine ⟨by simp [hh], by simp; omega⟩
/-- A ring that says such a list. -/
def AG (X : Nat → Sx) (T : List Nt) (last : Nat) : Prop := ((lv X 16).map ntOf).Perm T ∧ T.Pairwise (fun a b => a.1 < b.1) ∧ ∀ e ∈ T, e.1 ≤ last
theorem AG.len {X : Nat → Sx} {T : List Nt} {last : Nat} (h : AG X T last) : zer X 16 + T.length = 16 := by
  have := h.1.length_eq
  rw [List.length_map] at this
  have := zer_lv X 16
  omega
theorem AG.mem {X : Nat → Sx} {T : List Nt} {last : Nat} (h : AG X T last) {k : Nat} (hk : k < 16) (h0 : (X k).no ≠ 0) : ntOf (X k) ∈ T := h.1.mem_iff.1 (List.mem_map.2 ⟨X k, lv_mem.2 ⟨k, hk, h0, rfl⟩, rfl⟩)
theorem AG.put {X : Nat → Sx} {T : List Nt} {last k : Nat} (h : AG X T last) (hk : k < 16) (h0 : (X k).no = 0) (y : Sx) (hy : y.no = last + 1) : AG (updS X k y) (T ++ [ntOf y]) (last + 1) := by
  obtain ⟨h1, h2, h3⟩ := h
  refine ⟨?_, List.pairwise_append.2 ⟨h2, List.pairwise_singleton _ _, fun a ha b hb => ?_⟩, fun e he => ?_⟩
  · refine (((lv_upd X k y h0 (by omega) 16).2 hk).map ntOf).trans ?_
    rw [List.map_append]
    exact List.Perm.append_right _ h1
  · rw [List.mem_singleton] at hb
    subst hb
    have := h3 a ha
    show a.1 < y.no
    omega
  · rw [List.mem_append, List.mem_singleton] at he
    rcases he with he | rfl
    · have := h3 e he; omega
    · show y.no ≤ _; omega
theorem AG.rel {X : Nat → Sx} {T : List Nt} {last : Nat} (h : AG X T last) (s g : Int) : AG (relX s g 16 X) (T.filter (keepsR s g)) last ∧ relC s g X 16 = T.length - (T.filter (keepsR s g)).length := by
  obtain ⟨h1, h2, h3⟩ := h
  obtain ⟨l1, l2⟩ := lv_rel s g X 16 16 (Nat.le_refl _)
  have hp : ((lv (relX s g 16 X) 16).map ntOf).Perm (T.filter (keepsR s g)) := by
    rw [l1]
    have := h1.filter (keepsR s g)
    rw [List.filter_map] at this
    exact this
  refine ⟨⟨hp, h2.filter _, fun e he => h3 e (List.mem_filter.1 he).1⟩, ?_⟩
  have e1 := hp.length_eq
  have e2 := h1.length_eq
  rw [List.length_map] at e1 e2
  omega
theorem AG.live {X : Nat → Sx} {T : List Nt} {last : Nat} (h : AG X T last) {L : List Sx} (hp : L.Perm (lv X 16)) (hs : SoN L) : L.map Sx.it = T.map (·.2) := by
  have e : L.map ntOf = T := perm_sorted ((hp.map ntOf).trans h.1) (List.Pairwise.map _ (fun a b hab => hab) hs) h.2.1
  rw [← e, List.map_map]
  rfl
theorem AG.empty {X : Nat → Sx} (h : ∀ k, k < 16 → (X k).no = 0) : AG X [] 0 := by
  have e : ∀ n, n ≤ 16 → lv X n = [] := by
    intro n
    induction n with
    | zero => intro _; rfl
    | succ n ih =>
      intro hn
      unfold lv
      rw [ih (by omega), if_pos (h n (by omega))]
      rfl
  exact ⟨by rw [e 16 (Nat.le_refl _)]; exact List.Perm.nil, List.Pairwise.nil, fun e he => by cases he⟩
/-- Of a law's own memory nothing is turned. -/
def KeepI (w w' : World) : Prop := w.heap.size ≤ w'.heap.size ∧ ∀ (g : Nat) (cs : Array Value) (t : TypeId), w.heap[g]? = some (Obj.cells cs t (0, 0)) → (t = 5 ∨ t = 56) → w'.heap[g]? = w.heap[g]?
theorem KeepI.of {w w' : World} (b : Below w.heap.size w w') : KeepI w w' := ⟨b.size, fun g _ _ hg _ => b.block g (heap_lt hg)⟩
theorem KeepI.trans {a b c : World} (h : KeepI a b) (k : KeepI b c) : KeepI a c := ⟨Nat.le_trans h.1 k.1, fun g cs t hg ht => (k.2 g cs t ((h.2 g cs t hg ht).trans hg) ht).trans (h.2 g cs t hg ht)⟩
theorem LI.keepI {w w' : World} {B : Nat} {v : Value} {l : List It} (h : LI w B v l) (k : KeepI w w') : LI w' B v l := by
  obtain ⟨xs, ⟨h1, h2⟩, h3⟩ := h
  refine ⟨xs, ⟨h1, ?_⟩, fun i p hi => (h3 i p hi).keep (fun g cs hg => k.2 g cs _ hg (Or.inl rfl))⟩
  rcases h2 with h2 | ⟨g, cap, cur, hv, hg, hh, r⟩
  · exact Or.inl h2
  · exact Or.inr ⟨g, cap, cur, hv, hg, (k.2 _ _ _ hh (Or.inr rfl)).trans hh, r⟩
theorem DatI.keepI {w w' : World} {A : Option Addr} {D : Nat → Nat} (h : DatI w A D) (k : KeepI w w') : DatI w' A D := h.keep (fun g cs hg => k.2 g cs _ hg (Or.inl rfl))
theorem IV.keepI {w w' : World} {b n c : Nat} {s g : Int} {A : Option Addr} (h : IV w b s g A n c) (k : KeepI w w') : IV w' b s g A n c := (k.2 _ _ _ h (Or.inr rfl)).trans h
theorem Rg.keepI {w w' : World} {r p sb last : Nat} {S : List Nat} {d : Disk} {nw : Nat} {X : Nat → Sx} (h : Rg w r p sb last S d nw X) (t : Turn (r :: sb :: S) w w') : KeepI w w' :=
  ⟨t.size, fun g cs ty hg ht => t.block g (heap_lt hg) (h.far hg (by rcases ht with rfl | rfl <;> decide) (by rcases ht with rfl | rfl <;> decide) (by rcases ht with rfl | rfl <;> decide) (by rcases ht with rfl | rfl <;> decide) (by rcases ht with rfl | rfl <;> decide))⟩
/-- A ring of a law. -/
def RS (w0 : World) (r p sb : Nat) (T : List Nt) (last : Nat) (v : World) : Prop :=
  ∃ S d nw X, Rg v r p sb last S d nw X ∧ AG X T last ∧ (∀ k ∈ r :: sb :: S, w0.heap.size ≤ k) ∧ Below w0.heap.size w0 v ∧ nw ≤ last
section
variable {w0 v v' : World} {r p sb last : Nat} {T : List Nt}
theorem RS.below (h : RS w0 r p sb T last v) (b : Below v.heap.size v v') : RS w0 r p sb T last v' := by
  obtain ⟨S, d, nw, X, h1, h2, h3, h4, h5⟩ := h
  exact ⟨S, d, nw, X, h1.below b, h2, h3, h4.trans (b.mono h4.size), h5⟩
theorem RS.blw (h : RS w0 r p sb T last v) : Below w0.heap.size w0 v := by
  obtain ⟨S, d, nw, X, h1, h2, h3, h4, h5⟩ := h
  exact h4
def RLogRet (w0 : World) (r p sb : Nat) (T : List Nt) (last : Nat) (v : World) (e : Ending) (w' : World) : Prop := e = .returned (.int .i64 0) ∧ RS w0 r p sb T last w' ∧ KeepI v w'
theorem rs_log (h : RS w0 r p sb T last v) (y : It) (A : Option Addr) (c : Nat) (hy : y.Ok) (hd : DatI v A y.D) (hn : ∀ e ∈ T, ¬ e.2.Alike y) (hT : T.length < 16) (hl : last ≤ 1000000) :
    Calls Tryz.prog 71 #[.pointer (some ⟨r, 0, none⟩), iv (y.s : Int) (y.g : Int) A 128 c] v (RLogRet w0 r p sb (T ++ [(last + 1, y)]) (last + 1) v) := by
  obtain ⟨S, d, nw, X, h1, h2, h3, h4, h5⟩ := h
  have hz := h2.len
  obtain ⟨k, hk, hk0, hkf⟩ := zer_first X 16 (by omega)
  refine (ilog_put y A c h1 hy hd (fun j hj e => hn _ (h2.mem hj e.1) e.2) k hk hk0 hkf (by omega) (by omega)).mono ?_
  rintro e w' ⟨S', A', c', rfl, hr, ht, hS⟩
  have hb := Below.of_turn h4 ht h3 h4.size
  refine ⟨rfl, ⟨S', _, _, _, hr, h2.put hk hk0 ⟨last + 1, y.s, y.g, A', 128, c', y.D⟩ rfl, fun j hj => ?_, hb, by omega⟩, h1.keepI ht⟩
  rw [List.mem_cons, List.mem_cons] at hj
  rcases hj with rfl | rfl | hj
  · exact h3 _ (by simp)
  · exact h3 _ (by simp)
  · rcases hS j hj with h | h
    · exact h3 j (by simp [h])
    · exact Nat.le_trans h4.size h
theorem rs_full (h : RS w0 r p sb T last v) (y : It) (A : Option Addr) (c : Nat) (hy : y.Ok) (hd : DatI v A y.D) (hn : ∀ e ∈ T, ¬ e.2.Alike y) (hT : T.length = 16) :
    Calls Tryz.prog 71 #[.pointer (some ⟨r, 0, none⟩), iv (y.s : Int) (y.g : Int) A 128 c] v fun e w' => e = .returned (.int .i64 6) ∧ Below v.heap.size v w' := by
  obtain ⟨S, d, nw, X, h1, h2, h3, h4, h5⟩ := h
  have hz := h2.len
  exact ilog_full y A c h1 hy hd (fun j hj e => hn _ (h2.mem hj e.1) e.2) (zer_none X 16 (by omega))
def RRelRet (w0 : World) (r p sb : Nat) (T : List Nt) (last n : Nat) (v : World) (e : Ending) (w' : World) : Prop := e = .returned (.int .i64 (n : Int)) ∧ RS w0 r p sb T last w' ∧ KeepI v w'
theorem rs_rel (h : RS w0 r p sb T last v) (s g : Int) :
    Calls Tryz.prog 74 #[.pointer (some ⟨r, 0, none⟩), .int .i64 s, .int .i64 g] v (RRelRet w0 r p sb (T.filter (keepsR s g)) last (T.length - (T.filter (keepsR s g)).length) v) := by
  obtain ⟨S, d, nw, X, h1, h2, h3, h4, h5⟩ := h
  obtain ⟨a1, a2⟩ := h2.rel s g
  rw [← a2]
  refine (irelease s g h1.rb h1.sr).mono ?_
  rintro e w' ⟨rfl, hs, ht⟩
  have hu : ∀ (g' : Nat) (cs : Array Value), v.heap[g']? = some (Obj.cells cs 5 (0, 0)) → w'.heap[g']? = v.heap[g']? := fun g' cs hg => ht.block g' (heap_lt hg) (by
    rw [List.mem_singleton]
    rintro rfl
    obtain ⟨cs', hc⟩ := h1.sr.type
    rw [hg] at hc
    cases hc)
  have hrg : Rg w' r p sb last S d nw (relX s g 16 X) := ⟨h1.rb.keep (ht.block r h1.rb.lt (by rw [List.mem_singleton]; exact h1.ne)), hs, fun k hk => by
    have e : relX s g 16 X k = relS s g (X k) := by unfold relX; rw [if_pos hk]
    rw [e]
    unfold relS
    split
    · exact SxOk.z
    · exact (h1.ok k hk).keep hu, h1.plt.same ⟨hu, fun k hk => ht.block k (h1.plt.lt k hk) (by
      rw [List.mem_singleton]
      rintro rfl
      exact h1.sS hk)⟩⟩
  have ht' : Turn (r :: sb :: S) v w' := ht.mono (fun k hk => by rw [List.mem_singleton] at hk; subst hk; simp)
  exact ⟨rfl, ⟨S, d, nw, _, hrg, a1, h3, Below.of_turn h4 ht' h3 h4.size, h5⟩, h1.keepI ht'⟩
def RLiveRet (T : List Nt) (v : World) (e : Ending) (w' : World) : Prop := ∃ u, e = .returned u ∧ LI w' v.heap.size u (T.map (·.2)) ∧ Below v.heap.size v w'
theorem rs_live (h : RS w0 r p sb T last v) : Calls Tryz.prog 16 #[.pointer (some ⟨r, 0, none⟩)] v (RLiveRet T v) := by
  obtain ⟨S, d, nw, X, h1, h2, h3, h4, h5⟩ := h
  refine (ilive_ h1).mono ?_
  rintro e w' ⟨u, L, rfl, hl, hp, hs, hb⟩
  exact ⟨u, rfl, by rw [← h2.live hp hs]; exact hl, hb⟩
end
/-- A ring on a blank platter. -/
theorem rs_open {w0 w : World} {p : Nat} {S : List Nat} (h : Plt w p S 96 Disk.blank 0) (hS : ∀ k ∈ S, w0.heap.size ≤ k) (hb : Below w0.heap.size w0 w) :
    Calls Tryz.prog 65 #[.pointer (some ⟨p, 0, none⟩)] w fun e w' => ∃ r sb, e = .returned (.tuple #[.pointer (some ⟨r, 0, none⟩), .int .i64 0]) ∧ RS w0 r p sb [] 0 w' := by
  refine (iopen (R := fun _ => none) h (fun k hk => Or.inl ⟨rfl, fun j _ => rfl⟩)).mono ?_
  rintro e w' ⟨r, sb, X, rfl, hr, hx, hbw, h1, h2⟩
  have hl : lastOf (fun _ => (none : Option Nt)) 16 = 0 := rfl
  rw [hl] at hr
  refine ⟨r, sb, rfl, S, _, _, X, hr, AG.empty (fun k hk => (hx k hk).1), fun j hj => ?_, hb.trans (hbw.mono hb.size), Nat.le_refl _⟩
  rw [List.mem_cons, List.mem_cons] at hj
  rcases hj with rfl | rfl | hj
  · exact Nat.le_trans hb.size h1
  · exact Nat.le_trans hb.size h2
  · exact hS j hj
end Go.Proofs.YtjgbfghkiahfaaaGreatDoor
namespace Go.Proofs.YtjgbfghkiahfaaaGreatDoor
open Go.RowKit Go.Sort
set_option maxRecDepth 100000
set_option maxHeartbeats 1000000

/-- insertionSort of one piece, or none. -/
theorem cinsert1 (A : Option Addr) (n c : Nat) (f : Value) (w : World) (hn : n ≤ 1) :
    Calls Tryz.prog 114 #[.slice A n c, .int .i64 0, .int .i64 (n : Int), f] w fun e w' => e = .returned (.tuple #[]) ∧ w' = w := by
  have h1 : ¬ (1 : Int) < (n : Int) := by omega
  go_enter Tryz.func114, Tryz.ntmps114
  go_wp2_with fail
  refine wp_loop_rounds 1 ?_
  rw [rounds_succ]
  go_wp2_with fail
  go_end0
  exact ⟨rfl, rfl⟩
/-- Two pieces that lie one behind the other. -/
def PV2 (w : World) (b : Nat) (s0 g0 i0 s1 g1 i1 : Int) (A0 A1 : Option Addr) (n0 c0 n1 c1 : Nat) : Prop :=
  ∃ cur : Array Value, w.heap[b]? = some (.cells cur 117 (0, 0)) ∧ cur[0]? = some (.int .i64 s0) ∧ cur[1]? = some (.int .i64 g0) ∧ cur[2]? = some (.int .i64 i0) ∧ cur[3]? = some (.slice A0 n0 c0) ∧
    cur[4]? = some (.int .i64 s1) ∧ cur[5]? = some (.int .i64 g1) ∧ cur[6]? = some (.int .i64 i1) ∧ cur[7]? = some (.slice A1 n1 c1)
theorem PV2.below {w w' : World} {b n0 c0 n1 c1 : Nat} {s0 g0 i0 s1 g1 i1 : Int} {A0 A1 : Option Addr} (h : PV2 w b s0 g0 i0 s1 g1 i1 A0 A1 n0 c0 n1 c1) (e : Below w.heap.size w w') : PV2 w' b s0 g0 i0 s1 g1 i1 A0 A1 n0 c0 n1 c1 := by
  obtain ⟨cur, h0, r⟩ := h
  exact ⟨cur, (e.block b (heap_lt h0)).trans h0, r⟩
theorem PV2.cells {w : World} {b n0 c0 n1 c1 : Nat} {s0 g0 i0 s1 g1 i1 : Int} {A0 A1 : Option Addr} (h : PV2 w b s0 g0 i0 s1 g1 i1 A0 A1 n0 c0 n1 c1) :
    w.cell? ⟨b, 0, none⟩ = some (.int .i64 s0) ∧ w.cell? ⟨b, 1, none⟩ = some (.int .i64 g0) ∧ w.cell? ⟨b, 2, none⟩ = some (.int .i64 i0) ∧ w.cell? ⟨b, 3, none⟩ = some (.slice A0 n0 c0) ∧
    w.cell? ⟨b, 4, none⟩ = some (.int .i64 s1) ∧ w.cell? ⟨b, 5, none⟩ = some (.int .i64 g1) ∧ w.cell? ⟨b, 6, none⟩ = some (.int .i64 i1) ∧ w.cell? ⟨b, 7, none⟩ = some (.slice A1 n1 c1) ∧ (∀ k, w.frozen? ⟨b, k, none⟩ = false) ∧ b < w.heap.size := by
  obtain ⟨cur, h, a0, a1, a2, a3, a4, a5, a6, a7⟩ := h
  exact ⟨(cell_of_block h).trans a0, (cell_of_block h).trans a1, (cell_of_block h).trans a2, (cell_of_block h).trans a3, (cell_of_block h).trans a4, (cell_of_block h).trans a5, (cell_of_block h).trans a6, (cell_of_block h).trans a7, fun k => free_of_block h, heap_lt h⟩
theorem cinsert2 (b c : Nat) (s0 g0 i0 s1 g1 i1 : Int) (A0 A1 : Option Addr) (n0 c0 n1 c1 : Nat) (w : World) (h : PV2 w b s0 g0 i0 s1 g1 i1 A0 A1 n0 c0 n1 c1) (hg : ¬ g0 < g1) :
    Calls Tryz.prog 114 #[.slice (some ⟨b, 0, none⟩) 2 c, .int .i64 0, .int .i64 2, .func (.func 103) #[] #[]] w fun e w' => e = .returned (.tuple #[]) ∧ Below w.heap.size w w' := by
  obtain ⟨a0, a1, a2, a3, a4, a5, a6, a7, f0, hl⟩ := h.cells
  have HC : Hid (∀ W, Calls Tryz.prog 103 #[pv s1 g1 i1 A1 n1 c1, pv s0 g0 i0 A0 n0 c0] W fun e w' => e = .returned (.int .i64 (if g0 < g1 then -1 else if g1 < g0 then 1 else 0)) ∧ Below W.heap.size W w') := Lib.hid (fun W => cgetcmp s1 g1 i1 s0 g0 i0 A1 A0 n1 c1 n0 c0 W)
  rw [if_neg hg] at HC
  obtain ⟨r, hr⟩ : ∃ r : Int, (if g1 < g0 then (1 : Int) else 0) = r := ⟨_, rfl⟩
  have hr0 : ¬ r < 0 := by rw [← hr]; split <;> omega
  rw [hr] at HC
  unfold pv at HC
  have HB : Hid (Below w.heap.size w w.drew) := Lib.hid (below_drewN 1 w)
  have wr0 : IntKind.i64.wrap 0 = 0 := by decide
  clear hr hg h
  go_enter Tryz.func114, Tryz.ntmps114
  go_wp2_with fail
  refine wp_loop_rounds 2 ?_
  rw [rounds_succ]
  go_wp2_with fail
  refine wp_loop_rounds 2 ?_
  rw [rounds_succ]
  go_wp2_with fail
  go_still_tail 14, (by kernel_rfl)
  change wpList _ _ _ _ _ w.drew
  go_wp2_with fail
  refine (HC.out _).mono ?_
  rintro e w2 ⟨rfl, hb2⟩
  try dsimp only
  have HB2 : Hid (Below w.heap.size w w2) := Lib.hid (HB.out.trans hb2)
  clear hb2
  go_wp2_with fail
  rw [rounds_succ]
  go_wp2_with fail
  go_end0
  exact ⟨rfl, HB2.out⟩
theorem PV2.swap {w : World} {b n0 c0 n1 c1 : Nat} {s0 g0 i0 s1 g1 i1 : Int} {A0 A1 : Option Addr} (h : PV2 w b s0 g0 i0 s1 g1 i1 A0 A1 n0 c0 n1 c1) (w' : World)
    (e : w' = (((((((w.setCell ⟨b, 4, none⟩ (.int .i64 s0)).setCell ⟨b, 5, none⟩ (.int .i64 g0)).setCell ⟨b, 6, none⟩ (.int .i64 i0)).setCell ⟨b, 7, none⟩ (.slice A0 n0 c0)).setCell ⟨b, 0, none⟩ (.int .i64 s1)).setCell ⟨b, 1, none⟩ (.int .i64 g1)).setCell ⟨b, 2, none⟩ (.int .i64 i1)).setCell ⟨b, 3, none⟩ (.slice A1 n1 c1)) :
    PV2 w' b s1 g1 i1 s0 g0 i0 A1 A0 n1 c1 n0 c0 := by
  subst e
  obtain ⟨cur, h0, a0, a1, a2, a3, a4, a5, a6, a7⟩ := h
  have hz : 7 < cur.size := (Array.getElem?_eq_some_iff.1 a7).1
  refine ⟨_, set_block (set_block (set_block (set_block (set_block (set_block (set_block (set_block h0 4 _) 5 _) 6 _) 7 _) 0 _) 1 _) 2 _) 3 _, ?_, ?_, ?_, ?_, ?_, ?_, ?_, ?_⟩ <;> simp [Array.getElem?_setIfInBounds] <;> first | omega | (rintro rfl; simp at hz)
theorem Turn.put8 {b : Nat} {w w2 : World} (h : Turn [b] w w2) (k1 k2 k3 k4 k5 k6 k7 k8 : Nat) (v1 v2 v3 v4 v5 v6 v7 v8 : Value) :
    Turn [b] w ((((((((w2.setCell ⟨b, k1, none⟩ v1).setCell ⟨b, k2, none⟩ v2).setCell ⟨b, k3, none⟩ v3).setCell ⟨b, k4, none⟩ v4).setCell ⟨b, k5, none⟩ v5).setCell ⟨b, k6, none⟩ v6).setCell ⟨b, k7, none⟩ v7).setCell ⟨b, k8, none⟩ v8) := by
  have s : ∀ (W : World) (k : Nat) (v : Value), Turn [b] w W → Turn [b] w (W.setCell ⟨b, k, none⟩ v) := fun W k v hW => hW.trans (Turn.set _ _ _ _ (by simp))
  exact s _ _ _ (s _ _ _ (s _ _ _ (s _ _ _ (s _ _ _ (s _ _ _ (s _ _ _ (s _ _ _ h)))))))
theorem cinsert2s (b c : Nat) (s0 g0 i0 s1 g1 i1 : Int) (A0 A1 : Option Addr) (n0 c0 n1 c1 : Nat) (w : World) (h : PV2 w b s0 g0 i0 s1 g1 i1 A0 A1 n0 c0 n1 c1) (hg : g0 < g1) :
    Calls Tryz.prog 114 #[.slice (some ⟨b, 0, none⟩) 2 c, .int .i64 0, .int .i64 2, .func (.func 103) #[] #[]] w fun e w' => e = .returned (.tuple #[]) ∧ PV2 w' b s1 g1 i1 s0 g0 i0 A1 A0 n1 c1 n0 c0 ∧ Turn [b] w w' := by
  obtain ⟨a0, a1, a2, a3, a4, a5, a6, a7, f0, hl⟩ := h.cells
  have HC : Hid (∀ W, Calls Tryz.prog 103 #[pv s1 g1 i1 A1 n1 c1, pv s0 g0 i0 A0 n0 c0] W fun e w' => e = .returned (.int .i64 (if g0 < g1 then -1 else if g1 < g0 then 1 else 0)) ∧ Below W.heap.size W w') := Lib.hid (fun W => cgetcmp s1 g1 i1 s0 g0 i0 A1 A0 n1 c1 n0 c0 W)
  rw [if_pos hg] at HC
  unfold pv at HC
  have HB : Hid (Below w.heap.size w w.drew) := Lib.hid (below_drewN 1 w)
  have wr0 : IntKind.i64.wrap 0 = 0 := by decide
  have HP := Lib.hid h
  clear hg h
  go_enter Tryz.func114, Tryz.ntmps114
  go_wp2_with fail
  refine wp_loop_rounds 2 ?_
  rw [rounds_succ]
  go_wp2_with fail
  refine wp_loop_rounds 2 ?_
  rw [rounds_succ]
  go_wp2_with fail
  go_still_tail 14, (by kernel_rfl)
  change wpList _ _ _ _ _ w.drew
  go_wp2_with fail
  refine (HC.out _).mono ?_
  rintro e w2 ⟨rfl, hb2⟩
  try dsimp only
  have HB2 : Hid (Below w.heap.size w w2) := Lib.hid (HB.out.trans hb2)
  have HP2 := Lib.hid (HP.out.below HB2.out)
  clear hb2 a0 a1 a2 a3 a4 a5 a6 a7 f0 hl
  obtain ⟨a0, a1, a2, a3, a4, a5, a6, a7, f0, hl⟩ := HP2.out.cells
  go_wp2_with fail
  go_region
  all_goals
    obtain ⟨w3, hw3⟩ : ∃ w3, (((((((w2.setCell ⟨b, 4, none⟩ (.int .i64 s0)).setCell ⟨b, 5, none⟩ (.int .i64 g0)).setCell ⟨b, 6, none⟩ (.int .i64 i0)).setCell ⟨b, 7, none⟩ (.slice A0 n0 c0)).setCell ⟨b, 0, none⟩ (.int .i64 s1)).setCell ⟨b, 1, none⟩ (.int .i64 g1)).setCell ⟨b, 2, none⟩ (.int .i64 i1)).setCell ⟨b, 3, none⟩ (.slice A1 n1 c1) = w3 := ⟨_, rfl⟩
    have HP3 := Lib.hid (HP2.out.swap w3 hw3.symm)
    have HT3 : Hid (Turn [b] w w3) := Lib.hid (by rw [← hw3]; exact Turn.put8 (Turn.of HB2.out) _ _ _ _ _ _ _ _ _ _ _ _ _ _ _ _)
    rw [hw3]
    clear hw3 a0 a1 a2 a3 a4 a5 a6 a7 f0 hl HC HB2 HP2
    go_wp2_with fail
    rw [rounds_succ]
    go_wp2_with fail
    go_big_quiet (fail)
    go_wp2_with fail
    rw [rounds_succ]
    go_wp2_with fail
    go_end0
    exact ⟨rfl, HP3.out, HT3.out.trans (Turn.of (below_drewN _ _))⟩
/-- pdqsort of at most two: insertionSort. -/
theorem cpdq (A : Option Addr) (n c : Nat) (l : Int) (f : Value) (w : World) (Q : Ending → World → Prop) (hn : n ≤ 12)
    (h : Calls Tryz.prog 114 #[.slice A n c, .int .i64 0, .int .i64 (n : Int), f] w fun e w' => e = .returned (.tuple #[]) ∧ Q (.returned (.tuple #[])) w') :
    Calls Tryz.prog 112 #[.slice A n c, .int .i64 0, .int .i64 (n : Int), .int .i64 l, f] w Q := by
  have HC := Lib.hid h
  have h12 : (n : Int) ≤ 12 := by omega
  clear h
  go_enter Tryz.func112, Tryz.ntmps112
  go_wp2_with fail
  refine wp_loop_rounds 1 ?_
  rw [rounds_succ]
  go_wp2_with fail
  refine HC.out.mono ?_
  rintro e w2 ⟨rfl, hq⟩
  try dsimp only
  have HQ := Lib.hid hq
  clear hq
  go_wp2_with fail
  go_end0
  exact HQ.out
theorem csort (A : Option Addr) (n c : Nat) (f : Value) (w : World) (Q : Ending → World → Prop) (hn : n < 3)
    (h : Calls Tryz.prog 114 #[.slice A n c, .int .i64 0, .int .i64 (n : Int), f] w fun e w' => e = .returned (.tuple #[]) ∧ Q (.returned (.tuple #[])) w') :
    Calls Tryz.prog 102 #[.slice A n c, f] w Q := by
  have HL := Lib.hid (blen n hn w)
  have HC := Lib.hid (cpdq A n c (n : Int) f w (fun e w' => e = .returned (.tuple #[]) ∧ Q (.returned (.tuple #[])) w') (by omega) (h.mono (by rintro e w' ⟨rfl, hq⟩; exact ⟨rfl, rfl, hq⟩)))
  clear h
  go_enter Tryz.func102, Tryz.ntmps102
  go_wp2_with fail
  refine HL.out.mono ?_
  rintro e w' ⟨rfl, hw⟩
  obtain rfl := hw.symm
  go_wp2_with fail
  refine HC.out.mono ?_
  rintro e w2 ⟨rfl, hq⟩
  try dsimp only
  have HQ := Lib.hid hq
  clear hq
  go_wp2_with fail
  go_end0
  exact HQ.out
end Go.Proofs.YtjgbfghkiahfaaaGreatDoor
