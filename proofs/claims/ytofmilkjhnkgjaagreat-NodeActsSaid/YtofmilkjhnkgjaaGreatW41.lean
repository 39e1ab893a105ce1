import Derived.Test.YtofmilkjhnkgjaaGreatW40
namespace Go.Proofs.YtofmilkjhnkgjaaGreat
open Go.RowKit Go.Sort
set_option maxRecDepth 100000
set_option maxHeartbeats 2000000

/-! Rings whose disk is known. -/
def OpenNo (w : World) (e : Ending) (w' : World) : Prop := e = .returned (.tuple #[.pointer none, .int .i64 1]) ∧ Below w.heap.size w w'
theorem iopen_nil (w : World) : Calls Tryz.prog 51 #[.pointer none] w (OpenNo w) := by
  go_enter Tryz.func51, Tryz.ntmps51
  go_wp2_with fail
  go_ret2
  exact ⟨rfl, Below.refl _ _⟩
theorem iopen_small {w : World} {p : Nat} {S : List Nat} {d : Disk} {nw : Nat} (h : Plt w p S 95 d nw) : Calls Tryz.prog 51 #[.pointer (some ⟨p, 0, none⟩)] w (OpenNo w) := by
  have HBK := Lib.hid (dblocks h)
  clear h
  go_enter Tryz.func51, Tryz.ntmps51
  go_wp2_with fail
  refine HBK.out.mono ?_
  rintro e w' ⟨rfl, hw⟩
  obtain rfl := hw.symm
  go_wp2_with fail
  go_ret2
  exact ⟨rfl, Below.refl _ _⟩
theorem Rg.turn {w w' : World} {r p sb last : Nat} {S S' : List Nat} {d d' : Disk} {nw nw' : Nat} {X : Nat → Sx} (h : Rg w r p sb last S d nw X) (t : Turn S w w') (k : Plt w' p S' 96 d' nw') : Rg w' r p sb last S' d' nw' X ∧ KeepI w w' := by
  have ht : Turn (r :: sb :: S) w w' := t.mono (fun k hk => by simp [hk])
  have hk := h.keepI ht
  obtain ⟨cs, hc⟩ := h.sr.type
  exact ⟨⟨h.rb.keep (t.block r h.rb.lt h.rS), h.sr.keep (t.block sb (heap_lt hc) h.sS), fun j hj => (h.ok j hj).keep (fun g cs hg => hk.2 g cs _ hg (Or.inl rfl)), k⟩, hk⟩
/-- A ring and its disk. -/
def RD (w0 : World) (r p sb : Nat) (T : List Nt) (last : Nat) (d : Disk) (v : World) : Prop :=
  ∃ S nw X, Rg v r p sb last S d nw X ∧ AG X T last ∧ (∀ k ∈ r :: sb :: S, w0.heap.size ≤ k) ∧ Below w0.heap.size w0 v ∧ nw ≤ 100
/-- One that lost nothing. -/
def KD (w0 : World) (r p sb : Nat) (T : List Nt) (last : Nat) (d : Disk) (v : World) : Prop :=
  ∃ S nw X, Rg v r p sb last S d nw X ∧ AG X T last ∧ (∀ k, k < 16 → ((X k).no ≠ 0 ↔ k < last)) ∧ (∀ k ∈ r :: sb :: S, w0.heap.size ≤ k) ∧ Below w0.heap.size w0 v ∧ nw ≤ last
section
variable {w0 v v' : World} {r p sb last : Nat} {T : List Nt} {d : Disk}
theorem KD.rd (h : KD w0 r p sb T last d v) (hl : last ≤ 100) : RD w0 r p sb T last d v := by
  obtain ⟨S, nw, X, h1, h2, _, h3, h4, h5⟩ := h
  exact ⟨S, nw, X, h1, h2, h3, h4, by omega⟩
theorem KD.below (h : KD w0 r p sb T last d v) (b : Below v.heap.size v v') : KD w0 r p sb T last d v' := by
  obtain ⟨S, nw, X, h1, h2, h6, h3, h4, h5⟩ := h
  exact ⟨S, nw, X, h1.below b, h2, h6, h3, h4.trans (b.mono h4.size), h5⟩
theorem RD.below (h : RD w0 r p sb T last d v) (b : Below v.heap.size v v') : RD w0 r p sb T last d v' := by
  obtain ⟨S, nw, X, h1, h2, h3, h4, h5⟩ := h
  exact ⟨S, nw, X, h1.below b, h2, h3, h4.trans (b.mono h4.size), h5⟩
theorem RD.blw (h : RD w0 r p sb T last d v) : Below w0.heap.size w0 v := by
  obtain ⟨S, nw, X, h1, h2, h3, h4, h5⟩ := h
  exact h4
def KLogRet (w0 : World) (r p sb : Nat) (T : List Nt) (last : Nat) (d : Disk) (e : Ending) (w' : World) : Prop := e = .returned (.int .i64 0) ∧ KD w0 r p sb T last d w'
theorem kd_log (h : KD w0 r p sb T last d v) (y : It) (A : Option Addr) (c : Nat) (hy : y.Ok) (hd : DatI v A y.D) (hn : ∀ e ∈ T, ¬ e.2.Alike y) (hl : last < 16) :
    Calls Tryz.prog 36 #[.pointer (some ⟨r, 0, none⟩), iv (y.s : Int) (y.g : Int) A 128 c] v (KLogRet w0 r p sb (T ++ [(last + 1, y)]) (last + 1) (d.write (80 + last) (itS (last + 1) y))) := by
  obtain ⟨S, nw, X, h1, h2, h6, h3, h4, h5⟩ := h
  have hk0 : (X last).no = 0 := by
    by_cases e : (X last).no = 0
    · exact e
    · exact absurd ((h6 last hl).1 e) (by omega)
  refine (ilog_put y A c h1 hy hd (fun j hj e => hn _ (h2.mem hj e.1) e.2) last hl hk0 (fun j hj => (h6 j (by omega)).2 hj) (by omega) (by omega)).mono ?_
  rintro e w' ⟨S', A', c', rfl, hr, ht, hS⟩
  have hb := Below.of_turn h4 ht h3 h4.size
  refine ⟨rfl, S', _, _, hr, h2.put hl hk0 ⟨last + 1, y.s, y.g, A', 128, c', y.D⟩ rfl, fun k hk => ?_, fun j hj => ?_, hb, by omega⟩
  · unfold updS
    by_cases e : k = last
    · subst e
      rw [if_pos rfl]
      exact ⟨fun _ => by omega, fun _ => by show k + 1 ≠ 0; omega⟩
    · rw [if_neg e]
      exact ⟨fun h => by have := (h6 k hk).1 h; omega, fun h => (h6 k hk).2 (by omega)⟩
  · rw [List.mem_cons, List.mem_cons] at hj
    rcases hj with rfl | rfl | hj
    · exact h3 _ (by simp)
    · exact h3 _ (by simp)
    · rcases hS j hj with h | h
      · exact h3 j (by simp [h])
      · exact Nat.le_trans h4.size h
theorem kd_same (h : KD w0 r p sb T last d v) (y : It) (A : Option Addr) (c : Nat) (hy : y.Ok) (hd : DatI v A y.D) (hn : ∃ e ∈ T, e.2.Alike y) :
    Calls Tryz.prog 36 #[.pointer (some ⟨r, 0, none⟩), iv (y.s : Int) (y.g : Int) A 128 c] v fun e w' => e = .returned (.int .i64 0) ∧ Below v.heap.size v w' := by
  obtain ⟨S, nw, X, h1, h2, h6, h3, h4, h5⟩ := h
  obtain ⟨e, he, ha⟩ := hn
  obtain ⟨x, hx, rfl⟩ := List.mem_map.1 (h2.1.mem_iff.2 he)
  obtain ⟨i, hi, hne, rfl⟩ := lv_mem.1 hx
  exact ilog_same y A c h1 hy hd ⟨i, hi, hne, ha⟩
theorem kd_arg (h : KD w0 r p sb T last d v) (s g : Int) (A : Option Addr) (n c : Nat) (hno : ¬ OkJ s g n) :
    Calls Tryz.prog 36 #[.pointer (some ⟨r, 0, none⟩), iv s g A n c] v fun e w' => e = .returned (.int .i64 1) ∧ Below v.heap.size v w' := by
  obtain ⟨S, nw, X, h1, h2, h6, h3, h4, h5⟩ := h
  exact ilog_arg s g A n c h1.rb hno
def DRelRet (w0 : World) (r p sb : Nat) (T : List Nt) (last : Nat) (d : Disk) (n : Nat) (e : Ending) (w' : World) : Prop := e = .returned (.int .i64 (n : Int)) ∧ RD w0 r p sb T last d w'
theorem rd_rel (h : RD w0 r p sb T last d v) (s g : Int) :
    Calls Tryz.prog 40 #[.pointer (some ⟨r, 0, none⟩), .int .i64 s, .int .i64 g] v (DRelRet w0 r p sb (T.filter (keepsR s g)) last d (T.length - (T.filter (keepsR s g)).length)) := by
  obtain ⟨S, nw, X, h1, h2, h3, h4, h5⟩ := h
  obtain ⟨a1, a2⟩ := h2.rel s g
  rw [← a2]
  refine (irelease s g h1.rb h1.sr).mono ?_
  rintro e w' ⟨rfl, hs, ht⟩
  have hu : ∀ (g' : Nat) (cs : Array Value), v.heap[g']? = some (Obj.cells cs 5 (0, 0)) → w'.heap[g']? = v.heap[g']? := fun g' cs hg => ht.block g' (heap_lt hg) (by
    rw [List.mem_singleton]
    rintro rfl
    obtain ⟨cs', hc⟩ := h1.sr.type
    rw [hg] at hc
    cases hc)
  have hrg : Rg w' r p sb last S d nw (relX s g 16 X) := ⟨h1.rb.keep (ht.block r h1.rb.lt (by rw [List.mem_singleton]; exact h1.ne)), hs, fun k hk => by
    have e : relX s g 16 X k = relS s g (X k) := by unfold relX; rw [if_pos hk]
    rw [e]
    unfold relS
    split
    · exact SxOk.z
    · exact (h1.ok k hk).keep hu, h1.plt.same ⟨hu, fun k hk => ht.block k (h1.plt.lt k hk) (by
      rw [List.mem_singleton]
      rintro rfl
      exact h1.sS hk)⟩⟩
  have ht' : Turn (r :: sb :: S) v w' := ht.mono (fun k hk => by rw [List.mem_singleton] at hk; subst hk; simp)
  exact ⟨rfl, S, nw, _, hrg, a1, h3, Below.of_turn h4 ht' h3 h4.size, h5⟩
theorem rd_live (h : RD w0 r p sb T last d v) : Calls Tryz.prog 39 #[.pointer (some ⟨r, 0, none⟩)] v (RLiveRet T v) := by
  obtain ⟨S, nw, X, h1, h2, h3, h4, h5⟩ := h
  refine (ilive_ h1).mono ?_
  rintro e w' ⟨u, L, rfl, hl, hp, hs, hb⟩
  exact ⟨u, rfl, by rw [← h2.live hp hs]; exact hl, hb⟩
theorem kd_flush (h : KD w0 r p sb T last d v) : Calls Tryz.prog 38 #[.pointer (some ⟨p, 0, none⟩)] v fun e w' => e = .returned (.tuple #[]) ∧ KD w0 r p sb T last d.flush w' := by
  obtain ⟨S, nw, X, h1, h2, h6, h3, h4, h5⟩ := h
  refine (dflush h1.plt).mono ?_
  rintro e w' ⟨S', rfl, hp, ht⟩
  obtain ⟨hb, hS⟩ := Below.step h4 ht (fun k hk => h3 k (by simp [hk])) h4.size
  refine ⟨rfl, S', nw, X, (h1.turn ht.turn hp).1, h2, h6, fun k hk => ?_, hb, h5⟩
  rw [List.mem_cons, List.mem_cons] at hk
  rcases hk with rfl | rfl | hk
  · exact h3 _ (by simp)
  · exact h3 _ (by simp)
  · exact hS k hk
theorem rd_crash (h : RD w0 r p sb T last d v) : Calls Tryz.prog 27 #[.pointer (some ⟨p, 0, none⟩), .slice none 0 0] v fun e w' => e = .returned (.tuple #[]) ∧ RD w0 r p sb T last (d.crash (keepF [])) w' ∧ KeepI v w' := by
  obtain ⟨S, nw, X, h1, h2, h3, h4, h5⟩ := h
  refine (dcrash none [] 0 h1.plt (fun i x hi => by simp at hi) (by simp) (by omega)).mono ?_
  rintro e w' ⟨S', rfl, hp, ht⟩
  obtain ⟨hb, hS⟩ := Below.step h4 ht (fun k hk => h3 k (by simp [hk])) h4.size
  obtain ⟨hr, hkp⟩ := h1.turn ht.turn hp
  refine ⟨rfl, ⟨S', nw, X, hr, h2, fun k hk => ?_, hb, h5⟩, hkp⟩
  rw [List.mem_cons, List.mem_cons] at hk
  rcases hk with rfl | rfl | hk
  · exact h3 _ (by simp)
  · exact h3 _ (by simp)
  · exact hS k hk
/-- What the first n blocks say. -/
def Rn (f : Nat → It) (n : Nat) (k : Nat) : Option (Nat × It) := if k < n then some (k + 1, f k) else none
theorem lv_low {X : Nat → Sx} {f : Nat → It} {n : Nat} (h : ∀ k, k < 16 → SaysR (X k) (Rn f n k)) : ∀ m, m ≤ 16 → (lv X m).map ntOf = (List.range (min m n)).map (fun k => (k + 1, f k))
  | 0, _ => by
    rw [Nat.zero_min]
    rfl
  | m + 1, hm => by
    obtain ⟨h1, h2⟩ := h m (by omega)
    unfold lv
    rw [List.map_append, lv_low h m (by omega)]
    unfold Rn at h1 h2
    by_cases e : m < n
    · rw [if_pos e] at h1 h2
      have h1' : (X m).no = m + 1 := h1
      have h2' := h2 _ _ rfl
      rw [if_neg (by omega), show min (m + 1) n = min m n + 1 by omega, List.range_succ, List.map_append, show min m n = m by omega]
      have : ntOf (X m) = (m + 1, f m) := by unfold ntOf; rw [h1', h2']
      simp [this]
    · rw [if_neg e] at h1
      have h1' : (X m).no = 0 := h1
      rw [if_pos h1', show min (m + 1) n = min m n by omega]
      simp
theorem lastOf_Rn (f : Nat → It) {n : Nat} : ∀ m, lastOf (Rn f n) m = min m n
  | 0 => by rw [Nat.zero_min]; rfl
  | m + 1 => by
    show max (lastOf (Rn f n) m) (numOf (Rn f n m)) = _
    rw [lastOf_Rn f m]
    unfold Rn
    by_cases e : m < n
    · rw [if_pos e]
      show max (min m n) (m + 1) = _
      omega
    · rw [if_neg e]
      show max (min m n) 0 = _
      omega
theorem AG.ofRn {X : Nat → Sx} {f : Nat → It} {n : Nat} (hn : n ≤ 16) (h : ∀ k, k < 16 → SaysR (X k) (Rn f n k)) : AG X (Ts f n) n := by
  have e := lv_low h 16 (Nat.le_refl _)
  rw [show min 16 n = n by omega] at e
  refine ⟨by rw [e]; exact List.Perm.refl _, ?_, fun e he => ?_⟩
  · unfold Ts
    rw [List.pairwise_map]
    exact (List.pairwise_lt_range (n := n)).imp (fun h => by show _ + 1 < _ + 1; omega)
  · obtain ⟨k, hk, rfl⟩ := Ts_mem he
    show k + 1 ≤ n
    omega
/-- A ring on a disk that says the first n. -/
def DOpenRet (w0 : World) (p : Nat) (f : Nat → It) (n : Nat) (d : Disk) (w : World) (e : Ending) (w' : World) : Prop :=
  ∃ r sb, e = .returned (.tuple #[.pointer (some ⟨r, 0, none⟩), .int .i64 0]) ∧ RD w0 r p sb (Ts f n) n d w' ∧ Below w.heap.size w w'
theorem rd_open (h : RD w0 r p sb T last d v) (f : Nat → It) (n : Nat) (hn : n ≤ 16) (hf : ∀ k, k < n → (f k).Ok ∧ ∀ j, j < 160 → d.now (80 + k) j = itS (k + 1) (f k) j) (h0 : ∀ k, n ≤ k → k < 16 → ∀ j, j < 160 → d.now (80 + k) j = 0) :
    Calls Tryz.prog 51 #[.pointer (some ⟨p, 0, none⟩)] v (DOpenRet w0 p f n d v) := by
  obtain ⟨S, nw, X, h1, h2, h3, h4, h5⟩ := h
  refine (iopen (R := Rn f n) h1.plt (fun k hk => ?_)).mono ?_
  · by_cases e : k < n
    · exact Or.inr ⟨k + 1, f k, if_pos e, (hf k e).1, by omega, by omega, (hf k e).2⟩
    · exact Or.inl ⟨if_neg e, h0 k (by omega) hk⟩
  · rintro e w' ⟨r', sb', X', rfl, hr, hx, hb, a1, a2⟩
    rw [lastOf_Rn, show min 16 n = n by omega] at hr
    refine ⟨r', sb', rfl, ⟨S, nw, X', hr, AG.ofRn hn hx, fun k hk => ?_, h4.trans (hb.mono h4.size), h5⟩, hb⟩
    rw [List.mem_cons, List.mem_cons] at hk
    rcases hk with rfl | rfl | hk
    · exact Nat.le_trans h4.size a1
    · exact Nat.le_trans h4.size a2
    · exact h3 k (by simp [hk])
end
/-- A ring on a blank platter. -/
theorem kd_open {w0 w : World} {p : Nat} {S : List Nat} (h : Plt w p S 96 Disk.blank 0) (hS : ∀ k ∈ S, w0.heap.size ≤ k) (hb : Below w0.heap.size w0 w) :
    Calls Tryz.prog 51 #[.pointer (some ⟨p, 0, none⟩)] w fun e w' => ∃ r sb, e = .returned (.tuple #[.pointer (some ⟨r, 0, none⟩), .int .i64 0]) ∧ KD w0 r p sb [] 0 Disk.blank w' := by
  refine (iopen (R := fun _ => none) h (fun k hk => Or.inl ⟨rfl, fun j _ => rfl⟩)).mono ?_
  rintro e w' ⟨r, sb, X, rfl, hr, hx, hbw, h1, h2⟩
  have hl : lastOf (fun _ => (none : Option Nt)) 16 = 0 := rfl
  rw [hl] at hr
  refine ⟨r, sb, rfl, S, _, X, hr, AG.empty (fun k hk => (hx k hk).1), fun k hk => ⟨fun h => absurd (hx k hk).1 h, fun h => by omega⟩, fun j hj => ?_, hb.trans (hbw.mono hb.size), Nat.le_refl _⟩
  rw [List.mem_cons, List.mem_cons] at hj
  rcases hj with rfl | rfl | hj
  · exact Nat.le_trans hb.size h1
  · exact Nat.le_trans hb.size h2
  · exact hS j hj
end Go.Proofs.YtofmilkjhnkgjaaGreat
