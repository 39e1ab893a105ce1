import Derived.Test.YtohmoakahfpjpaaDM
import Derived.Test.YtohmoakahfpjpaaDA
namespace Go.Proofs.Ytohmoakahfpjpaa
open Go.RowKit Go.Sort
set_option maxRecDepth 100000
set_option maxHeartbeats 1000000

/-! PlatterKeeps: what a block may be. -/
structure KInv (d : Disk) (fs : Nat → Nat → Bool) (last : Nat → Nat) : Prop where
  done : ∀ k, k < 6 → ∃ c, c < 256 ∧ d.done k = (fun _ => c) ∧ fs k c = true
  pend : ∀ x ∈ d.pend, ∃ c, c < 256 ∧ x.2 = (fun _ => c) ∧ fs x.1 c = true
  now : ∀ k, k < 6 → d.now k = (fun _ => last k) ∧ last k < 256
theorem kInv_start (fs : Nat → Nat → Bool) (h : ∀ k, k < 6 → fs k 0 = true) : KInv Disk.blank fs (fun _ => 0) :=
  ⟨fun k hk => ⟨0, by omega, rfl, h k hk⟩, fun x hx => by simp [Disk.blank] at hx, fun k _ => ⟨rfl, by omega⟩⟩
theorem KInv.write {d : Disk} {fs : Nat → Nat → Bool} {last : Nat → Nat} (h : KInv d fs last) (k c : Nat) (hc : c < 256) : KInv (d.write k (fun _ => c)) (fun j => if j = k then (fun x => if x = c then true else fs k x) else fs j) (fun j => if j = k then c else last j) := by
  have hf : ∀ j x, fs j x = true → (if j = k then (fun x => if x = c then true else fs k x) else fs j) x = true := by
    intro j x hx
    by_cases e : j = k
    · subst e
      rw [if_pos rfl]
      try dsimp only
      split
      · rfl
      · exact hx
    · rw [if_neg e]; exact hx
  refine ⟨fun j hj => ?_, fun x hx => ?_, fun j hj => ?_⟩
  · obtain ⟨a, ha, hd, hh⟩ := h.done j hj
    exact ⟨a, ha, hd, hf j a hh⟩
  · simp only [Disk.write, List.mem_append, List.mem_singleton] at hx
    rcases hx with hx | rfl
    · obtain ⟨a, ha, hd, hh⟩ := h.pend x hx
      exact ⟨a, ha, hd, hf _ _ hh⟩
    · exact ⟨c, hc, rfl, by simp⟩
  · rw [now_write]
    unfold upd
    by_cases e : j = k
    · dsimp only
      rw [if_pos e, if_pos e]
      exact ⟨rfl, hc⟩
    · dsimp only
      rw [if_neg e, if_neg e]
      exact h.now j hj
theorem KInv.flush {d : Disk} {fs gs : Nat → Nat → Bool} {last : Nat → Nat} (h : KInv d fs last) (hg : ∀ k, k < 6 → gs k (last k) = true) : KInv d.flush gs last :=
  ⟨fun k hk => ⟨last k, (h.now k hk).2, (h.now k hk).1, hg k hk⟩, fun x hx => by simp [Disk.flush] at hx, fun k hk => h.now k hk⟩
theorem keptAt_sub (f : Nat → Bool) : ∀ (l : List (Nat × Blk)) (i : Nat), ∀ x ∈ keptAt f i l, x ∈ l
  | [], _, x, hx => by simp [keptAt] at hx
  | y :: l, i, x, hx => by
    simp only [keptAt] at hx
    split at hx
    · rcases List.mem_cons.1 hx with rfl | hx
      · exact List.mem_cons_self
      · exact List.mem_cons_of_mem _ (keptAt_sub f l (i + 1) x hx)
    · exact List.mem_cons_of_mem _ (keptAt_sub f l (i + 1) x hx)
theorem KInv.crash {d : Disk} {fs : Nat → Nat → Bool} {last : Nat → Nat} (h : KInv d fs last) (f : Nat → Bool) (k : Nat) (hk : k < 6) : ∃ c, c < 256 ∧ (d.crash f).now k = (fun _ => c) ∧ fs k c = true := by
  rw [now_crash]
  show ∃ c, c < 256 ∧ (keptAt f 0 d.pend).foldl upd d.done k = (fun _ => c) ∧ fs k c = true
  have gen : ∀ (l : List (Nat × Blk)) (D : Nat → Blk), (∀ x ∈ l, ∃ c, c < 256 ∧ x.2 = (fun _ => c) ∧ fs x.1 c = true) → (∃ c, c < 256 ∧ D k = (fun _ => c) ∧ fs k c = true) → ∃ c, c < 256 ∧ l.foldl upd D k = (fun _ => c) ∧ fs k c = true := by
    intro l
    induction l with
    | nil => intro D _ hD; exact hD
    | cons x l ih =>
      intro D hl hD
      refine ih _ (fun y hy => hl y (List.mem_cons_of_mem _ hy)) ?_
      unfold upd
      by_cases e : k = x.1
      · rw [if_pos e, e]; exact hl x List.mem_cons_self
      · rw [if_neg e]; exact hD
  exact gen _ _ (fun x hx => h.pend x (keptAt_sub f _ _ x hx)) (h.done k hk)

/-! Its memory. -/
structure QMem (w0 v : World) (p : Nat) (S : List Nat) (d : Disk) (n ma cnt : Nat) (mo : Nat → Option Nat) (fs : Nat → Nat → Bool) : Prop where
  plt : Plt v p S 6 d n
  hS : ∀ k ∈ S, w0.heap.size ≤ k
  below : Below w0.heap.size w0 v
  may : BlkT v 50 ma 6 (fun j => .map (mo j))
  hma : w0.heap.size ≤ ma
  maps : ∀ j m, j < 6 → mo j = some m → w0.heap.size ≤ m ∧ ∃ q, q ≤ cnt ∧ MB v m q (fs j)
  inj : ∀ i j m, i < 6 → j < 6 → i ≠ j → mo i = some m → mo j ≠ some m
theorem cells_map {w : World} {b : Nat} {cs : Array Value} {t : TypeId} {fr : Nat × Nat} {es : Array MapEntry} {ck : Nat} (h : w.heap[b]? = some (.cells cs t fr)) (h' : w.heap[b]? = some (.map es ck)) : False := by
  rw [h] at h'
  cases h'
theorem QMem.more {w0 v v' : World} {p : Nat} {S : List Nat} {d : Disk} {n ma cnt : Nat} {mo : Nat → Option Nat} {fs : Nat → Nat → Bool} (h : QMem w0 v p S d n ma cnt mo fs) (b : Below v.heap.size v v') : QMem w0 v' p S d n ma cnt mo fs :=
  ⟨h.plt.below b, h.hS, h.below.trans (b.mono h.below.size), h.may.keep (b.block ma h.may.lt), h.hma, fun j m hj hm => by
    obtain ⟨h1, q, hq, h2⟩ := h.maps j m hj hm
    exact ⟨h1, q, hq, h2.keep (b.block m h2.lt)⟩, h.inj⟩
theorem QMem.step {w0 v v' : World} {p : Nat} {S S' : List Nat} {d d' : Disk} {n n' ma cnt : Nat} {mo : Nat → Option Nat} {fs : Nat → Nat → Bool} (h : QMem w0 v p S d n ma cnt mo fs) (hp : Plt v' p S' 6 d' n') (t : Step S S' v v') : QMem w0 v' p S' d' n' ma cnt mo fs := by
  have hB := Below.step h.below t h.hS h.below.size
  refine ⟨hp, hB.2, hB.1, h.may.keep ?_, h.hma, fun j m hj hm => ?_, h.inj⟩
  · obtain ⟨cs, hb, _⟩ := h.may
    exact t.turn.block ma (heap_lt hb) (h.plt.notMem hb (by decide) (by decide) (by decide))
  · obtain ⟨h1, q, hq, h2⟩ := h.maps j m hj hm
    obtain ⟨es, ck, hb⟩ := h2.block
    refine ⟨h1, q, hq, h2.keep (t.turn.block m h2.lt (fun hm => ?_))⟩
    obtain ⟨cs, ty, hc, _⟩ := h.plt.type hm
    exact cells_map hc hb
/-- A cell of a block that is none of the disk's is put. -/
theorem QMem.putCell {w0 v : World} {p : Nat} {S : List Nat} {d : Disk} {n ma cnt g o : Nat} {mo : Nat → Option Nat} {fs : Nat → Nat → Bool} {cs : Array Value} {t : TypeId} {fr : Nat × Nat} {u : Value} (h : QMem w0 v p S d n ma cnt mo fs) (hg : v.heap[g]? = some (.cells cs t fr)) (h0 : t ≠ 5) (h1 : t ≠ 59) (h2 : t ≠ 26) (h3 : t ≠ 63) (hB : w0.heap.size ≤ g) (hne : g ≠ ma) : QMem w0 (v.setCell ⟨g, o, none⟩ u) p S d n ma cnt mo fs := by
  refine ⟨h.plt.same ⟨bytes_far hg h0, fun i hi => set_other (by rintro rfl; exact h.plt.notMem hg h1 h2 h3 hi) _ _⟩, h.hS, h.below.setCell (p := ⟨g, o, none⟩) hB _, h.may.keep (set_other (fun e => hne e.symm) _ _), h.hma, fun j m hj hm => ?_, h.inj⟩
  obtain ⟨h1, q, hq, h2⟩ := h.maps j m hj hm
  obtain ⟨es, ck, hb⟩ := h2.block
  exact ⟨h1, q, hq, h2.keep (set_other (by rintro rfl; exact cells_map hg hb) _ _)⟩
/-- A set is put into. -/
theorem QMem.putMap {w0 v v' : World} {p : Nat} {S : List Nat} {d : Disk} {n ma cnt k m : Nat} {mo : Nat → Option Nat} {fs : Nat → Nat → Bool} {g : Nat → Bool} {q : Nat} (h : QMem w0 v p S d n ma cnt mo fs) (hk : k < 6) (hm : mo k = some m) (hq : q ≤ cnt + 1) (hb : MB v' m q g) (gr : v.grownBy v' (some m)) : QMem w0 v' p S d n ma (cnt + 1) mo (fun j => if j = k then g else fs j) := by
  obtain ⟨hmB, q0, hq0, hmb⟩ := h.maps k m hk hm
  obtain ⟨es, ck, hmm⟩ := hmb.block
  have hcell : ∀ (i : Nat) (cs : Array Value) (t : TypeId) (fr : Nat × Nat), v.heap[i]? = some (Obj.cells cs t fr) → v'.heap[i]? = v.heap[i]? := fun i cs t fr hi => gr.block i (heap_lt hi) (fun e => by injection e with e; subst e; exact cells_map hi hmm)
  refine ⟨h.plt.same ⟨fun i cs hi => hcell i cs _ _ hi, fun i hi => ?_⟩, h.hS, h.below.grown gr h.below.size (fun i hi => by cases hi; exact hmB), h.may.keep ?_, h.hma, fun j m' hj hm' => ?_, h.inj⟩
  · obtain ⟨cs, t, hc, _⟩ := h.plt.type hi
    exact hcell i cs _ _ hc
  · obtain ⟨cs, hc, _⟩ := h.may
    exact hcell ma cs _ _ hc
  · obtain ⟨a1, q', a2, a3⟩ := h.maps j m' hj hm'
    try dsimp only
    by_cases e : j = k
    · subst e
      rw [hm] at hm'
      cases hm'
      rw [if_pos rfl]
      exact ⟨a1, q, hq, hb⟩
    · rw [if_neg e]
      refine ⟨a1, q', by omega, a3.keep (gr.block m' a3.lt (fun h' => ?_))⟩
      injection h' with h'
      subst h'
      exact h.inj j k _ hj hk e hm' hm
/-- A new set is put. -/
theorem QMem.newMap {w0 v v' : World} {p : Nat} {S : List Nat} {d : Disk} {n ma cnt k : Nat} {mo : Nat → Option Nat} {fs : Nat → Nat → Bool} {g : Nat → Bool} {q : Nat} (h : QMem w0 v p S d n ma cnt mo fs) (hk : k < 6) (hq : q ≤ cnt) (hb : MB v' v.heap.size q g) (gr : (v.alloc (.map #[] 0)).grownBy v' (some v.heap.size)) : QMem w0 (v'.setCell ⟨ma, k, none⟩ (.map (some v.heap.size))) p S d n ma cnt (fun j => if j = k then some v.heap.size else mo j) (fun j => if j = k then g else fs j) := by
  have hB : Below v.heap.size v v' := Below.grown ((Below.refl _ _).alloc (Nat.le_refl _) _) gr (by simp) (fun i hi => by cases hi; exact Nat.le_refl _)
  have h' := h.more hB
  obtain ⟨cs, hc, _⟩ := h'.may
  have hml : ma < v.heap.size := h.may.lt
  refine ⟨h'.plt.same ⟨bytes_far hc (by decide), fun i hi => set_other (by rintro rfl; exact h'.plt.notMem hc (by decide) (by decide) (by decide) hi) _ _⟩, h'.hS, h'.below.setCell (p := ⟨ma, k, none⟩) h'.hma _, (h'.may.put hk).congr (fun j _ => by (try dsimp only); split <;> rfl), h'.hma, fun j m hj hm => ?_, fun i j m hi hj hne hmi hmj => ?_⟩
  · try dsimp only at hm ⊢
    by_cases e : j = k
    · subst e
      rw [if_pos rfl] at hm ⊢
      cases hm
      exact ⟨h.below.size, q, hq, hb.keep (set_other (by omega) _ _)⟩
    · rw [if_neg e] at hm ⊢
      obtain ⟨a1, q', a2, a3⟩ := h'.maps j m hj hm
      obtain ⟨es, ck, hmm⟩ := a3.block
      exact ⟨a1, q', a2, a3.keep (set_other (by rintro rfl; exact cells_map hc hmm) _ _)⟩
  · try dsimp only at hmi hmj
    have old : ∀ j m, j < 6 → mo j = some m → m ≠ v.heap.size := fun j m hj hm => by
      obtain ⟨_, q', _, a3⟩ := h.maps j m hj hm
      have := a3.lt
      omega
    by_cases e : i = k
    · by_cases e' : j = k
      · omega
      · rw [if_pos e] at hmi
        rw [if_neg e'] at hmj
        cases hmi
        exact old j _ hj hmj rfl
    · rw [if_neg e] at hmi
      by_cases e' : j = k
      · rw [if_pos e'] at hmj
        cases hmj
        exact old i _ hi hmi rfl
      · rw [if_neg e'] at hmj
        exact h.inj i j m hi hj hne hmi hmj
structure QL (w0 v : World) (p : Nat) (S : List Nat) (d : Disk) (n ma la cnt : Nat) (mo : Nat → Option Nat) (fs : Nat → Nat → Bool) (last : Nat → Nat) : Prop where
  qm : QMem w0 v p S d n ma cnt mo fs
  last : BlkT v 51 la 6 (fun j => .int .u8 (last j : Nat))
  hla : w0.heap.size ≤ la
  all : ∀ k, k < 6 → ∃ m, mo k = some m
theorem QL.ne {w0 v : World} {p : Nat} {S : List Nat} {d : Disk} {n ma la cnt : Nat} {mo : Nat → Option Nat} {fs : Nat → Nat → Bool} {last : Nat → Nat} (h : QL w0 v p S d n ma la cnt mo fs last) : la ≠ ma := by
  rintro rfl
  obtain ⟨cs, h1, _⟩ := h.last
  obtain ⟨cs', h2, _⟩ := h.qm.may
  rw [h1] at h2
  cases h2
theorem QL.more {w0 v v' : World} {p : Nat} {S : List Nat} {d : Disk} {n ma la cnt : Nat} {mo : Nat → Option Nat} {fs : Nat → Nat → Bool} {last : Nat → Nat} (h : QL w0 v p S d n ma la cnt mo fs last) (b : Below v.heap.size v v') : QL w0 v' p S d n ma la cnt mo fs last :=
  ⟨h.qm.more b, h.last.keep (b.block la h.last.lt), h.hla, h.all⟩
theorem QL.step {w0 v v' : World} {p : Nat} {S S' : List Nat} {d d' : Disk} {n n' ma la cnt : Nat} {mo : Nat → Option Nat} {fs : Nat → Nat → Bool} {last : Nat → Nat} (h : QL w0 v p S d n ma la cnt mo fs last) (hp : Plt v' p S' 6 d' n') (t : Step S S' v v') : QL w0 v' p S' d' n' ma la cnt mo fs last := by
  refine ⟨h.qm.step hp t, h.last.keep ?_, h.hla, h.all⟩
  obtain ⟨cs, hb, _⟩ := h.last
  exact t.turn.block la (heap_lt hb) (h.qm.plt.notMem hb (by decide) (by decide) (by decide))
theorem QL.putMap {w0 v v' : World} {p : Nat} {S : List Nat} {d : Disk} {n ma la cnt k m : Nat} {mo : Nat → Option Nat} {fs : Nat → Nat → Bool} {last : Nat → Nat} {g : Nat → Bool} {q : Nat} (h : QL w0 v p S d n ma la cnt mo fs last) (hk : k < 6) (hm : mo k = some m) (hq : q ≤ cnt + 1) (hb : MB v' m q g) (gr : v.grownBy v' (some m)) : QL w0 v' p S d n ma la (cnt + 1) mo (fun j => if j = k then g else fs j) last := by
  refine ⟨h.qm.putMap hk hm hq hb gr, h.last.keep ?_, h.hla, h.all⟩
  obtain ⟨_, q0, _, hmb⟩ := h.qm.maps k m hk hm
  obtain ⟨es, ck, hmm⟩ := hmb.block
  obtain ⟨cs, hc, _⟩ := h.last
  exact gr.block la (heap_lt hc) (fun e => by injection e with e; subst e; exact cells_map hc hmm)
theorem QL.newMap {w0 v v' : World} {p : Nat} {S : List Nat} {d : Disk} {n ma la cnt k : Nat} {mo : Nat → Option Nat} {fs : Nat → Nat → Bool} {last : Nat → Nat} {g : Nat → Bool} {q : Nat} (h : QL w0 v p S d n ma la cnt mo fs last) (hk : k < 6) (hq : q ≤ cnt) (hb : MB v' v.heap.size q g) (gr : (v.alloc (.map #[] 0)).grownBy v' (some v.heap.size)) : QL w0 (v'.setCell ⟨ma, k, none⟩ (.map (some v.heap.size))) p S d n ma la cnt (fun j => if j = k then some v.heap.size else mo j) (fun j => if j = k then g else fs j) last := by
  have hB : Below v.heap.size v v' := Below.grown ((Below.refl _ _).alloc (Nat.le_refl _) _) gr (by simp) (fun i hi => by cases hi; exact Nat.le_refl _)
  refine ⟨h.qm.newMap hk hq hb gr, (h.last.keep (hB.block la h.last.lt)).keep (set_other h.ne _ _), h.hla, fun j hj => ?_⟩
  try dsimp only
  by_cases e : j = k
  · rw [if_pos e]; exact ⟨_, rfl⟩
  · rw [if_neg e]; exact h.all j hj
theorem QL.putLast {w0 v : World} {p : Nat} {S : List Nat} {d : Disk} {n ma la cnt k x : Nat} {mo : Nat → Option Nat} {fs : Nat → Nat → Bool} {last : Nat → Nat} (h : QL w0 v p S d n ma la cnt mo fs last) (hk : k < 6) : QL w0 (v.setCell ⟨la, k, none⟩ (.int .u8 (x : Nat))) p S d n ma la cnt mo fs (fun j => if j = k then x else last j) := by
  obtain ⟨cs, hb, _⟩ := h.last
  exact ⟨h.qm.putCell hb (by decide) (by decide) (by decide) (by decide) h.hla h.ne, (h.last.put hk).congr (fun j _ => by (try dsimp only); split <;> rfl), h.hla, h.all⟩
def QRel1 (w : World) (p : Nat) (S : List Nat) (ma i : Nat) (v : World) : Prop := ∃ mo fs, QMem w v p S Disk.blank 0 ma 1 mo fs ∧ ∀ k, k < i → fs k 0 = true ∧ ∃ m, mo k = some m
def QRel2 (w : World) (p ma la i : Nat) (v : World) : Prop := ∃ S d mo fs last, QL w v p S d i ma la (1 + i) mo fs last ∧ KInv d fs last
def QRel3 (w : World) (p : Nat) (S : List Nat) (d : Disk) (n ma la cnt : Nat) (last : Nat → Nat) (i : Nat) (v : World) : Prop := ∃ mo fs, QL w v p S d n ma la cnt mo fs last ∧ ∀ k, k < i → fs k (last k) = true
end Go.Proofs.Ytohmoakahfpjpaa
