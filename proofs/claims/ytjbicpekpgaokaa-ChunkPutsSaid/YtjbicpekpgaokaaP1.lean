import Derived.Test.YtjbicpekpgaokaaR8
import Derived.Test.YtjbicpekpgaokaaChF
import Derived.Test.YtjbicpekpgaokaaQA
namespace Go.Proofs.Ytjbicpekpgaokaa
open Go.RowKit Go.Sort
set_option maxRecDepth 100000
set_option maxHeartbeats 400000

theorem CD.far2 {d : Disk} {M : Nat → Option Pc} (h : CD d M) {x : Pc} (hx : x.Ok) (k : Nat) : ∃ M', CD (d.write k (pcS x)) M' := by
  by_cases hk : atP x = k
  · exact ⟨_, by rw [← hk]; exact h.put hx⟩
  · refine ⟨updM M k none, fun i j hj => ?_, fun i hi => ?_⟩
    · rw [now_write]
      unfold upd
      split
      · exact pcS_lt hx j
      · exact h.bd i j hj
    · rw [now_write]
      unfold upd updM
      dsimp only
      by_cases e : i = k
      · rw [if_pos e, if_pos e]
        subst e
        exact Slot.of_far hx (fun _ _ => rfl) (fun hh => hk (by unfold atP; omega))
      · rw [if_neg e, if_neg e]
        exact h.slot i hi
theorem keepR {v v' : World} {p r : Nat} {S R : List Nat} {N N2 : Nat} {d d2 : Disk} {n n2 : Nat} (hp : Plt v p S N d n) (hr : RPlt v r R N2 d2 n2) (t : Turn S v v') : RPlt v' r R N2 d2 n2 := hr.keep (fun k hk => t.block k (hr.lt k hk) (by
  obtain ⟨cs, ty, hc, ht⟩ := hr.type hk
  exact hp.notMem hc (by rcases ht with rfl | rfl | rfl <;> decide) (by rcases ht with rfl | rfl | rfl <;> decide) (by rcases ht with rfl | rfl | rfl <;> decide)))
theorem keepP {v v' : World} {p r : Nat} {S R : List Nat} {N N2 : Nat} {d d2 : Disk} {n n2 : Nat} (hr : RPlt v r R N2 d2 n2) (hp : Plt v p S N d n) (t : Turn R v v') : Plt v' p S N d n := hp.same ⟨fun g cs hg => t.block g (heap_lt hg) (hr.notMem hg (by decide) (by decide) (by decide)), fun k hk => t.block k (hp.lt k hk) (by
  obtain ⟨cs, ty, hc, ht⟩ := hp.type hk
  exact hr.notMem hc (by rcases ht with rfl | rfl | rfl <;> decide) (by rcases ht with rfl | rfl | rfl <;> decide) (by rcases ht with rfl | rfl | rfl <;> decide))⟩
/-- Both disks. -/
def PuSt (w0 : World) (p r i : Nat) (v : World) : Prop := ∃ S R d n1 n2 M, Plt v p S 96 d n1 ∧ RPlt v r R 96 d n2 ∧ (∀ k ∈ S, w0.heap.size ≤ k) ∧ (∀ k ∈ R, w0.heap.size ≤ k) ∧ CD d M ∧ Below w0.heap.size w0 v ∧ n1 ≤ i ∧ n2 ≤ i
theorem PuSt.below {w0 v v' : World} {p r i : Nat} (h : PuSt w0 p r i v) (b : Below v.heap.size v v') : PuSt w0 p r i v' := by
  obtain ⟨S, R, d, n1, n2, M, h1, h2, h3, h4, h5, h6, h7, h8⟩ := h
  exact ⟨S, R, d, n1, n2, M, h1.below b, h2.below b, h3, h4, h5, h6.trans (b.mono h6.size), h7, h8⟩
/-- Both have done the same. -/
theorem PuSt.both {w0 v v1 v2 v3 : World} {p r i : Nat} {S R S' R' : List Nat} {d d' : Disk} {n1 n2 m1 m2 : Nat} {M' : Nat → Option Pc} (hp : Plt v p S 96 d n1) (hr : RPlt v r R 96 d n2) (hS : ∀ k ∈ S, w0.heap.size ≤ k) (hR : ∀ k ∈ R, w0.heap.size ≤ k) (hb : Below w0.heap.size w0 v)
    (hp1 : Plt v1 p S' 96 d' m1) (st1 : Step S S' v v1) (b12 : Below v1.heap.size v1 v2) (hr3 : RPlt v3 r R' 96 d' m2) (st3 : Step R R' v2 v3) (hcd : CD d' M') (h1 : m1 ≤ i) (h2 : m2 ≤ i) : PuSt w0 p r i v3 := by
  have x1 := Below.step hb st1 hS hb.size
  have b2 : Below w0.heap.size w0 v2 := x1.1.trans (b12.mono x1.1.size)
  have hr2 : RPlt v2 r R 96 d n2 := (keepR hp hr st1.turn).below b12
  have x3 := Below.step b2 st3 hR b2.size
  exact ⟨S', R', d', m1, m2, M', keepP hr2 (hp1.below b12) st3.turn, hr3, x1.2, x3.2, hcd, x3.1, h1, h2⟩
theorem PuSt.both' {w0 v v1 v2 v3 : World} {p r i : Nat} {S R S' R' : List Nat} {d d' : Disk} {n1 n2 m1 m2 : Nat} {M' : Nat → Option Pc} (hp : Plt v p S 96 d n1) (hr : RPlt v r R 96 d n2) (hS : ∀ k ∈ S, w0.heap.size ≤ k) (hR : ∀ k ∈ R, w0.heap.size ≤ k) (hb : Below w0.heap.size w0 v)
    (hr1 : RPlt v1 r R' 96 d' m2) (st1 : Step R R' v v1) (b12 : Below v1.heap.size v1 v2) (hp3 : Plt v3 p S' 96 d' m1) (st3 : Step S S' v2 v3) (hcd : CD d' M') (h1 : m1 ≤ i) (h2 : m2 ≤ i) : PuSt w0 p r i v3 := by
  have x1 := Below.step hb st1 hR hb.size
  have b2 : Below w0.heap.size w0 v2 := x1.1.trans (b12.mono x1.1.size)
  have hp2 : Plt v2 p S 96 d n1 := (keepP hr hp st1.turn).below b12
  have x3 := Below.step b2 st3 hS b2.size
  exact ⟨S', R', d', m1, m2, M', hp3, keepR hp2 (hr1.below b12) st3.turn, x3.2, x1.2, hcd, x3.1, h1, h2⟩
theorem rpiecesD {w : World} {r : Nat} {S : List Nat} {N : Nat} {d : Disk} {nw : Nat} {M : Nat → Option Pc} (h : RPlt w r S N d nw) (hd : CD d M) (hN : 80 ≤ N) (hnw : nw ≤ 1000000000) (s : Nat) (hs : s < 40) :
    Calls Try.prog 45 #[.pointer (some ⟨r, 0, none⟩), .int .i64 (s : Int)] w (CGetRet (two (M (2 * s)) (M (2 * s + 1))) w) := by
  obtain ⟨ha, hb⟩ := hd.at hs
  refine (rpieces h hd.bd hN hnw s hs (fun k => if k = 0 then (M (2 * s)).isSome else (M (2 * s + 1)).isSome) (fun k hk => ?_)).mono ?_
  · match k, hk with
    | 0, _ => exact ha.has
    | 1, _ => exact hb.has
  · rintro e w' ⟨v, rfl, hp, hbl⟩
    obtain ⟨e1, e2⟩ := two_alike ha hb (fun k => rdP (d.now (2 * s + k))) rfl rfl (fun k => if k = 0 then (M (2 * s)).isSome else (M (2 * s + 1)).isSome) rfl rfl
    exact ⟨v, rfl, hp.alike e1 e2, hbl⟩
theorem srt_mem {l : List Pc} {p : Pc} (h : p ∈ srt l) : p ∈ l := by
  unfold srt at h
  split at h
  · split at h
    · simp at h ⊢; exact h.symm
    · exact h
  · exact h
theorem two_ok {d : Disk} {M : Nat → Option Pc} (hd : CD d M) {s : Nat} (hs : s < 40) : ∀ p ∈ two (M (2 * s)) (M (2 * s + 1)), ∀ j, j < 32 → p.D j < 256 := by
  intro p hp
  obtain ⟨ha, hb⟩ := hd.at hs
  have h1 := srt_mem hp
  rw [List.mem_append] at h1
  rcases h1 with h1 | h1
  · have e : M (2 * s) = some p := by simpa [Option.mem_toList] using h1
    rw [e] at ha
    exact ha.1.2.2.2.2
  · have e : M (2 * s + 1) = some p := by simpa [Option.mem_toList] using h1
    rw [e] at hb
    exact hb.1.2.2.2.2
theorem two_le (a b : Option Pc) : (two a b).length ≤ 2 := by
  unfold two
  have key : ∀ l : List Pc, (srt l).length = l.length := fun l => by
    unfold srt
    split
    · split <;> rfl
    · rfl
  have := key (a.toList ++ b.toList)
  rw [this, List.length_append]
  cases a <;> cases b <;> simp
/-- One stripe, told by both. -/
theorem both_tell {w : World} {p r : Nat} {S R : List Nat} {d : Disk} {n1 n2 : Nat} {M : Nat → Option Pc} (hp : Plt w p S 96 d n1) (hr : RPlt w r R 96 d n2) (hd : CD d M) (hn : n2 ≤ 1000000000) (k : Nat) (hk : k < 8) :
    ∃ l : List Pc, l.length ≤ 1000 ∧ (∀ p ∈ l, ∀ j, j < 32 → p.D j < 256) ∧ Calls Try.prog 44 #[.pointer (some ⟨p, 0, none⟩), .int .i64 ((k : Int) - 1)] w (CGetRet l w) ∧
      ∀ w2, Below w.heap.size w w2 → Calls Try.prog 45 #[.pointer (some ⟨r, 0, none⟩), .int .i64 ((k : Int) - 1)] w2 (CGetRet l w2) := by
  by_cases h0 : k = 0
  · subst h0
    have e : ((0 : Nat) : Int) - 1 = -1 := rfl
    rw [e]
    refine ⟨[], by simp, fun p h => by simp at h, (cget_out hp (-1) (by omega) (by omega) (fun i h1 h2 => by omega)).mono ?_, fun w2 b => (rpieces_out (-1) (by omega)).mono ?_⟩
    · rintro e w' ⟨rfl, hb⟩
      exact ⟨_, rfl, Or.inl ⟨rfl, none, 0, rfl⟩, hb⟩
    · rintro e w' ⟨rfl, rfl⟩
      exact ⟨_, rfl, Or.inl ⟨rfl, none, 0, rfl⟩, Below.refl _ _⟩
  · obtain ⟨s, rfl⟩ : ∃ s, k = s + 1 := ⟨k - 1, by omega⟩
    have e : ((s + 1 : Nat) : Int) - 1 = (s : Int) := by omega
    rw [e]
    exact ⟨_, by unfold two; have := two_le (M (2 * s)) (M (2 * s + 1)); unfold two at this; omega, two_ok hd (by omega), cgetD hp hd (by omega) s (by omega), fun w2 b => rpiecesD (hr.below b) hd (by omega) hn s (by omega)⟩
end Go.Proofs.Ytjbicpekpgaokaa
