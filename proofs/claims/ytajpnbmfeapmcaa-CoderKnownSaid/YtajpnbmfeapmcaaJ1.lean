import Derived.Test.YtajpnbmfeapmcaaR
import Derived.Test.YtajpnbmfeapmcaaL
import Derived.Deep.Slices
import Derived.Deep.RegionHeld3
namespace Go.Proofs.Ytajpnbmfeapmcaa
open Go.RowKit Go.Sort
set_option maxRecDepth 100000
set_option maxHeartbeats 1000000

/-- append to a row that is there, of as many as may be (none, too), as a step of a region. -/
theorem step_append_any {P : Program} (w : World) {ops : Array Oper} {o : Oper} {a : Act} {K : Act → World → Prop} {Q : Exit → Act → World → Prop} {E : Prop} (hgd : o.guard = none) (s x : Operand) (t : TypeId)
    (ho : o.op = .call { callee := .builtin .append, args := #[s, x], argTypes := #[t, t] })
    (base : Nat) (e : TypeId) (i : TypeInfo) (z : Value) (size bytes : Nat) (ht : P.underlying t = some (.slice e)) (hi : P.info? e = some i) (hz : i.zero = some z)
    (hsize : i.size = size) (hby : i.bytes = bytes) (hzs : z.cells.size = size) (hsz : 0 < size)
    (g0 n cap0 : Nat) (xs : List Value) (hs : a.eval s = .slice (some ⟨g0, 0, none⟩) n cap0) (hown : w.ownsRow base e size (.slice (some ⟨g0, 0, none⟩) n cap0) n xs)
    (ad : Addr) (m c : Nat) (news : List Value) (hx : a.eval x = .slice (some ad) m c) (hl : news.length = m * size) (hnews : ∀ j u, news[j]? = some u → w.cell? (ad.add j) = some u) (h1 : ∀ u ∈ news, u.oneCell' = true)
    (h63 : n + m ≤ maxLen) (hbytes : (n + m) * bytes ≤ 140737488355328) (hbase : base ≤ w.heap.size)
    (h : ∀ g cap w', w'.ownsRow base e size (.slice (some ⟨g, 0, none⟩) (n + m) cap) (n + m) (xs ++ news) → w.grownBy w' (some g0) → (g = g0 ∨ g = w.heap.size) → g < w'.heap.size → K (a.put o.dst (.slice (some ⟨g, 0, none⟩) (n + m) cap)) w') :
    if Region.wanted o (yielded ops a.tmps) = true then Oper.wp P o a w K Q else E := by
  have hw : Region.wanted o (yielded ops a.tmps) = true := by simp [Region.wanted, hgd]
  rw [if_pos hw]
  by_cases hfit : n + m ≤ cap0
  · obtain ⟨w', hrun, r1, r2⟩ := run_append_fits (P := P) w base t o.type e i size ht hi hsize g0 n cap0 xs hown ad m c news hl hnews h1 hfit
    unfold Oper.wp
    simp [execOp, ho, resolve, invoke, builtin, hs, hx, hrun, Result.andThen]
    exact h g0 cap0 w' r1 r2 (Or.inl rfl) (by
      have := r1.lt g0 rfl
      exact this.2)
  · have hle : n ≤ cap0 := by
      rcases hown.2 with ⟨h0, _⟩ | ⟨g, cap, cur, e1, _, _, h3, _⟩
      · cases h0
      · cases e1; exact h3
    refine wp_append_lies w s x t ho base e i z size bytes ht hi hz hsize hby hzs hsz _ n xs hs hown ad m c news hx hl hnews h1 (by omega) h63 hbytes hbase w.heap.size rfl (fun g cap w' h2 h3 h4 h5 => h g cap w' h2 h3 ?_ h5)
    rcases h4 with h4 | h4
    · left; simp [Value.ownBlock] at h4; exact h4.symm
    · right; exact h4

theorem own_empty {w : World} {base e : Nat} {t : TypeId} (hb : w.heap[e]? = some (.cells #[] t (0, 0))) (hB : base ≤ e) : w.ownsRow base t 1 (.slice (some ⟨e, 0, none⟩) 0 0) 0 [] :=
  ⟨rfl, Or.inr ⟨e, 0, #[], rfl, hB, hb, Nat.le_refl _, by unfold maxLen; omega, rfl, rfl⟩⟩

/-- Own rows under way, whose caps are what they are. -/
structure RowsK (w : World) (B : Nat) (v : Value) (n c : Nat) (G : Nat → Nat) (C : Nat → Nat) (A : Mx) : Prop where
  own : ∃ xs, w.ownsRow B 29 1 v n xs ∧ ∀ i, i < n → xs[i]? = some (.slice (some ⟨G i, 0, none⟩) c (C i))
  row : ∀ i, i < n → Row8 w (G i) c (A i)
  base : ∀ i, i < n → B ≤ G i ∧ G i < w.heap.size
  apart : ∀ i, i < n → v.ownBlock ≠ some (G i)
theorem RowsK.start (w : World) (B c : Nat) (G C : Nat → Nat) (A : Mx) : RowsK w B (.slice none 0 0) 0 c G C A :=
  ⟨⟨[], World.ownsRow_nil _ _ _ _, fun _ hi => absurd hi (Nat.not_lt_zero _)⟩, fun _ hi => absurd hi (Nat.not_lt_zero _), fun _ hi => absurd hi (Nat.not_lt_zero _), fun _ hi => absurd hi (Nat.not_lt_zero _)⟩
theorem RowsK.keep {w w' : World} {B : Nat} {v : Value} {n c : Nat} {G C : Nat → Nat} {A : Mx} (h : RowsK w B v n c G C A) (b : Below w.heap.size w w') : RowsK w' B v n c G C A := by
  obtain ⟨⟨xs, hx, hg⟩, hr, hb, ha⟩ := h
  refine ⟨⟨xs, ?_, hg⟩, fun i hi' => (hr i hi').keep (b.block _ (hb i hi').2), fun i hi' => ⟨(hb i hi').1, Nat.lt_of_lt_of_le (hb i hi').2 b.size⟩, ha⟩
  obtain ⟨h1, h2⟩ := hx
  refine ⟨h1, ?_⟩
  rcases h2 with h2 | ⟨g, cap, cur, hv, hg', hh, r⟩
  · exact Or.inl h2
  · exact Or.inr ⟨g, cap, cur, hv, hg', (b.block _ (heap_lt hh)).trans hh, r⟩
theorem RowsK.add {w w' : World} {B g cap : Nat} {v v' : Value} {n c : Nat} {G C : Nat → Nat} {A : Mx} {xs : List Value} (h : RowsK w B v n c G C A) (hx : w.ownsRow B 29 1 v n xs) (hxs : ∀ i, i < n → xs[i]? = some (.slice (some ⟨G i, 0, none⟩) c (C i)))
    (hg : Row8 w g c (A n)) (hgB : B ≤ g) (hgl : g < w.heap.size) (hgv : v.ownBlock ≠ some g)
    (own : w'.ownsRow B 29 1 v' (n + 1) (xs ++ [.slice (some ⟨g, 0, none⟩) c cap])) (gr : w.grownBy w' v.ownBlock) (hv : v'.ownBlock = v.ownBlock ∨ ∃ b, v'.ownBlock = some b ∧ w.heap.size ≤ b) :
    RowsK w' B v' (n + 1) c (fun i => if i = n then g else G i) (fun i => if i = n then cap else C i) A := by
  have hl : xs.length = n := by have := hx.1; omega
  have far : ∀ k, k < w.heap.size → v.ownBlock ≠ some k → w'.heap[k]? = w.heap[k]? ∧ v'.ownBlock ≠ some k := fun k hk hn => ⟨gr.block k hk (fun e => hn e.symm), fun e => by
    rcases hv with hv | ⟨b, hv, hb⟩
    · exact hn (hv ▸ e)
    · rw [hv] at e
      injection e with e
      omega⟩
  refine ⟨⟨_, own, fun i hi => ?_⟩, fun i hi => ?_, fun i hi => ?_, fun i hi => ?_⟩
  · by_cases e : i = n
    · rw [if_pos e, if_pos e, e, List.getElem?_append_right (by omega), hl, Nat.sub_self]; rfl
    · rw [if_neg e, if_neg e, List.getElem?_append_left (by omega)]; exact hxs i (by omega)
  · by_cases e : i = n
    · subst e; rw [if_pos rfl]; exact hg.keep (far g hgl hgv).1
    · rw [if_neg e]; exact (h.row i (by omega)).keep (far _ (h.base i (by omega)).2 (h.apart i (by omega))).1
  · by_cases e : i = n
    · rw [if_pos e]; exact ⟨hgB, Nat.lt_of_lt_of_le hgl gr.size⟩
    · rw [if_neg e]; exact ⟨(h.base i (by omega)).1, Nat.lt_of_lt_of_le (h.base i (by omega)).2 gr.size⟩
  · by_cases e : i = n
    · rw [if_pos e]; exact (far g hgl hgv).2
    · rw [if_neg e]; exact (far _ (h.base i (by omega)).2 (h.apart i (by omega))).2
theorem own_keep {w w' : World} {B : Nat} {e : TypeId} {v : Value} {n : Nat} {xs : List Value} (h : w.ownsRow B e 1 v n xs) (b : Below w.heap.size w w') : w'.ownsRow B e 1 v n xs := by
  obtain ⟨h1, h2⟩ := h
  refine ⟨h1, ?_⟩
  rcases h2 with h2 | ⟨g, cap, cur, hv, hg', hh, r⟩
  · exact Or.inl h2
  · exact Or.inr ⟨g, cap, cur, hv, hg', (b.block _ (heap_lt hh)).trans hh, r⟩
theorem own_cap {w : World} {B g n cap : Nat} {e : TypeId} {xs : List Value} (h : w.ownsRow B e 1 (.slice (some ⟨g, 0, none⟩) n cap) n xs) : n ≤ cap := by
  rcases h.2 with ⟨h0, _⟩ | ⟨g', cap', cur, e1, _, _, h3, _⟩
  · cases h0
  · cases e1; exact h3
/-- Square rows, each wherever it lies, none longer than its room. -/
def RawC (w : World) (o : Option Addr) (n : Nat) (A : Mx) : Prop :=
  ∀ i, i < n → ∃ b ao g q cap, o = some ⟨b, ao, none⟩ ∧ b < w.heap.size ∧ g < w.heap.size ∧ w.cell? ⟨b, ao + i, none⟩ = some (.slice (some ⟨g, q, none⟩) n cap) ∧ n ≤ cap ∧ ∀ j, j < n → w.cell? ⟨g, q + j, none⟩ = some (.int .u8 (A i j : Nat))
theorem RawC.keep {w w' : World} {o : Option Addr} {n : Nat} {A : Mx} (h : RawC w o n A) (b : Below w.heap.size w w') : RawC w' o n A := fun i hi => by
  obtain ⟨b1, ao, g, q, cap, e, hb, hg, hc, hcap, hx⟩ := h i hi
  exact ⟨b1, ao, g, q, cap, e, Nat.lt_of_lt_of_le hb b.size, Nat.lt_of_lt_of_le hg b.size, (b.cell (p := ⟨b1, ao + i, none⟩) hb).trans hc, hcap, fun j hj => (b.cell (p := ⟨g, q + j, none⟩) hg).trans (hx j hj)⟩
theorem RawC.raw {w : World} {o : Option Addr} {n : Nat} {A : Mx} (h : RawC w o n A) : RawIn w o (rowsOf n n A) := fun i xs hx => by
  obtain ⟨hi, rfl⟩ := rowsOf_row hx
  obtain ⟨b, ao, g, q, cap, e, hb, hg, hc, _, hv⟩ := h i hi
  refine ⟨b, ao, e, hb, some ⟨g, q, none⟩, cap, by simpa using hc, fun j x hj => ?_⟩
  have hjn : j < n := by have := (List.getElem?_eq_some_iff.1 hj).1; simpa using this
  simp [hjn] at hj
  subst hj
  exact ⟨g, q, rfl, hg, hv j hjn⟩
theorem RowsK.mat {w : World} {B n : Nat} {v : Value} {G C : Nat → Nat} {A : Mx} (h : RowsK w B v n n G C A) (hC : ∀ i, i < n → n ≤ C i) : ∃ o cap, v = .slice o n cap ∧ RawC w o n A := by
  obtain ⟨xs, hx, hg⟩ := h.own
  rcases hx.2 with ⟨rfl, rfl⟩ | ⟨g, cap, cur, rfl, _, hblk, _⟩
  · exact ⟨none, 0, rfl, fun i hi => absurd hi (Nat.not_lt_zero _)⟩
  · refine ⟨_, cap, rfl, fun i hi => ⟨g, 0, G i, 0, C i, rfl, heap_lt hblk, (h.base i hi).2, ?_, hC i hi, fun j hj => by rw [Nat.zero_add]; exact (h.row i hi).cell j hj⟩⟩
    have := hx.cells (g := g) rfl i _ (hg i hi)
    rw [addr_add] at this
    exact this
/-- A piece of a row. -/
def cutL (f : Nat → Nat) (a m : Nat) : List Value := (List.range m).map (fun j => Value.int .u8 (f (a + j) : Nat))
theorem cutL_len (f : Nat → Nat) (a m : Nat) : (cutL f a m).length = m := by simp [cutL]
theorem cutL_get {f : Nat → Nat} {a m j : Nat} (h : j < m) : (cutL f a m)[j]? = some (.int .u8 (f (a + j) : Nat)) := by simp [cutL, h]
theorem cutL_one {f : Nat → Nat} {a m : Nat} : ∀ u ∈ cutL f a m, u.oneCell' = true := by
  intro u hu
  simp [cutL] at hu
  obtain ⟨j, _, rfl⟩ := hu
  rfl
theorem cutL_cells {w : World} {g q n a m : Nat} {f : Nat → Nat} (h : ∀ j, j < n → w.cell? ⟨g, q + j, none⟩ = some (.int .u8 (f j : Nat))) (ham : a + m ≤ n) : ∀ j u, (cutL f a m)[j]? = some u → w.cell? ((⟨g, q + a, none⟩ : Addr).add j) = some u := by
  intro j u hu
  have hj : j < m := by have := (List.getElem?_eq_some_iff.1 hu).1; rwa [cutL_len] at this
  rw [cutL_get hj] at hu
  cases hu
  rw [addr_add, show q + a + j = q + (a + j) by omega]
  exact h (a + j) (by omega)
theorem cutL_none (f : Nat → Nat) (a : Nat) : cutL f a 0 = [] := rfl
end Go.Proofs.Ytajpnbmfeapmcaa
