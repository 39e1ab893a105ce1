import Derived.Test.YtajpnbmfeapmcaaG
import Derived.OwnWalk
import Derived.ArgAppend
namespace Go.Proofs.Ytajpnbmfeapmcaa
open Go.RowKit Go.Sort
set_option maxRecDepth 100000
set_option maxHeartbeats 1000000

theorem heap_lt {w : World} {b : Nat} {o : Obj} (h : w.heap[b]? = some o) : b < w.heap.size := by
  by_cases hb : b < w.heap.size
  · exact hb
  · rw [Array.getElem?_eq_none (by omega)] at h; cases h

theorem grownBy_weaker {w w' : World} (h : w.grownBy w' none) (r : Option Nat) : w.grownBy w' r := ⟨h.os, h.tape, h.output, h.size, fun k hk _ => h.block k hk (by simp)⟩

/-- 'append' to a row of the call's own: in place, or into a new block. -/
theorem append_mine {P : Program} (w : World) {ops : Array Oper} {rest : List Oper} {o : Oper} {a : Act} {Q : Exit → Act → World → Prop}
    (hg : o.guard = none) (s x : Operand) (t : TypeId) (hop : o.op = Op.call { callee := Callee.builtin Builtin.append, args := #[s, x], argTypes := #[t, t] })
    (base : Nat) (e : TypeId) (i : TypeInfo) (z : Value) (size bytes : Nat) (h1 : P.underlying t = some (.slice e)) (h2 : P.info? e = some i) (h3 : i.zero = some z) (h4 : i.size = size) (h5 : i.bytes = bytes) (h6 : z.cells.size = size) (h7 : 0 < size)
    (v : Value) (n : Nat) (xs : List Value) (hs : a.eval s = v) (hown : w.ownsRow base e size v n xs)
    (ad : Addr) (m c : Nat) (news : List Value) (hx : a.eval x = .slice (some ad) m c) (hn : news.length = m * size) (hc : ∀ j u, news[j]? = some u → w.cell? (ad.add j) = some u) (h1c : ∀ u ∈ news, u.oneCell' = true)
    (b1 : n + m ≤ maxLen) (b2 : (n + m) * bytes ≤ 140737488355328) (hbase : base ≤ w.heap.size) (hm : 0 < m)
    (hK : ∀ v' w', w'.ownsRow base e size v' (n + m) (xs ++ news) → w.grownBy w' v.ownBlock → (v'.ownBlock = v.ownBlock ∨ w'.ownsRow w.heap.size e size v' (n + m) (xs ++ news)) → wpList P ops Q rest (a.put o.dst v') w') :
    wpList P ops Q (o :: rest) a w := by
  have hown' := hown
  obtain ⟨hlen, ⟨rfl, rfl⟩ | ⟨g, cap, cur, rfl, hb, hh, hle, hmax, hsz, htake⟩⟩ := hown
  · refine wpList_append_grows w hg s x t hop e i z size bytes h1 h2 h3 h4 h5 h6 h7 none 0 0 xs hs (fun _ => ⟨rfl, rfl⟩) hlen (fun b hb => by cases hb) ad m c news hx hn hc h1c (by omega) b1 b2 ?_
    intro v' w' r1 r2
    refine hK v' w' ?_ r2 (.inr r1)
    obtain ⟨q1, q2⟩ := r1
    refine ⟨q1, ?_⟩
    rcases q2 with q2 | ⟨g, cap, cur, e1, e2, e3⟩
    · exact .inl q2
    · exact .inr ⟨g, cap, cur, e1, by omega, e3⟩
  · by_cases hfit : n + m ≤ cap
    · refine wpList_append_fits w hg s x t hop base e i size h1 h2 h4 g n cap xs hs hown' ad m c news hx hn hc h1c hfit ?_
      intro w' r1 r2
      exact hK _ w' r1 r2 (.inl rfl)
    · refine wpList_append_grows w hg s x t hop e i z size bytes h1 h2 h3 h4 h5 h6 h7 (some ⟨g, 0, none⟩) n cap xs hs (fun h => by cases h) hlen (fun b hb j u hj => by cases hb; exact hown'.cells rfl j u hj) ad m c news hx hn hc h1c (by omega) b1 b2 ?_
      intro v' w' r1 r2
      refine hK v' w' ?_ (grownBy_weaker r2 _) (.inr r1)
      obtain ⟨q1, q2⟩ := r1
      refine ⟨q1, ?_⟩
      rcases q2 with q2 | ⟨g', cap', cur', e1, e2, e3⟩
      · exact .inl q2
      · exact .inr ⟨g', cap', cur', e1, by have := heap_lt hh; omega, e3⟩

theorem tmod_pos (a m : Int) (hm : 1 ≤ m) (h : 0 ≤ a.tmod m) : a.tmod m = a % m := by
  rw [Int.tmod_eq_emod] at h ⊢
  split
  · omega
  · rename_i hc
    rw [if_neg hc] at h
    have h1 := Int.emod_lt_of_pos a (show 0 < m by omega)
    omega
theorem tmod_neg (a m : Int) (hm : 1 ≤ m) (h : a.tmod m < 0) : a.tmod m + m = a % m ∧ -m < a.tmod m := by
  rw [Int.tmod_eq_emod] at h ⊢
  have h0 := Int.emod_nonneg a (show m ≠ 0 by omega)
  split
  · rename_i hc
    rw [if_pos hc] at h
    omega
  · rename_i hc
    rw [if_neg hc] at h
    have : ¬ (a % m = 0) := fun e => hc (Or.inr (Int.dvd_of_emod_eq_zero e))
    omega

theorem rpick (a m : Int) (hm : 1 ≤ m) (hm2 : m ≤ 1000) (w : World) :
    Calls Try.prog 19 #[.int .i64 a, .int .i64 m] w fun e w' => e = .returned (.int .i64 (a % m)) ∧ w' = w := by
  have hne : ¬ m = 0 := by omega
  by_cases h : 0 ≤ a.tmod m
  · have HP := Lib.hid (tmod_pos a m hm h)
    have h' : ¬ a.tmod m < 0 := by omega
    go_enter Try.func19, Try.ntmps19
    go_wp2
    go_ret
    rw [← HP.out]; exact ⟨rfl, rfl⟩
  · have hlt : a.tmod m < 0 := by omega
    have HP := Lib.hid (tmod_neg a m hm hlt).1
    have hb := (tmod_neg a m hm hlt).2
    go_enter Try.func19, Try.ntmps19
    go_wp2
    go_ret
    rw [← HP.out]; exact ⟨rfl, rfl⟩

/-- A slice's numbers, cell by cell. -/
def Nums (w : World) (a : Option Addr) (xs : List Int) : Prop := ∀ (i : Nat) (x : Int), xs[i]? = some x → ∃ g o, a = some ⟨g, o, none⟩ ∧ g < w.heap.size ∧ w.cell? ⟨g, o + i, none⟩ = some (.int .i64 x)

/-- A raw number as a byte. -/
def rawb (x : Int) : Nat := if x % 5 = 0 then (x % 2).toNat else (x % 256).toNat
def ofv (l : List Int) (cols : Nat) : Mx := fun i k => match l[i * cols + k]? with | some x => rawb x | none => 0
theorem rawb_lt (x : Int) : rawb x < 256 := by unfold rawb; split <;> omega
theorem ofv_bd (l : List Int) (c r k : Nat) : Bd r k (ofv l c) := fun i _ j _ => by
  unfold ofv
  split
  · exact rawb_lt _
  · decide

/-- A row of bytes in a block of its own. -/
structure Row8 (w : World) (g c : Nat) (f : Nat → Nat) : Prop where
  cell : ∀ j, j < c → w.cell? ⟨g, j, none⟩ = some (.int .u8 (f j : Nat))
  free : ∀ k, w.frozen? ⟨g, k, none⟩ = false

theorem Row8.keep {w w' : World} {g c : Nat} {f : Nat → Nat} (h : Row8 w g c f) (e : w'.heap[g]? = w.heap[g]?) : Row8 w' g c f :=
  ⟨fun j hj => (World.cell?_of_block (w := w) e).trans (h.cell j hj), fun k => (World.frozen?_of_block (w := w) e).trans (h.free k)⟩
theorem Row8.put {w : World} {g c q x : Nat} {f : Nat → Nat} (h : Row8 w g c f) (hq : q < c) : Row8 (w.setCell ⟨g, q, none⟩ (.int .u8 (x : Nat))) g c (fun j => if j = q then x else f j) := by
  refine ⟨fun j hj => ?_, fun k => by rw [World.frozen?_setCell]; exact h.free k⟩
  by_cases e : j = q
  · subst e; rw [World.cell?_setCell_same _ _ _ (h.cell j hj), if_pos rfl]
  · rw [cell_far (Or.inr e), if_neg e]; exact h.cell j hj

theorem Row8.congr {w : World} {g c : Nat} {f f' : Nat → Nat} (h : Row8 w g c f) (e : ∀ j, j < c → f j = f' j) : Row8 w g c f' := ⟨fun j hj => by rw [← e j hj]; exact h.cell j hj, h.free⟩

/-- Own rows under way: what was appended so far. -/
structure Rows8 (w : World) (B : Nat) (v : Value) (n c : Nat) (G : Nat → Nat) (A : Mx) : Prop where
  own : ∃ xs, w.ownsRow B 29 1 v n xs ∧ ∀ i, i < n → xs[i]? = some (.slice (some ⟨G i, 0, none⟩) c c)
  row : ∀ i, i < n → Row8 w (G i) c (A i)
  base : ∀ i, i < n → B ≤ G i ∧ G i < w.heap.size
  apart : ∀ i, i < n → v.ownBlock ≠ some (G i)
  inj : ∀ i, i < n → ∀ k, k < n → G i = G k → i = k

theorem infoRow : (Try.prog.info? 29).map (fun i => (i.zero, i.size, i.bytes)) = some (some (.slice none 0 0), 1, 24) := by kernel_rfl

theorem Rows8.start (w : World) (B c : Nat) (G : Nat → Nat) (A : Mx) : Rows8 w B (.slice none 0 0) 0 c G A :=
  ⟨⟨[], World.ownsRow_nil _ _ _ _, fun _ hi => absurd hi (Nat.not_lt_zero _)⟩, fun _ hi => absurd hi (Nat.not_lt_zero _), fun _ hi => absurd hi (Nat.not_lt_zero _), fun _ hi => absurd hi (Nat.not_lt_zero _), fun _ hi => absurd hi (Nat.not_lt_zero _)⟩

/-- Own rows stay where new memory alone is made. -/
theorem Rows8.keep {w w' : World} {B : Nat} {v : Value} {n c : Nat} {G : Nat → Nat} {A : Mx} (h : Rows8 w B v n c G A) (b : Below w.heap.size w w') : Rows8 w' B v n c G A := by
  obtain ⟨⟨xs, hx, hg⟩, hr, hb, ha, hi⟩ := h
  refine ⟨⟨xs, ?_, hg⟩, fun i hi' => (hr i hi').keep (b.block _ (hb i hi').2), fun i hi' => ⟨(hb i hi').1, Nat.lt_of_lt_of_le (hb i hi').2 b.size⟩, ha, hi⟩
  obtain ⟨h1, h2⟩ := hx
  refine ⟨h1, ?_⟩
  rcases h2 with h2 | ⟨g, cap, cur, hv, hg', hh, r⟩
  · exact Or.inl h2
  · exact Or.inr ⟨g, cap, cur, hv, hg', (b.block _ (heap_lt hh)).trans hh, r⟩

/-- One more row. -/
theorem Rows8.add {w w' : World} {B g : Nat} {v v' : Value} {n c : Nat} {G : Nat → Nat} {A : Mx} {xs : List Value} (h : Rows8 w B v n c G A) (hx : w.ownsRow B 29 1 v n xs) (hxs : ∀ i, i < n → xs[i]? = some (.slice (some ⟨G i, 0, none⟩) c c))
    (hg : Row8 w g c (A n)) (hgB : B ≤ g) (hgl : g < w.heap.size) (hgv : v.ownBlock ≠ some g) (hgG : ∀ i, i < n → G i ≠ g)
    (own : w'.ownsRow B 29 1 v' (n + 1) (xs ++ [.slice (some ⟨g, 0, none⟩) c c])) (gr : w.grownBy w' v.ownBlock) (hv : v'.ownBlock = v.ownBlock ∨ w'.ownsRow w.heap.size 29 1 v' (n + 1) (xs ++ [.slice (some ⟨g, 0, none⟩) c c])) :
    Rows8 w' B v' (n + 1) c (fun i => if i = n then g else G i) A := by
  have hl : xs.length = n := by have := hx.1; omega
  have far : ∀ k, k < w.heap.size → v.ownBlock ≠ some k → w'.heap[k]? = w.heap[k]? ∧ v'.ownBlock ≠ some k := fun k hk hn => ⟨gr.block k hk (fun e => hn e.symm), fun e => by
    rcases hv with hv | hv
    · exact hn (hv ▸ e)
    · have := (hv.lt k e).1
      omega⟩
  refine ⟨⟨_, own, fun i hi => ?_⟩, fun i hi => ?_, fun i hi => ?_, fun i hi => ?_, fun i hi k hk e => ?_⟩
  · by_cases e : i = n
    · rw [if_pos e, e, List.getElem?_append_right (by omega), hl, Nat.sub_self]; rfl
    · rw [if_neg e, List.getElem?_append_left (by omega)]; exact hxs i (by omega)
  · by_cases e : i = n
    · subst e; rw [if_pos rfl]; exact hg.keep (far g hgl hgv).1
    · rw [if_neg e]; exact (h.row i (by omega)).keep (far _ (h.base i (by omega)).2 (h.apart i (by omega))).1
  · by_cases e : i = n
    · rw [if_pos e]; exact ⟨hgB, Nat.lt_of_lt_of_le hgl gr.size⟩
    · rw [if_neg e]; exact ⟨(h.base i (by omega)).1, Nat.lt_of_lt_of_le (h.base i (by omega)).2 gr.size⟩
  · by_cases e : i = n
    · rw [if_pos e]; exact (far g hgl hgv).2
    · rw [if_neg e]; exact (far _ (h.base i (by omega)).2 (h.apart i (by omega))).2
  · by_cases e1 : i = n <;> by_cases e2 : k = n
    · omega
    · rw [if_pos e1, if_neg e2] at e; exact absurd e.symm (hgG k (by omega))
    · rw [if_neg e1, if_pos e2] at e; exact absurd e (hgG i (by omega))
    · rw [if_neg e1, if_neg e2] at e; exact h.inj i (by omega) k (by omega) e

theorem infoByte : (Try.prog.info? 5).map (fun i => (i.zero, i.size, i.bytes)) = some (some (.int .u8 0), 1, 1) := by kernel_rfl

/-- 'make([]byte, n)'. -/
theorem make8 (n : Nat) (hn : n ≤ 1000000) : ∃ zs : Array Value, (∀ j, j < n → zs[j]? = some (.int .u8 0)) ∧
    ∀ W : World, Sem.run Try.prog (Instr.makeSlice 29 (.int .i64 (n : Int)) (.int .i64 (n : Int))) W = .ok (.slice (some ⟨W.heap.size, 0, none⟩) n n) (W.alloc (.cells zs 5)) := by
  obtain ⟨i0, hi0, hz0, hz1, hz2⟩ := info_parts infoByte
  refine ⟨madeCells (Value.int .u8 0).cells (n * i0.size), fun j hj => ?_, fun W => ?_⟩
  · rw [hz1]
    simp [madeCells, Value.cells, hj]
    rw [Nat.mod_one]; rfl
  · have h := run_make W 29 5 i0 (.int .u8 0) Try.underlying29 hi0 hz0 .i64 .i64 (n : Int) (n : Int) (by omega) (by omega) (by rw [hz2]; omega) (by omega)
    simpa using h

end Go.Proofs.Ytajpnbmfeapmcaa
