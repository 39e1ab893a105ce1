import Derived.Test.YtmnfgbfajhinlaaG
import Derived.OwnWalk
import Derived.ArgAppend
namespace Go.Proofs.Ytmnfgbfajhinlaa
open Go.RowKit Go.Sort
set_option maxRecDepth 100000
set_option maxHeartbeats 1000000

theorem heap_lt {w : World} {b : Nat} {o : Obj} (h : w.heap[b]? = some o) : b < w.heap.size := by
  by_cases hb : b < w.heap.size
  · exact hb
  · rw [Array.getElem?_eq_none (by omega)] at h; cases h

theorem grownBy_weaker {w w' : World} (h : w.grownBy w' none) (r : Option Nat) : w.grownBy w' r := ⟨h.os, h.tape, h.output, h.size, fun k hk _ => h.block k hk (by simp)⟩

/-- 'append' to a row of the call's own: in place, or into a new block. -/
theorem append_mine {P : Program} (w : World) {ops : Array Oper} {rest : List Oper} {o : Oper} {a : Act} {Q : Exit → Act → World → Prop}
    (hg : o.guard = none) (s x : Operand) (t : TypeId) (hop : o.op = Op.call { callee := Callee.builtin Builtin.append, args := #[s, x], argTypes := #[t, t] })
    (base : Nat) (e : TypeId) (i : TypeInfo) (z : Value) (size bytes : Nat) (h1 : P.underlying t = some (.slice e)) (h2 : P.info? e = some i) (h3 : i.zero = some z) (h4 : i.size = size) (h5 : i.bytes = bytes) (h6 : z.cells.size = size) (h7 : 0 < size)
    (v : Value) (n : Nat) (xs : List Value) (hs : a.eval s = v) (hown : w.ownsRow base e size v n xs)
    (ad : Addr) (m c : Nat) (news : List Value) (hx : a.eval x = .slice (some ad) m c) (hn : news.length = m * size) (hc : ∀ j u, news[j]? = some u → w.cell? (ad.add j) = some u) (h1c : ∀ u ∈ news, u.oneCell' = true)
    (b1 : n + m ≤ maxLen) (b2 : (n + m) * bytes ≤ 140737488355328) (hbase : base ≤ w.heap.size) (hm : 0 < m)
    (hK : ∀ v' w', w'.ownsRow base e size v' (n + m) (xs ++ news) → w.grownBy w' v.ownBlock → (v'.ownBlock = v.ownBlock ∨ w'.ownsRow w.heap.size e size v' (n + m) (xs ++ news)) → wpList P ops Q rest (a.put o.dst v') w') :
    wpList P ops Q (o :: rest) a w := by
  have hown' := hown
  obtain ⟨hlen, ⟨rfl, rfl⟩ | ⟨g, cap, cur, rfl, hb, hh, hle, hmax, hsz, htake⟩⟩ := hown
  · refine wpList_append_grows w hg s x t hop e i z size bytes h1 h2 h3 h4 h5 h6 h7 none 0 0 xs hs (fun _ => ⟨rfl, rfl⟩) hlen (fun b hb => by cases hb) ad m c news hx hn hc h1c (by omega) b1 b2 ?_
    intro v' w' r1 r2
    refine hK v' w' ?_ r2 (.inr r1)
    obtain ⟨q1, q2⟩ := r1
    refine ⟨q1, ?_⟩
    rcases q2 with q2 | ⟨g, cap, cur, e1, e2, e3⟩
    · exact .inl q2
    · exact .inr ⟨g, cap, cur, e1, by omega, e3⟩
  · by_cases hfit : n + m ≤ cap
    · refine wpList_append_fits w hg s x t hop base e i size h1 h2 h4 g n cap xs hs hown' ad m c news hx hn hc h1c hfit ?_
      intro w' r1 r2
      exact hK _ w' r1 r2 (.inl rfl)
    · refine wpList_append_grows w hg s x t hop e i z size bytes h1 h2 h3 h4 h5 h6 h7 (some ⟨g, 0, none⟩) n cap xs hs (fun h => by cases h) hlen (fun b hb j u hj => by cases hb; exact hown'.cells rfl j u hj) ad m c news hx hn hc h1c (by omega) b1 b2 ?_
      intro v' w' r1 r2
      refine hK v' w' ?_ (grownBy_weaker r2 _) (.inr r1)
      obtain ⟨q1, q2⟩ := r1
      refine ⟨q1, ?_⟩
      rcases q2 with q2 | ⟨g', cap', cur', e1, e2, e3⟩
      · exact .inl q2
      · exact .inr ⟨g', cap', cur', e1, by have := heap_lt hh; omega, e3⟩

theorem tmod_pos (a m : Int) (hm : 1 ≤ m) (h : 0 ≤ a.tmod m) : a.tmod m = a % m := by
  rw [Int.tmod_eq_emod] at h ⊢
  split
  · omega
  · rename_i hc
    rw [if_neg hc] at h
    have h1 := Int.emod_lt_of_pos a (show 0 < m by omega)
    omega
theorem tmod_neg (a m : Int) (hm : 1 ≤ m) (h : a.tmod m < 0) : a.tmod m + m = a % m ∧ -m < a.tmod m := by
  rw [Int.tmod_eq_emod] at h ⊢
  have h0 := Int.emod_nonneg a (show m ≠ 0 by omega)
  split
  · rename_i hc
    rw [if_pos hc] at h
    omega
  · rename_i hc
    rw [if_neg hc] at h
    have : ¬ (a % m = 0) := fun e => hc (Or.inr (Int.dvd_of_emod_eq_zero e))
    omega

theorem rpick (a m : Int) (hm : 1 ≤ m) (hm2 : m ≤ 1000) (w : World) :
    Calls Try.prog 14 #[.int .i64 a, .int .i64 m] w fun e w' => e = .returned (.int .i64 (a % m)) ∧ w' = w := by
  have hne : ¬ m = 0 := by omega
  by_cases h : 0 ≤ a.tmod m
  · have HP := Lib.hid (tmod_pos a m hm h)
    have h' : ¬ a.tmod m < 0 := by omega
    go_enter Try.func14, Try.ntmps14
    go_wp2
    go_ret
    rw [← HP.out]; exact ⟨rfl, rfl⟩
  · have hlt : a.tmod m < 0 := by omega
    have HP := Lib.hid (tmod_neg a m hm hlt).1
    have hb := (tmod_neg a m hm hlt).2
    go_enter Try.func14, Try.ntmps14
    go_wp2
    go_ret
    rw [← HP.out]; exact ⟨rfl, rfl⟩

/-- A slice's numbers, cell by cell. -/
def Nums (w : World) (a : Option Addr) (xs : List Int) : Prop := ∀ (i : Nat) (x : Int), xs[i]? = some x → ∃ g o, a = some ⟨g, o, none⟩ ∧ g < w.heap.size ∧ w.cell? ⟨g, o + i, none⟩ = some (.int .i64 x)

/-- A raw number as a byte. -/
def rawb (x : Int) : Nat := if x % 5 = 0 then (x % 2).toNat else (x % 256).toNat
def ofv (l : List Int) (cols : Nat) : Mx := fun i k => match l[i * cols + k]? with | some x => rawb x | none => 0
theorem rawb_lt (x : Int) : rawb x < 256 := by unfold rawb; split <;> omega
theorem ofv_bd (l : List Int) (c r k : Nat) : Bd r k (ofv l c) := fun i _ j _ => by
  unfold ofv
  split
  · exact rawb_lt _
  · decide

/-- A row of bytes in a block of its own. -/
structure Row8 (w : World) (g c : Nat) (f : Nat → Nat) : Prop where
  cell : ∀ j, j < c → w.cell? ⟨g, j, none⟩ = some (.int .u8 (f j : Nat))
  free : ∀ k, w.frozen? ⟨g, k, none⟩ = false

theorem Row8.keep {w w' : World} {g c : Nat} {f : Nat → Nat} (h : Row8 w g c f) (e : w'.heap[g]? = w.heap[g]?) : Row8 w' g c f :=
  ⟨fun j hj => (World.cell?_of_block (w := w) e).trans (h.cell j hj), fun k => (World.frozen?_of_block (w := w) e).trans (h.free k)⟩
theorem Row8.put {w : World} {g c q x : Nat} {f : Nat → Nat} (h : Row8 w g c f) (hq : q < c) : Row8 (w.setCell ⟨g, q, none⟩ (.int .u8 (x : Nat))) g c (fun j => if j = q then x else f j) := by
  refine ⟨fun j hj => ?_, fun k => by rw [World.frozen?_setCell]; exact h.free k⟩
  by_cases e : j = q
  · subst e; rw [World.cell?_setCell_same _ _ _ (h.cell j hj), if_pos rfl]
  · rw [cell_far (Or.inr e), if_neg e]; exact h.cell j hj

theorem Row8.congr {w : World} {g c : Nat} {f f' : Nat → Nat} (h : Row8 w g c f) (e : ∀ j, j < c → f j = f' j) : Row8 w g c f' := ⟨fun j hj => by rw [← e j hj]; exact h.cell j hj, h.free⟩

/-- Own rows under way: what was appended so far. -/
structure Rows8 (w : World) (B : Nat) (v : Value) (n c : Nat) (G : Nat → Nat) (A : Mx) : Prop where
  own : ∃ xs, w.ownsRow B 27 1 v n xs ∧ ∀ i, i < n → xs[i]? = some (.slice (some ⟨G i, 0, none⟩) c c)
  row : ∀ i, i < n → Row8 w (G i) c (A i)
  base : ∀ i, i < n → B ≤ G i ∧ G i < w.heap.size
  apart : ∀ i, i < n → v.ownBlock ≠ some (G i)
  inj : ∀ i, i < n → ∀ k, k < n → G i = G k → i = k

theorem infoRow : (Try.prog.info? 27).map (fun i => (i.zero, i.size, i.bytes)) = some (some (.slice none 0 0), 1, 24) := by kernel_rfl

theorem Rows8.start (w : World) (B c : Nat) (G : Nat → Nat) (A : Mx) : Rows8 w B (.slice none 0 0) 0 c G A :=
  ⟨⟨[], World.ownsRow_nil _ _ _ _, fun _ hi => absurd hi (Nat.not_lt_zero _)⟩, fun _ hi => absurd hi (Nat.not_lt_zero _), fun _ hi => absurd hi (Nat.not_lt_zero _), fun _ hi => absurd hi (Nat.not_lt_zero _), fun _ hi => absurd hi (Nat.not_lt_zero _)⟩

/-- Own rows stay where new memory alone is made. -/
theorem Rows8.keep {w w' : World} {B : Nat} {v : Value} {n c : Nat} {G : Nat → Nat} {A : Mx} (h : Rows8 w B v n c G A) (b : Below w.heap.size w w') : Rows8 w' B v n c G A := by
  obtain ⟨⟨xs, hx, hg⟩, hr, hb, ha, hi⟩ := h
  refine ⟨⟨xs, ?_, hg⟩, fun i hi' => (hr i hi').keep (b.block _ (hb i hi').2), fun i hi' => ⟨(hb i hi').1, Nat.lt_of_lt_of_le (hb i hi').2 b.size⟩, ha, hi⟩
  obtain ⟨h1, h2⟩ := hx
  refine ⟨h1, ?_⟩
  rcases h2 with h2 | ⟨g, cap, cur, hv, hg', hh, r⟩
  · exact Or.inl h2
  · exact Or.inr ⟨g, cap, cur, hv, hg', (b.block _ (heap_lt hh)).trans hh, r⟩

/-- One more row. -/
theorem Rows8.add {w w' : World} {B g : Nat} {v v' : Value} {n c : Nat} {G : Nat → Nat} {A : Mx} {xs : List Value} (h : Rows8 w B v n c G A) (hx : w.ownsRow B 27 1 v n xs) (hxs : ∀ i, i < n → xs[i]? = some (.slice (some ⟨G i, 0, none⟩) c c))
    (hg : Row8 w g c (A n)) (hgB : B ≤ g) (hgl : g < w.heap.size) (hgv : v.ownBlock ≠ some g) (hgG : ∀ i, i < n → G i ≠ g)
    (own : w'.ownsRow B 27 1 v' (n + 1) (xs ++ [.slice (some ⟨g, 0, none⟩) c c])) (gr : w.grownBy w' v.ownBlock) (hv : v'.ownBlock = v.ownBlock ∨ w'.ownsRow w.heap.size 27 1 v' (n + 1) (xs ++ [.slice (some ⟨g, 0, none⟩) c c])) :
    Rows8 w' B v' (n + 1) c (fun i => if i = n then g else G i) A := by
  have hl : xs.length = n := by have := hx.1; omega
  have far : ∀ k, k < w.heap.size → v.ownBlock ≠ some k → w'.heap[k]? = w.heap[k]? ∧ v'.ownBlock ≠ some k := fun k hk hn => ⟨gr.block k hk (fun e => hn e.symm), fun e => by
    rcases hv with hv | hv
    · exact hn (hv ▸ e)
    · have := (hv.lt k e).1
      omega⟩
  refine ⟨⟨_, own, fun i hi => ?_⟩, fun i hi => ?_, fun i hi => ?_, fun i hi => ?_, fun i hi k hk e => ?_⟩
  · by_cases e : i = n
    · rw [if_pos e, e, List.getElem?_append_right (by omega), hl, Nat.sub_self]; rfl
    · rw [if_neg e, List.getElem?_append_left (by omega)]; exact hxs i (by omega)
  · by_cases e : i = n
    · subst e; rw [if_pos rfl]; exact hg.keep (far g hgl hgv).1
    · rw [if_neg e]; exact (h.row i (by omega)).keep (far _ (h.base i (by omega)).2 (h.apart i (by omega))).1
  · by_cases e : i = n
    · rw [if_pos e]; exact ⟨hgB, Nat.lt_of_lt_of_le hgl gr.size⟩
    · rw [if_neg e]; exact ⟨(h.base i (by omega)).1, Nat.lt_of_lt_of_le (h.base i (by omega)).2 gr.size⟩
  · by_cases e : i = n
    · rw [if_pos e]; exact (far g hgl hgv).2
    · rw [if_neg e]; exact (far _ (h.base i (by omega)).2 (h.apart i (by omega))).2
  · by_cases e1 : i = n <;> by_cases e2 : k = n
    · omega
    · rw [if_pos e1, if_neg e2] at e; exact absurd e.symm (hgG k (by omega))
    · rw [if_neg e1, if_pos e2] at e; exact absurd e (hgG i (by omega))
    · rw [if_neg e1, if_neg e2] at e; exact h.inj i (by omega) k (by omega) e

theorem infoByte : (Try.prog.info? 5).map (fun i => (i.zero, i.size, i.bytes)) = some (some (.int .u8 0), 1, 1) := by kernel_rfl

/-- 'make([]byte, n)'. -/
theorem make8 (n : Nat) (hn : n ≤ 1000000) : ∃ zs : Array Value, (∀ j, j < n → zs[j]? = some (.int .u8 0)) ∧
    ∀ W : World, Sem.run Try.prog (Instr.makeSlice 27 (.int .i64 (n : Int)) (.int .i64 (n : Int))) W = .ok (.slice (some ⟨W.heap.size, 0, none⟩) n n) (W.alloc (.cells zs 5)) := by
  obtain ⟨i0, hi0, hz0, hz1, hz2⟩ := info_parts infoByte
  refine ⟨madeCells (Value.int .u8 0).cells (n * i0.size), fun j hj => ?_, fun W => ?_⟩
  · rw [hz1]
    simp [madeCells, Value.cells, hj]
    rw [Nat.mod_one]; rfl
  · have h := run_make W 27 5 i0 (.int .u8 0) Try.underlying27 hi0 hz0 .i64 .i64 (n : Int) (n : Int) (by omega) (by omega) (by rw [hz2]; omega) (by omega)
    simpa using h

theorem lof (rows cols : Nat) (a : Option Addr) (l : List Int) (cap : Nat) (w : World) (hr : rows ≤ 64) (hc : 1 ≤ cols) (hc2 : cols ≤ 64) (hl : Nums w a l) (hll : l.length ≤ 9223372036854775807) :
    Calls Try.prog 15 #[.int .i64 (rows : Int), .int .i64 (cols : Int), .slice a l.length cap] w fun e w' => ∃ v G, e = .returned v ∧ Rows8 w' w.heap.size v rows cols G (ofv l cols) ∧ Below w.heap.size w w' := by
  obtain ⟨i0, hi0, hz0, hz1, hz2⟩ := info_parts infoRow
  obtain ⟨zs, z1, z2⟩ := make8 cols (by omega)
  have HL := Lib.hid hl
  have HZ := Lib.hid z1
  clear hl z1
  obtain ⟨B, hB⟩ : ∃ B, w.heap.size = B := ⟨_, rfl⟩
  have HBB := Lib.hid hB
  have H0 : Hid (Rows8 w B (.slice none 0 0) 0 cols (fun _ => 0) (ofv l cols) ∧ Below B w w) := Lib.hid ⟨Rows8.start _ _ _ _ _, Below.refl _ _⟩
  rw [hB]
  clear hB
  go_enter Try.func15, Try.ntmps15
  go_wp2_with fail
  go_loopg [7, 8] rows (fun q s7 s8 v => ∃ (n : Nat) (G : Nat → Nat), s8 = .int .i64 (n : Int) ∧ n ≤ rows ∧ q = rows - n ∧ Hid (Rows8 v B s7 n cols G (ofv l cols) ∧ Below B w v))
  case atStart => exact ⟨0, _, rfl, by omega, rfl, H0⟩
  case round =>
    obtain ⟨n, G, rfl, hn, rfl, HS⟩ := hrel
    clear H0
    by_cases hlt : n < rows
    · have hl : (n : Int) < (rows : Int) := by omega
      obtain ⟨wr0, rfl⟩ : ∃ wr0 : World, wr0 = wr := ⟨wr, rfl⟩
      go_wp2_with fail
      have HSB : Hid (B ≤ wr0.heap.size) := Lib.hid (by rw [← HBB.out]; exact HS.out.2.size)
      have HA : Hid (Below wr0.heap.size wr0 (wr0.alloc (.cells zs 5))) := Lib.hid ((Below.refl _ _).alloc (Nat.le_refl _) _)
      have HR0 : Hid (Row8 (wr0.alloc (.cells zs 5)) wr0.heap.size cols (fun j => if j < 0 then ofv l cols n j else 0)) := by
        have hb : (wr0.alloc (.cells zs 5)).heap[wr0.heap.size]? = some (.cells zs 5 (0, 0)) := by
          show (wr0.heap.push _)[wr0.heap.size]? = _
          rw [Array.getElem?_push, if_pos rfl]
        refine Lib.hid ⟨fun j hj => ?_, fun k => ?_⟩
        · rw [cell_of_block hb, HZ.out j hj, if_neg (Nat.not_lt_zero _)]; rfl
        · generalize wr0.alloc _ = w1 at *
          simp [World.frozen?, hb]
      have HSZ : Hid ((wr0.alloc (.cells zs 5)).heap.size = wr0.heap.size + 1) := Lib.hid (by simp)
      generalize hw1 : wr0.alloc (.cells zs 5) = w1 at *
      have HW1 := Lib.hid hw1
      clear hw1
      generalize hg : wr0.heap.size = g at *
      have HG := Lib.hid hg
      clear hg
      go_loopg [10] cols (fun q s10 v => ∃ k : Nat, s10 = .int .i64 (k : Int) ∧ k ≤ cols ∧ q = cols - k ∧ Hid (Row8 v g cols (fun j => if j < k then ofv l cols n j else 0) ∧ Below g w1 v))
      case atStart => exact ⟨0, rfl, by omega, rfl, Lib.hid ⟨HR0.out, Below.refl _ _⟩⟩
      case round =>
        obtain ⟨k, rfl, hk, rfl, HK⟩ := hrel
        clear HR0
        by_cases hlk : k < cols
        · have hlk' : (k : Int) < (cols : Int) := by omega
          obtain ⟨m, hm⟩ : ∃ m, n * cols = m := ⟨_, rfl⟩
          have hmi : (n : Int) * (cols : Int) = (m : Int) := by rw [← hm]; push_cast; rfl
          have hm4 : m ≤ 4096 := by
            have := Nat.mul_le_mul (show n ≤ 64 by omega) hc2
            omega
          have HM := Lib.hid hm
          clear hm
          have e1 := HK.out.1.cell k hlk
          have f1 := HK.out.1.free k
          by_cases hin : m + k < l.length
          · have hz : l[m + k]? = some l[m + k] := List.getElem?_eq_getElem hin
            obtain ⟨x, hz⟩ : ∃ x, l[m + k]? = some x := ⟨_, hz⟩
            obtain ⟨g2, o, rfl, hg2, hx⟩ := HL.out _ x hz
            have HV : Hid (ofv l cols n k = rawb x) := Lib.hid (by unfold ofv; rw [HM.out, hz])
            have hgg : g2 < g := by have := HSB.out; have := HBB.out; omega
            have hB2 : g2 < B := by have := HBB.out; omega
            have hw1 : g2 < g := hgg
            have c1 : wr.cell? ⟨g2, o + (m + k), none⟩ = some (.int .i64 x) := (HK.out.2.cell (p := ⟨g2, o + (m + k), none⟩) hgg).trans ((HA.out.cell (p := ⟨g2, o + (m + k), none⟩) hgg).trans ((HS.out.2.cell (p := ⟨g2, o + (m + k), none⟩) hB2).trans hx))
            obtain ⟨y, hy⟩ : ∃ y : Nat, IntKind.u8.wrap x = (y : Int) := ⟨(x % 256).toNat, by rw [IntKind.wrap_u8]; omega⟩
            have HY : Hid (y = (x % 256).toNat) := Lib.hid (by rw [IntKind.wrap_u8] at hy; omega)
            have c2 : (wr.setCell ⟨g, k, none⟩ (.int .u8 (y : Int))).cell? ⟨g2, o + (m + k), none⟩ = some (.int .i64 x) := (cell_far (Or.inl (by omega))).trans c1
            have e2 : (wr.setCell ⟨g, k, none⟩ (.int .u8 (y : Int))).cell? ⟨g, k, none⟩ = some (.int .u8 (y : Int)) := World.cell?_setCell_same _ _ _ e1
            have f2 : (wr.setCell ⟨g, k, none⟩ (.int .u8 (y : Int))).frozen? ⟨g, k, none⟩ = false := by rw [World.frozen?_setCell]; exact f1
            have HB1 : Hid (Below g w1 (wr.setCell ⟨g, k, none⟩ (.int .u8 (y : Int)))) := Lib.hid (HK.out.2.setCell (Nat.le_refl _) _)
            have HP1 := Lib.hid (HK.out.1.put (x := y) hlk)
            have hini : (m : Int) + (k : Int) < (l.length : Int) := by omega
            clear hz hx
            by_cases h5 : x % 5 = 0
            · have t5 : (x.tmod 5 == 0) = true := by
                rw [beq_iff_eq, Int.tmod_eq_emod]
                have : (5 : Int) ∣ x := Int.dvd_of_emod_eq_zero h5
                rw [if_pos (Or.inr this)]; omega
              have HP2 := Lib.hid (HP1.out.put (x := (x % 2).toNat) hlk)
              have HR5 : Hid (rawb x = (x % 2).toNat) := Lib.hid (by unfold rawb; rw [if_pos h5])
              have HT : Hid ((x % 2) = ((x % 2).toNat : Int)) := Lib.hid (by omega)
              clear h5
              go_wp2_with fail
              refine (rpick x 2 (by omega) (by omega) _).mono ?_
              rintro e wz ⟨rfl, rfl⟩
              rw [HT.out]
              have h2 : ((x % 2).toNat : Int) < 256 := by omega
              generalize (x % 2).toNat = x2 at *
              go_wp2_with fail
              go_roundg (cols - (k + 1))
              case measure => omega
              case rel => exact ⟨k + 1, by go_num, by omega, rfl, Lib.hid ⟨HP2.out.congr (fun j hj => by
                by_cases e : j = k
                · subst e; rw [if_pos rfl, if_pos (by omega), HV.out, HR5.out]
                · rw [if_neg e, if_neg e]
                  by_cases h : j < k
                  · rw [if_pos h, if_pos (by omega)]
                  · rw [if_neg h, if_neg (by omega)]), HB1.out.setCell (Nat.le_refl _) _⟩⟩
            · have t5 : (x.tmod 5 == 0) = false := beq_eq_false_iff_ne.2 (fun e => h5 (by
                have := Int.tmod_add_mul_tdiv x 5
                omega))
              have HR5 : Hid (rawb x = y) := Lib.hid (by unfold rawb; rw [if_neg h5, HY.out])
              clear h5
              go_wp2_with fail
              go_roundg (cols - (k + 1))
              case measure => omega
              case rel => exact ⟨k + 1, by go_num, by omega, rfl, Lib.hid ⟨HP1.out.congr (fun j hj => by
                by_cases e : j = k
                · subst e; rw [if_pos rfl, if_pos (by omega), HV.out, HR5.out]
                · rw [if_neg e]
                  by_cases h : j < k
                  · rw [if_pos h, if_pos (by omega)]
                  · rw [if_neg h, if_neg (by omega)]), HB1.out⟩⟩
          · have hini : ¬ (m : Int) + (k : Int) < (l.length : Int) := by omega
            have HV : Hid (ofv l cols n k = 0) := Lib.hid (by unfold ofv; rw [HM.out, List.getElem?_eq_none (by omega)])
            go_wp2_with fail
            go_roundg (cols - (k + 1))
            case measure => omega
            case rel => exact ⟨k + 1, by go_num, by omega, rfl, Lib.hid ⟨HK.out.1.congr (fun j hj => by
              by_cases e : j = k
              · subst e; rw [if_neg (Nat.lt_irrefl _), if_pos (by omega), HV.out]
              · by_cases h : j < k
                · rw [if_pos h, if_pos (by omega)]
                · rw [if_neg h, if_neg (by omega)]), HK.out.2⟩⟩
        · have hge : ¬ (k : Int) < (cols : Int) := by omega
          have e : k = cols := by omega
          subst e
          have HRW : Hid (Row8 wr g k (ofv l k n)) := Lib.hid (HK.out.1.congr (fun j hj => if_pos hj))
          have HBG : Hid (Below g wr0 wr) := Lib.hid (HA.out.trans HK.out.2)
          have HRS := Lib.hid (HS.out.1.keep (w' := wr) (by rw [HG.out]; exact HBG.out))
          have HBW : Hid (Below B w wr) := Lib.hid (HS.out.2.trans (HBG.out.mono HSB.out))
          have HGV : Hid (u7.ownBlock ≠ some g ∧ ∀ i, i < n → G i ≠ g) := Lib.hid ⟨fun e => by
            obtain ⟨xs, hx, _⟩ := HS.out.1.own
            have := (hx.lt g e).2
            have := HG.out
            omega, fun i hi e => by
            have := (HS.out.1.base i hi).2
            have := HG.out
            omega⟩
          have HGL : Hid (g < wr.heap.size) := Lib.hid (Nat.lt_of_lt_of_le (by have := HSZ.out; omega) HK.out.2.size)
          clear HK HS HA
          have HB2 : Hid (Below wr.heap.size wr (wr.alloc (.cells #[.slice (some ⟨g, 0, none⟩) k k] 27))) := Lib.hid ((Below.refl _ _).alloc (Nat.le_refl _) _)
          have HRS2 := Lib.hid (HRS.out.keep HB2.out)
          obtain ⟨xs, hx, hxs⟩ := HRS2.out.own
          have HX := Lib.hid hx
          have HXS := Lib.hid hxs
          have hB2 : B ≤ wr.heap.size := by rw [← HBB.out]; exact HBW.out.size
          clear hx hxs
          go_wp2_with (at_builtin; refine append_mine _ rfl _ _ 24 rfl B 27 i0 (.slice none 0 0) 1 24 Try.underlying24 hi0 hz0 hz1 hz2 rfl (by decide) _ n xs rfl HX.out ⟨wr.heap.size, 0, none⟩ 1 1 [.slice (some ⟨g, 0, none⟩) k k] rfl rfl (cell_one_new _ _ _) (by intro u hu; simp at hu; subst hu; rfl) (by unfold maxLen; omega) (by omega) (by simp; omega) (by decide) ?_; intro v' w' own gr hv)
          have HN := Lib.hid (HRS2.out.add HX.out HXS.out (g := g) (HRW.out.keep (HB2.out.block g HGL.out)) HSB.out (Nat.lt_of_lt_of_le HGL.out HB2.out.size) HGV.out.1 HGV.out.2 own gr hv)
          have HBN : Hid (Below B w w') := Lib.hid (Below.grown (HBW.out.trans (HB2.out.mono hB2)) gr (by simp; omega) (fun k hk => (HX.out.lt k hk).1))
          clear own gr hv
          go_wp2_with fail
          go_roundg (rows - (n + 1))
          case measure => omega
          case rel => exact ⟨n + 1, _, by go_num, by omega, rfl, Lib.hid ⟨HN.out, HBN.out⟩⟩
    · have hge : ¬ (n : Int) < (rows : Int) := by omega
      have e : n = rows := by omega
      subst e
      go_wp2_with fail
      go_ret
      exact ⟨_, rfl, ⟨G, HS.out.1⟩, HS.out.2⟩
end Go.Proofs.Ytmnfgbfajhinlaa
