import Derived.Test.YtoofgcdilgfclaaU10
import Derived.Test.YtoofgcdilgfclaaU13
import Derived.Test.YtoofgcdilgfclaaU18
namespace Go.Proofs.Ytoofgcdilgfclaa
open Go.RowKit Go.Sort
set_option maxRecDepth 100000
set_option maxHeartbeats 1000000

/-- The block of a piece. -/
def atP (p : Pc) : Nat := 2 * p.s + p.g % 2
end Go.Proofs.Ytoofgcdilgfclaa
namespace Go.Proofs.Ytoofgcdilgfclaa
open Go.RowKit Go.Sort
set_option maxRecDepth 100000
set_option maxHeartbeats 1000000

/-- Is a block a piece of a stripe, in its place? -/
def HasP (F : Nat → Nat) (s t : Nat) : Prop := IsPc F ∧ (rdP F).s = s ∧ (rdP F).g % 2 = t
def ReadRet (p : Pc) (w : World) (e : Ending) (w' : World) : Prop := ∃ A c, e = .returned (.tuple #[pv (p.s : Int) (p.g : Int) (p.i : Int) A 32 c, .bool true]) ∧ Dat w' A p.D ∧ Below w.heap.size w w'
/-- What of a stripe's blocks are its pieces. -/
def col (b : Nat → Bool) (P : Nat → Pc) : Nat → List Pc
  | 0 => []
  | k + 1 => if b k then col b P k ++ [P k] else col b P k
theorem col_len (b : Nat → Bool) (P : Nat → Pc) : ∀ k, (col b P k).length ≤ k
  | 0 => Nat.le_refl _
  | k + 1 => by
    have := col_len b P k
    unfold col
    split
    · simp; omega
    · omega
theorem col_yes {b : Nat → Bool} {P : Nat → Pc} {k : Nat} (h : b k = true) : col b P (k + 1) = col b P k ++ [P k] := by
  show (if b k then _ else _) = _
  rw [if_pos h]
theorem col_no {b : Nat → Bool} {P : Nat → Pc} {k : Nat} (h : b k = false) : col b P (k + 1) = col b P k := by
  show (if b k then _ else _) = _
  rw [if_neg (by rw [h]; decide)]
/-- All bytes of a disk are bytes. -/
def Bd (d : Disk) : Prop := ∀ k j, j < 160 → d.now k j < 256
def CGetRet (l : List Pc) (w : World) (e : Ending) (w' : World) : Prop := ∃ v, e = .returned v ∧ PL w' w.heap.size v l ∧ Below w.heap.size w w'
end Go.Proofs.Ytoofgcdilgfclaa
namespace Go.Proofs.Ytoofgcdilgfclaa
open Go.RowKit Go.Sort
set_option maxRecDepth 100000
set_option maxHeartbeats 1000000

end Go.Proofs.Ytoofgcdilgfclaa
namespace Go.Proofs.Ytoofgcdilgfclaa
open Go.RowKit Go.Sort
set_option maxRecDepth 100000
set_option maxHeartbeats 1000000

/-! What stands on a disk, told in pieces. -/
def Slot (F : Nat → Nat) (s k : Nat) : Option Pc → Prop
  | some p => p.Ok ∧ (∀ j, j < 160 → F j = pcS p j) ∧ p.s = s ∧ p.g % 2 = k
  | none => ¬ HasP F s k
theorem Slot.has {F : Nat → Nat} {s k : Nat} {o : Option Pc} (h : Slot F s k o) : o.isSome = true ↔ HasP F s k := by
  cases o with
  | none => exact ⟨fun e => (by cases e), fun e => absurd e h⟩
  | some p =>
    obtain ⟨a, b, c, d⟩ := h
    obtain ⟨e1, e2⟩ := rdP_pcS a b
    exact ⟨fun _ => ⟨e1, e2.1.trans c, by rw [e2.2.1]; exact d⟩, fun _ => rfl⟩
theorem Slot.alike {F : Nat → Nat} {s k : Nat} {p : Pc} (h : Slot F s k (some p)) : (rdP F).Alike p := (rdP_pcS h.1 h.2.1).2
theorem not_isPc_zero {F : Nat → Nat} (h : F 0 = 0) : ¬ IsPc F := fun e => by
  unfold IsPc at e
  have := e.1.1
  omega
theorem Slot.blank {s k : Nat} : Slot (fun _ => 0) s k none := fun h => not_isPc_zero rfl h.1
theorem Slot.of_pc {p : Pc} (h : p.Ok) : Slot (pcS p) p.s (p.g % 2) (some p) := ⟨h, fun _ _ => rfl, rfl, rfl⟩
/-- A piece that stands elsewhere than it belongs. -/
theorem Slot.of_far {F : Nat → Nat} {p : Pc} {s k : Nat} (h : p.Ok) (hF : ∀ j, j < 160 → F j = pcS p j) (hne : ¬ (p.s = s ∧ p.g % 2 = k)) : Slot F s k none := fun e => by
  have h2 := (rdP_pcS h hF).2
  exact hne ⟨by rw [← h2.1]; exact e.2.1, by rw [← h2.2.1]; exact e.2.2⟩
theorem PcX.alike {w : World} {x : Nat → Option Value} {p q : Pc} (h : PcX w x p) (e : p.Alike q) : PcX w x q := by
  obtain ⟨A, c, a, b, d, f, g⟩ := h
  obtain ⟨e1, e2, e3, e4⟩ := e
  exact ⟨A, c, by rw [← e1]; exact a, by rw [← e2]; exact b, by rw [← e3]; exact d, f, g.congr e4⟩
theorem PL.alike {w : World} {B : Nat} {v : Value} {l l' : List Pc} (h : PL w B v l) (hl : l.length = l'.length) (e : ∀ (i : Nat) (p q : Pc), l[i]? = some p → l'[i]? = some q → p.Alike q) : PL w B v l' := by
  rcases h with ⟨rfl, h⟩ | ⟨b, c, cur, hv, hb, hh, hx⟩
  · exact Or.inl ⟨List.length_eq_zero_iff.1 hl.symm, h⟩
  · refine Or.inr ⟨b, c, cur, by rw [← hl]; exact hv, hb, hh, fun i q hi => ?_⟩
    have hi' : i < l.length := by rw [hl]; exact (List.getElem?_eq_some_iff.1 hi).1
    exact (hx i _ (List.getElem?_eq_getElem hi')).alike (e i _ q (List.getElem?_eq_getElem hi') hi)
/-- A stripe's pieces. -/
def two (a b : Option Pc) : List Pc := srt (a.toList ++ b.toList)
theorem two_alike {F G : Nat → Nat} {s : Nat} {a b : Option Pc} (ha : Slot F s 0 a) (hb : Slot G s 1 b) (P : Nat → Pc) (h0 : P 0 = rdP F) (h1 : P 1 = rdP G) (f : Nat → Bool) (f0 : f 0 = a.isSome) (f1 : f 1 = b.isSome) :
    (srt (col f P 2)).length = (two a b).length ∧ ∀ (i : Nat) (p q : Pc), (srt (col f P 2))[i]? = some p → (two a b)[i]? = some q → p.Alike q := by
  unfold two
  cases a with
  | none =>
    cases b with
    | none => simp [col, f0, f1, srt]
    | some q =>
      have e := hb.alike
      simp only [col, f0, f1, h1, srt, Option.isSome, Option.toList, if_true, List.nil_append, Bool.false_eq_true, if_false]
      refine ⟨rfl, fun i x y hx hy => ?_⟩
      match i, hx, hy with
      | 0, hx, hy => simp at hx hy; subst hx; subst hy; exact e
  | some p =>
    have ep := ha.alike
    cases b with
    | none =>
      simp only [col, f0, f1, h0, srt, Option.isSome, Option.toList, if_true, List.nil_append, Bool.false_eq_true, if_false, List.append_nil]
      refine ⟨rfl, fun i x y hx hy => ?_⟩
      match i, hx, hy with
      | 0, hx, hy => simp at hx hy; subst hx; subst hy; exact ep
    | some q =>
      have eq := hb.alike
      have eg : ((rdP F).g < (rdP G).g) ↔ p.g < q.g := by rw [ep.2.1, eq.2.1]
      simp only [col, f0, f1, h0, h1, Option.isSome, Option.toList, if_true, List.nil_append, List.cons_append, srt2]
      by_cases h : p.g < q.g
      · rw [if_pos (eg.2 h), if_pos h]
        refine ⟨rfl, fun i x y hx hy => ?_⟩
        match i, hx, hy with
        | 0, hx, hy => simp at hx hy; subst hx; subst hy; exact eq
        | 1, hx, hy => simp at hx hy; subst hx; subst hy; exact ep
      · rw [if_neg (fun x => h (eg.1 x)), if_neg h]
        refine ⟨rfl, fun i x y hx hy => ?_⟩
        match i, hx, hy with
        | 0, hx, hy => simp at hx hy; subst hx; subst hy; exact ep
        | 1, hx, hy => simp at hx hy; subst hx; subst hy; exact eq
/-- A disk, told in pieces. -/
structure CD (d : Disk) (M : Nat → Option Pc) : Prop where
  bd : Bd d
  slot : ∀ k, k < 80 → Slot (d.now k) (k / 2) (k % 2) (M k)
theorem CD.blank : CD Disk.blank (fun _ => none) := ⟨fun _ _ _ => by show 0 < 256; decide, fun _ _ => Slot.blank⟩
def updM (M : Nat → Option Pc) (k : Nat) (o : Option Pc) : Nat → Option Pc := fun j => if j = k then o else M j
theorem CD.put {d : Disk} {M : Nat → Option Pc} (h : CD d M) {x : Pc} (hx : x.Ok) : CD (d.write (atP x) (pcS x)) (updM M (atP x) (some x)) := by
  refine ⟨fun k j hj => ?_, fun k hk => ?_⟩
  · rw [now_write]
    unfold upd
    split
    · exact pcS_lt hx j
    · exact h.bd k j hj
  · rw [now_write]
    unfold upd updM
    dsimp only
    by_cases e : k = atP x
    · rw [if_pos e, if_pos e]
      have := Slot.of_pc hx
      have e1 : k / 2 = x.s := by rw [e]; unfold atP; omega
      have e2 : k % 2 = x.g % 2 := by rw [e]; unfold atP; omega
      rw [e1, e2]
      exact this
    · rw [if_neg e, if_neg e]
      exact h.slot k hk
theorem CD.at {d : Disk} {M : Nat → Option Pc} (h : CD d M) {s : Nat} (hs : s < 40) : Slot (d.now (2 * s)) s 0 (M (2 * s)) ∧ Slot (d.now (2 * s + 1)) s 1 (M (2 * s + 1)) := by
  have h0 := h.slot (2 * s) (by omega)
  have h1 := h.slot (2 * s + 1) (by omega)
  rw [show 2 * s / 2 = s by omega, show 2 * s % 2 = 0 by omega] at h0
  rw [show (2 * s + 1) / 2 = s by omega, show (2 * s + 1) % 2 = 1 by omega] at h1
  exact ⟨h0, h1⟩
theorem oneP_ok {s g i : Nat} {x : Int} (h1 : s < 40) (h2 : 1 ≤ g) (h3 : g ≤ 1099511627776) (h4 : i < 6) : (oneP s g i x).Ok := ⟨h1, h2, h3, h4, fun j _ => bytesF_lt x j⟩
/-- Same of pieces that are handed about. -/
theorem csameV {w : World} {v v' : Value} {p q : Pc} (h : PcV w v p) (h' : PcV w v' q) (hp : ∀ j, j < 32 → p.D j < 256) (hq : ∀ j, j < 32 → q.D j < 256) (t : Bool) (ht : t = true ↔ p.Alike q) :
    Calls Try.prog 40 #[v, v'] w fun e w' => e = .returned (.bool t) ∧ Below w.heap.size w w' := by
  obtain ⟨A, c, rfl, d⟩ := h
  obtain ⟨A', c', rfl, d'⟩ := h'
  refine csame _ _ _ _ _ _ A A' 32 c 32 c' p.D q.D w d.rd d'.rd hp hq t ?_
  rw [ht]
  unfold Pc.Alike
  constructor
  · rintro ⟨a, b, e, f⟩
    exact ⟨by omega, by omega, by omega, rfl, f⟩
  · rintro ⟨a, b, e, _, f⟩
    exact ⟨by omega, by omega, by omega, f⟩
theorem PcV.below {w w' : World} {v : Value} {p : Pc} (h : PcV w v p) (b : Below w.heap.size w w') : PcV w' v p := by
  obtain ⟨A, c, e, d⟩ := h
  exact ⟨A, c, e, d.below b⟩
theorem PcV.keep {w w' : World} {v : Value} {p : Pc} (h : PcV w v p) (k : ∀ (g : Nat) (cs : Array Value), w.heap[g]? = some (Obj.cells cs 5 (0, 0)) → w'.heap[g]? = w.heap[g]?) : PcV w' v p := by
  obtain ⟨A, c, e, d⟩ := h
  exact ⟨A, c, e, d.keep k⟩
theorem PcV.congr {w : World} {v : Value} {p q : Pc} (h : PcV w v p) (e : p.Alike q) : PcV w v q := by
  obtain ⟨A, c, rfl, d⟩ := h
  exact ⟨A, c, by rw [e.1, e.2.1, e.2.2.1], d.congr e.2.2.2⟩
end Go.Proofs.Ytoofgcdilgfclaa
