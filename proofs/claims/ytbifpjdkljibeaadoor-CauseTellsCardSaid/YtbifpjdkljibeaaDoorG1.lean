import Derived.Test.YtbifpjdkljibeaaDoorV
import Derived.Test.YtbifpjdkljibeaaDoorK5
import Derived.Deep.AppendLies
namespace Go.Proofs.YtbifpjdkljibeaaDoor
open Go.RowKit Go.Extern.Stop Go.Stop Go.Extern Go.Extern.Rtype

/-- As Txt, the blocks being such as A lets. -/
def TxtA (w : World) (A : Nat → Prop) : Nat → Value → List UInt8 → Prop
  | 0, _, _ => False
  | d + 1, v, t =>
    (v = .nilIface ∧ t = tNone) ∨
    (∃ n, v = .iface 26 (.int .i64 n) ∧ 0 ≤ n ∧ n ≤ 9 ∧ t = tErr n) ∨
    (∃ b s, v = .iface 64 (.pointer (some ⟨b, 0, none⟩)) ∧ A b ∧ w.heap[b]? = some (.cells #[.string s] 66 (0, 0)) ∧ t = s.data.toList) ∨
    (∃ b n x t', v = .iface 32 (.pointer (some ⟨b, 0, none⟩)) ∧ A b ∧ w.heap[b]? = some (.cells #[.int .i64 n, x] 42 (0, 0)) ∧ 0 ≤ n ∧ n ≤ 9 ∧ TxtA w A d x t' ∧ t = tNode n ++ t') ∨
    (∃ b n x t', v = .iface 55 (.pointer (some ⟨b, 0, none⟩)) ∧ A b ∧ w.heap[b]? = some (.cells #[.int .i64 n, x] 58 (0, 0)) ∧ 0 ≤ n ∧ n ≤ 9 ∧ TxtA w A d x t' ∧ t = tStripe n ++ t') ∨
    (∃ b g m cap row, ∃ vs : List (Value × List UInt8), v = .iface 33 (.pointer (some ⟨b, 0, none⟩)) ∧ A b ∧ A g ∧ w.heap[b]? = some (.cells #[.slice (some ⟨g, 0, none⟩) m cap] 35 (0, 0)) ∧
      w.heap[g]? = some (.cells row 24 (0, 0)) ∧ (m ≤ 1000 ∧ 0 < m) ∧ vs.length = m ∧ (∀ (i : Nat) (x : Value × List UInt8), vs[i]? = some x → row[i]? = some x.1 ∧ TxtA w A d x.1 x.2) ∧ t = tAll (vs.map (·.2)))

theorem TxtA.keep {w w' : World} {A A' : Nat → Prop} (hA : ∀ k, A k → k < w.heap.size → A' k) (h : ∀ k, A k → k < w.heap.size → w'.heap[k]? = w.heap[k]?) : ∀ (d : Nat) {v : Value} {t : List UInt8}, TxtA w A d v t → TxtA w' A' d v t
  | 0, _, _, e => e.elim
  | d + 1, _, _, e => by
    rcases e with e | e | ⟨b, s, e1, e2, e3, e4⟩ | ⟨b, n, x, t', e1, e2, e3, e4, e5, e6, e7⟩ | ⟨b, n, x, t', e1, e2, e3, e4, e5, e6, e7⟩ | ⟨b, g, m, cap, row, vs, e1, e2, e3, e4, e5, e6, e7, e8, e9⟩
    · exact .inl e
    · exact .inr (.inl e)
    · exact .inr (.inr (.inl ⟨b, s, e1, hA b e2 (heap_lt e3), by rw [h b e2 (heap_lt e3)]; exact e3, e4⟩))
    · exact .inr (.inr (.inr (.inl ⟨b, n, x, t', e1, hA b e2 (heap_lt e3), by rw [h b e2 (heap_lt e3)]; exact e3, e4, e5, TxtA.keep hA h d e6, e7⟩)))
    · exact .inr (.inr (.inr (.inr (.inl ⟨b, n, x, t', e1, hA b e2 (heap_lt e3), by rw [h b e2 (heap_lt e3)]; exact e3, e4, e5, TxtA.keep hA h d e6, e7⟩))))
    · exact .inr (.inr (.inr (.inr (.inr ⟨b, g, m, cap, row, vs, e1, hA b e2 (heap_lt e4), hA g e3 (heap_lt e5), by rw [h b e2 (heap_lt e4)]; exact e4, by rw [h g e3 (heap_lt e5)]; exact e5, e6, e7, fun i x hx => ⟨(e8 i x hx).1, TxtA.keep hA h d (e8 i x hx).2⟩, e9⟩))))

theorem TxtA.txt {w : World} {A : Nat → Prop} : ∀ (d : Nat) {v : Value} {t : List UInt8}, TxtA w A d v t → Txt w w.heap.size d v t
  | 0, _, _, e => e.elim
  | d + 1, _, _, e => by
    rcases e with e | e | ⟨b, s, e1, e2, e3, e4⟩ | ⟨b, n, x, t', e1, e2, e3, e4, e5, e6, e7⟩ | ⟨b, n, x, t', e1, e2, e3, e4, e5, e6, e7⟩ | ⟨b, g, m, cap, row, vs, e1, e2, e3, e4, e5, e6, e7, e8, e9⟩
    · exact .inl e
    · exact .inr (.inl e)
    · exact .inr (.inr (.inl ⟨b, s, e1, heap_lt e3, e3, e4⟩))
    · exact .inr (.inr (.inr (.inl ⟨b, n, x, t', e1, heap_lt e3, e3, e4, e5, TxtA.txt d e6, e7⟩)))
    · exact .inr (.inr (.inr (.inr (.inl ⟨b, n, x, t', e1, heap_lt e3, e3, e4, e5, TxtA.txt d e6, e7⟩))))
    · exact .inr (.inr (.inr (.inr (.inr ⟨b, g, m, cap, row, vs, e1, heap_lt e4, heap_lt e5, e4, e5, e6, e7, fun i x hx => ⟨(e8 i x hx).1, TxtA.txt d (e8 i x hx).2⟩, e9⟩))))

theorem TxtA.deeper {w : World} {A : Nat → Prop} : ∀ (d : Nat) {v : Value} {t : List UInt8}, TxtA w A d v t → TxtA w A (d + 1) v t
  | 0, _, _, e => e.elim
  | d + 1, _, _, e => by
    rcases e with e | e | e | ⟨b, n, x, t', e1, e2, e3, e4, e5, e6, e7⟩ | ⟨b, n, x, t', e1, e2, e3, e4, e5, e6, e7⟩ | ⟨b, g, m, cap, row, vs, e1, e2, e3, e4, e5, e6, e7, e8, e9⟩
    · exact .inl e
    · exact .inr (.inl e)
    · exact .inr (.inr (.inl e))
    · exact .inr (.inr (.inr (.inl ⟨b, n, x, t', e1, e2, e3, e4, e5, TxtA.deeper d e6, e7⟩)))
    · exact .inr (.inr (.inr (.inr (.inl ⟨b, n, x, t', e1, e2, e3, e4, e5, TxtA.deeper d e6, e7⟩))))
    · exact .inr (.inr (.inr (.inr (.inr ⟨b, g, m, cap, row, vs, e1, e2, e3, e4, e5, e6, e7, fun i x hx => ⟨(e8 i x hx).1, TxtA.deeper d (e8 i x hx).2⟩, e9⟩))))

/-- A list of numbers in a block such as A lets. -/
def NodA (w : World) (A : Nat → Prop) (v : Value) (xs : List Int) : Prop := w.ownsRow 0 3 1 v xs.length (xs.map (Value.int .i64)) ∧ ∀ k, v.ownBlock = some k → A k

theorem owns_keep {w w' : World} {base n size : Nat} {t : TypeId} {v : Value} {xs : List Value} (h : w.ownsRow base t size v n xs) (hb : ∀ k, v.ownBlock = some k → w'.heap[k]? = w.heap[k]?) : w'.ownsRow base t size v n xs := by
  obtain ⟨h1, h2⟩ := h
  refine ⟨h1, ?_⟩
  rcases h2 with h2 | ⟨g, cap, cur, rfl, hg, hh, r⟩
  · exact Or.inl h2
  · exact Or.inr ⟨g, cap, cur, rfl, hg, by rw [hb g rfl]; exact hh, r⟩

theorem owns_base {w : World} {base base' n size : Nat} {t : TypeId} {v : Value} {xs : List Value} (h : w.ownsRow base t size v n xs) (hb : base' ≤ base) : w.ownsRow base' t size v n xs := by
  obtain ⟨h1, h2⟩ := h
  refine ⟨h1, ?_⟩
  rcases h2 with h2 | ⟨g, cap, cur, rfl, hg, hh, r⟩
  · exact Or.inl h2
  · exact Or.inr ⟨g, cap, cur, rfl, Nat.le_trans hb hg, hh, r⟩

theorem NodA.keep {w w' : World} {A A' : Nat → Prop} {v : Value} {xs : List Int} (hA : ∀ k, A k → k < w.heap.size → A' k) (h : ∀ k, A k → k < w.heap.size → w'.heap[k]? = w.heap[k]?) (e : NodA w A v xs) : NodA w' A' v xs :=
  ⟨owns_keep e.1 fun k hk => h k (e.2 k hk) (e.1.lt k hk).2, fun k hk => hA k (e.2 k hk) (e.1.lt k hk).2⟩

/-- A tree and what is said of it. -/
structure GK where
  v : Value
  cs : List Int
  ns : List Nd
  st : List Int
  tx : List UInt8
  nv : Value

def codeZ : List Int → Int
  | [] => 0
  | n :: _ => n

def GK.say (k : GK) : List Value := [.int .i64 (codeZ k.cs), k.nv, .int .i64 (stripeOf k.st), .bool (stripeIs k.st), .string ⟨k.tx.toArray⟩]

structure Fits (w : World) (A : Nat → Prop) (d : Nat) (k : GK) : Prop where
  err : ErrA w A d k.v k.cs k.ns k.st
  txt : TxtA w A d k.v k.tx
  nod : NodA w A k.nv (nodesOf k.ns)
  cod : ∀ c ∈ k.cs, 1 ≤ c ∧ c ≤ 9

theorem Fits.keep {w w' : World} {A A' : Nat → Prop} {d : Nat} {k : GK} (e : Fits w A d k) (hA : ∀ k, A k → k < w.heap.size → A' k) (h : ∀ k, A k → k < w.heap.size → w'.heap[k]? = w.heap[k]?) : Fits w' A' d k :=
  ⟨e.err.keep hA (fun k c t hk hh _ => by rw [h k hk (heap_lt hh)]; exact hh), e.txt.keep hA h, e.nod.keep hA h, e.cod⟩

theorem Fits.deeper {w : World} {A : Nat → Prop} {d : Nat} {k : GK} (e : Fits w A d k) : Fits w A (d + 1) k := ⟨e.err.deeper, e.txt.deeper, e.nod, e.cod⟩

theorem Fits.deep {w : World} {A : Nat → Prop} {d d' : Nat} {k : GK} (h : d ≤ d') (e : Fits w A d k) : Fits w A d' k := by
  obtain ⟨j, rfl⟩ := Nat.exists_eq_add_of_le h
  induction j with
  | zero => exact e
  | succ j ih => exact (ih (by omega)).deeper

def Ap (s4 s5 : Value) (k : Nat) : Prop := s4.ownBlock ≠ some k ∧ s5.ownBlock ≠ some k

theorem nod_nil (w : World) (A : Nat → Prop) : NodA w A (.slice none 0 0) [] := ⟨World.ownsRow_nil _ _ _ _, fun k hk => by cases hk⟩

theorem Fits.code (w : World) (A : Nat → Prop) (n : Int) (h1 : 1 ≤ n) (h9 : n ≤ 9) : Fits w A 1 ⟨.iface 26 (.int .i64 n), [n], [(.iface 26 (.int .i64 n), none)], [], tErr n, .slice none 0 0⟩ :=
  ⟨.inl ⟨n, rfl, rfl, rfl, rfl⟩, .inr (.inl ⟨n, rfl, by omega, h9, rfl⟩), nod_nil _ _, fun c hc => by rw [List.mem_singleton.1 hc]; exact ⟨h1, h9⟩⟩

theorem Fits.text {w : World} {A : Nat → Prop} {b : Nat} {s : ByteArray} (hA : A b) (hb : w.heap[b]? = some (.cells #[.string s] 66 (0, 0))) :
    Fits w A 1 ⟨.iface 64 (.pointer (some ⟨b, 0, none⟩)), [], [(.iface 64 (.pointer (some ⟨b, 0, none⟩)), none)], [], s.data.toList, .slice none 0 0⟩ :=
  ⟨.inr (.inl ⟨b, s, rfl, hA, hb, rfl, rfl, rfl⟩), .inr (.inr (.inl ⟨b, s, rfl, hA, hb, rfl⟩)), nod_nil _ _, fun c hc => by cases hc⟩

theorem Fits.node {w : World} {A : Nat → Prop} {d b : Nat} {k : GK} {n : Int} {nv : Value} (h : Fits w A d k) (hA : A b) (hb : w.heap[b]? = some (.cells #[.int .i64 n, k.v] 42 (0, 0))) (h0 : 0 ≤ n) (h9 : n ≤ 9) (hn : NodA w A nv (n :: nodesOf k.ns)) :
    Fits w A (d + 1) ⟨.iface 32 (.pointer (some ⟨b, 0, none⟩)), k.cs, (.iface 32 (.pointer (some ⟨b, 0, none⟩)), some n) :: k.ns, k.st, tNode n ++ k.tx, nv⟩ :=
  ⟨.inr (.inr (.inl ⟨b, n, k.v, k.ns, rfl, hA, hb, h.err, rfl⟩)), .inr (.inr (.inr (.inl ⟨b, n, k.v, k.tx, rfl, hA, hb, h0, h9, h.txt, rfl⟩))), hn, h.cod⟩

theorem Fits.stripe {w : World} {A : Nat → Prop} {d b : Nat} {k : GK} {n : Int} (h : Fits w A d k) (hA : A b) (hb : w.heap[b]? = some (.cells #[.int .i64 n, k.v] 58 (0, 0))) (h0 : 0 ≤ n) (h9 : n ≤ 9) :
    Fits w A (d + 1) ⟨.iface 55 (.pointer (some ⟨b, 0, none⟩)), k.cs, (.iface 55 (.pointer (some ⟨b, 0, none⟩)), none) :: k.ns, n :: k.st, tStripe n ++ k.tx, k.nv⟩ :=
  ⟨.inr (.inr (.inr (.inl ⟨b, n, k.v, k.ns, k.st, rfl, hA, hb, h.err, rfl, rfl⟩))), .inr (.inr (.inr (.inr (.inl ⟨b, n, k.v, k.tx, rfl, hA, hb, h0, h9, h.txt, rfl⟩)))), h.nod, h.cod⟩

/-- What is joined. -/
theorem JPost.fits {A A' : Nat → Prop} {ys : List Value} {w w' : World} {e : Ending} (h : JPost ys w e w') (zs : List GK) (hys : ys = zs.map (·.v)) (hm : zs.length ≤ 1000) (d : Nat)
    (hz : ∀ z ∈ zs, Fits w A d z) (hne : zs ≠ []) (hA : ∀ k, A k → k < w.heap.size → A' k) (hnew : ∀ k, w.heap.size ≤ k → A' k) :
    ∃ v ns, e = .returned v ∧ (∃ t x, v = .iface t x) ∧ nodesOf ns = (zs.map fun z => nodesOf z.ns).flatten ∧ ErrA w' A' (d + 1) v (zs.map (·.cs)).flatten ns (zs.map (·.st)).flatten ∧ TxtA w' A' (d + 1) v (tAll (zs.map (·.tx))) ∧ ∀ c ∈ (zs.map (·.cs)).flatten, 1 ≤ c ∧ c ≤ 9 := by
  obtain ⟨hb, ⟨h0, _⟩ | ⟨y, h1, he⟩ | ⟨h2, b, g, cap, row, he, hb1, hg1, hh, hr, hc, ht⟩⟩ := h
  · rw [hys] at h0; exact absurd (List.map_eq_nil_iff.1 h0) hne
  · rw [hys] at h1
    match zs, h1, hz with
    | [z], h1, hz =>
      simp at h1
      have hk := ((hz z List.mem_cons_self).keep (A' := A') hA (fun k _ hk => hb.block k hk)).deeper
      refine ⟨y, z.ns, he, h1 ▸ (hz z List.mem_cons_self).err.iface, by simp, ?_, ?_, ?_⟩
      · have := hk.err; rw [h1] at this; simpa using this
      · have := hk.txt; rw [h1] at this; simpa [tAll] using this
      · simpa using hk.cod
  · have hlen : ys.length = zs.length := by rw [hys, List.length_map]
    have hrow : ∀ (i : Nat) (z : GK), zs[i]? = some z → row[i]? = some z.v := by
      intro i z hi
      have h3 : ys[i]? = some z.v := by rw [hys, List.getElem?_map, hi]; rfl
      rw [← ht, List.getElem?_take] at h3
      split at h3
      · simpa using h3
      · cases h3
    have hk : ∀ z ∈ zs, Fits w' A' d z := fun z hzm => (hz z hzm).keep hA (fun k _ hk => hb.block k hk)
    have hget : ∀ {α : Type} (f : GK → α) (i : Nat) (x : α), (zs.map f)[i]? = some x → ∃ z, zs[i]? = some z ∧ f z = x := by
      intro α f i x hx
      rw [List.getElem?_map] at hx
      cases hzi : zs[i]? with
      | none => rw [hzi] at hx; cases hx
      | some z => rw [hzi] at hx; exact ⟨z, rfl, by simpa using hx⟩
    refine ⟨_, (.iface 33 (.pointer (some ⟨b, 0, none⟩)), none) :: (zs.map (·.ns)).flatten, he, ⟨_, _, rfl⟩, ?_, ?_, ?_, ?_⟩
    · have : nodesOf ((Value.iface 33 (.pointer (some ⟨b, 0, none⟩)), none) :: (zs.map (·.ns)).flatten) = nodesOf (zs.map (·.ns)).flatten := rfl
      rw [this, nodesOf_flat]
    · refine .inr (.inr (.inr (.inr ⟨b, g, ys.length, cap, row, zs.map fun z => (z.v, z.cs, z.ns, z.st), rfl, hnew b hb1, hnew g hg1, hh, hr, hc, by omega, by omega, by rw [List.length_map, hlen], ?_, by simp [List.map_map, Function.comp_def], by simp [List.map_map, Function.comp_def], by simp [List.map_map, Function.comp_def]⟩)))
      intro i x hx
      obtain ⟨z, hzi, rfl⟩ := hget _ i x hx
      exact ⟨hrow i z hzi, (hk z (List.mem_of_getElem? hzi)).err⟩
    · refine .inr (.inr (.inr (.inr (.inr ⟨b, g, ys.length, cap, row, zs.map fun z => (z.v, z.tx), rfl, hnew b hb1, hnew g hg1, hh, hr, by omega, by rw [List.length_map, hlen], ?_, by simp [List.map_map, Function.comp_def]⟩))))
      intro i x hx
      obtain ⟨z, hzi, rfl⟩ := hget _ i x hx
      exact ⟨hrow i z hzi, (hk z (List.mem_of_getElem? hzi)).txt⟩
    · intro c hc
      obtain ⟨l, hl, hcl⟩ := List.mem_flatten.1 hc
      obtain ⟨z, hzm, rfl⟩ := List.mem_map.1 hl
      exact (hz z hzm).cod c hcl

/-- The two rows of grow, and the trees. -/
structure Two (w0 : World) (s4 s5 : Value) (w : World) (n : Nat) (vs : List Value) (m : Nat) (cl : List Value) (d : Nat) (ks : List GK) : Prop where
  own4 : w.ownsRow w0.heap.size 24 1 s4 n vs
  own5 : w.ownsRow w0.heap.size 48 5 s5 m cl
  below : Below w0.heap.size w0 w
  fits : ∀ k ∈ ks, Fits w (Ap s4 s5) d k

theorem Two.size {w0 w : World} {s4 s5 : Value} {n m d : Nat} {vs cl : List Value} {ks : List GK} (h : Two w0 s4 s5 w n vs m cl d ks) : w0.heap.size ≤ w.heap.size := h.below.size

theorem rows_ne {w : World} {b b' n m z z' : Nat} {t t' : TypeId} {v v' : Value} {xs ys : List Value} (h : w.ownsRow b t z v n xs) (h' : w.ownsRow b' t' z' v' m ys) (ht : t ≠ t') : ∀ k, v.ownBlock = some k → v'.ownBlock ≠ some k := by
  intro k hk hk'
  obtain ⟨_, ⟨rfl, _⟩ | ⟨g, _, _, rfl, _, hh, _⟩⟩ := h
  · cases hk
  · obtain ⟨_, ⟨rfl, _⟩ | ⟨g', _, _, rfl, _, hh', _⟩⟩ := h'
    · cases hk'
    · cases hk; cases hk'
      rw [hh] at hh'
      injection hh' with hh'
      injection hh' with _ hh' _
      exact ht hh'

theorem Two.more {w0 w w' : World} {s4 s5 : Value} {n m d : Nat} {vs cl : List Value} {ks : List GK} (h : Two w0 s4 s5 w n vs m cl d ks) (hb : Below w.heap.size w w') : Two w0 s4 s5 w' n vs m cl d ks :=
  ⟨owns_keep h.own4 fun k hk => hb.block k (h.own4.lt k hk).2, owns_keep h.own5 fun k hk => hb.block k (h.own5.lt k hk).2, h.below.trans (hb.mono h.size), fun k hk => (h.fits k hk).keep (fun _ a _ => a) (fun k _ hl => hb.block k hl)⟩

theorem Two.app4 {w0 w w' : World} {s4 s5 s4' : Value} {n n' m d : Nat} {vs vs' cl : List Value} {ks : List GK} (h : Two w0 s4 s5 w n vs m cl d ks) (ho : w'.ownsRow w0.heap.size 24 1 s4' n' vs') (hg : w.grownBy w' s4.ownBlock)
    (hs : s4'.ownBlock = s4.ownBlock ∨ ∃ g, s4'.ownBlock = some g ∧ w.heap.size ≤ g) : Two w0 s4' s5 w' n' vs' m cl d ks :=
  ⟨ho, owns_keep h.own5 fun k hk => hg.block k (h.own5.lt k hk).2 (fun e => rows_ne h.own5 h.own4 (by decide) k hk e.symm), h.below.grown hg h.size (fun k hk => (h.own4.lt k hk).1),
    fun k hk => (h.fits k hk).keep (fun j hj hl => ⟨by
      rcases hs with hs | ⟨g, hs, hge⟩
      · rw [hs]; exact hj.1
      · rw [hs]; intro e; injection e with e; omega, hj.2⟩) (fun j hj hl => hg.block j hl (fun e => hj.1 e.symm))⟩

theorem Two.app5 {w0 w w' : World} {s4 s5 s5' : Value} {n m m' d : Nat} {vs cl cl' : List Value} {ks : List GK} (h : Two w0 s4 s5 w n vs m cl d ks) (ho : w'.ownsRow w0.heap.size 48 5 s5' m' cl') (hg : w.grownBy w' s5.ownBlock)
    (hs : s5'.ownBlock = s5.ownBlock ∨ ∃ g, s5'.ownBlock = some g ∧ w.heap.size ≤ g) : Two w0 s4 s5' w' n vs m' cl' d ks :=
  ⟨owns_keep h.own4 fun k hk => hg.block k (h.own4.lt k hk).2 (fun e => rows_ne h.own4 h.own5 (by decide) k hk e.symm), ho, h.below.grown hg h.size (fun k hk => (h.own5.lt k hk).1),
    fun k hk => (h.fits k hk).keep (fun j hj hl => ⟨hj.1, by
      rcases hs with hs | ⟨g, hs, hge⟩
      · rw [hs]; exact hj.2
      · rw [hs]; intro e; injection e with e; omega⟩) (fun j hj hl => hg.block j hl (fun e => hj.2 e.symm))⟩

theorem Two.kids {w0 w : World} {s4 s5 : Value} {n m d d' : Nat} {vs cl : List Value} {ks ks' : List GK} (h : Two w0 s4 s5 w n vs m cl d ks) (hk : ∀ k ∈ ks', Fits w (Ap s4 s5) d' k) : Two w0 s4 s5 w n vs m cl d' ks' := ⟨h.own4, h.own5, h.below, hk⟩

theorem take_set (cur : Array Value) (n j : Nat) (u : Value) : (cur.setIfInBounds j u).toList.take n = (cur.toList.take n).set j u := by
  rw [Array.toList_setIfInBounds, List.take_set]

/-- A cell of an own row, written. -/
theorem owns_put {w : World} {base n c size g j : Nat} {t : TypeId} {xs : List Value} (h : w.ownsRow base t size (.slice (some ⟨g, 0, none⟩) n c) n xs) (u : Value) :
    (w.setCell ⟨g, j, none⟩ u).ownsRow base t size (.slice (some ⟨g, 0, none⟩) n c) n (xs.set j u) := by
  obtain ⟨h1, h2⟩ := h
  refine ⟨by rw [List.length_set]; exact h1, ?_⟩
  rcases h2 with ⟨h2, _⟩ | ⟨g', cap, cur, e, hg, hh, r1, r2, r3, r4⟩
  · cases h2
  · cases e
    exact .inr ⟨g, c, cur.setIfInBounds j u, rfl, hg, heap_setCell_same w g j cur t u hh, r1, r2, by rw [Array.size_setIfInBounds]; exact r3, by rw [take_set, r4]⟩

theorem Two.put4 {w0 w : World} {s5 : Value} {g c j n m d : Nat} {vs cl : List Value} {ks : List GK} (h : Two w0 (.slice (some ⟨g, 0, none⟩) n c) s5 w n vs m cl d ks) (u : Value) :
    Two w0 (.slice (some ⟨g, 0, none⟩) n c) s5 (w.setCell ⟨g, j, none⟩ u) n (vs.set j u) m cl d ks :=
  ⟨owns_put h.own4 u, owns_keep h.own5 fun k hk => Below.heap_setCell _ _ _ _ (by rintro rfl; exact rows_ne h.own5 h.own4 (by decide) _ hk rfl), h.below.setCell (p := ⟨g, j, none⟩) (h.own4.lt g rfl).1 u,
    fun k hk => (h.fits k hk).keep (fun _ a _ => a) (fun i hi _ => Below.heap_setCell _ _ _ _ (by rintro rfl; exact hi.1 rfl))⟩

theorem Two.put5 {w0 w : World} {s4 : Value} {g c j n m d : Nat} {vs cl : List Value} {ks : List GK} (h : Two w0 s4 (.slice (some ⟨g, 0, none⟩) m c) w n vs m cl d ks) (u : Value) :
    Two w0 s4 (.slice (some ⟨g, 0, none⟩) m c) (w.setCell ⟨g, j, none⟩ u) n vs m (cl.set j u) d ks :=
  ⟨owns_keep h.own4 fun k hk => Below.heap_setCell _ _ _ _ (by rintro rfl; exact rows_ne h.own4 h.own5 (by decide) _ hk rfl), owns_put h.own5 u, h.below.setCell (p := ⟨g, j, none⟩) (h.own5.lt g rfl).1 u,
    fun k hk => (h.fits k hk).keep (fun _ a _ => a) (fun i hi _ => Below.heap_setCell _ _ _ _ (by rintro rfl; exact hi.2 rfl))⟩

end Go.Proofs.YtbifpjdkljibeaaDoor
