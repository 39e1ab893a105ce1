import Derived.Test.YtbifpjdkljibeaaDoorG2
import Derived.Test.YtbifpjdkljibeaaDoorN3
import Derived.Deep.RegionLaw
import Derived.Deep.CutRange
import Derived.Deep.RegionWith
namespace Go.Proofs.YtbifpjdkljibeaaDoor
open Go.RowKit Go.Extern.Stop Go.Stop Go.Extern Go.Extern.Rtype

def GK.on (k : GK) (b : Nat) (n : Int) (nv : Value) : GK := ⟨.iface 32 (.pointer (some ⟨b, 0, none⟩)), k.cs, (.iface 32 (.pointer (some ⟨b, 0, none⟩)), some n) :: k.ns, k.st, tNode n ++ k.tx, nv⟩
def GK.of (k : GK) (b : Nat) (n : Int) : GK := ⟨.iface 55 (.pointer (some ⟨b, 0, none⟩)), k.cs, (.iface 55 (.pointer (some ⟨b, 0, none⟩)), none) :: k.ns, n :: k.st, tStripe n ++ k.tx, k.nv⟩

/-- A slice of raw steps. -/
def Raws (w : World) (a : Option Addr) (xs : List (Int × Int)) : Prop := ∀ (i : Nat) (x : Int × Int), xs[i]? = some x → ∃ g o, a = some ⟨g, o, none⟩ ∧ g < w.heap.size ∧ w.cell? ⟨g, o + i * 2, none⟩ = some (.int .i64 x.1) ∧ w.cell? ⟨g, o + i * 2 + 1, none⟩ = some (.int .i64 x.2)

/-- grow's loop, behind i steps. -/
structure GrowP (w0 : World) (s4 s5 : Value) (w : World) (i d : Nat) (ks : List GK) : Prop where
  two : Two w0 s4 s5 w ks.length (ks.map (·.v)) ks.length (ks.map GK.say).flatten d ks
  nod : (ks.map fun k => (nodesOf k.ns).length).sum ≤ i
  txt : (ks.map fun k => k.tx.length).sum ≤ 20 * i
  len : ks.length ≤ i

theorem GrowP.more {w0 w w' : World} {s4 s5 : Value} {i d : Nat} {ks : List GK} (h : GrowP w0 s4 s5 w i d ks) (hb : Below w.heap.size w w') : GrowP w0 s4 s5 w' i d ks := ⟨h.two.more hb, h.nod, h.txt, h.len⟩

theorem GrowP.start (w : World) : GrowP w (.slice none 0 0) (.slice none 0 0) w 0 0 [] :=
  ⟨⟨World.ownsRow_nil _ _ _ _, World.ownsRow_nil _ _ _ _, Below.refl _ _, fun k hk => by cases hk⟩, Nat.le_refl _, Nat.le_refl _, Nat.le_refl _⟩

theorem own_form {w : World} {base n size : Nat} {t : TypeId} {v : Value} {xs : List Value} (h : w.ownsRow base t size v n xs) : ∃ a c, v = .slice a n c := by
  obtain ⟨_, ⟨rfl, rfl⟩ | ⟨g, cap, cur, rfl, _⟩⟩ := h
  · exact ⟨none, 0, rfl⟩
  · exact ⟨_, _, rfl⟩

/-- One tree more. -/
theorem GrowP.push {w0 w' : World} {s4 s5 : Value} {i d d' n : Nat} {ks : List GK} (k : GK) (hnl : n = ks.length)
    (h : Two w0 s4 s5 w' (n + 1) (ks.map (·.v) ++ [k.v]) (n + 1) ((ks.map GK.say).flatten ++ k.say) d ks) (hk : Fits w' (Ap s4 s5) d' k) (hn : (ks.map fun k => (nodesOf k.ns).length).sum ≤ i) (ht : (ks.map fun k => k.tx.length).sum ≤ 20 * i) (hl : ks.length ≤ i)
    (hkn : (nodesOf k.ns).length ≤ 1) (hkt : k.tx.length ≤ 20) : GrowP w0 s4 s5 w' (i + 1) (max d d') (ks ++ [k]) := by
  subst hnl
  refine ⟨?_, ?_, ?_, ?_⟩
  · have := h.kids (d' := max d d') (ks' := ks ++ [k]) (fun z hz => by
      rcases List.mem_append.1 hz with hz | hz
      · exact (h.fits z hz).deep (Nat.le_max_left _ _)
      · rw [List.mem_singleton.1 hz]; exact hk.deep (Nat.le_max_right _ _))
    simpa using this
  · simp; omega
  · simp; omega
  · simp; omega

theorem say_len (ks : List GK) : (ks.map GK.say).flatten.length = ks.length * 5 := by
  induction ks with
  | nil => rfl
  | cons k ks ih => simp [ih, GK.say]; omega

theorem set_at {α : Type} (xs ys : List α) (m j n : Nat) (u : α) (hm : xs.length = m) (hn : n = m + j) : (xs ++ ys).set n u = xs ++ ys.set j u := by
  subst hm hn
  rw [List.set_append_right _ _ (Nat.le_add_right _ _), Nat.add_sub_cancel_left]

theorem get_at {α : Type} (xs ys : List α) (m j n : Nat) (hm : xs.length = m) (hn : n = m + j) : (xs ++ ys)[n]? = ys[j]? := by
  subst hm hn
  rw [List.getElem?_append_right (Nat.le_add_right _ _), Nat.add_sub_cancel_left]

/-- The last tree turned. -/
theorem GrowP.swap {w0 w' : World} {s4 s5 : Value} {i d d' m : Nat} {ks0 : List GK} {kl : GK} {vs cl : List Value} (k : GK) (h : Two w0 s4 s5 w' (m + 1) vs (m + 1) cl d (ks0 ++ [kl])) (hm : ks0.length = m) (hv : vs = ks0.map (·.v) ++ [k.v]) (hc : cl = (ks0.map GK.say).flatten ++ k.say) (hk : Fits w' (Ap s4 s5) d' k)
    (hn : ((ks0 ++ [kl]).map fun k => (nodesOf k.ns).length).sum ≤ i) (ht : ((ks0 ++ [kl]).map fun k => k.tx.length).sum ≤ 20 * i) (hl : m + 1 ≤ i) (hkn : (nodesOf k.ns).length ≤ (nodesOf kl.ns).length + 1) (hkt : k.tx.length ≤ kl.tx.length + 20) : GrowP w0 s4 s5 w' (i + 1) (max d d') (ks0 ++ [k]) := by
  subst hm hv hc
  refine ⟨?_, ?_, ?_, ?_⟩
  · have := h.kids (d' := max d d') (ks' := ks0 ++ [k]) (fun z hz => by
      rcases List.mem_append.1 hz with hz | hz
      · exact (h.fits z (List.mem_append_left _ hz)).deep (Nat.le_max_left _ _)
      · rw [List.mem_singleton.1 hz]; exact hk.deep (Nat.le_max_right _ _))
    simpa using this
  · simp at hn ⊢; omega
  · simp at ht ⊢; omega
  · simp; omega

theorem owns_cell {w : World} {base n c size g j : Nat} {t : TypeId} {xs : List Value} {u : Value} (h : w.ownsRow base t size (.slice (some ⟨g, 0, none⟩) n c) n xs) (hu : xs[j]? = some u) : w.cell? ⟨g, j, none⟩ = some u := by
  have := h.cells rfl j u hu
  by_cases hj : j = 0
  · subst hj; exact this
  · simpa [Addr.add, hj] using this

theorem owns_cap {w : World} {base n c size g : Nat} {t : TypeId} {xs : List Value} (h : w.ownsRow base t size (.slice (some ⟨g, 0, none⟩) n c) n xs) : n ≤ c := by
  obtain ⟨_, ⟨h2, _⟩ | ⟨g', cap, cur, e, _, _, hc, _⟩⟩ := h
  · cases h2
  · cases e; exact hc

theorem owns_free {w : World} {base n c size g j : Nat} {t : TypeId} {xs : List Value} (h : w.ownsRow base t size (.slice (some ⟨g, 0, none⟩) n c) n xs) : w.frozen? ⟨g, j, none⟩ = false := by
  obtain ⟨_, ⟨h2, _⟩ | ⟨g', cap, cur, e, hg, hh, _⟩⟩ := h
  · cases h2
  · cases e
    simp [World.frozen?, hh]

theorem rows_old {w w' : World} {b b' n m z z' : Nat} {t t' : TypeId} {s4 s5 v : Value} {xs ys zs : List Value} {B : Nat} (h4 : w.ownsRow b t z s4 n xs) (h5 : w.ownsRow b' t' z' s5 m ys) (hB : w.heap.size ≤ B) {qn qz : Nat} {qt : TypeId} (hv : w'.ownsRow B qt qz v qn zs) : ∀ k, v.ownBlock = some k → Ap s4 s5 k := by
  intro k hk
  have h := (hv.lt k hk).1
  refine ⟨fun e => ?_, fun e => ?_⟩
  · have := (h4.lt k e).2; omega
  · have := (h5.lt k e).2; omega

theorem owns_from {w : World} {base n c size g f : Nat} {t : TypeId} {xs : List Value} (h : w.ownsRow base t size (.slice (some ⟨g, 0, none⟩) n c) n xs) : ∀ j u, (xs.drop f)[j]? = some u → w.cell? ((⟨g, f, none⟩ : Addr).add j) = some u := by
  intro j u hu
  rw [List.getElem?_drop] at hu
  rw [Addr.add_lit]
  exact owns_cell h hu

theorem owns_front {w : World} {base n c size g f : Nat} {t : TypeId} {xs : List Value} (h : w.ownsRow base t size (.slice (some ⟨g, 0, none⟩) n c) n xs) : ∀ j u, (xs.take f)[j]? = some u → w.cell? ((⟨g, 0, none⟩ : Addr).add j) = some u := by
  intro j u hu
  rw [List.getElem?_take] at hu
  split at hu
  · rw [Addr.add_lit, Nat.zero_add]
    exact owns_cell h hu
  · cases hu

theorem join_row {w : World} {base n : Nat} {v : Value} {xs : List Value} (h : w.ownsRow base 24 1 v n xs) (hm : xs.length ≤ 1000) (hx : ∀ x ∈ xs, x = .nilIface ∨ ∃ t u, x = .iface t u) : Calls Tryd.prog 10 #[v] w (JPost (alive xs) w) := by
  obtain ⟨_, a, c, rfl, hh⟩ := holds_of h
  exact join10 a xs c w hm hx hh

theorem alive_mid (xs : List Value) (h : ∀ x ∈ xs, ∃ t u, x = .iface t u) : alive (.nilIface :: (xs ++ [.nilIface])) = xs := by
  have := alive_all xs h
  unfold alive at *
  simp [List.filter_append, this]

theorem made_nil (w : World) : (w.alloc (.cells #[.nilIface] 24)).ownsRow w.heap.size 24 1 (.slice (some ⟨w.heap.size, 0, none⟩) 1 1) 1 [.nilIface] :=
  ⟨rfl, .inr ⟨w.heap.size, 1, #[.nilIface], rfl, Nat.le_refl _, heap_new _ _, Nat.le_refl _, by unfold maxLen; omega, rfl, rfl⟩⟩

theorem Two.ifaces {w0 w : World} {s4 s5 : Value} {n m d : Nat} {vs cl : List Value} {ks : List GK} (h : Two w0 s4 s5 w n vs m cl d ks) : ∀ k ∈ ks, ∃ t x, k.v = .iface t x := fun k hk => (h.fits k hk).err.iface

/-- Here the walk stands still. -/
def Halt (p : Prop) : Prop := p
theorem halt_set {K : Act → World → Prop} {a : Act} {w : World} {p : Addr} {v : Value} (h : Halt (K a (w.setCell p v))) : K a (w.setCell p v) := h

theorem alloc_below (w : World) (o : Obj) : Below w.heap.size w (w.alloc o) := (Below.refl _ _).alloc (Nat.le_refl _) _

theorem halt_alloc (o : Obj) {K : Act → World → Prop} {a : Act} {w : World} (h : Halt (K a (w.alloc o))) : K a (w.alloc o) := h

theorem made_one (w : World) (n : Int) : (w.alloc (.cells #[.int .i64 n] 3)).ownsRow w.heap.size 3 1 (.slice (some ⟨w.heap.size, 0, none⟩) 1 1) 1 [.int .i64 n] :=
  ⟨rfl, .inr ⟨w.heap.size, 1, #[.int .i64 n], rfl, Nat.le_refl _, heap_new _ _, Nat.le_refl _, by unfold maxLen; omega, rfl, rfl⟩⟩

theorem owns_alloc {w : World} {base n size : Nat} {t : TypeId} {v : Value} {xs : List Value} (h : w.ownsRow base t size v n xs) (o : Obj) : (w.alloc o).ownsRow base t size v n xs := owns_keep h fun k hk => Below.heap_alloc _ _ _ (h.lt k hk).2

/-- Behind an append to a row that was made in w's next block. -/
theorem below_made {w w' : World} {o : Obj} {g n c : Nat} (hg : (w.alloc o).grownBy w' (Value.slice (some ⟨g, 0, none⟩) n c).ownBlock) (hw : w.heap.size ≤ g) : Below w.heap.size w w' :=
  (alloc_below w o).grown hg (by simp) (fun k hk => by have e : g = k := Option.some.inj hk.symm |>.symm; omega)

theorem Two.fresh {w0 w : World} {s4 s5 : Value} {n m d b : Nat} {vs cl : List Value} {ks : List GK} (h : Two w0 s4 s5 w n vs m cl d ks) (hb : w.heap.size ≤ b) : Ap s4 s5 b :=
  ⟨fun e => by have := (h.own4.lt b e).2; omega, fun e => by have := (h.own5.lt b e).2; omega⟩

theorem Two.nodA {w0 w : World} {s4 s5 v : Value} {n m d B q : Nat} {vs cl : List Value} {ks : List GK} {xs : List Int} (h : Two w0 s4 s5 w n vs m cl d ks) {w' : World} (ho : w'.ownsRow B 3 1 v q (xs.map (Value.int .i64))) (hB : w.heap.size ≤ B) : NodA w' (Ap s4 s5) v xs := by
  have hq : q = xs.length := by have := ho.1; simp at this; omega
  subst hq
  exact ⟨owns_base ho (Nat.zero_le _), fun k hk => h.fresh (Nat.le_trans hB (ho.lt k hk).1)⟩

theorem Ap.app4 {s4 s5 : Value} {g b n c H : Nat} (h : Ap s4 s5 b) (hs : s4.ownBlock = some g ∨ g = H) (hb : b ≠ H) : Ap (.slice (some ⟨g, 0, none⟩) n c) s5 b :=
  ⟨fun e => by
    have e' : g = b := Option.some.inj e
    subst e'
    rcases hs with hs | hs
    · exact h.1 hs
    · exact hb hs, h.2⟩

theorem Ap.app5 {s4 s5 : Value} {g b n c H : Nat} (h : Ap s4 s5 b) (hs : s5.ownBlock = some g ∨ g = H) (hb : b ≠ H) : Ap s4 (.slice (some ⟨g, 0, none⟩) n c) b :=
  ⟨h.1, fun e => by
    have e' : g = b := Option.some.inj e
    subst e'
    rcases hs with hs | hs
    · exact h.2 hs
    · exact hb hs⟩

theorem Two.lies4 {w0 w w' : World} {s4 s5 : Value} {n n' m d g c : Nat} {vs vs' cl : List Value} {ks : List GK} (h : Two w0 s4 s5 w n vs m cl d ks) (ho : w'.ownsRow w0.heap.size 24 1 (.slice (some ⟨g, 0, none⟩) n' c) n' vs') (hg : w.grownBy w' s4.ownBlock)
    (hs : s4.ownBlock = some g ∨ g = w.heap.size) : Two w0 (.slice (some ⟨g, 0, none⟩) n' c) s5 w' n' vs' m cl d ks :=
  h.app4 ho hg (by
    rcases hs with hs | rfl
    · exact .inl hs.symm
    · exact .inr ⟨_, rfl, Nat.le_refl _⟩)

theorem Two.lies5 {w0 w w' : World} {s4 s5 : Value} {n m m' d g c : Nat} {vs cl cl' : List Value} {ks : List GK} (h : Two w0 s4 s5 w n vs m cl d ks) (ho : w'.ownsRow w0.heap.size 48 5 (.slice (some ⟨g, 0, none⟩) m' c) m' cl') (hg : w.grownBy w' s5.ownBlock)
    (hs : s5.ownBlock = some g ∨ g = w.heap.size) : Two w0 s4 (.slice (some ⟨g, 0, none⟩) m' c) w' n vs m' cl' d ks :=
  h.app5 ho hg (by
    rcases hs with hs | rfl
    · exact .inl hs.symm
    · exact .inr ⟨_, rfl, Nat.le_refl _⟩)


/-! ### What is joined -/
def Aq (s4 s5 : Value) (b k : Nat) : Prop := Ap s4 s5 k ∧ k ≠ b

/-- The record that is made of what is joined, in its block. -/
structure Acc (w3 : World) (s4 s5 : Value) (wx : World) (cd : Int) (N : List Int) (sp : Int) (is : Bool) (tx : List UInt8) : Prop where
  below : Below w3.heap.size w3 wx
  blk : ∃ a c, wx.heap[w3.heap.size]? = some (.cells #[.int .i64 cd, .slice a N.length c, .int .i64 sp, .bool is, .string ⟨tx.toArray⟩] 48 (0, 0)) ∧ NodA wx (Aq s4 s5 w3.heap.size) (.slice a N.length c) N

/-- Beside it the next one's record. -/
structure Mid (w3 : World) (s4 s5 : Value) (b : Nat) (x : GK) (wx : World) (cd : Int) (N : List Int) (sp : Int) (is : Bool) (tx : List UInt8) : Prop where
  acc : Acc w3 s4 s5 wx cd N sp is tx
  lt : w3.heap.size < b
  xlk : wx.heap[b]? = some (.cells x.say.toArray 48 (0, 0))

theorem Acc.lt {w3 wx : World} {s4 s5 : Value} {cd sp : Int} {N : List Int} {is : Bool} {tx : List UInt8} (h : Acc w3 s4 s5 wx cd N sp is tx) : w3.heap.size < wx.heap.size := by
  obtain ⟨a, c, h, _⟩ := h.blk
  exact heap_lt h

theorem Acc.more {w3 wx wy : World} {s4 s5 : Value} {cd sp : Int} {N : List Int} {is : Bool} {tx : List UInt8} (h : Acc w3 s4 s5 wx cd N sp is tx) (hb : Below wx.heap.size wx wy) : Acc w3 s4 s5 wy cd N sp is tx := by
  obtain ⟨a, c, h1, h2⟩ := h.blk
  exact ⟨h.below.trans (hb.mono (Nat.le_of_lt h.lt)), a, c, by rw [hb.block _ h.lt]; exact h1, h2.keep (fun _ a _ => a) (fun k _ hl => hb.block k hl)⟩

theorem Acc.put {w3 wx : World} {s4 s5 : Value} {cd sp cd' sp' : Int} {N : List Int} {is is' : Bool} {tx tx' : List UInt8} (h : Acc w3 s4 s5 wx cd N sp is tx) (q : Nat) (u : Value)
    (hq : ∀ v : Value, (#[.int .i64 cd, v, .int .i64 sp, .bool is, .string ⟨tx.toArray⟩] : Array Value).setIfInBounds q u = #[.int .i64 cd', v, .int .i64 sp', .bool is', .string ⟨tx'.toArray⟩]) : Acc w3 s4 s5 (wx.setCell ⟨w3.heap.size, q, none⟩ u) cd' N sp' is' tx' := by
  obtain ⟨a, c, h1, h2⟩ := h.blk
  refine ⟨h.below.setCell (p := ⟨w3.heap.size, q, none⟩) (Nat.le_refl _) u, a, c, ?_, h2.keep (fun _ a _ => a) (fun k hk _ => Below.heap_setCell _ _ _ _ hk.2)⟩
  rw [heap_setCell_same wx _ q _ 48 u h1, hq]

theorem Acc.nodes {w3 wx : World} {s4 s5 v : Value} {cd sp : Int} {N N' : List Int} {is : Bool} {tx : List UInt8} (h : Acc w3 s4 s5 wx cd N sp is tx) (hv : NodA wx (Aq s4 s5 w3.heap.size) v N') : Acc w3 s4 s5 (wx.setCell ⟨w3.heap.size, 1, none⟩ v) cd N' sp is tx := by
  obtain ⟨a, c, h1, h2⟩ := h.blk
  obtain ⟨a', c', rfl⟩ := own_form hv.1
  exact ⟨h.below.setCell (p := ⟨w3.heap.size, 1, none⟩) (Nat.le_refl _) _, a', c', by rw [heap_setCell_same wx _ 1 _ 48 _ h1]; rfl, hv.keep (fun _ a _ => a) (fun k hk _ => Below.heap_setCell _ _ _ _ hk.2)⟩

theorem Mid.other {w3 wx : World} {s4 s5 : Value} {b q : Nat} {x : GK} {cd sp cd' sp' : Int} {N N' : List Int} {is is' : Bool} {tx tx' : List UInt8} {u : Value} (h : Mid w3 s4 s5 b x wx cd N sp is tx) (hn : Acc w3 s4 s5 (wx.setCell ⟨w3.heap.size, q, none⟩ u) cd' N' sp' is' tx') : Mid w3 s4 s5 b x (wx.setCell ⟨w3.heap.size, q, none⟩ u) cd' N' sp' is' tx' :=
  ⟨hn, h.lt, by rw [Below.heap_setCell _ _ _ _ (by have := h.lt; show b ≠ w3.heap.size; omega)]; exact h.xlk⟩

theorem Mid.more {w3 wx wy : World} {s4 s5 : Value} {b : Nat} {x : GK} {cd sp : Int} {N : List Int} {is : Bool} {tx : List UInt8} (h : Mid w3 s4 s5 b x wx cd N sp is tx) (hb : Below wx.heap.size wx wy) : Mid w3 s4 s5 b x wy cd N sp is tx :=
  ⟨h.acc.more hb, h.lt, by rw [hb.block _ (heap_lt h.xlk)]; exact h.xlk⟩

theorem codeZ_app (A B : List Int) (h : ∀ c ∈ A, 1 ≤ c) : codeZ (A ++ B) = if codeZ A = 0 then codeZ B else codeZ A := by
  cases A with
  | nil => rfl
  | cons a A => have := h a List.mem_cons_self; simp [codeZ]; omega
theorem stripe_app (A B : List Int) : stripeOf (A ++ B) = (if stripeIs A = true then stripeOf A else stripeOf B) ∧ stripeIs (A ++ B) = (stripeIs A || stripeIs B) := by
  cases A with
  | nil => exact ⟨rfl, rfl⟩
  | cons a A => exact ⟨rfl, rfl⟩
theorem stripe_none (A : List Int) (h : stripeIs A = false) : A = [] := by
  cases A with
  | nil => rfl
  | cons a A => cases h

theorem flat_get (ks : List GK) : ∀ (j q : Nat) (x : GK), ks[j]? = some x → q < 5 → ((ks.map GK.say).flatten)[j * 5 + q]? = x.say[q]? := by
  intro j q x hx hq
  have hj : j < ks.length := (List.getElem?_eq_some_iff.1 hx).1
  have h1 : ks = ks.take j ++ (x :: ks.drop (j + 1)) := by
    have : ks[j] = x := by rw [List.getElem?_eq_getElem hj] at hx; exact Option.some.inj hx
    rw [← this, ← List.drop_eq_getElem_cons hj, List.take_append_drop]
  have h2 : ((ks.map GK.say).flatten) = ((ks.take j).map GK.say).flatten ++ (x.say ++ ((ks.drop (j + 1)).map GK.say).flatten) := by
    conv => lhs; rw [h1]
    simp
  rw [h2, get_at _ _ (j * 5) q _ (by rw [say_len, List.length_take]; congr 1; omega) rfl, List.getElem?_append_left (by simp [GK.say]; omega)]

theorem tAll_len (ts : List (List UInt8)) (h : ts ≠ []) : (tAll ts).length + 2 = (ts.map List.length).sum + 2 * ts.length := by
  match ts with
  | [] => exact absurd rfl h
  | [t] => simp [tAll]
  | t :: u :: r =>
    have := tAll_len (u :: r) (by simp)
    simp [tAll] at this ⊢
    omega

/-- Those from f on made one. -/
theorem GrowP.joined {w0 w' : World} {s4 s5 : Value} {i d f m : Nat} {ks jr : List GK} {kf J : GK} {vs cl : List Value} (hjs : ks.drop f = kf :: jr) (hm : ks.length = m + 1) (hf : f ≤ m) (hj3 : m ≤ f + 3)
    (h : Two w0 s4 s5 w' (f + 1) vs (f + 1) cl d (ks.take f ++ [J])) (hvs : vs = (ks.take f).map (·.v) ++ [J.v]) (hcl : cl = ((ks.take f).map GK.say).flatten ++ J.say) (hnJ : nodesOf J.ns = ((kf :: jr).map fun z => nodesOf z.ns).flatten) (htJ : J.tx = tAll ((kf :: jr).map (·.tx)))
    (hn : (ks.map fun k => (nodesOf k.ns).length).sum ≤ i) (ht : (ks.map fun k => k.tx.length).sum ≤ 20 * i) (hl : m + 1 ≤ i) : GrowP w0 s4 s5 w' (i + 1) d (ks.take f ++ [J]) := by
  subst hvs hcl
  have hft : (ks.take f).length = f := by rw [List.length_take]; omega
  have hjl : jr.length = m - f := by have := congrArg List.length hjs; rw [List.length_drop, hm, List.length_cons] at this; omega
  have e : ks = ks.take f ++ (kf :: jr) := by rw [← hjs, List.take_append_drop]
  have hn' := hn
  have ht' := ht
  rw [e] at hn' ht'
  refine ⟨?_, ?_, ?_, ?_⟩
  · have h5 : (ks.take f ++ [J]).length = f + 1 := by simp [hft]
    rw [h5]
    simpa using h
  · have : (nodesOf J.ns).length = ((kf :: jr).map fun z => (nodesOf z.ns).length).sum := by rw [hnJ, List.length_flatten, List.map_map]; rfl
    simp at hn' this ⊢
    omega
  · have := tAll_len ((kf :: jr).map (·.tx)) (by simp)
    rw [← htJ] at this
    simp [Function.comp_def] at ht' this ⊢
    omega
  · simp [hft]; omega

theorem Acc.cells {w3 wx : World} {s4 s5 : Value} {cd sp : Int} {N : List Int} {is : Bool} {tx : List UInt8} (h : Acc w3 s4 s5 wx cd N sp is tx) :
    wx.cell? ⟨w3.heap.size, 0, none⟩ = some (.int .i64 cd) ∧ (∃ a c, wx.cell? ⟨w3.heap.size, 1, none⟩ = some (.slice a N.length c) ∧ NodA wx (Aq s4 s5 w3.heap.size) (.slice a N.length c) N) ∧ wx.cell? ⟨w3.heap.size, 2, none⟩ = some (.int .i64 sp) ∧ wx.cell? ⟨w3.heap.size, 3, none⟩ = some (.bool is) ∧
      wx.cell? ⟨w3.heap.size, 4, none⟩ = some (.string ⟨tx.toArray⟩) ∧ ∀ q, wx.frozen? ⟨w3.heap.size, q, none⟩ = false := by
  obtain ⟨a, c, h1, h2⟩ := h.blk
  exact ⟨by simp [World.cell?, h1], ⟨a, c, by simp [World.cell?, h1], h2⟩, by simp [World.cell?, h1], by simp [World.cell?, h1], by simp [World.cell?, h1], fun q => by simp [World.frozen?, h1]⟩

theorem Mid.cells {w3 wx : World} {s4 s5 : Value} {b : Nat} {x : GK} {cd sp : Int} {N : List Int} {is : Bool} {tx : List UInt8} (h : Mid w3 s4 s5 b x wx cd N sp is tx) :
    wx.cell? ⟨b, 0, none⟩ = some (.int .i64 (codeZ x.cs)) ∧ wx.cell? ⟨b, 1, none⟩ = some x.nv ∧ wx.cell? ⟨b, 2, none⟩ = some (.int .i64 (stripeOf x.st)) ∧ wx.cell? ⟨b, 3, none⟩ = some (.bool (stripeIs x.st)) ∧ wx.cell? ⟨b, 4, none⟩ = some (.string ⟨x.tx.toArray⟩) := by
  have h1 := h.xlk
  refine ⟨?_, ?_, ?_, ?_, ?_⟩ <;> simp [World.cell?, h1, GK.say]

theorem acc_code (js : List GK) (x : GK) (h : ∀ c ∈ (js.map (·.cs)).flatten, 1 ≤ c) : codeZ ((js ++ [x]).map (·.cs)).flatten = if codeZ (js.map (·.cs)).flatten = 0 then codeZ x.cs else codeZ (js.map (·.cs)).flatten := by
  have : ((js ++ [x]).map (·.cs)).flatten = (js.map (·.cs)).flatten ++ x.cs := by simp
  rw [this, codeZ_app _ _ h]
theorem acc_nodes (js : List GK) (x : GK) : ((js ++ [x]).map fun z => nodesOf z.ns).flatten = (js.map fun z => nodesOf z.ns).flatten ++ nodesOf x.ns := by simp
theorem acc_st (js : List GK) (x : GK) : stripeOf ((js ++ [x]).map (·.st)).flatten = (if stripeIs (js.map (·.st)).flatten = true then stripeOf (js.map (·.st)).flatten else stripeOf x.st) ∧ stripeIs ((js ++ [x]).map (·.st)).flatten = (stripeIs (js.map (·.st)).flatten || stripeIs x.st) := by
  have : ((js ++ [x]).map (·.st)).flatten = (js.map (·.st)).flatten ++ x.st := by simp
  rw [this]
  exact stripe_app _ _
theorem acc_tx (js : List GK) (x : GK) (h : js ≠ []) : tAll ((js ++ [x]).map (·.tx)) = tAll (js.map (·.tx)) ++ [59, 32] ++ x.tx := by
  rw [List.map_append]
  exact tAll_snoc _ _ (by simpa using h)

theorem made_empty (w : World) : (w.alloc (.cells #[] 3)).ownsRow w.heap.size 3 1 (.slice (some ⟨w.heap.size, 0, none⟩) 0 0) 0 [] :=
  ⟨rfl, .inr ⟨w.heap.size, 0, #[], rfl, Nat.le_refl _, heap_new _ _, Nat.le_refl _, by unfold maxLen; omega, rfl, rfl⟩⟩

theorem piece_eq {ks jr js : List GK} {kf x : GK} {f j : Nat} (hjs : ks.drop f = kf :: jr) (hJ : js = kf :: jr.take j) (hx : jr[j]? = some x) : js ++ [x] = kf :: jr.take (j + 1) ∧ js ++ [x] = (ks.drop f).take (j + 2) := by
  have h : jr.take (j + 1) = jr.take j ++ [x] := by rw [List.take_add_one, hx]; rfl
  subst hJ
  refine ⟨by rw [h]; rfl, ?_⟩
  rw [hjs, List.take_succ_cons, h]; rfl

theorem piece_sum (g : GK → Nat) (ks : List GK) (a n : Nat) : (((ks.drop a).take n).map g).sum ≤ (ks.map g).sum := by
  have h1 : (ks.map g).sum = ((ks.take a).map g).sum + (((ks.drop a).take n).map g).sum + (((ks.drop a).drop n).map g).sum := by
    conv => lhs; rw [← List.take_append_drop a ks, ← List.take_append_drop n (ks.drop a)]
    simp [Nat.add_assoc]
  omega

theorem piece_nod {ks js : List GK} {f n : Nat} (h : js = (ks.drop f).take n) : (js.map fun z => nodesOf z.ns).flatten.length ≤ (ks.map fun k => (nodesOf k.ns).length).sum := by
  rw [List.length_flatten, List.map_map, h]
  exact piece_sum (fun k => (nodesOf k.ns).length) ks f n

theorem piece_tx {ks js : List GK} {f n : Nat} (h : js = (ks.drop f).take n) (hne : js ≠ []) : (tAll (js.map (·.tx))).length ≤ (ks.map fun k => k.tx.length).sum + 2 * ks.length := by
  have h1 := tAll_len (js.map (·.tx)) (by simpa using hne)
  rw [List.map_map, List.length_map] at h1
  have h2 := piece_sum (fun k => k.tx.length) ks f n
  rw [← h] at h2
  have h3 : js.length ≤ ks.length := by rw [h, List.length_take, List.length_drop]; omega
  have h4 : (js.map (List.length ∘ fun x => x.tx)).sum = (js.map fun k => k.tx.length).sum := rfl
  omega

theorem app_first {wc w8 : World} (hg : (wc.alloc (.cells #[] 3)).drew.grownBy w8 (Value.slice (some ⟨wc.heap.size, 0, none⟩) 0 0).ownBlock) : Below wc.heap.size wc w8 :=
  below_made (o := .cells #[] 3) (g := wc.heap.size) (n := 0) (c := 0) ⟨hg.os, hg.tape, hg.output, hg.size, hg.block⟩ (Nat.le_refl _)

theorem app_second {wc w8 w9 : World} {v8 : Value} {n : Nat} {zs : List Value} (h8 : Below wc.heap.size wc w8) (ho8 : w8.ownsRow wc.heap.size 3 1 v8 n zs) (hg : w8.grownBy w9 v8.ownBlock) : Below wc.heap.size wc w9 :=
  h8.grown hg h8.size (fun k hk => (ho8.lt k hk).1)

theorem Two.nodQ {w0 w3 wc w9 : World} {s4 s5 v : Value} {n m d q : Nat} {vs cl : List Value} {ks : List GK} {xs : List Int} {zs : List Value} (h : Two w0 s4 s5 w3 n vs m cl d ks) (hl : w3.heap.size < wc.heap.size) (ho : w9.ownsRow wc.heap.size 3 1 v q zs) (hz : zs = xs.map (Value.int .i64)) : NodA w9 (Aq s4 s5 w3.heap.size) v xs := by
  subst hz
  have hq : q = xs.length := by have := ho.1; simp at this; omega
  subst hq
  exact ⟨owns_base ho (Nat.zero_le _), fun k hk => by
    have := (ho.lt k hk).1
    exact ⟨h.fresh (by omega), by omega⟩⟩

theorem owns_low {wc w8 : World} {B n : Nat} {v : Value} {xs : List Value} (h : wc.ownsRow B 3 1 v n xs) (hb : Below wc.heap.size wc w8) : w8.ownsRow B 3 1 v n xs := owns_keep h fun k hk => hb.block k (h.lt k hk).2

theorem grown_low {w w' : World} {o : Obj} (hg : (w.alloc o).grownBy w' none) : Below w.heap.size w w' := (alloc_below w o).grown hg (by simp) (fun k hk => by cases hk)

theorem take_flat5 {ks : List GK} {CL r : List Value} {f : Nat} (h : CL = ((ks.take f).map GK.say).flatten ++ r) (hl : ((ks.take f).map GK.say).flatten.length = f * 5) : CL.take (f * 5) = ((ks.take f).map GK.say).flatten := by
  rw [h, ← hl, List.take_left]

/-- The joined tree, where all is done. -/
theorem Acc.last {w0 w3 wr w6 : World} {s4 s5 s4' s5' jv nv : Value} {n m d : Nat} {vs cl : List Value} {ks js : List GK} {jns : List Nd} (h : Two w0 s4 s5 w3 n vs m cl d ks)
    (hn : nodesOf jns = (js.map fun z => nodesOf z.ns).flatten) (he : ErrA w3 (Ap s4 s5) (d + 1) jv (js.map (·.cs)).flatten jns (js.map (·.st)).flatten) (ht : TxtA w3 (Ap s4 s5) (d + 1) jv (tAll (js.map (·.tx)))) (hc : ∀ c ∈ (js.map (·.cs)).flatten, 1 ≤ c ∧ c ≤ 9)
    (h3r : Below w3.heap.size w3 wr) (hr6 : Below wr.heap.size wr w6) (hnv : NodA wr (Aq s4 s5 w3.heap.size) nv (js.map fun z => nodesOf z.ns).flatten) (hA : ∀ k, k < wr.heap.size → Ap s4 s5 k → Ap s4' s5' k) :
    Fits w6 (Ap s4' s5') (d + 1) ⟨jv, (js.map (·.cs)).flatten, jns, (js.map (·.st)).flatten, tAll (js.map (·.tx)), nv⟩ ∧ ∀ k ∈ ks, Fits w6 (Ap s4' s5') (d + 1) k := by
  have h36 : Below w3.heap.size w3 w6 := h3r.trans (hr6.mono h3r.size)
  have hA3 : ∀ k, Ap s4 s5 k → k < w3.heap.size → Ap s4' s5' k := fun k hk hl => hA k (Nat.lt_of_lt_of_le hl h3r.size) hk
  refine ⟨⟨he.keep hA3 (fun k c t hk hh _ => by rw [h36.block k (heap_lt hh)]; exact hh), ht.keep hA3 (fun k _ hl => h36.block k hl), ?_, hc⟩, fun k hk => ((h.fits k hk).keep hA3 (fun k _ hl => h36.block k hl)).deeper⟩
  rw [hn]
  exact hnv.keep (fun k hk hl => hA k hl hk.1) (fun k _ hl => hr6.block k hl)

theorem grown_drew {w w' : World} {r : Option Nat} (hg : w.drew.grownBy w' r) : w.grownBy w' r := ⟨hg.os, hg.tape, hg.output, hg.size, hg.block⟩

def Rest48 (w w' : World) : Prop := ∀ (k : Nat) (c : Array Value) (t : TypeId), w.heap[k]? = some (.cells c t (0, 0)) → t ≠ 48 → w'.heap[k]? = some (.cells c t (0, 0))

theorem ErrA.rest48 {w w' : World} {A : Nat → Prop} (h : Rest48 w w') :
    ∀ (d : Nat) {v : Value} {cs : List Int} {ns : List Nd} {ss : List Int}, ErrA w A d v cs ns ss → ErrA w' (fun _ => True) d v cs ns ss
  | 0, _, _, _, _, e => e.elim
  | d + 1, _, _, _, _, e => by
    rcases e with e | ⟨b, s, e1, e2, e3, e4⟩ | ⟨b, n, x, ns', e1, e2, e3, e4, e5⟩ | ⟨b, n, x, ns', ss', e1, e2, e3, e4, e5⟩ | ⟨b, g, m, cap, row, vs, e1, e2, e3, e4, e5, e6, e7, e7', e8, e9, e10⟩
    · exact .inl e
    · exact .inr (.inl ⟨b, s, e1, trivial, h _ _ _ e3 (by decide), e4⟩)
    · exact .inr (.inr (.inl ⟨b, n, x, ns', e1, trivial, h _ _ _ e3 (by decide), ErrA.rest48 h d e4, e5⟩))
    · exact .inr (.inr (.inr (.inl ⟨b, n, x, ns', ss', e1, trivial, h _ _ _ e3 (by decide), ErrA.rest48 h d e4, e5⟩)))
    · exact .inr (.inr (.inr (.inr ⟨b, g, m, cap, row, vs, e1, trivial, trivial, h _ _ _ e4 (by decide), h _ _ _ e5 (by decide), e6, e7, e7', e8, fun i x hx => ⟨(e9 i x hx).1, ErrA.rest48 h d (e9 i x hx).2⟩, e10⟩)))

theorem TxtA.rest48 {w w' : World} {A : Nat → Prop} (h : Rest48 w w') : ∀ (d : Nat) {v : Value} {t : List UInt8}, TxtA w A d v t → TxtA w' (fun _ => True) d v t
  | 0, _, _, e => e.elim
  | d + 1, _, _, e => by
    rcases e with e | e | ⟨b, s, e1, e2, e3, e4⟩ | ⟨b, n, x, t', e1, e2, e3, e4, e5, e6, e7⟩ | ⟨b, n, x, t', e1, e2, e3, e4, e5, e6, e7⟩ | ⟨b, g, m, cap, row, vs, e1, e2, e3, e4, e5, e6, e7, e8, e9⟩
    · exact .inl e
    · exact .inr (.inl e)
    · exact .inr (.inr (.inl ⟨b, s, e1, trivial, h _ _ _ e3 (by decide), e4⟩))
    · exact .inr (.inr (.inr (.inl ⟨b, n, x, t', e1, trivial, h _ _ _ e3 (by decide), e4, e5, TxtA.rest48 h d e6, e7⟩)))
    · exact .inr (.inr (.inr (.inr (.inl ⟨b, n, x, t', e1, trivial, h _ _ _ e3 (by decide), e4, e5, TxtA.rest48 h d e6, e7⟩))))
    · exact .inr (.inr (.inr (.inr (.inr ⟨b, g, m, cap, row, vs, e1, trivial, trivial, h _ _ _ e4 (by decide), h _ _ _ e5 (by decide), e6, e7, fun i x hx => ⟨(e8 i x hx).1, TxtA.rest48 h d (e8 i x hx).2⟩, e9⟩))))

theorem NodA.rest48 {w w' : World} {A : Nat → Prop} {v : Value} {xs : List Int} (h : Rest48 w w') (e : NodA w A v xs) : NodA w' (fun _ => True) v xs := by
  obtain ⟨⟨h1, h2⟩, _⟩ := e
  refine ⟨⟨h1, ?_⟩, fun _ _ => trivial⟩
  rcases h2 with h2 | ⟨g, cap, cur, hv, hg, hh, r⟩
  · exact .inl h2
  · exact .inr ⟨g, cap, cur, hv, hg, h _ _ _ hh (by decide), r⟩

theorem Fits.rest48 {w w' : World} {A : Nat → Prop} {d : Nat} {k : GK} (e : Fits w A d k) (h : Rest48 w w') : Fits w' (fun _ => True) d k := ⟨e.err.rest48 h, e.txt.rest48 h, e.nod.rest48 h, e.cod⟩

/-- Stores into a block of records. -/
theorem rest48_set {w w' : World} {b q : Nat} {c : Array Value} (h : Rest48 w w') (hb : w.heap[b]? = some (.cells c 48 (0, 0))) (u : Value) : Rest48 w (w'.setCell ⟨b, q, none⟩ u) := by
  intro k c' t hk ht
  rw [Below.heap_setCell _ _ _ _ (by rintro rfl; rw [hb] at hk; injection hk with hk; injection hk with _ hk _; exact ht hk.symm)]
  exact h k c' t hk ht
theorem rest48_drew {w w' : World} (h : Rest48 w w') : Rest48 w w'.drew := h
theorem rest48_refl (w : World) : Rest48 w w := fun _ _ _ h _ => h

/-- What grow answers. -/
def GrowPost (w : World) (e : Ending) (w' : World) : Prop := Below w.heap.size w w' ∧
  (e = .returned (.tuple #[.nilIface, .agg #[.int .i64 0, .slice none 0 0, .int .i64 0, .bool false, .string ⟨#[]⟩]]) ∨
   ∃ (k : GK) (d : Nat), (∃ t x, k.v = .iface t x) ∧ e = .returned (.tuple #[k.v, .agg #[.int .i64 (codeZ k.cs), k.nv, .int .i64 (stripeOf k.st), .bool (stripeIs k.st), .string ⟨k.tx.toArray⟩]]) ∧ Fits w' (fun _ => True) d k ∧ (nodesOf k.ns).length ≤ 25 ∧ k.tx.length ≤ 500)

theorem results_tmp_cell {fn : Func} {p u : Tmp} {ty : TypeId} (h : fn.results = #[.tmp u, .cell p ty]) (tmps : Array Value) (P : Program) (w : World) :
    (results fn tmps).run P w =
      ((asAddr (tmps.getD p undef)).run P w).andThen fun a w₁ => ((loadVar ty a).run P w₁).andThen fun v w₂ => .ok (.tuple #[tmps.getD u undef, v]) w₂ := by
  simp only [results, h]
  simp [Sem.run_bind, Result.andThen]

theorem below_set {a w : World} {q B : Nat} {u : Value} (h : Below B a w) : Below B a (w.setCell ⟨B, q, none⟩ u) := h.setCell (p := ⟨B, q, none⟩) (Nat.le_refl _) u

end Go.Proofs.YtbifpjdkljibeaaDoor
