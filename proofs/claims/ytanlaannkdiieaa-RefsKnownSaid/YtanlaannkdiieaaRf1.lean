import Derived.Test.YtanlaannkdiieaaPkO
import Derived.Test.YtanlaannkdiieaaD9
import Derived.Maps.OwnOps
namespace Go.Proofs.Ytanlaannkdiieaa.Pk
open Go.RowKit Go.Sort
set_option maxRecDepth 100000
set_option maxHeartbeats 2000000

/-! Package refs: what it keeps, and its acts. -/
structure RfS where
  S : List It
  f : Int → Nat
  n : Nat
  H : List Int
def upF (f : Int → Nat) (k : Int) (v : Nat) : Int → Nat := fun x => if x = k then v else f x
def RfS.took (s : RfS) (id : Int) : RfS := ⟨s.S.tail, upF s.f id 1, s.n + (if s.f id = 0 then 1 else 0), s.H⟩
def RfS.take (s : RfS) : RfS := match s.S with
  | [] => s
  | x :: _ => s.took x.1
def RfS.add (s : RfS) (id : Int) : RfS := if s.f id = 0 then s else ⟨s.S, upF s.f id (s.f id + 1), s.n, s.H⟩
def RfS.drop (s : RfS) (id : Int) : RfS := if s.f id = 0 then s else if s.f id = 1 then ⟨s.S, upF s.f id 0, s.n - 1, s.H ++ [id]⟩ else ⟨s.S, upF s.f id (s.f id - 1), s.n, s.H⟩
def putI (S : List It) (id : Int) : List It := ins (id, id) (rem id S)
def RfS.settle (s : RfS) : RfS := ⟨s.H.foldl putI s.S, s.f, s.n, []⟩

theorem putI_len (S : List It) (id : Int) : (putI S id).length ≤ S.length + 1 := by
  unfold putI
  rw [(ins_perm (id, id) (rem id S)).length_eq, List.length_cons]
  have : (rem id S).length ≤ S.length := List.length_filter_le _ _
  omega

/-! Refs in memory: its blocks are F. -/
structure RM0 (w : World) (rb hb mb : Nat) (v : Value) (FH : List Nat) (D : DataW Unit) (s : RfS) : Prop where
  head : w.heap[rb]? = some (.cells #[.pointer (some ⟨hb, 0, none⟩), .map (some mb), v] 38 (0, 0))
  heap : IsHeap w hb FH s.S
  own : OwnsI w mb D
  val : ∀ k, D.atKey (key k) (num 0) = num (s.f k)
  has : ∀ k, Maps.has D (key k) = true ↔ s.f k ≠ 0
  tidy : Maps.Tidy D
  size : Maps.size D = s.n
  row : w.ownsRow 0 3 1 v s.H.length (intsV s.H)
  ids : ∀ x ∈ s.H, I64 x
  n1 : rb ∉ FH
  n2 : mb ∉ FH
  n3 : rb ≠ mb
  n4 : ∀ g, v.ownBlock = some g → g ∉ FH ∧ g ≠ rb ∧ g ≠ mb
def blksR (rb mb : Nat) (v : Value) (FH : List Nat) : List Nat := rb :: mb :: (v.ownBlock.toList ++ FH)
def RM (w : World) (rb : Nat) (F : List Nat) (s : RfS) : Prop := ∃ hb mb v FH D, RM0 w rb hb mb v FH D s ∧ F = blksR rb mb v FH

theorem row_lt {w : World} {B n s : Nat} {v : Value} {t : TypeId} {xs : List Value} (h : w.ownsRow B t s v n xs) : ∀ g, v.ownBlock = some g → g < w.heap.size := by
  intro k hk
  rcases h.2 with ⟨rfl, _⟩ | ⟨g, cap', cur, rfl, hb, hh, _⟩
  · cases hk
  · cases hk; exact lt_size hh
theorem row_keep {w w' : World} {B n s : Nat} {v : Value} {t : TypeId} {xs : List Value} (h : w.ownsRow B t s v n xs) (e : ∀ g, v.ownBlock = some g → w'.heap[g]? = w.heap[g]?) : w'.ownsRow B t s v n xs := by
  obtain ⟨h1, h | ⟨g, cap, cur, rfl, hb, h2, h3⟩⟩ := h
  · exact ⟨h1, Or.inl h⟩
  · exact ⟨h1, Or.inr ⟨g, cap, cur, rfl, hb, (e g rfl).trans h2, h3⟩⟩
theorem mem_blksR {rb mb : Nat} {v : Value} {FH : List Nat} {k : Nat} : k ∈ blksR rb mb v FH ↔ k = rb ∨ k = mb ∨ v.ownBlock = some k ∨ k ∈ FH := by
  unfold blksR
  simp [Option.mem_toList]

theorem RM0.lt {w : World} {rb hb mb : Nat} {v : Value} {FH : List Nat} {D : DataW Unit} {s : RfS} (h : RM0 w rb hb mb v FH D s) : ∀ k ∈ blksR rb mb v FH, k < w.heap.size := by
  intro k hk
  rcases mem_blksR.1 hk with rfl | rfl | e | e
  · exact lt_size h.head
  · exact h.own.lt
  · exact row_lt h.row k e
  · exact h.heap.lt k e
theorem RM0.keep {w w' : World} {rb hb mb : Nat} {v : Value} {FH G : List Nat} {D : DataW Unit} {s : RfS} (h : RM0 w rb hb mb v FH D s) (t : Turn G w w') (hd : ∀ k ∈ blksR rb mb v FH, k ∉ G) : RM0 w' rb hb mb v FH D s := by
  have e : ∀ k, k ∈ blksR rb mb v FH → w'.heap[k]? = w.heap[k]? := fun k hk => t.block k (h.lt k hk) (hd k hk)
  exact ⟨(e _ (mem_blksR.2 (Or.inl rfl))).trans h.head, h.heap.keep t (fun k hk => hd k (mem_blksR.2 (Or.inr (Or.inr (Or.inr hk))))), h.own.keep (e _ (mem_blksR.2 (Or.inr (Or.inl rfl)))), h.val, h.has, h.tidy, h.size,
    row_keep h.row (fun g hg => e g (mem_blksR.2 (Or.inr (Or.inr (Or.inl hg))))), h.ids, h.n1, h.n2, h.n3, h.n4⟩
theorem RM.lt {w : World} {rb : Nat} {F : List Nat} {s : RfS} (h : RM w rb F s) : ∀ k ∈ F, k < w.heap.size := by
  obtain ⟨hb, mb, v, FH, D, h, rfl⟩ := h
  exact h.lt
theorem RM.keep {w w' : World} {rb : Nat} {F G : List Nat} {s : RfS} (h : RM w rb F s) (t : Turn G w w') (hd : ∀ k ∈ F, k ∉ G) : RM w' rb F s := by
  obtain ⟨hb, mb, v, FH, D, h, rfl⟩ := h
  exact ⟨hb, mb, v, FH, D, h.keep t hd, rfl⟩
theorem RM.below {w w' : World} {rb : Nat} {F : List Nat} {s : RfS} (h : RM w rb F s) (b : Below w.heap.size w w') : RM w' rb F s := h.keep (Turn.of (S := []) b) (by simp)
/-- Another's acts leave it. -/
theorem RM.other {w w' : World} {rb : Nat} {F G G' : List Nat} {s : RfS} (h : RM w rb F s) (st : Step G G' w w') (hd : ∀ k ∈ F, k ∉ G) : RM w' rb F s ∧ ∀ k ∈ F, k ∉ G' :=
  ⟨h.keep st.turn hd, fun k hk hg => by
    rcases st.blocks k hg with y | y
    · exact hd k hk y
    · have := h.lt k hk; omega⟩
theorem below_step {B : Nat} {F F' : List Nat} {w0 w w' : World} (h : Below B w0 w) (st : Step F F' w w') (hF : ∀ k ∈ F, B ≤ k) (hs : B ≤ w.heap.size) : Below B w0 w' ∧ (∀ k ∈ F', B ≤ k) ∧ B ≤ w'.heap.size :=
  ⟨h.trans ⟨st.turn.os, st.turn.tape, st.turn.output, st.turn.size, fun k hk => st.turn.block k (Nat.lt_of_lt_of_le hk hs) (fun e => by have := hF k e; omega)⟩, fun k hk => by
    rcases st.blocks k hk with y | y
    · exact hF k y
    · omega, Nat.le_trans hs st.turn.size⟩

def RfPost (rb : Nat) (F : List Nat) (s : RfS) (v : Value) (w : World) (e : Ending) (w' : World) : Prop := e = .returned v ∧ ∃ F', RM w' rb F' s ∧ Step F F' w w'

/-! Count, Free, Held. -/
theorem rf_count {w : World} {rb : Nat} {F : List Nat} {s : RfS} (id : Int) (wi : I64 id) (h : RM w rb F s) :
    Calls Try.prog 10 #[.pointer (some ⟨rb, 0, none⟩), .int .i64 id] w fun e w' => e = .returned (.int .i64 (s.f id : Nat)) ∧ w' = w := by
  obtain ⟨hb, mb, v, FH, D, h, rfl⟩ := h
  have x1 : w.cell? ⟨rb, 1, none⟩ = some (.map (some mb)) := by simp [World.cell?, h.head]
  have HD := Lib.hid h.own
  have HV := Lib.hid (h.val id)
  have HW := Lib.hid wi
  clear h wi
  go_enter Try.func10, Try.ntmps10
  go_wp2_with (at_lookup; refine wpList_lookup_own_int _ rfl _ _ 36 rfl 3 3 .i64 law3 Try.underlying36 Try.underlying3 (zero3 _) mb (Maps.size D) D rfl HD.out _ (Pk.key id) rfl (Maps.keyOf_int_mk Try.underlying3 (wf_of HW.out)) ?_; intro c hat hwc; obtain rfl := num_inj hat HV.out)
  go_ret
  exact ⟨rfl, rfl⟩

theorem rf_free {w : World} {rb : Nat} {F : List Nat} {s : RfS} (h : RM w rb F s) :
    Calls Try.prog 14 #[.pointer (some ⟨rb, 0, none⟩)] w fun e w' => e = .returned (.int .i64 (s.S.length : Nat)) ∧ w' = w := by
  obtain ⟨hb, mb, v, FH, D, h, rfl⟩ := h
  have x0 : w.cell? ⟨rb, 0, none⟩ = some (.pointer (some ⟨hb, 0, none⟩)) := by simp [World.cell?, h.head]
  have HH := Lib.hid h.heap
  clear h
  go_enter Try.func14, Try.ntmps14
  go_wp2_with (go_at_call 20; refine (len15 hb FH s.S _ HH.out).mono ?_; rintro e w2 ⟨rfl, rfl⟩)
  go_ret
  exact ⟨rfl, rfl⟩

theorem rf_held {w : World} {rb : Nat} {F : List Nat} {s : RfS} (h : RM w rb F s) :
    Calls Try.prog 12 #[.pointer (some ⟨rb, 0, none⟩)] w fun e w' => e = .returned (.int .i64 (s.H.length : Nat)) ∧ w' = w := by
  obtain ⟨hb, mb, v, FH, D, h, rfl⟩ := h
  obtain ⟨A, cap, rfl, _⟩ := own_form h.row
  have x2 : w.cell? ⟨rb, 2, none⟩ = some (.slice A s.H.length cap) := by simp [World.cell?, h.head]
  clear h
  go_enter Try.func12, Try.ntmps12
  go_wp2
  go_ret
  exact ⟨rfl, rfl⟩

theorem rf_within (x : Int) (w : World) : Calls Try.prog 17 #[.int .i64 x] w fun e w' => e = .returned (.int .i64 (min (max x 1) 1000)) ∧ w' = w := by
  go_enter Try.func17, Try.ntmps17
  go_wp2
  all_goals
    rename_i h1
    go_ret
    refine ⟨?_, rfl⟩
    simp
    split at h1 <;> omega
end Go.Proofs.Ytanlaannkdiieaa.Pk
