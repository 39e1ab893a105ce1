import Derived.Test.YtanlaannkdiieaaRf4
namespace Go.Proofs.Ytanlaannkdiieaa.Pk
open Go.RowKit Go.Sort
set_option maxRecDepth 100000
set_option maxHeartbeats 2000000

theorem foldl_len (H : List Int) : ∀ S : List It, (H.foldl putI S).length ≤ S.length + H.length := by
  induction H with
  | nil => intro S; exact Nat.le_refl _
  | cons x H ih =>
    intro S
    have := ih (putI S x)
    have h2 := putI_len S x
    simp only [List.foldl_cons, List.length_cons]
    omega

/-! Settle. -/
theorem rf_settle {w : World} {rb : Nat} {F : List Nat} {s : RfS} (h : RM w rb F s) (hl : s.S.length + s.H.length ≤ 1000) :
    Calls Try.prog 13 #[.pointer (some ⟨rb, 0, none⟩)] w (RfPost rb F s.settle (.tuple #[]) w) := by
  obtain ⟨hb, mb, v, FH, D, h, rfl⟩ := h
  obtain ⟨A, cap, rfl, hA⟩ := own_form h.row
  have x2 : w.cell? ⟨rb, 2, none⟩ = some (.slice A s.H.length cap) := by simp [World.cell?, h.head]
  have HM := Lib.hid h
  obtain ⟨n, hn⟩ : ∃ n, s.H.length = n := ⟨_, rfl⟩
  have HN := Lib.hid hn
  rw [hn] at x2 hl HM hA ⊢
  clear h hn
  go_enter Try.func13, Try.ntmps13
  go_wp2_with fail
  go_loopg [11] n (fun q s11 wr => ∃ k : Nat, s11 = .int .i64 (k : Int) ∧ k ≤ n ∧ q = n - k ∧ Hid (∃ FH', RM0 wr rb hb mb (.slice A n cap) FH' D ⟨(s.H.take k).foldl putI s.S, s.f, s.n, s.H⟩ ∧ Step (blksR rb mb (.slice A n cap) FH) (blksR rb mb (.slice A n cap) FH') w wr))
  case atStart => exact ⟨0, rfl, by omega, rfl, Lib.hid ⟨FH, HM.out, Step.refl _ _⟩⟩
  case round =>
    obtain ⟨k, rfl, hk, rfl, HS⟩ := hrel
    clear x2
    by_cases hlt : k < n
    · have t1 : (k : Int) < (n : Int) := by omega
      obtain ⟨FH', h1, st1⟩ := HS.out
      obtain ⟨x, hx⟩ : ∃ x, s.H[k]? = some x := ⟨_, List.getElem?_eq_getElem (by rw [HN.out]; exact hlt)⟩
      have hrow := h1.row
      dsimp only at hrow
      rw [HN.out] at hrow
      obtain ⟨g, o, rfl, hg, hc⟩ := (own_nums hrow).1 k x hx
      have wi : I64 x := h1.ids x (List.mem_of_getElem? hx)
      have hl1 := foldl_len (s.H.take k) s.S
      rw [List.length_take] at hl1
      have HC := Lib.hid (rf_release x wi h1 (by dsimp only; omega))
      have HX := Lib.hid hx
      have HT1 := Lib.hid st1
      clear h1 st1 hx hrow wi hl1 HS HM hA
      go_wp2_with fail
      refine HC.out.mono ?_
      rintro e w2 ⟨rfl, FH2, r2, st2⟩
      have HS2 : Hid (∃ FH', RM0 w2 rb hb mb (.slice (some ⟨g, o, none⟩) n cap) FH' D ⟨(s.H.take (k + 1)).foldl putI s.S, s.f, s.n, s.H⟩ ∧ Step (blksR rb mb (.slice (some ⟨g, o, none⟩) n cap) FH) (blksR rb mb (.slice (some ⟨g, o, none⟩) n cap) FH') w w2) := Lib.hid ⟨FH2, by
        have e : (s.H.take (k + 1)).foldl putI s.S = putI ((s.H.take k).foldl putI s.S) x := by
          rw [List.take_add_one, HX.out, List.foldl_append]
          rfl
        rw [e]
        exact r2, HT1.out.trans st2⟩
      clear r2 st2 HC HT1
      go_wp2_with fail
      go_roundg (n - (k + 1))
      case measure => omega
      case rel => exact ⟨k + 1, by simp, by omega, rfl, HS2⟩
    · have hkn : k = n := by omega
      subst hkn
      obtain ⟨FH', h1, st1⟩ := HS.out
      have HR := Lib.hid h1
      have HT := Lib.hid st1
      have x2 : wr.cell? ⟨rb, 2, none⟩ = some (.slice A k cap) := by simp [World.cell?, h1.head]
      have f2 : wr.frozen? ⟨rb, 2, none⟩ = false := by simp [World.frozen?, h1.head]
      clear h1 st1 HS HM
      go_wp2_with fail
      go_end0
      obtain ⟨r, st⟩ := HR.out.heldTo (w' := wr) (u := .slice none 0 0) (H' := []) ⟨rfl, rfl, rfl, Nat.le_refl _, fun _ _ _ => rfl⟩ (World.ownsRow_nil _ _ _ _) (fun g hg => by cases hg) (fun x hx => by cases hx)
      refine ⟨rfl, _, ⟨hb, mb, _, FH', D, ?_, rfl⟩, HT.out.trans st⟩
      have e : s.H.take k = s.H := by rw [← HN.out]; exact List.take_length
      rw [e] at r
      exact r

/-! New. -/
def dup (i : Nat) : It := ((i : Int), (i : Int))
def rng (a n : Nat) : List It := (List.range' a n).map dup
theorem rng_len (a n : Nat) : (rng a n).length = n := by simp [rng]
theorem rng_cons (a n : Nat) : rng a (n + 1) = dup a :: rng (a + 1) n := by simp [rng, List.range'_succ]
theorem rng_snoc (a n : Nat) : rng a (n + 1) = rng a n ++ [dup (a + n)] := by simp [rng, List.range'_1_concat]
theorem ins_last (x : It) : ∀ S : List It, (∀ y ∈ S, ltIt y x = true) → ins x S = S ++ [x]
  | [], _ => rfl
  | y :: S, h => by
    unfold ins
    rw [if_pos (h y (by simp)), ins_last x S (fun z hz => h z (by simp [hz]))]
    rfl
theorem putI_rng (a n : Nat) : putI (rng a n) ((a + n : Nat) : Int) = rng a (n + 1) := by
  have hm : ∀ y ∈ rng a n, ∃ i : Nat, i < a + n ∧ y = dup i := fun y hy => by
    obtain ⟨i, hi, rfl⟩ := List.mem_map.1 hy
    have := List.mem_range'.1 hi
    exact ⟨i, by omega, rfl⟩
  have hr : rem ((a + n : Nat) : Int) (rng a n) = rng a n := rem_none (by
    cases q : hasId ((a + n : Nat) : Int) (rng a n)
    · rfl
    · obtain ⟨y, hy, e⟩ := (hasId_iff _ _).1 q
      obtain ⟨i, hi, rfl⟩ := hm y hy
      unfold dup at e
      dsimp only at e
      omega)
  unfold putI
  rw [hr, ins_last _ _ (fun y hy => by
    obtain ⟨i, hi, rfl⟩ := hm y hy
    rw [lt_iff]
    unfold dup
    dsimp only
    omega), rng_snoc]
  rfl
theorem rf_new (A B : Nat) (first last : Int) (w : World) (hA : min (max first 1) 1000 = (A : Int)) (hB : min (max last 1) 1000 = (B : Int)) :
    Calls Try.prog 6 #[.int .i64 first, .int .i64 last] w fun e w' => ∃ rb F, e = .returned (.pointer (some ⟨rb, 0, none⟩)) ∧ RM w' rb F ⟨rng A (B + 1 - A), fun _ => 0, 0, []⟩ ∧ Below w.heap.size w w' ∧ (∀ k ∈ F, w.heap.size ≤ k) ∧ w.heap.size ≤ rb := by
  have bA : 1 ≤ A ∧ A ≤ 1000 := by omega
  have bB : 1 ≤ B ∧ B ≤ 1000 := by omega
  obtain ⟨N, hN⟩ : ∃ N, B + 1 - A = N := ⟨_, rfl⟩
  rw [hN]
  have HC1 := Lib.hid (new8 w)
  have HW1 := Lib.hid (rf_within first)
  have HW2 := Lib.hid (rf_within last)
  rw [hA] at HW1
  rw [hB] at HW2
  clear hA hB
  have hmk : ∀ W : World, Sem.run Try.prog (Instr.makeMap 36 none) W = .ok (.map (some W.heap.size)) (W.alloc (.map #[] 0)) := fun W => run_makeMap _ W
  go_enter Try.func6, Try.ntmps6
  go_wp2_with fail
  refine HC1.out.mono ?_
  rintro e w2 ⟨rfl, hh, b2⟩
  have HH := Lib.hid hh
  have HB2 := Lib.hid b2
  clear hh b2 HC1
  go_upto_region 2 with fail
  obtain ⟨q0, hq0⟩ : ∃ q, w.heap.size = q := ⟨_, rfl⟩
  obtain ⟨q2, hq2⟩ : ∃ q, w2.heap.size = q := ⟨_, rfl⟩
  have hs2 : q0 < q2 := by rw [← hq0, ← hq2]; exact HH.out.lt _ (by simp)
  obtain ⟨w3, hw3⟩ : ∃ w3, (w2.alloc (.map #[] 0)).alloc (.cells #[.pointer (some ⟨q0, 0, none⟩), .map (some q2), .slice none 0 0] 38) = w3 := ⟨_, rfl⟩
  have hb3 : w3.heap[q2 + 1]? = some (.cells #[.pointer (some ⟨q0, 0, none⟩), .map (some q2), .slice none 0 0] 38 (0, 0)) := by
    rw [← hw3, ← hq2]
    have := alloc_block (w2.alloc (.map #[] 0)) (.cells #[.pointer (some ⟨q0, 0, none⟩), .map (some w2.heap.size), .slice none 0 0] 38)
    rw [alloc_size] at this
    exact this
  have T23 : Turn [] w2 w3 := by rw [← hw3]; exact (Turn.alloc [] _ _).trans (Turn.alloc [] _ _)
  have o3 : OwnsI w3 q2 (.map []) := by
    rw [← hw3, ← hq2]
    exact OwnsI.keep (World.ownsMap_made w2 Try.prog _ _) ((Turn.alloc [] _ _).block _ (by rw [alloc_size]; omega) (by simp))
  have r3 : RM0 w3 (q2 + 1) q0 q2 (.slice none 0 0) [q0] (.map []) ⟨[], fun _ => 0, 0, []⟩ := by
    refine ⟨hb3, ?_, o3, fun _ => rfl, fun k => by simp [Maps.has], Maps.tidy_empty, rfl, World.ownsRow_nil _ _ _ _, fun x hx => (by cases hx), by simp; omega, by simp; omega, by omega, fun g hg => by cases hg⟩
    have := HH.out.keep T23 (by simp)
    rw [hq0] at this
    exact this
  have B3 : Below q0 w w3 := by
    rw [← hq0]
    exact HB2.out.trans ⟨T23.os, T23.tape, T23.output, T23.size, fun k hk => T23.block k (Nat.lt_of_lt_of_le hk HB2.out.size) (by simp)⟩
  have HR3 := Lib.hid r3
  have HB3 := Lib.hid B3
  have HQ0 := Lib.hid hq0
  have hs3 : q2 + 1 < w3.heap.size := lt_size hb3
  have HS3 := Lib.hid hs3
  rw [hq0, hq2, hw3]
  clear hq0 hq2 hw3 hb3 T23 o3 r3 B3 HH HB2 hmk hs3
  go_wp2_with fail
  refine (HW1.out _).mono ?_
  rintro e wx ⟨rfl, rfl⟩
  generalize hwx : wx = w3 at *
  clear hwx
  go_wp2_with fail
  go_loopg [6] (N + 1) (fun q s6 v => ∃ k : Nat, s6 = .int .i64 ((A + k : Nat) : Int) ∧ k ≤ N ∧ q = N + 1 - k ∧ Hid (∃ FH, RM0 v (q2 + 1) q0 q2 (.slice none 0 0) FH (.map []) ⟨rng A k, fun _ => 0, 0, []⟩ ∧ Below q0 w v ∧ (∀ k ∈ blksR (q2 + 1) q2 (.slice none 0 0) FH, q0 ≤ k) ∧ q0 ≤ v.heap.size))
  case atStart => exact ⟨0, rfl, by omega, rfl, Lib.hid ⟨[q0], HR3.out, HB3.out, fun k hk => by rcases mem_blksR.1 hk with e | e | e | e; omega; omega; cases e; simp at e; omega, by have := HS3.out; omega⟩⟩
  case round =>
    obtain ⟨k, rfl, hk, rfl, HS⟩ := hrel
    generalize wr = v at *
    clear HR3 HB3
    go_wp2_with fail
    refine (HW2.out _).mono ?_
    rintro e wx ⟨rfl, rfl⟩
    by_cases hlt : k < N
    · have t1 : ((A + k : Nat) : Int) ≤ (B : Int) := by omega
      obtain ⟨FH, h1, b1, f1, z1⟩ := HS.out
      have HC := Lib.hid (rf_release ((A + k : Nat) : Int) (by constructor <;> omega) h1 (by dsimp only; rw [rng_len]; omega))
      have HO := Lib.hid (And.intro b1 (And.intro f1 z1))
      clear h1 b1 f1 z1 HS
      go_wp2_with fail
      refine HC.out.mono ?_
      rintro e w5 ⟨rfl, FH2, r2, st2⟩
      have HS2 : Hid (∃ FH, RM0 w5 (q2 + 1) q0 q2 (.slice none 0 0) FH (.map []) ⟨rng A (k + 1), fun _ => 0, 0, []⟩ ∧ Below q0 w w5 ∧ (∀ k ∈ blksR (q2 + 1) q2 (.slice none 0 0) FH, q0 ≤ k) ∧ q0 ≤ w5.heap.size) := Lib.hid ⟨FH2, by
        rw [← putI_rng]
        exact r2, below_step HO.out.1 st2 HO.out.2.1 HO.out.2.2⟩
      clear r2 st2 HC HO
      go_wp2_with fail
      go_roundg (N + 1 - (k + 1))
      case measure => omega
      case rel => exact ⟨k + 1, by congr 1, by omega, rfl, HS2⟩
    · have hkn : k = N := by omega
      subst hkn
      have t1 : ¬ ((A + k : Nat) : Int) ≤ (B : Int) := by omega
      go_wp2_with fail
      go_ret
      obtain ⟨FH, h1, b1, f1, z1⟩ := HS.out
      have e0 := HQ0.out
      refine ⟨q2 + 1, _, rfl, ⟨q0, q2, _, FH, _, h1, rfl⟩, ?_, ?_, ?_⟩
      · rw [e0]; exact b1
      · rw [e0]; exact f1
      · omega
end Go.Proofs.Ytanlaannkdiieaa.Pk
