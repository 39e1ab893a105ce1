import Derived.Test.YtanlaannkdiieaaRf5
namespace Go.Proofs.Ytanlaannkdiieaa.Pk
open Go.RowKit Go.Sort
set_option maxRecDepth 100000
set_option maxHeartbeats 2000000

/-! Refs that a law made; the blocks G are others'. -/
def RL (w0 w : World) (rb : Nat) (s : RfS) (G : List Nat) : Prop := ∃ F, RM w rb F s ∧ Below w0.heap.size w0 w ∧ w0.heap.size ≤ w.heap.size ∧ (∀ k ∈ F, w0.heap.size ≤ k) ∧ (∀ k ∈ G, k ∉ F ∧ k < w.heap.size)
def RLp (w0 w : World) (rb : Nat) (s : RfS) (G : List Nat) (v : Value) (e : Ending) (w' : World) : Prop := e = .returned v ∧ RL w0 w' rb s G ∧ (∀ k ∈ G, w'.heap[k]? = w.heap[k]?)
theorem RL.post {w0 w w' : World} {rb : Nat} {s' : RfS} {F F' G : List Nat} (hb : Below w0.heap.size w0 w) (hs : w0.heap.size ≤ w.heap.size) (hF : ∀ k ∈ F, w0.heap.size ≤ k) (hG : ∀ k ∈ G, k ∉ F ∧ k < w.heap.size) (h : RM w' rb F' s') (st : Step F F' w w') :
    RL w0 w' rb s' G ∧ (∀ k ∈ G, w'.heap[k]? = w.heap[k]?) := by
  obtain ⟨b1, f1, z1⟩ := below_step hb st hF hs
  refine ⟨⟨F', h, b1, z1, f1, fun k hk => ⟨fun hm => ?_, Nat.lt_of_lt_of_le (hG k hk).2 st.turn.size⟩⟩, fun k hk => st.turn.block k (hG k hk).2 (hG k hk).1⟩
  rcases st.blocks k hm with y | y
  · exact (hG k hk).1 y
  · have := (hG k hk).2; omega
theorem rl_of {w0 w : World} {rb : Nat} {s s' : RfS} {G : List Nat} {f : Nat} {args : Array Value} {v : Value} (h : RL w0 w rb s G) (hc : ∀ F, RM w rb F s → Calls Try.prog f args w (RfPost rb F s' v w)) : Calls Try.prog f args w (RLp w0 w rb s' G v) := by
  obtain ⟨F, hm, hb, hs, hF, hG⟩ := h
  refine (hc F hm).mono ?_
  rintro e w' ⟨rfl, F', h', st⟩
  exact ⟨rfl, RL.post hb hs hF hG h' st⟩
theorem RL.rd {w0 w : World} {rb : Nat} {s : RfS} {G : List Nat} (h : RL w0 w rb s G) : ∃ F, RM w rb F s := by
  obtain ⟨F, hm, _⟩ := h
  exact ⟨F, hm⟩
theorem rl_new (A B : Nat) (first last : Int) (w0 w : World) (hA : min (max first 1) 1000 = (A : Int)) (hB : min (max last 1) 1000 = (B : Int)) (hb : Below w0.heap.size w0 w) (hs : w0.heap.size ≤ w.heap.size) :
    Calls Try.prog 6 #[.int .i64 first, .int .i64 last] w fun e w' => ∃ rb, e = .returned (.pointer (some ⟨rb, 0, none⟩)) ∧ RL w0 w' rb ⟨rng A (B + 1 - A), fun _ => 0, 0, []⟩ [] := by
  refine (rf_new A B first last w hA hB).mono ?_
  rintro e w' ⟨rb, F, rfl, h, b, f, _⟩
  exact ⟨rb, rfl, F, h, hb.trans (b.mono hs), Nat.le_trans hs b.size, fun k hk => Nat.le_trans hs (f k hk), by simp⟩
theorem RL.below {w0 w w' : World} {rb : Nat} {s : RfS} {G : List Nat} (h : RL w0 w rb s G) (b : Below w.heap.size w w') : RL w0 w' rb s G := by
  obtain ⟨F, hm, hb, hs, hF, hG⟩ := h
  exact ⟨F, hm.below b, hb.trans (b.mono hs), Nat.le_trans hs b.size, hF, fun k hk => ⟨(hG k hk).1, Nat.lt_of_lt_of_le (hG k hk).2 b.size⟩⟩
theorem RL.end_ {w0 w : World} {rb : Nat} {s : RfS} {G : List Nat} (h : RL w0 w rb s G) : Below w0.heap.size w0 w := by
  obtain ⟨_, _, hb, _⟩ := h
  exact hb

/-- corbellaw16.known. -/
theorem lknown16 (w : World) : Calls Try.prog 7 #[] w fun e w' => e = .returned (.bool true) ∧ Below w.heap.size w w' := by
  go_enter Try.func7, Try.ntmps7
  go_wp2_with fail
  refine (rl_new 17 19 17 19 w w (by decide) (by decide) (Below.refl _ _) (Nat.le_refl _)).mono ?_
  rintro e w1 ⟨rb, rfl, h⟩
  have H1 := Lib.hid h
  clear h
  go_wp2_with fail
  obtain ⟨F, h⟩ := H1.out.rd
  refine (rf_free h).mono ?_
  rintro e wx ⟨rfl, rfl⟩
  clear h
  go_wp2_with fail
  refine (rl_of H1.out (fun F h => rf_take_yes (id := 17) (S' := rng 18 2) h rfl (by decide))).mono ?_
  rintro e w2 ⟨rfl, h, -⟩
  have H2 := Lib.hid h
  clear h H1
  go_wp2_with fail
  refine (rl_of H2.out (fun F h => rf_take_yes (id := 18) (S' := rng 19 1) h rfl (by decide))).mono ?_
  rintro e w3 ⟨rfl, h, -⟩
  have H3 := Lib.hid h
  clear h H2
  go_wp2_with fail
  refine (rl_of H3.out (fun F h => rf_drop 17 (by constructor <;> decide) h (by decide) (by decide) (by decide))).mono ?_
  rintro e w4 ⟨rfl, h, -⟩
  have H4 := Lib.hid h
  clear h H3
  go_wp2_with fail
  refine (rl_of H4.out (fun F h => rf_take_yes (id := 19) (S' := []) h rfl (by decide))).mono ?_
  rintro e w5 ⟨rfl, h, -⟩
  have H5 := Lib.hid h
  clear h H4
  go_wp2_with fail
  refine (rl_of H5.out (fun F h => rf_take_no h rfl)).mono ?_
  rintro e w6 ⟨rfl, h, -⟩
  have H6 := Lib.hid h
  clear h H5
  go_wp2_with fail
  obtain ⟨F, h⟩ := H6.out.rd
  refine (rf_held h).mono ?_
  rintro e wy ⟨rfl, rfl⟩
  clear h
  go_wp2_with fail
  go_ret
  exact ⟨rfl, H6.out.end_⟩

/-! Two of them. -/
def RL2 (w0 w : World) (ra rb : Nat) (s t : RfS) : Prop := ∃ F G, RM w ra F s ∧ RM w rb G t ∧ (∀ k ∈ F, k ∉ G) ∧ Below w0.heap.size w0 w ∧ w0.heap.size ≤ w.heap.size ∧ (∀ k ∈ F, w0.heap.size ≤ k) ∧ (∀ k ∈ G, w0.heap.size ≤ k)
theorem RL2.swap {w0 w : World} {ra rb : Nat} {s t : RfS} (h : RL2 w0 w ra rb s t) : RL2 w0 w rb ra t s := by
  obtain ⟨F, G, h1, h2, hd, b, z, f, g⟩ := h
  exact ⟨G, F, h2, h1, fun k hk hm => hd k hm hk, b, z, g, f⟩
theorem rl2_of {w0 w : World} {ra rb : Nat} {s s' t : RfS} {f : Nat} {args : Array Value} {v : Value} (h : RL2 w0 w ra rb s t) (hc : ∀ F, RM w ra F s → Calls Try.prog f args w (RfPost ra F s' v w)) : Calls Try.prog f args w fun e w' => e = .returned v ∧ RL2 w0 w' ra rb s' t := by
  obtain ⟨F, G, h1, h2, hd, b, z, hF, hG⟩ := h
  refine (hc F h1).mono ?_
  rintro e w' ⟨rfl, F', h', st⟩
  obtain ⟨b1, f1, z1⟩ := below_step b st hF z
  obtain ⟨h2', d2⟩ := h2.other st (fun k hk hm => hd k hm hk)
  exact ⟨rfl, F', G, h', h2', fun k hk hm => d2 k hm hk, b1, z1, f1, hG⟩
theorem rl2_of2 {w0 w : World} {ra rb : Nat} {s t t' : RfS} {f : Nat} {args : Array Value} {v : Value} (h : RL2 w0 w ra rb s t) (hc : ∀ F, RM w rb F t → Calls Try.prog f args w (RfPost rb F t' v w)) : Calls Try.prog f args w fun e w' => e = .returned v ∧ RL2 w0 w' ra rb s t' := by
  refine (rl2_of h.swap hc).mono ?_
  rintro e w' ⟨rfl, h⟩
  exact ⟨rfl, h.swap⟩
theorem RL2.below {w0 w w' : World} {ra rb : Nat} {s t : RfS} (h : RL2 w0 w ra rb s t) (b : Below w.heap.size w w') : RL2 w0 w' ra rb s t := by
  obtain ⟨F, G, h1, h2, hd, b0, z, hF, hG⟩ := h
  exact ⟨F, G, h1.below b, h2.below b, hd, b0.trans (b.mono z), Nat.le_trans z b.size, hF, hG⟩
theorem RL2.rd {w0 w : World} {ra rb : Nat} {s t : RfS} (h : RL2 w0 w ra rb s t) : (∃ F, RM w ra F s) ∧ (∃ F, RM w rb F t) ∧ Below w0.heap.size w0 w ∧ w0.heap.size ≤ w.heap.size := by
  obtain ⟨F, G, h1, h2, hd, b0, z, hF, hG⟩ := h
  exact ⟨⟨F, h1⟩, ⟨G, h2⟩, b0, z⟩
theorem rl2_new (A B : Nat) (first last : Int) (w0 w : World) {ra : Nat} {s : RfS} (h : RL w0 w ra s []) (hA : min (max first 1) 1000 = (A : Int)) (hB : min (max last 1) 1000 = (B : Int)) :
    Calls Try.prog 6 #[.int .i64 first, .int .i64 last] w fun e w' => ∃ rb, e = .returned (.pointer (some ⟨rb, 0, none⟩)) ∧ RL2 w0 w' ra rb s ⟨rng A (B + 1 - A), fun _ => 0, 0, []⟩ := by
  obtain ⟨F, hm, hb, hs, hF, _⟩ := h
  refine (rf_new A B first last w hA hB).mono ?_
  rintro e w' ⟨rb, G, rfl, h2, b, g, _⟩
  exact ⟨rb, rfl, F, G, hm.below b, h2, fun k hk hm' => by have := g k hm'; have := hm.lt k hk; omega, hb.trans (b.mono hs), Nat.le_trans hs b.size, hF, fun k hk => Nat.le_trans hs (g k hk)⟩

/-- RefsKnown. -/
theorem refsKnown (w : World) : Calls Try.prog 3 #[] w fun e w' => e = .returned (.bool true) ∧ Below w.heap.size w w' := by
  go_enter Try.func3, Try.ntmps3
  go_wp2_with fail
  refine (rl_new 5 6 5 6 w w (by decide) (by decide) (Below.refl _ _) (Nat.le_refl _)).mono ?_
  rintro e w1 ⟨ra, rfl, h⟩
  have H1 := Lib.hid h
  clear h
  go_wp2_with fail
  refine (rl2_new 9 3 9 3 w w1 H1.out (by decide) (by decide)).mono ?_
  rintro e w2 ⟨rb, rfl, h⟩
  have H2 := Lib.hid h
  clear h H1
  go_wp2_with fail
  refine (lknown16 _).mono ?_
  rintro e w3 ⟨rfl, b3⟩
  have H3 := Lib.hid (H2.out.below b3)
  clear b3 H2
  go_wp2_with fail
  refine (rl2_of H3.out (fun F h => rf_add 5 (by constructor <;> decide) h (by decide) (by decide))).mono ?_
  rintro e w4 ⟨rfl, h⟩
  have H4 := Lib.hid h
  clear h H3
  go_wp2_with fail
  refine (rl2_of H4.out (fun F h => rf_take_yes (id := 5) (S' := rng 6 1) h rfl (by decide))).mono ?_
  rintro e w5 ⟨rfl, h⟩
  have H5 := Lib.hid h
  clear h H4
  go_wp2_with fail
  refine (rl2_of H5.out (fun F h => rf_add 5 (by constructor <;> decide) h (by decide) (by decide))).mono ?_
  rintro e w6 ⟨rfl, h⟩
  have H6 := Lib.hid h
  clear h H5
  go_wp2_with fail
  obtain ⟨⟨F, h⟩, _⟩ := H6.out.rd
  refine (rf_count 5 (by constructor <;> decide) h).mono ?_
  rintro e wx ⟨rfl, rfl⟩
  clear h
  go_wp2_with fail
  refine (rl2_of H6.out (fun F h => rf_drop 5 (by constructor <;> decide) h (by decide) (by decide) (by decide))).mono ?_
  rintro e w7 ⟨rfl, h⟩
  have H7 := Lib.hid h
  clear h H6
  go_wp2_with fail
  obtain ⟨⟨F, h⟩, _⟩ := H7.out.rd
  refine (rf_held h).mono ?_
  rintro e wx ⟨rfl, rfl⟩
  clear h
  go_wp2_with fail
  refine (rl2_of H7.out (fun F h => rf_drop 5 (by constructor <;> decide) h (by decide) (by decide) (by decide))).mono ?_
  rintro e w8 ⟨rfl, h⟩
  have H8 := Lib.hid h
  clear h H7
  go_wp2_with fail
  refine (rl2_of H8.out (fun F h => rf_drop 5 (by constructor <;> decide) h (by decide) (by decide) (by decide))).mono ?_
  rintro e w9 ⟨rfl, h⟩
  have H9 := Lib.hid h
  clear h H8
  go_wp2_with fail
  obtain ⟨⟨F, h⟩, _⟩ := H9.out.rd
  refine (rf_held h).mono ?_
  rintro e wx ⟨rfl, rfl⟩
  clear h
  go_wp2_with fail
  obtain ⟨⟨F, h⟩, _⟩ := H9.out.rd
  refine (rf_count 5 (by constructor <;> decide) h).mono ?_
  rintro e wx ⟨rfl, rfl⟩
  clear h
  go_wp2_with fail
  refine (rl2_of H9.out (fun F h => rf_settle h (by decide))).mono ?_
  rintro e w10 ⟨rfl, h⟩
  have H10 := Lib.hid h
  clear h H9
  go_wp2_with fail
  refine (rl2_of2 H10.out (fun F h => rf_take_no h rfl)).mono ?_
  rintro e w11 ⟨rfl, h⟩
  have H11 := Lib.hid h
  clear h H10
  go_wp2_with fail
  refine (rl2_of H11.out (fun F h => rf_take_yes (id := 5) (S' := rng 6 1) h (by decide) (by decide))).mono ?_
  rintro e w12 ⟨rfl, h⟩
  have H12 := Lib.hid h
  clear h H11
  go_wp2_with fail
  obtain ⟨_, ⟨G, h⟩, _⟩ := H12.out.rd
  refine (rf_free h).mono ?_
  rintro e wx ⟨rfl, rfl⟩
  clear h
  go_wp2_with fail
  obtain ⟨⟨F, h⟩, _⟩ := H12.out.rd
  refine (rf_count (-3) (by constructor <;> decide) h).mono ?_
  rintro e wx ⟨rfl, rfl⟩
  clear h
  go_wp2_with fail
  refine (rl2_of H12.out (fun F h => rf_add 99 (by constructor <;> decide) h (by decide) (by decide))).mono ?_
  rintro e w13 ⟨rfl, h⟩
  have H13 := Lib.hid h
  clear h H12
  go_wp2_with fail
  refine (rl2_of H13.out (fun F h => rf_drop 99 (by constructor <;> decide) h (by decide) (by decide) (by decide))).mono ?_
  rintro e w14 ⟨rfl, h⟩
  have H14 := Lib.hid h
  clear h H13
  go_wp2_with fail
  obtain ⟨_, _, b0, z0⟩ := H14.out.rd
  refine (rl_new 1 2 (-4) 2 w w14 (by decide) (by decide) b0 z0).mono ?_
  rintro e w15 ⟨rc, rfl, h⟩
  have H15 := Lib.hid h
  clear h H14 b0 z0
  go_wp2_with fail
  obtain ⟨F, h⟩ := H15.out.rd
  refine (rf_free h).mono ?_
  rintro e wx ⟨rfl, rfl⟩
  clear h
  go_wp2_with fail
  obtain ⟨_, _, b0, z0, _⟩ := H15.out
  refine (rl_new 999 1000 999 5000 w _ (by decide) (by decide) b0 z0).mono ?_
  rintro e w16 ⟨rd, rfl, h⟩
  have H16 := Lib.hid h
  clear h H15 b0 z0
  go_wp2_with fail
  obtain ⟨F, h⟩ := H16.out.rd
  refine (rf_free h).mono ?_
  rintro e wx ⟨rfl, rfl⟩
  clear h
  go_wp2_with fail
  go_ret
  exact ⟨rfl, H16.out.end_⟩
end Go.Proofs.Ytanlaannkdiieaa.Pk
