import Derived.Test.YtofmilkjhnkgjaaNd7
namespace Go.Proofs.Ytofmilkjhnkgjaa
open Go.RowKit Go.Sort
set_option maxRecDepth 100000
set_option maxHeartbeats 1000000

/-! A node at which nothing pends but what was put last. -/
structure Quiet (a : Ns) (D : Nat → Ct) (m b : Nat) : Prop where
  t : a.t = ⟨D, []⟩
  nw : a.nw ≤ m
  last : a.last ≤ 0
  boot : a.boot ≤ b
def pcAt (s g i : Nat) (F : Nat → Nat) : Pc := ⟨s, g, i, F⟩
structure Put1 (a b : Ns) (D : Nat → Ct) (p : Pc) (m bt : Nat) : Prop where
  t : b.t = ⟨D, [(atP p, .pc p)]⟩
  nw : b.nw ≤ m + 1
  last : b.last ≤ 0
  boot : b.boot = a.boot
  le : b.boot ≤ bt
theorem Quiet.put {a : Ns} {D : Nat → Ct} {m bt : Nat} (h : Quiet a D m bt) (s g i : Nat) (F : Nat → Nat) (hs : s < 40) (g1 : 1 ≤ g) (g2 : g ≤ 1000000) (hi : i < 6) :
    Put1 a (a.act (qPut s g i F)).1 D (pcAt s g i F) m bt ∧ (a.act (qPut s g i F)).2 = ⟨0, [], []⟩ := by
  have hok : (qPut s g i F).okP = true := (Rq.okP_iff _).2 (by unfold OkI qPut; dsimp only; omega)
  have e : a.act (qPut s g i F) = (⟨a.t.write (atP (qPut s g i F).pc) (.pc (qPut s g i F).pc), a.R, a.last, a.boot, a.nw + 1⟩, ⟨0, [], []⟩) := by
    unfold Ns.act
    rw [if_neg (by unfold qPut; dsimp only; omega), if_pos (by rfl), if_pos hok]
  have ep : (qPut s g i F).pc = pcAt s g i F := by unfold Rq.pc qPut pcAt; simp
  rw [e, ep]
  refine ⟨⟨?_, by have := h.nw; dsimp only; omega, h.last, rfl, h.boot⟩, rfl⟩
  show a.t.write _ _ = _
  rw [h.t]
  rfl
theorem Quiet.flush {a : Ns} {D : Nat → Ct} {m bt : Nat} (h : Quiet a D m bt) : Quiet (a.act qFlush).1 D m bt ∧ (a.act qFlush).2 = ⟨0, [], []⟩ ∧ (a.act qFlush).1.boot = a.boot := by
  refine ⟨⟨?_, h.nw, h.last, h.boot⟩, rfl, rfl⟩
  show a.t.flush = _
  rw [h.t]
  rfl
theorem Put1.flush {a b : Ns} {D : Nat → Ct} {p : Pc} {m bt : Nat} (h : Put1 a b D p m bt) : Quiet (b.act qFlush).1 (updC D (atP p, .pc p)) (m + 1) bt ∧ (b.act qFlush).2 = ⟨0, [], []⟩ ∧ (b.act qFlush).1.boot = b.boot := by
  refine ⟨⟨?_, h.nw, h.last, h.le⟩, rfl, rfl⟩
  show b.t.flush = _
  rw [h.t]
  rfl
theorem Put1.crash {a b : Ns} {D : Nat → Ct} {p : Pc} {m bt : Nat} (h : Put1 a b D p m bt) (ho : b.Ok) (xs : List Int) : Quiet (b.crash xs) (if keepF xs 0 then updC D (atP p, .pc p) else D) (m + 1) (bt + 1) ∧ (b.crash xs).boot = b.boot + 1 := by
  refine ⟨⟨?_, h.nw, Nat.le_trans (ho.crash xs).2 h.last, Nat.succ_le_succ h.le⟩, rfl⟩
  show b.t.crash (keepF xs) = _
  rw [h.t]
  show (⟨(if keepF xs 0 then [(atP p, Ct.pc p)] else []).foldl updC D, []⟩ : Td) = _
  split <;> rfl
theorem Quiet.crash {a : Ns} {D : Nat → Ct} {m bt : Nat} (h : Quiet a D m bt) (ho : a.Ok) (xs : List Int) : Quiet (a.crash xs) D m (bt + 1) := by
  refine ⟨?_, h.nw, Nat.le_trans (ho.crash xs).2 h.last, Nat.succ_le_succ h.boot⟩
  show a.t.crash (keepF xs) = _
  rw [h.t]
  rfl
theorem Quiet.lose {a : Ns} {D : Nat → Ct} {m bt : Nat} (h : Quiet a D m bt) : Quiet a.lose (fun _ => .no) m (bt + 1) := ⟨rfl, h.nw, Ns.Ok.lose.2, Nat.succ_le_succ h.boot⟩
theorem Quiet.new : Quiet Ns.new (fun _ => .no) 0 1 := ⟨rfl, Nat.le_refl _, Ns.new_ok.2, Nat.le_refl _⟩
theorem Quiet.get {a : Ns} {D : Nat → Ct} {m bt : Nat} (h : Quiet a D m bt) (s : Nat) (hs : s < 40) : a.act (qGet s) = (a, ⟨0, two (D (2 * s)).pc? (D (2 * s + 1)).pc?, []⟩) := by
  unfold Ns.act
  rw [if_pos (by rfl), if_pos (show 0 ≤ (qGet s).s ∧ (qGet s).s < 40 by unfold qGet; dsimp only; omega)]
  have e : (qGet (s : Int)).s.toNat = s := by unfold qGet; simp
  rw [e]
  unfold Ns.pcs Td.now
  rw [h.t]
  rfl
theorem two_len (a b : Option Pc) : (two a b).length = a.toList.length + b.toList.length := by
  unfold two
  cases a <;> cases b <;> simp [srt]
  split <;> rfl
/-- The first of a stripe's pieces has the greatest gen. -/
theorem two_top {a b : Option Pc} {p : Pc} (h : a = some p ∨ b = some p) : ∃ q l, two a b = q :: l ∧ p.g ≤ q.g ∧ (a = some q ∨ b = some q) := by
  unfold two
  cases a with
  | none =>
    cases b with
    | none => rcases h with h | h <;> cases h
    | some y =>
      rcases h with h | h
      · cases h
      · cases h
        exact ⟨p, [], rfl, Nat.le_refl _, Or.inr rfl⟩
  | some x =>
    cases b with
    | none =>
      rcases h with h | h
      · cases h
        exact ⟨p, [], rfl, Nat.le_refl _, Or.inl rfl⟩
      · cases h
    | some y =>
      show ∃ q l, srt [x, y] = q :: l ∧ _
      rw [srt2]
      by_cases hxy : x.g < y.g
      · rw [if_pos hxy]
        refine ⟨y, [x], rfl, ?_, Or.inr rfl⟩
        rcases h with h | h <;> cases h <;> omega
      · rw [if_neg hxy]
        refine ⟨x, [y], rfl, ?_, Or.inl rfl⟩
        rcases h with h | h <;> cases h <;> omega
/-- What is sure to be there. -/
def Top (D : Nat → Ct) (s i sure : Nat) : Prop := (0 < sure → ∃ k p, (k = 2 * s ∨ k = 2 * s + 1) ∧ D k = .pc p ∧ sure ≤ p.g) ∧ sure ≤ i
theorem Top.none_ {D : Nat → Ct} {s i : Nat} : Top D s i 0 := ⟨fun h => absurd h (by omega), Nat.zero_le _⟩
theorem Top.lost {D : Nat → Ct} {s i sure : Nat} (h : Top D s i sure) : Top D s (i + 1) sure := ⟨h.1, Nat.le_succ_of_le h.2⟩
theorem Top.kept {D : Nat → Ct} {s i sure n : Nat} {F : Nat → Nat} (h : sure ≤ i + 1) : Top (updC D (atP (pcAt s (i + 1) n F), .pc (pcAt s (i + 1) n F))) s (i + 1) sure := ⟨fun _ => ⟨_, pcAt s (i + 1) n F, by
    show atP (pcAt s (i + 1) n F) = _ ∨ atP (pcAt s (i + 1) n F) = _
    unfold atP pcAt
    dsimp only
    omega, by unfold updC; rw [if_pos rfl], h⟩, h⟩
theorem Top.get {D : Nat → Ct} {s i sure : Nat} (h : Top D s i sure) (h0 : 0 < sure) : ∃ q l, two (D (2 * s)).pc? (D (2 * s + 1)).pc? = q :: l ∧ sure ≤ q.g := by
  obtain ⟨k, p, hk, hp, hs⟩ := h.1 h0
  have : (D (2 * s)).pc? = some p ∨ (D (2 * s + 1)).pc? = some p := by
    rcases hk with rfl | rfl
    · exact Or.inl (by rw [hp]; rfl)
    · exact Or.inr (by rw [hp]; rfl)
  obtain ⟨q, l, h1, h2, _⟩ := two_top this
  exact ⟨q, l, h1, by omega⟩
/-! The same, of a node of a law. -/
def PutL (w0 : World) (n p : Nat) (a : Ns) (D : Nat → Ct) (x : Pc) (m bt : Nat) (v : World) (e : Ending) (w' : World) : Prop :=
  ∃ B c B' c' b, e = .returned (rpv 0 (a.boot : Int) (.slice B 0 c) (.slice B' 0 c')) ∧ NdL w0 n p b w' ∧ Put1 a b D x m bt ∧ KeepN v w'
theorem nl_put {w0 v : World} {n p : Nat} {a : Ns} {D : Nat → Ct} {m bt : Nat} (h : NdL w0 n p a v) (hq : Quiet a D m bt) (hm : m ≤ 1000000) (s g i : Nat) (F : Nat → Nat) (A : Option Addr) (c : Nat) (hd : DatN v A 32 F) (hF : ∀ j, j < 32 → F j < 256) (hs : s < 40) (g1 : 1 ≤ g) (g2 : g ≤ 1000000) (hi : i < 6) :
    Calls Try.prog 10 #[.pointer (some ⟨n, 0, none⟩), rqv 2 (s : Int) (g : Int) (i : Int) A 32 c] v (PutL w0 n p a D (pcAt s g i F) m bt v) := by
  obtain ⟨h1, h2⟩ := hq.put s g i F hs g1 g2 hi
  have := hq.nw
  have := hq.last
  refine (nl_do h (qPut s g i F) A c hd hF (by omega) (by omega)).mono ?_
  rintro e w' ⟨B, c1, B', c2, he, _, _, hn, hk⟩
  rw [h2, h1.boot] at he
  exact ⟨B, c1, B', c2, _, he, hn, h1, hk⟩
def FlL (w0 : World) (n p : Nat) (boot : Nat) (D : Nat → Ct) (m bt : Nat) (v : World) (e : Ending) (w' : World) : Prop :=
  ∃ B c B' c' b, e = .returned (rpv 0 (boot : Int) (.slice B 0 c) (.slice B' 0 c')) ∧ NdL w0 n p b w' ∧ Quiet b D m bt ∧ b.boot = boot ∧ KeepN v w'
theorem nl_flushP {w0 v : World} {n p : Nat} {a b : Ns} {D : Nat → Ct} {x : Pc} {m bt : Nat} (h : NdL w0 n p b v) (hq : Put1 a b D x m bt) (hm : m ≤ 1000000) :
    Calls Try.prog 10 #[.pointer (some ⟨n, 0, none⟩), rqv 4 0 0 0 none 0 0] v (FlL w0 n p b.boot (updC D (atP x, .pc x)) (m + 1) bt v) := by
  obtain ⟨h1, h2, h3⟩ := hq.flush
  have := hq.nw
  have := hq.last
  refine (nl_do h qFlush none 0 DatN.none_ (fun j hj => absurd hj (Nat.not_lt_zero j)) (by omega) (by omega)).mono ?_
  rintro e w' ⟨B, c1, B', c2, he, _, _, hn, hk⟩
  rw [h2, h3] at he
  exact ⟨B, c1, B', c2, _, he, hn, h1, h3, hk⟩
theorem nl_flushQ {w0 v : World} {n p : Nat} {b : Ns} {D : Nat → Ct} {m bt : Nat} (h : NdL w0 n p b v) (hq : Quiet b D m bt) (hm : m ≤ 1000000) :
    Calls Try.prog 10 #[.pointer (some ⟨n, 0, none⟩), rqv 4 0 0 0 none 0 0] v (FlL w0 n p b.boot D m bt v) := by
  obtain ⟨h1, h2, h3⟩ := hq.flush
  have := hq.nw
  have := hq.last
  refine (nl_do h qFlush none 0 DatN.none_ (fun j hj => absurd hj (Nat.not_lt_zero j)) (by omega) (by omega)).mono ?_
  rintro e w' ⟨B, c1, B', c2, he, _, _, hn, hk⟩
  rw [h2, h3] at he
  exact ⟨B, c1, B', c2, _, he, hn, h1, h3, hk⟩
def CrL (w0 : World) (n p : Nat) (D : Nat → Ct) (m bt boot : Nat) (v : World) (e : Ending) (w' : World) : Prop := ∃ b, e = .returned (.tuple #[]) ∧ NdL w0 n p b w' ∧ Quiet b D m bt ∧ b.boot = boot ∧ KeepN v w'
theorem nl_crashP {w0 v : World} {n p : Nat} {a b : Ns} {D : Nat → Ct} {x : Pc} {m bt : Nat} (h : NdL w0 n p b v) (hq : Put1 a b D x m bt) (hm : m ≤ 1000000) (hb : bt ≤ 1000000) (A : Option Addr) (xs : List Int) (c : Nat) (hxs : Nums v A xs) (hlen : xs.length ≤ 9223372036854775807) :
    Calls Try.prog 12 #[.pointer (some ⟨n, 0, none⟩), .slice A xs.length c] v (CrL w0 n p (if keepF xs 0 then updC D (atP x, .pc x) else D) (m + 1) (bt + 1) (b.boot + 1) v) := by
  obtain ⟨h1, h2⟩ := hq.crash h.ok xs
  have := hq.nw
  have := hq.last
  have := hq.le
  refine (nl_crash h A xs c hxs hlen (by omega) (by omega) (by omega)).mono ?_
  rintro e w' ⟨rfl, hn, hk⟩
  exact ⟨_, rfl, hn, h1, h2, hk⟩
theorem nl_crashQ {w0 v : World} {n p : Nat} {b : Ns} {D : Nat → Ct} {m bt : Nat} (h : NdL w0 n p b v) (hq : Quiet b D m bt) (hm : m ≤ 1000000) (hb : bt ≤ 1000000) (A : Option Addr) (xs : List Int) (c : Nat) (hxs : Nums v A xs) (hlen : xs.length ≤ 9223372036854775807) :
    Calls Try.prog 12 #[.pointer (some ⟨n, 0, none⟩), .slice A xs.length c] v (CrL w0 n p D m (bt + 1) (b.boot + 1) v) := by
  have h1 := hq.crash h.ok xs
  have := hq.nw
  have := hq.last
  have := hq.boot
  refine (nl_crash h A xs c hxs hlen (by omega) (by omega) (by omega)).mono ?_
  rintro e w' ⟨rfl, hn, hk⟩
  exact ⟨_, rfl, hn, h1, rfl, hk⟩
theorem nl_crashQ0 {w0 v : World} {n p : Nat} {b : Ns} {D : Nat → Ct} {m bt : Nat} (h : NdL w0 n p b v) (hq : Quiet b D m bt) (hm : m ≤ 1000000) (hb : bt ≤ 1000000) :
    Calls Try.prog 12 #[.pointer (some ⟨n, 0, none⟩), .slice none 0 0] v (CrL w0 n p D m (bt + 1) (b.boot + 1) v) :=
  nl_crashQ h hq hm hb none [] 0 (fun i x hi => by simp at hi) (by simp)
theorem nl_crashP0 {w0 v : World} {n p : Nat} {a b : Ns} {D : Nat → Ct} {x : Pc} {m bt : Nat} (h : NdL w0 n p b v) (hq : Put1 a b D x m bt) (hm : m ≤ 1000000) (hb : bt ≤ 1000000) :
    Calls Try.prog 12 #[.pointer (some ⟨n, 0, none⟩), .slice none 0 0] v (CrL w0 n p D (m + 1) (bt + 1) (b.boot + 1) v) :=
  nl_crashP h hq hm hb none [] 0 (fun i x hi => by simp at hi) (by simp)
theorem nl_loseQ {w0 v : World} {n p : Nat} {b : Ns} {D : Nat → Ct} {m bt : Nat} (h : NdL w0 n p b v) (hq : Quiet b D m bt) (hm : m ≤ 1000000) (hb : bt ≤ 1000000) :
    Calls Try.prog 13 #[.pointer (some ⟨n, 0, none⟩)] v (CrL w0 n p (fun _ => .no) m (bt + 1) (b.boot + 1) v) := by
  have h1 := hq.lose
  have := hq.nw
  have := hq.boot
  refine (nl_lose h (by omega) (by omega)).mono ?_
  rintro e w' ⟨rfl, hn, hk⟩
  exact ⟨_, rfl, hn, h1, rfl, hk⟩
def GetL (w0 : World) (n p : Nat) (b : Ns) (l : List Pc) (v : World) (e : Ending) (w' : World) : Prop :=
  ∃ B lp c B' c', e = .returned (rpv 0 (b.boot : Int) (.slice B lp c) (.slice B' 0 c')) ∧ NdL w0 n p b w' ∧ lp = l.length ∧ PL w' v.heap.size (.slice B lp c) l ∧ KeepN v w'
theorem nl_get {w0 v : World} {n p : Nat} {b : Ns} {D : Nat → Ct} {m bt : Nat} (h : NdL w0 n p b v) (hq : Quiet b D m bt) (hm : m ≤ 1000000) (s : Nat) (hs : s < 40) :
    Calls Try.prog 10 #[.pointer (some ⟨n, 0, none⟩), rqv 1 (s : Int) 0 0 none 0 0] v (GetL w0 n p b (two (D (2 * s)).pc? (D (2 * s + 1)).pc?) v) := by
  have h1 := hq.get s hs
  have := hq.nw
  have := hq.last
  have hc := nl_do h (qGet s) none 0 DatN.none_ (fun j hj => absurd hj (Nat.not_lt_zero j)) (by omega) (by omega)
  rw [h1] at hc
  refine hc.mono ?_
  rintro e w' ⟨B, c1, B', c2, he, hp, _, hn, hk⟩
  exact ⟨B, _, c1, B', c2, he, hn, rfl, hp, hk⟩
/-- The gen of the first. -/
theorem PL.gen0 {w : World} {H : Nat} {B : Option Addr} {lp c : Nat} {q : Pc} {l : List Pc} (h : PL w H (.slice B lp c) (q :: l)) : ∃ b, B = some ⟨b, 0, none⟩ ∧ w.cell? ⟨b, 1, none⟩ = some (.int .i64 (q.g : Int)) := by
  obtain ⟨b, c', A, d, e, _, _, _, h1, _, _, _⟩ := h.at (i := 0) rfl
  cases e
  exact ⟨b, rfl, h1⟩
end Go.Proofs.Ytofmilkjhnkgjaa
