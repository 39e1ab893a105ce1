import Derived.Test.YtanlaannkdiieaaPkJ
namespace Go.Proofs.Ytanlaannkdiieaa.Pk
open Go.RowKit Go.Sort

theorem pu_push {l : List It} (h : Heapy l l.length) (x : It) : Pu (l ++ [x]) (l.length + 1) l.length := by
  refine ⟨fun k h0 hk hne => ?_, fun k h0 hk hp h1 => ?_⟩
  · rw [at_push, at_push, if_pos (by unfold par; omega), if_pos (by omega)]
    exact h k h0 (by omega)
  · unfold par at hp; omega

theorem q_set {l m : List It} {n i : Nat} (h : Heapy l n) (hi : i < n) (hm : ∀ k, k < n → k ≠ i → at' m k = at' l k) : Q m n i := by
  refine ⟨fun k h0 hk h1 h2 => ?_, fun k h0 hk hp h1 => ?_⟩
  · rw [hm k hk h1, hm (par k) (by unfold par; omega) h2]
    exact h k h0 hk
  · rw [hm k hk (by unfold par at hp; omega), hm (par i) (by unfold par; omega) (by unfold par; omega)]
    have a := h k h0 hk
    rw [hp] at a
    exact le_trans (h i h1 hi) a

theorem q_zero {m : List It} {n : Nat} (h : n = 0) (i : Nat) : Q m n i := by
  subst h
  exact ⟨fun k _ hk => absurd hk (Nat.not_lt_zero _), fun k _ hk => absurd hk (Nat.not_lt_zero _)⟩

theorem heapy_drop {l : List It} (h : Heapy l (l.length - 1)) : Heapy l.dropLast l.dropLast.length := by
  intro k h0 hk
  rw [List.length_dropLast] at hk
  rw [at_dropLast l k hk, at_dropLast l _ (by unfold par; omega)]
  exact h k h0 hk

theorem drop_perm {l : List It} (h : 0 < l.length) : (l.dropLast ++ [at' l (l.length - 1)]) = l := by
  have hne : l ≠ [] := by intro e; subst e; exact absurd h (Nat.lt_irrefl _)
  have : at' l (l.length - 1) = l.getLast hne := by
    unfold at'
    rw [List.getD_eq_getElem?_getD, List.getElem?_eq_getElem (by omega)]
    rw [List.getLast_eq_getElem]
    rfl
  rw [this]
  exact List.dropLast_concat_getLast hne

/-- What container/heap's Push leaves. -/
def GrewPost (hb : Nat) (S : List Nat) (l : List It) (x : It) (w : World) (e : Ending) (w' : World) : Prop :=
  e = .returned (.tuple #[]) ∧ ∃ g mb cap l', Raw w' hb g mb cap l' ∧ Heapy l' l'.length ∧ l'.Perm (l ++ [x]) ∧ (g ∈ S ∨ w.heap.size ≤ g) ∧ (mb ∈ S ∨ w.heap.size ≤ mb) ∧ Turn S w w'

theorem Turn.fresh {S : List Nat} {w w2 w3 : World} {S' : List Nat} (h : Turn S w w2) (t : Turn S' w2 w3) (hs : ∀ k ∈ S', k ∈ S ∨ w.heap.size ≤ k) : Turn S w w3 :=
  ⟨t.os.trans h.os, t.tape.trans h.tape, t.output.trans h.output, Nat.le_trans h.size t.size, fun k hk hn => (t.block k (Nat.lt_of_lt_of_le hk h.size) (fun e => by rcases hs k e with a | a; exact hn a; omega)).trans (h.block k hk hn)⟩

theorem headCell {w : World} {hb : Nat} {v m : Value} (h : w.heap[hb]? = some (.cells #[v, m] 48 (0, 0))) : w.cell? ⟨hb, 0, none⟩ = some v := by simp [World.cell?, h]

set_option maxHeartbeats 1000000 in
set_option maxRecDepth 100000 in
theorem push20 (hb : Nat) (S : List Nat) (l : List It) (x1 x2 : Int) (w : World)
    (hp : Calls Try.prog 47 #[.pointer (some ⟨hb, 0, none⟩), .iface 41 (.agg #[.int .i64 x1, .int .i64 x2])] w (PushPost hb S l (x1, x2) w)) (hh : Heapy l l.length) :
    Calls Try.prog 26 #[.iface 51 (.pointer (some ⟨hb, 0, none⟩)), .iface 41 (.agg #[.int .i64 x1, .int .i64 x2])] w (GrewPost hb S l (x1, x2) w) := by
  have m1 := fun w' => mPush ⟨hb, 0, none⟩ w'
  have m2 := fun w' => naPush ⟨hb, 0, none⟩ w'
  have m3 := fun w' => mLen ⟨hb, 0, none⟩ w'
  have m4 := fun w' => naLen ⟨hb, 0, none⟩ w'
  have HC := Lib.hid hp
  have HH := Lib.hid hh
  clear hp hh
  go_enter Try.func26, Try.ntmps26
  go_wp2_with fail
  refine HC.out.mono ?_
  rintro e w1 ⟨rfl, g, mb, cap, R1, hg, hm, T1⟩
  have HR1 := Lib.hid R1
  have HT1 := Lib.hid T1
  have HG := Lib.hid hg
  have HM := Lib.hid hm
  have hc := headCell R1.head
  have hlen : (l ++ [(x1, x2)]).length = l.length + 1 := by simp
  rw [hlen] at hc
  have hsh : l.length + 1 ≤ 1000 := by have := R1.short; rw [hlen] at this; exact this
  have HL := Lib.hid hlen
  clear R1 T1 hg hm hlen
  go_wp2_with fail
  refine (len25 hb _ _ _ w1 hc).mono ?_
  rintro e w2 ⟨rfl, rfl⟩
  go_wp2_with fail
  refine (up28 hb g mb cap l.length (l.length + 1) (l ++ [(x1, x2)]) _ HR1.out (by omega) (by rw [HL.out]; exact Nat.le_refl _) (pu_push HH.out (x1, x2))).mono ?_
  rintro e w3 ⟨rfl, l', R3, T3, P3, H3, _⟩
  have hl' : l'.length = l.length + 1 := P3.length_eq.trans HL.out
  have HK := Lib.hid (show Heapy l' l'.length by rw [hl']; exact H3)
  have HR3 := Lib.hid R3
  have HT3 := Lib.hid T3
  have HP3 := Lib.hid P3
  clear R3 T3 P3 H3 hl'
  go_wp2_with fail
  go_end0
  exact ⟨rfl, g, mb, cap, l', HR3.out, HK.out, HP3.out, HG.out, HM.out, HT1.out.fresh HT3.out (fun k hk => by
    rcases List.mem_cons.1 hk with e | hk
    · subst e; exact HG.out
    · rw [List.mem_singleton.1 hk]; exact HM.out)⟩

set_option maxHeartbeats 1000000 in
set_option maxRecDepth 100000 in
theorem fix19 (hb g mb cap i : Nat) (l : List It) (w : World) (h : Raw w hb g mb cap l) (hi : i < l.length) (hQ : Q l l.length i) :
    Calls Try.prog 25 #[.iface 51 (.pointer (some ⟨hb, 0, none⟩)), .int .i64 i] w fun e w' => e = .returned (.tuple #[]) ∧ ∃ l', Raw w' hb g mb cap l' ∧ Turn [g, mb] w w' ∧ l'.Perm l ∧ Heapy l' l'.length := by
  have m3 := fun w' => mLen ⟨hb, 0, none⟩ w'
  have m4 := fun w' => naLen ⟨hb, 0, none⟩ w'
  have hc := headCell h.head
  have HD := Lib.hid (down27 hb g mb cap i l.length l w h (Nat.le_refl _) (by omega) hQ)
  clear h hQ
  go_enter Try.func25, Try.ntmps25
  go_wp2_with fail
  refine (len25 hb _ _ _ w hc).mono ?_
  rintro e w2 ⟨rfl, rfl⟩
  clear hc
  go_wp2_with fail
  refine HD.out.mono ?_
  rintro e w3 ⟨mv, rfl, l1, R1, T1, P1, _, h1, h2⟩
  cases mv
  · have HP := Lib.hid (h2 rfl)
    have HR := Lib.hid R1
    have HT := Lib.hid T1
    have HM := Lib.hid P1
    clear h1 h2 R1 T1 P1
    go_wp2_with fail
    refine (up28 hb g mb cap i l.length l1 w3 HR.out hi (by rw [HM.out.length_eq]; exact Nat.le_refl _) HP.out).mono ?_
    rintro e w4 ⟨rfl, l2, R2, T2, P2, H2, _⟩
    have HR2 := Lib.hid R2
    have HT2 := Lib.hid T2
    have HM2 := Lib.hid P2
    have HH2 := Lib.hid H2
    clear R2 T2 P2 H2
    go_wp2_with fail
    go_end0
    exact ⟨rfl, l2, HR2.out, HT.out.trans HT2.out, HM2.out.trans HM.out, by rw [(HM2.out.trans HM.out).length_eq]; exact HH2.out⟩
  · have HP := Lib.hid (h1 rfl)
    have HR := Lib.hid R1
    have HT := Lib.hid T1
    have HM := Lib.hid P1
    clear h1 h2 R1 T1 P1
    go_wp2_with fail
    go_end0
    exact ⟨rfl, l1, HR.out, HT.out, HM.out, by rw [HM.out.length_eq]; exact HP.out⟩

/-- What Remove and container/heap's Pop leave: item i is gone. -/
def GonePost (hb g mb cap i : Nat) (l : List It) (w : World) (e : Ending) (w' : World) : Prop :=
  e = .returned (.iface 41 (.agg #[.int .i64 (at' l i).1, .int .i64 (at' l i).2])) ∧ ∃ l', Raw w' hb g mb cap l' ∧ Turn [hb, g, mb] w w' ∧ (l' ++ [at' l i]).Perm l ∧ Heapy l' l'.length

theorem gone_end {hb g mb cap i : Nat} {l l2 : List It} {w w2 w3 : World} {e : Ending} (hl : 0 < l.length) (T : Turn [g, mb] w w2) (P : l2.Perm l) (hH : Heapy l2 (l.length - 1)) (hat : at' l2 (l.length - 1) = at' l i)
    (h : e = .returned (.iface 41 (.agg #[.int .i64 (at' l2 (l2.length - 1)).1, .int .i64 (at' l2 (l2.length - 1)).2])) ∧ Raw w3 hb g mb cap l2.dropLast ∧ Turn [hb, g, mb] w2 w3) : GonePost hb g mb cap i l w e w3 := by
  obtain ⟨rfl, R, T3⟩ := h
  have e1 := P.length_eq
  rw [e1, hat]
  refine ⟨rfl, _, R, (T.mono (by simp)).trans T3, ?_, heapy_drop (by rw [e1]; exact hH)⟩
  have := drop_perm (l := l2) (by omega)
  rw [e1, hat] at this
  rw [this]
  exact P

set_option maxHeartbeats 2000000 in
set_option maxRecDepth 100000 in
theorem pop26 (hb g mb cap : Nat) (l : List It) (w : World) (h : Raw w hb g mb cap l) (hl : 0 < l.length) (hH : Heapy l l.length) :
    Calls Try.prog 23 #[.iface 51 (.pointer (some ⟨hb, 0, none⟩))] w (GonePost hb g mb cap 0 l w) := by
  have m1 := fun w' => mSwap ⟨hb, 0, none⟩ w'
  have m2 := fun w' => naSwap ⟨hb, 0, none⟩ w'
  have m3 := fun w' => mLen ⟨hb, 0, none⟩ w'
  have m4 := fun w' => naLen ⟨hb, 0, none⟩ w'
  have m5 := fun w' => mPop ⟨hb, 0, none⟩ w'
  have m6 := fun w' => naPop ⟨hb, 0, none⟩ w'
  have hc := headCell h.head
  have hsh := h.short
  obtain ⟨n, hn⟩ : ∃ n, l.length = n + 1 := ⟨l.length - 1, by omega⟩
  have HN := Lib.hid hn
  rw [hn] at hc hsh
  have HS := Lib.hid (swap69 hb g mb cap 0 n l w h hl (by omega))
  have hat := at_swp l 0 n n hl (by omega)
  rw [if_pos rfl] at hat
  have HA := Lib.hid hat
  have HP0 := Lib.hid (swp_perm (l := l) (i := 0) (j := n) hl (by omega))
  have HQ : Hid (Q (swp l 0 n) n 0) := Lib.hid (by
    by_cases h0 : n = 0
    · exact q_zero h0 0
    · exact q_set (l := l) (fun k h0 hk => hH k h0 (by omega)) (by omega) (fun k hk hne => by rw [at_swp l 0 n k hl (by omega), if_neg (by omega), if_neg hne]))
  clear h hH hn hl hat
  go_enter Try.func23, Try.ntmps23
  go_wp2_with fail
  refine (len25 hb _ _ _ w hc).mono ?_
  rintro e w2 ⟨rfl, rfl⟩
  clear hc
  go_wp2_with fail
  refine HS.out.mono ?_
  rintro e w3 ⟨rfl, R3, T3⟩
  have HR3 := Lib.hid R3
  have HT3 := Lib.hid T3
  clear R3 T3
  go_wp2_with fail
  refine (down27 hb g mb cap 0 n (swp l 0 n) w3 HR3.out (by rw [length_swp, HN.out]; omega) (by omega) HQ.out).mono ?_
  rintro e w4 ⟨mv, rfl, l1, R1, T1, P1, tl, h1, h2⟩
  have HP : Hid (Heapy l1 n) := Lib.hid (by
    cases mv
    · exact heapy_of (h2 rfl) (fun h0 => absurd h0 (Nat.lt_irrefl 0))
    · exact h1 rfl)
  have HR1 := Lib.hid R1
  have HT1 := Lib.hid T1
  have HP1 := Lib.hid P1
  have HL1 := Lib.hid tl
  clear h1 h2 R1 T1 P1 tl
  go_wp2_with fail
  refine (pop67 hb g mb cap l1 _ HR1.out (by rw [(HP1.out.trans HP0.out).length_eq, HN.out]; omega)).mono ?_
  intro e w9 hp
  have HG := gone_end (i := 0) (w := w2) (by rw [HN.out]; omega) (HT3.out.trans HT1.out) (HP1.out.trans HP0.out) (by rw [HN.out]; exact HP.out) (by rw [HN.out]; exact (HL1.out n (Nat.le_refl _)).trans HA.out) hp
  obtain ⟨he, hr⟩ := HG
  have HX := Lib.hid hr
  subst he
  clear hr hp
  go_wp2_with fail
  go_ret
  exact ⟨rfl, HX.out⟩

end Go.Proofs.Ytanlaannkdiieaa.Pk
