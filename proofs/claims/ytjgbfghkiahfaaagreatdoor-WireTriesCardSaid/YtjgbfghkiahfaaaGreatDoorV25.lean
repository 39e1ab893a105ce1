import Derived.Test.YtjgbfghkiahfaaaGreatDoorV24
namespace Go.Proofs.YtjgbfghkiahfaaaGreatDoor
open Go.RowKit Go.Sort
set_option maxRecDepth 100000
set_option maxHeartbeats 2000000

/-! What a node's disk and ring do, said of the node. -/
/-- Bytes, pieces and intents stay as they are. -/
def KeepB (w w' : World) : Prop := w.heap.size ≤ w'.heap.size ∧ ∀ (g : Nat) (cs : Array Value) (t : TypeId), w.heap[g]? = some (Obj.cells cs t (0, 0)) → (t = 5 ∨ t = 117 ∨ t = 56) → w'.heap[g]? = w.heap[g]?
theorem KeepB.of {w w' : World} (b : Below w.heap.size w w') : KeepB w w' := ⟨b.size, fun g _ _ hg _ => b.block g (heap_lt hg)⟩
theorem KeepB.trans {a b c : World} (h : KeepB a b) (k : KeepB b c) : KeepB a c := ⟨Nat.le_trans h.1 k.1, fun g cs t hg ht => (k.2 g cs t ((h.2 g cs t hg ht).trans hg) ht).trans (h.2 g cs t hg ht)⟩
theorem KeepB.bytes {w w' : World} (k : KeepB w w') : ∀ (g : Nat) (cs : Array Value), w.heap[g]? = some (Obj.cells cs 5 (0, 0)) → w'.heap[g]? = w.heap[g]? := fun g cs h => k.2 g cs _ h (Or.inl rfl)
theorem KeepB.i {w w' : World} (k : KeepB w w') : KeepI w w' := ⟨k.1, fun g cs t h ht => k.2 g cs t h (by rcases ht with h | h; exact Or.inl h; exact Or.inr (Or.inr h))⟩
theorem KeepB.pl {w w' : World} (k : KeepB w w') {B : Nat} {v : Value} {l : List Pc} (h : PL w B v l) : PL w' B v l := h.keep (fun g cs t hg ht => k.2 g cs t hg (by rcases ht with h | h; exact Or.inl h; exact Or.inr (Or.inl h)))
theorem KeepB.li {w w' : World} (k : KeepB w w') {B : Nat} {v : Value} {l : List It} (h : LI w B v l) : LI w' B v l := h.keepI k.i
theorem KeepB.datN {w w' : World} (k : KeepB w w') {A : Option Addr} {m : Nat} {D : Nat → Nat} (h : DatN w A m D) : DatN w' A m D := h.keep k.bytes
theorem KeepB.set {w : World} {b k : Nat} {cs : Array Value} {t : TypeId} {fr : Nat × Nat} {v : Value} (hb : w.heap[b]? = some (.cells cs t fr)) (h1 : t ≠ 5) (h2 : t ≠ 117) (h3 : t ≠ 56) : KeepB w (w.setCell ⟨b, k, none⟩ v) := ⟨by simp, fun g cs' t' hg ht => set_other (by
  rintro rfl
  rw [hb] at hg
  cases hg
  rcases ht with h | h | h
  · exact h1 h
  · exact h2 h
  · exact h3 h) _ _⟩
theorem NdM.keep {w w' : World} {n r p sb : Nat} {S : List Nat} {a : Ns} (h : NdM w n r p sb S a) (hk : ∀ k ∈ n :: r :: sb :: S, w'.heap[k]? = w.heap[k]?) (hb : ∀ (g : Nat) (cs : Array Value), w.heap[g]? = some (Obj.cells cs 5 (0, 0)) → w'.heap[g]? = w.heap[g]?) : NdM w' n r p sb S a := by
  obtain ⟨X, hr, hs⟩ := h.ex
  exact ⟨h.nb.keep (hk n (by simp)), X, ⟨hr.rb.keep (hk r (by simp)), hr.sr.keep (hk sb (by simp)), fun k hk' => (hr.ok k hk').keep hb, hr.plt.same ⟨hb, fun k hk' => hk k (by simp [hk'])⟩⟩, hs⟩
theorem NdM.keepB {w w' : World} {n r p sb : Nat} {S : List Nat} {a : Ns} (h : NdM w n r p sb S a) (t : Turn (r :: sb :: S) w w') : KeepB w w' :=
  ⟨t.size, fun g cs ty hg ht => t.block g (heap_lt hg) (h.far hg (by rcases ht with rfl | rfl | rfl <;> decide) (by rcases ht with rfl | rfl | rfl <;> decide) (by rcases ht with rfl | rfl | rfl <;> decide) (by rcases ht with rfl | rfl | rfl <;> decide) (by rcases ht with rfl | rfl | rfl <;> decide))⟩
/-- A store into a block of another kind. -/
theorem NdM.set {w : World} {n r p sb b k : Nat} {S : List Nat} {a : Ns} {cs : Array Value} {t : TypeId} {fr : Nat × Nat} {v : Value} (h : NdM w n r p sb S a) (hb : w.heap[b]? = some (.cells cs t fr)) (h0 : t ≠ 75) (h1 : t ≠ 108) (h2 : t ≠ 36) (h3 : t ≠ 149) (h4 : t ≠ 96) (h5 : t ≠ 79) (h6 : t ≠ 5) : NdM (w.setCell ⟨b, k, none⟩ v) n r p sb S a := by
  have hf := h.far hb h1 h2 h3 h4 h5
  refine h.keep (fun j hj => set_other ?_ _ _) (fun g cs' hg => set_other ?_ _ _)
  · rintro rfl
    rw [List.mem_cons] at hj
    rcases hj with rfl | hj
    · have := h.nb
      unfold NdB at this
      rw [hb] at this
      cases this
      exact h0 rfl
    · exact hf hj
  · rintro rfl
    rw [hb] at hg
    cases hg
    exact h6 rfl
/-- The disk was turned. -/
theorem NdM.disk {w w' : World} {n r p sb : Nat} {S S' : List Nat} {a : Ns} (h : NdM w n r p sb S a) (t : Turn S w w') {T : Td} {nw : Nat} (k : Plt w' p S' 96 T.disk nw) : NdM w' n r p sb S' ⟨T, a.R, a.last, a.boot, nw⟩ := by
  obtain ⟨X, hr, hs⟩ := h.ex
  have hn := h.nS
  exact ⟨h.nb.keep (t.block n h.nb.lt (fun hm => hn (by simp [hm]))), X, (hr.turn t k).1, hs⟩
def ActRet (n r p sb : Nat) (S : List Nat) (x : Ns × Rp) (w : World) (e : Ending) (w' : World) : Prop :=
  ∃ S', e = .returned (.int .i64 (x.2.code : Int)) ∧ NdM w' n r p sb S' x.1 ∧ Turn (r :: sb :: S) w w' ∧ ∀ j ∈ S', j ∈ S ∨ w.heap.size ≤ j
theorem turn_in {r sb : Nat} {S : List Nat} {w w' : World} (t : Turn S w w') : Turn (r :: sb :: S) w w' := t.mono (fun k hk => by simp [hk])
/-- chunk.Put. -/
theorem nput {w : World} {n r p sb : Nat} {S : List Nat} {a : Ns} (h : NdM w n r p sb S a) (q : Rq) (A : Option Addr) (c : Nat) (hd : DatN w A q.n q.D) (hD : ∀ j, j < q.n → q.D j < 256) (hw : a.nw ≤ 1000000000) :
    Calls Tryz.prog 69 #[.pointer (some ⟨p, 0, none⟩), pv q.s q.g q.i A q.n c] w (ActRet n r p sb S (if q.okP then (⟨a.t.write (atP q.pc) (.pc q.pc), a.R, a.last, a.boot, a.nw + 1⟩, ⟨0, [], []⟩) else (a, ⟨1, [], []⟩)) w) := by
  by_cases hq : q.okP = true
  · rw [if_pos hq]
    have hi := q.okP_iff.1 hq
    have hok := Rq.pc_ok hi hD
    obtain ⟨i1, i2, i3, i4, i5, i6, i7⟩ := hi
    have hrd := hd.rd
    rw [i7] at hrd ⊢
    have hc := cput h.plt (by omega) q.pc hok A c hrd hw
    have e1 : ((q.pc.s : Nat) : Int) = q.s := by unfold Rq.pc; dsimp only; omega
    have e2 : ((q.pc.g : Nat) : Int) = q.g := by unfold Rq.pc; dsimp only; omega
    have e3 : ((q.pc.i : Nat) : Int) = q.i := by unfold Rq.pc; dsimp only; omega
    rw [e1, e2, e3] at hc
    refine hc.mono ?_
    rintro e w' ⟨S', rfl, hp, ht⟩
    have e4 : a.t.disk.write (atP q.pc) (pcS q.pc) = (a.t.write (atP q.pc) (.pc q.pc)).disk := (disk_write a.t (atP q.pc) (.pc q.pc)).symm
    rw [e4] at hp
    exact ⟨S', rfl, h.disk ht.turn hp, turn_in ht.turn, ht.blocks⟩
  · rw [if_neg hq]
    refine (cput_no h.plt (by omega) q.s q.g q.i A q.n c (fun hi => hq (q.okP_iff.2 hi))).mono ?_
    rintro e w' ⟨rfl, hb⟩
    exact ⟨S, rfl, h.below hb, Turn.of hb, fun j hj => Or.inl hj⟩
theorem saysR_no {x : Sx} {o : Option Nt} (h : SaysR x o) (h1 : ∀ n y, o = some (n, y) → 1 ≤ n) : x.no = 0 ↔ o = none := by
  obtain ⟨a, b⟩ := h
  cases o with
  | none => exact ⟨fun _ => rfl, fun _ => a⟩
  | some e =>
    obtain ⟨n, y⟩ := e
    have := h1 n y rfl
    have a' : x.no = n := a
    exact ⟨fun h => by omega, fun h => by cases h⟩
theorem saysR_some {x : Sx} {o : Option Nt} (h : SaysR x o) (h0 : x.no ≠ 0) : o = some (x.no, x.it) := by
  obtain ⟨a, b⟩ := h
  cases o with
  | none => exact absurd a h0
  | some e =>
    obtain ⟨n, y⟩ := e
    have a' : x.no = n := a
    rw [b n y rfl, a']
/-- intent.Log. -/
theorem nlog {w : World} {n r p sb : Nat} {S : List Nat} {a : Ns} (h : NdM w n r p sb S a) (ho : a.Ok) (q : Rq) (A : Option Addr) (c : Nat) (hd : DatN w A q.n q.D) (hD : ∀ j, j < q.n → q.D j < 256) (hw : a.nw ≤ 1000000000) (hl : a.last ≤ 1000000000) :
    Calls Tryz.prog 71 #[.pointer (some ⟨r, 0, none⟩), iv q.s q.g A q.n c] w (ActRet n r p sb S (if q.okI then a.log q.it else (a, ⟨1, [], []⟩)) w) := by
  obtain ⟨X, hr, hs⟩ := h.ex
  have h1 : ∀ k, k < 16 → ∀ m y, a.R k = some (m, y) → 1 ≤ m := fun k hk m y e => (ho.rs k m y hk e).1
  by_cases hq : q.okI = true
  · rw [if_pos hq]
    have hi := q.okI_iff.1 hq
    have hok := Rq.it_ok hi hD
    obtain ⟨i1, i2, i3, i4, i7⟩ := hi
    have hdi := hd.datI i7
    rw [i7]
    have e1 : ((q.it.s : Nat) : Int) = q.s := by unfold Rq.it; dsimp only; omega
    have e2 : ((q.it.g : Nat) : Int) = q.g := by unfold Rq.it; dsimp only; omega
    have hhas : (∃ k, k < 16 ∧ (X k).no ≠ 0 ∧ (X k).it.Alike q.it) ↔ hasR a.R q.it = true := by
      rw [hasR_iff]
      constructor
      · rintro ⟨k, hk, h0, ha⟩
        exact ⟨k, _, _, hk, saysR_some (hs k hk) h0, ha⟩
      · rintro ⟨k, m, x, hk, he, ha⟩
        refine ⟨k, hk, fun h0 => ?_, ?_⟩
        · rw [(saysR_no (hs k hk) (h1 k hk)).1 h0] at he
          cases he
        · rw [(hs k hk).2 m x he]
          exact ha
    unfold Ns.log
    by_cases hh : hasR a.R q.it = true
    · rw [if_pos hh]
      have hc := ilog_same q.it A c hr hok hdi (hhas.2 hh)
      rw [e1, e2] at hc
      refine hc.mono ?_
      rintro e w' ⟨rfl, hb⟩
      exact ⟨S, rfl, h.below hb, Turn.of hb, fun j hj => Or.inl hj⟩
    · rw [if_neg hh]
      have hn : ∀ k, k < 16 → ¬ ((X k).no ≠ 0 ∧ (X k).it.Alike q.it) := fun k hk e => hh (hhas.1 ⟨k, hk, e.1, e.2⟩)
      obtain ⟨f1, f2, f3⟩ := freeTo_spec a.R 16
      obtain ⟨k, hk⟩ : ∃ k, freeTo a.R 16 = k := ⟨_, rfl⟩
      rw [hk] at f1 f2 f3 ⊢
      by_cases hf : k = 16
      · rw [if_pos hf]
        have hc := ilog_full q.it A c hr hok hdi hn (fun j hj h0 => f2 j (by omega) ((saysR_no (hs j hj) (h1 j hj)).1 h0))
        rw [e1, e2] at hc
        refine hc.mono ?_
        rintro e w' ⟨rfl, hb⟩
        exact ⟨S, rfl, h.below hb, Turn.of hb, fun j hj => Or.inl hj⟩
      · rw [if_neg hf]
        have hk16 : k < 16 := by omega
        have hc := ilog_put q.it A c hr hok hdi hn k hk16 ((saysR_no (hs k hk16) (h1 k hk16)).2 (f3 hk16)) (fun j hj h0 => f2 j hj ((saysR_no (hs j (by omega)) (h1 j (by omega))).1 h0)) (by omega) hw
        rw [e1, e2] at hc
        refine hc.mono ?_
        rintro e w' ⟨S', A', c', rfl, hr', ht, hS⟩
        have e4 : a.t.disk.write (80 + k) (itS (a.last + 1) q.it) = (a.t.write (80 + k) (.it (a.last + 1) q.it)).disk := (disk_write a.t (80 + k) (.it (a.last + 1) q.it)).symm
        rw [e4] at hr'
        refine ⟨S', rfl, ⟨h.nb.keep (ht.block n h.nb.lt h.nS), _, hr', fun j hj => ?_⟩, ht, hS⟩
        show SaysR (updS X k _ j) (updR a.R k _ j)
        unfold updS updR
        by_cases ej : j = k
        · rw [if_pos ej, if_pos ej]
          exact ⟨rfl, fun m y e => by cases e; rfl⟩
        · rw [if_neg ej, if_neg ej]
          exact hs j hj
  · rw [if_neg hq]
    refine (ilog_arg q.s q.g A q.n c hr.rb (fun hi => hq (q.okI_iff.2 hi))).mono ?_
    rintro e w' ⟨rfl, hb⟩
    exact ⟨S, rfl, h.below hb, Turn.of hb, fun j hj => Or.inl hj⟩
/-- intent.Live. -/
def LiveRet (l : List It) (w : World) (e : Ending) (w' : World) : Prop := ∃ B c, e = .returned (.slice B l.length c) ∧ LI w' w.heap.size (.slice B l.length c) l ∧ Below w.heap.size w w'
theorem nlive {w : World} {n r p sb : Nat} {S : List Nat} {a : Ns} (h : NdM w n r p sb S a) (ho : a.Ok) :
    Calls Tryz.prog 16 #[.pointer (some ⟨r, 0, none⟩)] w (LiveRet ((liveT a.R).map (·.2)) w) := by
  obtain ⟨X, hr, hs⟩ := h.ex
  have e1 : (lv X 16).map ntOf = colR a.R 16 := lv_colR hs (fun k m y hk e => (ho.rs k m y hk e).1) 16 (Nat.le_refl _)
  have hag : AG X (liveT a.R) a.last := by
    refine ⟨by rw [e1]; exact (liveT_perm a.R).symm, liveT_rise ho.rd, fun e he => ?_⟩
    obtain ⟨k, hk, hk2⟩ := colR_mem.1 ((liveT_perm a.R).mem_iff.1 he)
    exact (ho.rs k e.1 e.2 hk hk2).2.1
  refine (ilive_ hr).mono ?_
  rintro e w' ⟨u, L, rfl, hl, hp, hso, hb⟩
  rw [hag.live hp hso] at hl
  obtain ⟨B, c, rfl⟩ := hl.form
  exact ⟨B, c, rfl, hl, hb⟩
/-- intent.Release. -/
theorem saysR_rel {x : Sx} {o : Option Nt} (h : SaysR x o) (h1 : ∀ n y, o = some (n, y) → 1 ≤ n) (s g : Int) : SaysR (relS s g x) (relO s g o) := by
  obtain ⟨a, b⟩ := h
  cases o with
  | none =>
    have a' : x.no = 0 := a
    unfold relS
    rw [if_neg (fun h => h.1 a')]
    exact ⟨a, fun n y e => by cases e⟩
  | some e =>
    obtain ⟨n, y⟩ := e
    have := h1 n y rfl
    have a' : x.no = n := a
    have hy := b n y rfl
    have hs : x.s = y.s := by rw [← hy]; rfl
    have hg : x.g = y.g := by rw [← hy]; rfl
    unfold relS relO
    dsimp only
    rw [hs, hg]
    by_cases hc : (y.s : Int) = s ∧ (y.g : Int) = g
    · rw [if_pos ⟨by omega, hc⟩, if_pos hc]
      exact ⟨rfl, fun n y e => by cases e⟩
    · rw [if_neg (fun h => hc h.2), if_neg hc]
      exact ⟨a, b⟩
def RelRet (n r p sb : Nat) (S : List Nat) (a : Ns) (w : World) (e : Ending) (w' : World) : Prop := ∃ k : Int, e = .returned (.int .i64 k) ∧ NdM w' n r p sb S a ∧ Turn (r :: sb :: S) w w'
theorem nrel {w : World} {n r p sb : Nat} {S : List Nat} {a : Ns} (h : NdM w n r p sb S a) (ho : a.Ok) (s g : Int) :
    Calls Tryz.prog 74 #[.pointer (some ⟨r, 0, none⟩), .int .i64 s, .int .i64 g] w (RelRet n r p sb S ⟨a.t, fun k => relO s g (a.R k), a.last, a.boot, a.nw⟩ w) := by
  obtain ⟨X, hr, hs⟩ := h.ex
  refine (irelease s g hr.rb hr.sr).mono ?_
  rintro e w' ⟨rfl, hsr, ht⟩
  have ht' : Turn (r :: sb :: S) w w' := ht.mono (fun k hk => by rw [List.mem_singleton] at hk; subst hk; simp)
  have hu := (h.keepB ht').bytes
  refine ⟨_, rfl, ⟨h.nb.keep (ht'.block n h.nb.lt h.nS), relX s g 16 X, ⟨hr.rb.keep (ht.block r hr.rb.lt (by rw [List.mem_singleton]; exact hr.ne)), hsr, fun k hk => ?_, hr.plt.same ⟨hu, fun k hk => ht.block k (hr.plt.lt k hk) (by
      rw [List.mem_singleton]
      rintro rfl
      exact hr.sS hk)⟩⟩, fun k hk => ?_⟩, ht'⟩
  · have e : relX s g 16 X k = relS s g (X k) := by unfold relX; rw [if_pos hk]
    rw [e]
    unfold relS
    split
    · exact SxOk.z
    · exact (hr.ok k hk).keep hu
  · have e : relX s g 16 X k = relS s g (X k) := by unfold relX; rw [if_pos hk]
    rw [e]
    exact saysR_rel (hs k hk) (fun m y e => (ho.rs k m y hk e).1) s g
/-- platter.Flush. -/
def FlRet (n r p sb : Nat) (S : List Nat) (a : Ns) (w : World) (e : Ending) (w' : World) : Prop := ∃ S', e = .returned (.tuple #[]) ∧ NdM w' n r p sb S' a ∧ Turn (r :: sb :: S) w w' ∧ ∀ j ∈ S', j ∈ S ∨ w.heap.size ≤ j
theorem nflush {w : World} {n r p sb : Nat} {S : List Nat} {a : Ns} (h : NdM w n r p sb S a) :
    Calls Tryz.prog 73 #[.pointer (some ⟨p, 0, none⟩)] w (FlRet n r p sb S ⟨a.t.flush, a.R, a.last, a.boot, a.nw⟩ w) := by
  refine (dflush h.plt).mono ?_
  rintro e w' ⟨S', rfl, hp, ht⟩
  rw [← disk_flush] at hp
  exact ⟨S', rfl, h.disk ht.turn hp, turn_in ht.turn, ht.blocks⟩
end Go.Proofs.YtjgbfghkiahfaaaGreatDoor
