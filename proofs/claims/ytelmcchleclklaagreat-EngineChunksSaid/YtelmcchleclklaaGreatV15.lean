import Derived.Test.YtelmcchleclklaaGreatV13
import Derived.Test.YtelmcchleclklaaGreatV08
import Derived.Test.YtelmcchleclklaaGreatV14
namespace Go.Proofs.YtelmcchleclklaaGreat
open Go.RowKit Go.Sort
set_option maxRecDepth 100000
set_option maxHeartbeats 1000000

inductive Ct where
 | no : Ct
 | pc : Pc → Ct
 | it : Nat → It → Ct
def Ct.F : Ct → Blk
 | .no => fun _ => 0
 | .pc p => pcS p
 | .it n x => itS n x
def Ct.num : Ct → Nat
 | .it n _ => n
 | _ => 0
def Ct.pc? : Ct → Option Pc
 | .pc p => some p
 | _ => none
def Ct.it? : Ct → Option Nt
 | .it n x => some (n, x)
 | _ => none
def Ct.At (k : Nat) : Ct → Prop
 | .no => True
 | .pc p => p.Ok ∧ atP p = k
 | .it n x => x.Ok ∧ 1 ≤ n ∧ 80 ≤ k ∧ k < 96
structure Td where
 done : Nat → Ct
 pend : List (Nat × Ct)
def updC (D : Nat → Ct) (x : Nat × Ct) : Nat → Ct := fun k => if k = x.1 then x.2 else D k
def keptC (f : Nat → Bool) : Nat → List (Nat × Ct) → List (Nat × Ct)
 | _, [] => []
 | i, x :: l => if f i then x :: keptC f (i + 1) l else keptC f (i + 1) l
def Td.now (t : Td) : Nat → Ct := t.pend.foldl updC t.done
def Td.write (t : Td) (k : Nat) (c : Ct) : Td := ⟨t.done, t.pend ++ [(k, c)]⟩
def Td.flush (t : Td) : Td := ⟨t.now, []⟩
def Td.crash (t : Td) (f : Nat → Bool) : Td := ⟨(keptC f 0 t.pend).foldl updC t.done, []⟩
def Td.blank : Td := ⟨fun _ => .no, []⟩
def cF (e : Nat × Ct) : Nat × Blk := (e.1, e.2.F)
def Td.disk (t : Td) : Disk := ⟨fun k => (t.done k).F, t.pend.map cF⟩
theorem fold_disk : ∀ (l : List (Nat × Ct)) (D : Nat → Ct), (l.map cF).foldl upd (fun k => (D k).F) = fun k => ((l.foldl updC D) k).F
 | [], D => rfl
 | e :: l, D => by
  show (l.map cF).foldl upd (upd (fun k => (D k).F) (cF e)) = _
  have h : upd (fun k => (D k).F) (cF e) = fun k => (updC D e k).F := by
   funext k
   unfold upd updC cF
   dsimp only
   split <;> rfl
  rw [h, fold_disk l (updC D e)]
  rfl
theorem kept_map (f : Nat → Bool) : ∀ (l : List (Nat × Ct)) (i : Nat), keptAt f i (l.map cF) = (keptC f i l).map cF
 | [], i => rfl
 | e :: l, i => by
  show (if f i then cF e :: keptAt f (i + 1) (l.map cF) else keptAt f (i + 1) (l.map cF)) = (if f i then e :: keptC f (i + 1) l else keptC f (i + 1) l).map cF
  rw [kept_map f l (i + 1)]
  split <;> rfl
theorem disk_now (t : Td) : t.disk.now = fun k => (t.now k).F := fold_disk t.pend t.done
theorem disk_write (t : Td) (k : Nat) (c : Ct) : (t.write k c).disk = t.disk.write k c.F := by
 unfold Td.write Td.disk Disk.write
 simp [cF]
theorem disk_flush (t : Td) : t.flush.disk = t.disk.flush := by
 show (⟨fun k => (t.now k).F, []⟩ : Disk) = ⟨t.disk.now, []⟩
 rw [disk_now]
theorem disk_crash (t : Td) (f : Nat → Bool) : (t.crash f).disk = t.disk.crash f := by
 show (⟨fun k => (((keptC f 0 t.pend).foldl updC t.done) k).F, []⟩ : Disk) = ⟨(keptAt f 0 (t.pend.map cF)).foldl upd (fun k => (t.done k).F), []⟩
 rw [kept_map, fold_disk]
theorem Td.now_write (t : Td) (k : Nat) (c : Ct) : (t.write k c).now = updC t.now (k, c) := by
 simp [Td.now, Td.write, List.foldl_append]
def OkD (m : Nat) (D : Nat → Ct) : Prop := ∀ k, (D k).At k ∧ (D k).num ≤ m
def OkL (m : Nat) (l : List (Nat × Ct)) : Prop := ∀ e ∈ l, e.2.At e.1 ∧ e.2.num ≤ m
theorem OkD.fold {m : Nat} : ∀ {l : List (Nat × Ct)} {D : Nat → Ct}, OkD m D → OkL m l → OkD m (l.foldl updC D)
 | [], D, h, _ => h
 | e :: l, D, h, hl => by
  refine OkD.fold (l := l) (D := updC D e) (fun k => ?_) (fun x hx => hl x (List.mem_cons_of_mem _ hx))
  unfold updC
  split
  ·next hk => rw [hk]; exact hl e (List.mem_cons_self ..)
  ·exact h k
theorem keptC_sub (f : Nat → Bool) : ∀ (l : List (Nat × Ct)) (i : Nat), (keptC f i l).Sublist l
 | [], i => List.Sublist.refl _
 | e :: l, i => by
  unfold keptC
  split
  ·exact (keptC_sub f l (i + 1)).cons_cons e
  ·exact (keptC_sub f l (i + 1)).cons e
def Td.Ok (t : Td) (m : Nat) : Prop := OkD m t.done ∧ OkL m t.pend
theorem Td.Ok.now {t : Td} {m : Nat} (h : t.Ok m) : OkD m t.now := OkD.fold h.1 h.2
theorem Td.Ok.mono {t : Td} {m m' : Nat} (h : t.Ok m) (hm : m ≤ m') : t.Ok m' := ⟨fun k => ⟨(h.1 k).1, Nat.le_trans (h.1 k).2 hm⟩, fun e he => ⟨(h.2 e he).1, Nat.le_trans (h.2 e he).2 hm⟩⟩
theorem Td.Ok.write {t : Td} {m k : Nat} {c : Ct} (h : t.Ok m) (hc : c.At k) (hn : c.num ≤ m) : (t.write k c).Ok m := ⟨h.1, fun e he => by
 unfold Td.write at he
 rw [List.mem_append, List.mem_singleton] at he
 rcases he with he | rfl
 ·exact h.2 e he
 ·exact ⟨hc, hn⟩⟩
theorem Td.Ok.flush {t : Td} {m : Nat} (h : t.Ok m) : t.flush.Ok m := ⟨h.now, fun e he => by cases he⟩
theorem Td.Ok.crash {t : Td} {m : Nat} (h : t.Ok m) (f : Nat → Bool) : (t.crash f).Ok m := ⟨OkD.fold h.1 (fun e he => h.2 e ((keptC_sub f t.pend 0).subset he)), fun e he => by cases he⟩
theorem Td.Ok.blank (m : Nat) : Td.blank.Ok m := ⟨fun _ => ⟨trivial, Nat.zero_le _⟩, fun e he => by cases he⟩
def DistD (D : Nat → Ct) : Prop := ∀ j k, j ≠ k → (D j).num ≠ 0 → (D j).num ≠ (D k).num
def Over (D : Nat → Ct) (l : List (Nat × Ct)) : Prop := ∀ e ∈ l, e.2.num ≠ 0 → ∀ k, (D k).num < e.2.num
def Rise (l : List (Nat × Ct)) : Prop := l.Pairwise (fun a b => b.2.num ≠ 0 → a.2.num < b.2.num)
theorem DistD.fold : ∀ {l : List (Nat × Ct)} {D : Nat → Ct}, DistD D → Over D l → Rise l → DistD (l.foldl updC D)
 | [], D, h, _, _ => h
 | e :: l, D, h, ho, hr => by
  obtain ⟨h1, h2⟩ := List.pairwise_cons.1 hr
  refine DistD.fold (l := l) (D := updC D e) (fun j k hjk hj => ?_) (fun x hx hn k => ?_) h2
  ·unfold updC at hj ⊢
   by_cases ej : j = e.1
   ·rw [if_pos ej] at hj ⊢
    rw [if_neg (fun ek => hjk (ej.trans ek.symm))]
    exact fun eq => by
     have := ho e (List.mem_cons_self ..) hj k
     omega
   ·rw [if_neg ej] at hj ⊢
    by_cases ek : k = e.1
    ·rw [if_pos ek]
     intro eq
     by_cases hz : e.2.num = 0
     ·omega
     ·have := ho e (List.mem_cons_self ..) hz j
      omega
    ·rw [if_neg ek]
     exact h j k hjk hj
  ·unfold updC
   split
   ·exact h1 x hx hn
   ·exact ho x (List.mem_cons_of_mem _ hx) hn k
structure Td.Dist (t : Td) : Prop where
 done : DistD t.done
 over : Over t.done t.pend
 rise : Rise t.pend
theorem Td.Dist.now {t : Td} (h : t.Dist) : DistD t.now := DistD.fold h.done h.over h.rise
theorem Td.Dist.flush {t : Td} (h : t.Dist) : t.flush.Dist := ⟨h.now, (fun e he => by cases he), List.Pairwise.nil⟩
theorem Td.Dist.crash {t : Td} (h : t.Dist) (f : Nat → Bool) : (t.crash f).Dist :=
 ⟨DistD.fold h.done (fun e he => h.over e ((keptC_sub f t.pend 0).subset he)) (List.Pairwise.sublist (keptC_sub f t.pend 0) h.rise), (fun e he => by cases he), List.Pairwise.nil⟩
theorem Td.Dist.blank : Td.blank.Dist := ⟨fun _ _ _ h => absurd rfl h, (fun e he => by cases he), List.Pairwise.nil⟩
theorem Td.Dist.write {t : Td} (h : t.Dist) {m k : Nat} {c : Ct} (ho : t.Ok m) (hc : c.num = 0 ∨ m < c.num) : (t.write k c).Dist := by
 refine ⟨h.done, fun e he hn j => ?_, ?_⟩
 ·unfold Td.write at he
  rw [List.mem_append, List.mem_singleton] at he
  rcases he with he | rfl
  ·exact h.over e he hn j
  ·have h1 := (ho.1 j).2
   have h2 : c.num ≠ 0 := hn
   show (t.done j).num < c.num
   omega
 ·refine List.pairwise_append.2 ⟨h.rise, List.pairwise_singleton _ _, fun a ha b hb hn => ?_⟩
  rw [List.mem_singleton] at hb
  subst hb
  have h1 := (ho.2 a ha).2
  have h2 : c.num ≠ 0 := hn
  show a.2.num < c.num
  omega
def colR (R : Nat → Option Nt) : Nat → List Nt
 | 0 => []
 | k + 1 => colR R k ++ (R k).toList
theorem colR_mem {R : Nat → Option Nt} : ∀ {m : Nat} {e : Nt}, e ∈ colR R m ↔ ∃ k, k < m ∧ R k = some e
 | 0, e => ⟨fun h => (by cases h), fun ⟨k, h, _⟩ => absurd h (by omega)⟩
 | m + 1, e => by
  unfold colR
  rw [List.mem_append, colR_mem]
  constructor
  ·rintro (⟨k, hk, h⟩ | h)
   ·exact ⟨k, by omega, h⟩
   ·exact ⟨m, by omega, by simpa using h⟩
  ·rintro ⟨k, hk, h⟩
   by_cases e1 : k = m
   ·subst e1; exact Or.inr (by simp [h])
   ·exact Or.inl ⟨k, by omega, h⟩
def liveT (R : Nat → Option Nt) : List Nt := (colR R 16).mergeSort (fun a b => decide (a.1 ≤ b.1))
def DistR (R : Nat → Option Nt) : Prop := ∀ j k, j < 16 → k < 16 → j ≠ k → ∀ n x y, R j = some (n, x) → R k ≠ some (n, y)
theorem colR_nodup {R : Nat → Option Nt} (h : DistR R) : ∀ m, m ≤ 16 → (colR R m).Pairwise (fun a b => a.1 ≠ b.1)
 | 0, _ => List.Pairwise.nil
 | m + 1, hm => by
  unfold colR
  refine List.pairwise_append.2 ⟨colR_nodup h m (by omega), ?_, fun a ha b hb e => ?_⟩
  ·cases R m with
   | none => exact List.Pairwise.nil
   | some x => exact List.pairwise_singleton _ _
  ·obtain ⟨k, hk, ek⟩ := colR_mem.1 ha
   have hb' : R m = some b := by simpa using hb
   exact h k m (by omega) (by omega) (by omega) a.1 a.2 b.2 ek (by rw [hb', e])
theorem liveT_perm (R : Nat → Option Nt) : (liveT R).Perm (colR R 16) := List.mergeSort_perm _ _
theorem liveT_rise {R : Nat → Option Nt} (h : DistR R) : (liveT R).Pairwise (fun a b => a.1 < b.1) := by
 have h1 : (liveT R).Pairwise (fun a b => decide (a.1 ≤ b.1) = true) := List.pairwise_mergeSort (fun a b c hab hbc => by simp at *; omega) (fun a b => by simp; omega) _
 have h2 : (liveT R).Pairwise (fun a b => a.1 ≠ b.1) := (List.Perm.pairwise_iff (fun hab e => hab e.symm) (liveT_perm R)).2 (colR_nodup h 16 (Nat.le_refl _))
 exact (h1.and h2).imp (fun ⟨a, b⟩ => by simp at a; omega)
theorem liveT_len (R : Nat → Option Nt) : (liveT R).length = (colR R 16).length := (liveT_perm R).length_eq
theorem colR_len (R : Nat → Option Nt) : ∀ m, (colR R m).length ≤ m
 | 0 => Nat.le_refl _
 | m + 1 => by
  have := colR_len R m
  unfold colR
  rw [List.length_append]
  cases R m <;> simp <;> omega
theorem lv_colR {X : Nat → Sx} {R : Nat → Option Nt} (hs : ∀ k, k < 16 → SaysR (X k) (R k)) (h1 : ∀ k n x, k < 16 → R k = some (n, x) → 1 ≤ n) : ∀ m, m ≤ 16 → (lv X m).map ntOf = colR R m
 | 0, _ => rfl
 | m + 1, hm => by
  obtain ⟨a, b⟩ := hs m (by omega)
  unfold lv colR
  rw [List.map_append, lv_colR hs h1 m (by omega)]
  cases hr : R m with
  | none =>
   rw [hr] at a
   have a' : (X m).no = 0 := a
   rw [if_pos a']
   rfl
  | some e =>
   obtain ⟨n, x⟩ := e
   rw [hr] at a
   have a' : (X m).no = n := a
   have := h1 m n x (by omega) hr
   rw [if_neg (by omega)]
   have : ntOf (X m) = (n, x) := by unfold ntOf; rw [a', b n x hr]
   simp [this]
def freeTo (R : Nat → Option Nt) : Nat → Nat
 | 0 => 0
 | n + 1 => if freeTo R n < n then freeTo R n else if (R n).isNone then n else n + 1
theorem freeTo_spec (R : Nat → Option Nt) : ∀ n, freeTo R n ≤ n ∧ (∀ j, j < freeTo R n → R j ≠ none) ∧ (freeTo R n < n → R (freeTo R n) = none)
 | 0 => ⟨Nat.le_refl _, fun j hj => absurd hj (by unfold freeTo; omega), fun h => absurd h (by unfold freeTo; omega)⟩
 | n + 1 => by
  obtain ⟨a, b, c⟩ := freeTo_spec R n
  unfold freeTo
  by_cases h : freeTo R n < n
  ·rw [if_pos h]
   exact ⟨by omega, b, fun _ => c h⟩
  ·rw [if_neg h]
   have e : freeTo R n = n := by omega
   rw [e] at b
   cases hr : R n with
   | none =>
    rw [if_pos (by rfl)]
    exact ⟨by omega, b, fun _ => hr⟩
   | some x =>
    rw [if_neg (by simp)]
    refine ⟨Nat.le_refl _, fun j hj hn => ?_, fun h => absurd h (by omega)⟩
    by_cases ej : j = n
    ·subst ej; rw [hr] at hn; cases hn
    ·exact b j (by omega) hn
def sameB (x y : It) : Bool := decide (x.s = y.s) && decide (x.g = y.g) && (List.range 128).all (fun j => decide (x.D j = y.D j))
theorem sameB_iff (x y : It) : sameB x y = true ↔ x.Alike y := by
 unfold sameB It.Alike
 simp [and_assoc]
def hasR (R : Nat → Option Nt) (y : It) : Bool := (List.range 16).any (fun k => match R k with | some (_, x) => sameB x y | none => false)
theorem hasR_iff (R : Nat → Option Nt) (y : It) : hasR R y = true ↔ ∃ k n x, k < 16 ∧ R k = some (n, x) ∧ x.Alike y := by
 unfold hasR
 rw [List.any_eq_true]
 constructor
 ·rintro ⟨k, hk, h⟩
  rw [List.mem_range] at hk
  cases hr : R k with
  | none => rw [hr] at h; cases h
  | some e =>
   obtain ⟨n, x⟩ := e
   rw [hr] at h
   exact ⟨k, n, x, hk, hr, (sameB_iff x y).1 h⟩
 ·rintro ⟨k, n, x, hk, hr, h⟩
  refine ⟨k, List.mem_range.2 hk, ?_⟩
  rw [hr]
  exact (sameB_iff x y).2 h
def updR (R : Nat → Option Nt) (k : Nat) (o : Option Nt) : Nat → Option Nt := fun j => if j = k then o else R j
def relO (s g : Int) : Option Nt → Option Nt
 | some (n, x) => if (x.s : Int) = s ∧ (x.g : Int) = g then none else some (n, x)
 | none => none
structure Ns where
 t : Td
 R : Nat → Option Nt
 last : Nat
 boot : Nat
 nw : Nat
structure Rq where
 k : Int
 s : Int
 g : Int
 i : Int
 n : Nat
 D : Nat → Nat
structure Rp where
 code : Nat
 ps : List Pc
 its : List It
def Rq.pc (q : Rq) : Pc := ⟨q.s.toNat, q.g.toNat, q.i.toNat, q.D⟩
def Rq.it (q : Rq) : It := ⟨q.s.toNat, q.g.toNat, q.D⟩
def Rq.okP (q : Rq) : Bool := decide (0 ≤ q.s ∧ q.s < 40 ∧ 1 ≤ q.g ∧ q.g ≤ 1099511627776 ∧ 0 ≤ q.i ∧ q.i < 6 ∧ q.n = 32)
def Rq.okI (q : Rq) : Bool := decide (0 ≤ q.s ∧ q.s < 40 ∧ 1 ≤ q.g ∧ q.g ≤ 1099511627776 ∧ q.n = 128)
theorem Rq.okP_iff (q : Rq) : q.okP = true ↔ OkI q.s q.g q.i q.n := by unfold Rq.okP OkI; simp
theorem Rq.okI_iff (q : Rq) : q.okI = true ↔ OkJ q.s q.g q.n := by unfold Rq.okI OkJ; simp
def Ns.pcs (a : Ns) (s : Nat) : List Pc := two (a.t.now (2 * s)).pc? (a.t.now (2 * s + 1)).pc?
def Ns.log (a : Ns) (x : It) : Ns × Rp :=
 if hasR a.R x then (a, ⟨0, [], []⟩)
 else if freeTo a.R 16 = 16 then (a, ⟨6, [], []⟩)
 else (⟨a.t.write (80 + freeTo a.R 16) (.it (a.last + 1) x), updR a.R (freeTo a.R 16) (some (a.last + 1, x)), a.last + 1, a.boot, a.nw + 1⟩, ⟨0, [], []⟩)
def Ns.act (a : Ns) (q : Rq) : Ns × Rp :=
 if q.k = 1 then (a, if 0 ≤ q.s ∧ q.s < 40 then ⟨0, a.pcs q.s.toNat, []⟩ else ⟨1, [], []⟩)
 else if q.k = 2 then (if q.okP then (⟨a.t.write (atP q.pc) (.pc q.pc), a.R, a.last, a.boot, a.nw + 1⟩, ⟨0, [], []⟩) else (a, ⟨1, [], []⟩))
 else if q.k = 3 then (if q.okI then a.log q.it else (a, ⟨1, [], []⟩))
 else if q.k = 4 then (⟨a.t.flush, a.R, a.last, a.boot, a.nw⟩, ⟨0, [], []⟩)
 else if q.k = 5 then (a, ⟨0, [], (liveT a.R).map (·.2)⟩)
 else if q.k = 6 then (⟨a.t, fun k => relO q.s q.g (a.R k), a.last, a.boot, a.nw⟩, ⟨0, [], []⟩)
 else (a, ⟨1, [], []⟩)
def ringOf (t : Td) (k : Nat) : Option Nt := (t.now (80 + k)).it?
def Ns.start (t : Td) (boot nw : Nat) : Ns := ⟨t, ringOf t, lastOf (ringOf t) 16, boot + 1, nw⟩
def Ns.new : Ns := Ns.start Td.blank 0 0
def Ns.crash (a : Ns) (keep : List Int) : Ns := Ns.start (a.t.crash (keepF keep)) a.boot a.nw
structure Ns.Ok (a : Ns) : Prop where
 td : a.t.Ok a.last
 dist : a.t.Dist
 rs : ∀ k n x, k < 16 → a.R k = some (n, x) → 1 ≤ n ∧ n ≤ a.last ∧ x.Ok
 rd : DistR a.R
theorem lastOf_ge (R : Nat → Option Nt) : ∀ m k, k < m → numOf (R k) ≤ lastOf R m
 | 0, k, h => absurd h (by omega)
 | m + 1, k, h => by
  show _ ≤ max (lastOf R m) (numOf (R m))
  by_cases e : k = m
  ·subst e; omega
  ·have := lastOf_ge R m k (by omega)
   omega
theorem lastOf_le (R : Nat → Option Nt) (b : Nat) : ∀ m, (∀ k, k < m → numOf (R k) ≤ b) → lastOf R m ≤ b
 | 0, _ => Nat.zero_le _
 | m + 1, h => by
  show max (lastOf R m) (numOf (R m)) ≤ b
  have := lastOf_le R b m (fun k hk => h k (by omega))
  have := h m (by omega)
  omega
theorem numOf_it (c : Ct) : numOf c.it? = c.num := by cases c <;> rfl
theorem it?_some {c : Ct} {n : Nat} {x : It} (h : c.it? = some (n, x)) : c = .it n x := by
 cases c with
 | no => cases h
 | pc p => cases h
 | it m y => cases h; rfl
theorem pc?_some {c : Ct} {p : Pc} (h : c.pc? = some p) : c = .pc p := by
 cases c with
 | no => cases h
 | pc q => cases h; rfl
 | it m y => cases h
theorem Ns.start_ok {t : Td} {m : Nat} (h : t.Ok m) (hd : t.Dist) (hp : t.pend = []) (boot nw : Nat) : (Ns.start t boot nw).Ok ∧ (Ns.start t boot nw).last ≤ m := by
 have hnow : t.now = t.done := by unfold Td.now; rw [hp]; rfl
 have hin : ∀ k, (t.done k).num ≤ lastOf (ringOf t) 16 := by
  intro k
  by_cases hz : (t.done k).num = 0
  ·omega
  ·cases hc : t.done k with
   | no => rw [hc] at hz; exact absurd rfl hz
   | pc p => rw [hc] at hz; exact absurd rfl hz
   | it n x =>
    have ha := (h.1 k).1
    rw [hc] at ha
    have h80 := ha.2.2
    have e2 : ringOf t (k - 80) = some (n, x) := by
     show (t.now (80 + (k - 80))).it? = _
     rw [show 80 + (k - 80) = k by omega, hnow, hc]
     rfl
    have h3 := lastOf_ge (ringOf t) 16 (k - 80) (by omega)
    rw [e2] at h3
    exact h3
 refine ⟨⟨⟨fun k => ⟨(h.1 k).1, hin k⟩, fun e he => ?_⟩, hd, fun k n x hk e => ?_, fun j k hj hk hjk n x y e1 e2 => ?_⟩, lastOf_le _ _ _ (fun k _ => ?_)⟩
 ·have he' : e ∈ t.pend := he
  rw [hp] at he'
  cases he'
 ·have e' := it?_some e
  have ha := (h.now (80 + k)).1
  rw [e'] at ha
  refine ⟨ha.2.1, ?_, ha.1⟩
  have h3 := lastOf_ge (ringOf t) 16 k hk
  have e2 : ringOf t k = some (n, x) := e
  rw [e2] at h3
  exact h3
 ·have a1 := it?_some e1
  have a2 := it?_some e2
  have := hd.now (80 + j) (80 + k) (by omega)
  rw [a1, a2] at this
  have h0 := (h.now (80 + j)).1
  rw [a1] at h0
  exact this (by show n ≠ 0; have := h0.2.1; omega) rfl
 ·have e : numOf (ringOf t k) = (t.now (80 + k)).num := numOf_it _
  rw [e]
  exact (h.now (80 + k)).2
theorem Ns.new_ok : Ns.new.Ok ∧ Ns.new.last ≤ 0 := Ns.start_ok (Td.Ok.blank 0) Td.Dist.blank rfl 0 0
theorem Ns.Ok.crash {a : Ns} (h : a.Ok) (keep : List Int) : (a.crash keep).Ok ∧ (a.crash keep).last ≤ a.last := Ns.start_ok (h.td.crash _) (h.dist.crash _) rfl _ _
theorem Rq.pc_ok {q : Rq} (h : OkI q.s q.g q.i q.n) (hD : ∀ j, j < q.n → q.D j < 256) : q.pc.Ok := by
 obtain ⟨h1, h2, h3, h4, h5, h6, h7⟩ := h
 unfold Rq.pc Pc.Ok
 dsimp only
 exact ⟨by omega, by omega, by omega, by omega, fun j hj => hD j (by omega)⟩
theorem Rq.it_ok {q : Rq} (h : OkJ q.s q.g q.n) (hD : ∀ j, j < q.n → q.D j < 256) : q.it.Ok := by
 obtain ⟨h1, h2, h3, h4, h7⟩ := h
 unfold Rq.it It.Ok
 dsimp only
 exact ⟨by omega, by omega, by omega, fun j hj => hD j (by omega)⟩
theorem DistR.rel {R : Nat → Option Nt} (h : DistR R) (s g : Int) : DistR (fun k => relO s g (R k)) := by
 intro j k hj hk hjk n x y e1 e2
 have sub : ∀ o : Option Nt, ∀ e, relO s g o = some e → o = some e := by
  intro o e he
  cases o with
  | none => cases he
  | some p =>
   obtain ⟨m, z⟩ := p
   unfold relO at he
   dsimp only at he
   split at he
   ·cases he
   ·exact he
 exact h j k hj hk hjk n x y (sub _ _ e1) (sub _ _ e2)
theorem Ns.Ok.log {a : Ns} (h : a.Ok) {x : It} (hx : x.Ok) : (a.log x).1.Ok ∧ (a.log x).1.last ≤ a.last + 1 ∧ (a.log x).1.nw ≤ a.nw + 1 := by
 unfold Ns.log
 split
 ·exact ⟨h, by dsimp only; omega, by dsimp only; omega⟩
 ·split
  ·exact ⟨h, by dsimp only; omega, by dsimp only; omega⟩
  ·next hf =>
   obtain ⟨f1, f2, f3⟩ := freeTo_spec a.R 16
   obtain ⟨k, hk⟩ : ∃ k, freeTo a.R 16 = k := ⟨_, rfl⟩
   rw [hk] at hf f1 f3 ⊢
   have hk16 : k < 16 := by omega
   have ht := h.td.mono (Nat.le_succ a.last)
   refine ⟨⟨ht.write (c := .it (a.last + 1) x) ⟨hx, by omega, by omega, by omega⟩ (Nat.le_refl _), h.dist.write h.td (Or.inr (Nat.lt_succ_self _)), fun j n y hj e => ?_, fun i j hi hj hij n y z e1 e2 => ?_⟩, Nat.le_refl _, Nat.le_refl _⟩
   ·have e' : updR a.R k (some (a.last + 1, x)) j = some (n, y) := e
    unfold updR at e'
    split at e'
    ·cases e'
     exact ⟨by omega, Nat.le_refl _, hx⟩
    ·obtain ⟨b1, b2, b3⟩ := h.rs j n y hj e'
     exact ⟨b1, Nat.le_succ_of_le b2, b3⟩
   ·have e1' : updR a.R k (some (a.last + 1, x)) i = some (n, y) := e1
    have e2' : updR a.R k (some (a.last + 1, x)) j = some (n, z) := e2
    unfold updR at e1' e2'
    split at e1'
    ·split at e2'
     ·omega
     ·cases e1'
      have := (h.rs j _ z hj e2').2.1
      omega
    ·split at e2'
     ·cases e2'
      have := (h.rs i _ y hi e1').2.1
      omega
     ·exact h.rd i j hi hj hij n y z e1' e2'
theorem Ns.Ok.act {a : Ns} (h : a.Ok) {q : Rq} (hD : ∀ j, j < q.n → q.D j < 256) : (a.act q).1.Ok ∧ (a.act q).1.last ≤ a.last + 1 ∧ (a.act q).1.nw ≤ a.nw + 1 := by
 unfold Ns.act
 split
 ·exact ⟨h, by dsimp only; omega, by dsimp only; omega⟩
 ·split
  ·split
   ·next hq =>
    have hp := Rq.pc_ok (q.okP_iff.1 hq) hD
    exact ⟨⟨h.td.write (c := .pc q.pc) ⟨hp, rfl⟩ (Nat.zero_le _), h.dist.write h.td (Or.inl rfl), h.rs, h.rd⟩, Nat.le_succ _, Nat.le_refl _⟩
   ·exact ⟨h, by dsimp only; omega, by dsimp only; omega⟩
  ·split
   ·split
    ·next hq => exact h.log (Rq.it_ok (q.okI_iff.1 hq) hD)
    ·exact ⟨h, by dsimp only; omega, by dsimp only; omega⟩
   ·split
    ·exact ⟨⟨h.td.flush, h.dist.flush, h.rs, h.rd⟩, Nat.le_succ _, Nat.le_succ _⟩
    ·split
     ·exact ⟨h, by dsimp only; omega, by dsimp only; omega⟩
     ·split
      ·refine ⟨⟨h.td, h.dist, fun k n x hk e => ?_, h.rd.rel _ _⟩, Nat.le_succ _, Nat.le_succ _⟩
       have e' : relO q.s q.g (a.R k) = some (n, x) := e
       cases hr : a.R k with
       | none => rw [hr] at e'; cases e'
       | some p =>
        obtain ⟨m, y⟩ := p
        rw [hr] at e'
        unfold relO at e'
        dsimp only at e'
        split at e'
        ·cases e'
        ·cases e'; exact h.rs k n x hk hr
      ·exact ⟨h, by dsimp only; omega, by dsimp only; omega⟩
theorem Ct.F_lt {k : Nat} {c : Ct} (h : c.At k) (j : Nat) : c.F j < 256 := by
 cases c with
 | no => show 0 < 256; omega
 | pc p => exact pcS_lt h.1 j
 | it n x => exact itS_lt h.1 j
theorem Td.Ok.bd {t : Td} {m : Nat} (h : t.Ok m) : Bd t.disk := fun k j _ => by
 rw [disk_now]
 exact Ct.F_lt (h.now k).1 j
theorem Td.Ok.cd {t : Td} {m : Nat} (h : t.Ok m) : CD t.disk (fun k => (t.now k).pc?) := ⟨h.bd, fun k hk => by
 have e : t.disk.now k = (t.now k).F := by rw [disk_now]
 rw [e]
 have ha := (h.now k).1
 cases hc : t.now k with
 | no => exact Slot.blank
 | pc p =>
  rw [hc] at ha
  obtain ⟨h1, h2⟩ := ha
  have := Slot.of_pc h1
  unfold atP at h2
  rw [show k / 2 = p.s by omega, show k % 2 = p.g % 2 by omega]
  exact this
 | it n x =>
  rw [hc] at ha
  have := ha.2.2
  omega⟩
theorem Td.Ok.ringOn {t : Td} {m : Nat} (h : t.Ok m) (hm : m ≤ 1000000000) : RingOn t.disk (ringOf t) := fun k hk => by
 have e : t.disk.now (80 + k) = (t.now (80 + k)).F := by rw [disk_now]
 rw [e]
 obtain ⟨ha, hn⟩ := h.now (80 + k)
 unfold ringOf
 cases hc : t.now (80 + k) with
 | no => exact Or.inl ⟨rfl, fun j _ => rfl⟩
 | pc p =>
  rw [hc] at ha
  obtain ⟨h1, h2⟩ := ha
  have := h1.1
  unfold atP at h2
  omega
 | it n x =>
  rw [hc] at ha hn
  have hn' : n ≤ m := hn
  exact Or.inr ⟨n, x, rfl, ha.1, ha.2.1, by omega, fun j _ => rfl⟩
end Go.Proofs.YtelmcchleclklaaGreat
