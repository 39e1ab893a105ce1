import Derived.Test.YtobkmohoepgfmaaGreatDoorV16
import Derived.Test.YtobkmohoepgfmaaGreatDoorV12
import Derived.Test.YtobkmohoepgfmaaGreatDoorV17
namespace Go.Proofs.YtobkmohoepgfmaaGreatDoor
open Go.RowKit Go.Sort
set_option maxRecDepth 100000
set_option maxHeartbeats 1000000

inductive Ct where
 | no : Ct
 | pc : Pc → Ct
 | it : Nat → It → Ct
def Ct.F : Ct → Blk
 | .no => fun _ => 0
 | .pc p => pcS p
 | .it n x => itS n x
def Ct.num : Ct → Nat
 | .it n _ => n
 | _ => 0
def Ct.pc? : Ct → Option Pc
 | .pc p => some p
 | _ => none
def Ct.it? : Ct → Option Nt
 | .it n x => some (n, x)
 | _ => none
def Ct.At (k : Nat) : Ct → Prop
 | .no => True
 | .pc p => p.Ok ∧ atP p = k
 | .it n x => x.Ok ∧ 1 ≤ n ∧ 80 ≤ k ∧ k < 96
structure Td where
 done : Nat → Ct
 pend : List (Nat × Ct)
def updC (D : Nat → Ct) (x : Nat × Ct) : Nat → Ct := fun k => if k = x.1 then x.2 else D k
def keptC (f : Nat → Bool) : Nat → List (Nat × Ct) → List (Nat × Ct)
 | _, [] => []
 | i, x :: l => if f i then x :: keptC f (i + 1) l else keptC f (i + 1) l
def Td.now (t : Td) : Nat → Ct := t.pend.foldl updC t.done
def Td.write (t : Td) (k : Nat) (c : Ct) : Td := ⟨t.done, t.pend ++ [(k, c)]⟩
def Td.flush (t : Td) : Td := ⟨t.now, []⟩
def Td.crash (t : Td) (f : Nat → Bool) : Td := ⟨(keptC f 0 t.pend).foldl updC t.done, []⟩
def Td.blank : Td := ⟨fun _ => .no, []⟩
def cF (e : Nat × Ct) : Nat × Blk := (e.1, e.2.F)
def Td.disk (t : Td) : Disk := ⟨fun k => (t.done k).F, t.pend.map cF⟩
theorem fold_disk : ∀ (l : List (Nat × Ct)) (D : Nat → Ct), (l.map cF).foldl upd (fun k => (D k).F) = fun k => ((l.foldl updC D) k).F
 | [], D => rfl
 | e :: l, D => by
  show (l.map cF).foldl upd (upd (fun k => (D k).F) (cF e)) = _
  have h : upd (fun k => (D k).F) (cF e) = fun k => (updC D e k).F := by
   funext k
   unfold upd updC cF
   dsimp only
   split <;> rfl
  rw [h, fold_disk l (updC D e)]
  rfl
theorem kept_map (f : Nat → Bool) : ∀ (l : List (Nat × Ct)) (i : Nat), keptAt f i (l.map cF) = (keptC f i l).map cF
 | [], i => rfl
 | e :: l, i => by
  show (if f i then cF e :: keptAt f (i + 1) (l.map cF) else keptAt f (i + 1) (l.map cF)) = (if f i then e :: keptC f (i + 1) l else keptC f (i + 1) l).map cF
  rw [kept_map f l (i + 1)]
  split <;> rfl
theorem disk_now (t : Td) : t.disk.now = fun k => (t.now k).F := fold_disk t.pend t.done
theorem disk_write (t : Td) (k : Nat) (c : Ct) : (t.write k c).disk = t.disk.write k c.F := by
 unfold Td.write Td.disk Disk.write
 simp [cF]
theorem disk_flush (t : Td) : t.flush.disk = t.disk.flush := by
 show (⟨fun k => (t.now k).F, []⟩ : Disk) = ⟨t.disk.now, []⟩
 rw [disk_now]
theorem disk_crash (t : Td) (f : Nat → Bool) : (t.crash f).disk = t.disk.crash f := by
 show (⟨fun k => (((keptC f 0 t.pend).foldl updC t.done) k).F, []⟩ : Disk) = ⟨(keptAt f 0 (t.pend.map cF)).foldl upd (fun k => (t.done k).F), []⟩
 rw [kept_map, fold_disk]
def OkD (m : Nat) (D : Nat → Ct) : Prop := ∀ k, (D k).At k ∧ (D k).num ≤ m
def OkL (m : Nat) (l : List (Nat × Ct)) : Prop := ∀ e ∈ l, e.2.At e.1 ∧ e.2.num ≤ m
theorem OkD.fold {m : Nat} : ∀ {l : List (Nat × Ct)} {D : Nat → Ct}, OkD m D → OkL m l → OkD m (l.foldl updC D)
 | [], D, h, _ => h
 | e :: l, D, h, hl => by
  refine OkD.fold (l := l) (D := updC D e) (fun k => ?_) (fun x hx => hl x (List.mem_cons_of_mem _ hx))
  unfold updC
  split
  ·next hk => rw [hk]; exact hl e (List.mem_cons_self ..)
  ·exact h k
theorem keptC_sub (f : Nat → Bool) : ∀ (l : List (Nat × Ct)) (i : Nat), (keptC f i l).Sublist l
 | [], i => List.Sublist.refl _
 | e :: l, i => by
  unfold keptC
  split
  ·exact (keptC_sub f l (i + 1)).cons_cons e
  ·exact (keptC_sub f l (i + 1)).cons e
def Td.Ok (t : Td) (m : Nat) : Prop := OkD m t.done ∧ OkL m t.pend
theorem Td.Ok.now {t : Td} {m : Nat} (h : t.Ok m) : OkD m t.now := OkD.fold h.1 h.2
theorem Td.Ok.mono {t : Td} {m m' : Nat} (h : t.Ok m) (hm : m ≤ m') : t.Ok m' := ⟨fun k => ⟨(h.1 k).1, Nat.le_trans (h.1 k).2 hm⟩, fun e he => ⟨(h.2 e he).1, Nat.le_trans (h.2 e he).2 hm⟩⟩
theorem Td.Ok.write {t : Td} {m k : Nat} {c : Ct} (h : t.Ok m) (hc : c.At k) (hn : c.num ≤ m) : (t.write k c).Ok m := ⟨h.1, fun e he => by
 unfold Td.write at he
 rw [List.mem_append, List.mem_singleton] at he
 rcases he with he | rfl
 ·exact h.2 e he
 ·exact ⟨hc, hn⟩⟩
theorem Td.Ok.flush {t : Td} {m : Nat} (h : t.Ok m) : t.flush.Ok m := ⟨h.now, fun e he => by cases he⟩
theorem Td.Ok.crash {t : Td} {m : Nat} (h : t.Ok m) (f : Nat → Bool) : (t.crash f).Ok m := ⟨OkD.fold h.1 (fun e he => h.2 e ((keptC_sub f t.pend 0).subset he)), fun e he => by cases he⟩
theorem Td.Ok.blank (m : Nat) : Td.blank.Ok m := ⟨fun _ => ⟨trivial, Nat.zero_le _⟩, fun e he => by cases he⟩
def DistD (D : Nat → Ct) : Prop := ∀ j k, j ≠ k → (D j).num ≠ 0 → (D j).num ≠ (D k).num
def Over (D : Nat → Ct) (l : List (Nat × Ct)) : Prop := ∀ e ∈ l, e.2.num ≠ 0 → ∀ k, (D k).num < e.2.num
def Rise (l : List (Nat × Ct)) : Prop := l.Pairwise (fun a b => b.2.num ≠ 0 → a.2.num < b.2.num)
theorem DistD.fold : ∀ {l : List (Nat × Ct)} {D : Nat → Ct}, DistD D → Over D l → Rise l → DistD (l.foldl updC D)
 | [], D, h, _, _ => h
 | e :: l, D, h, ho, hr => by
  obtain ⟨h1, h2⟩ := List.pairwise_cons.1 hr
  refine DistD.fold (l := l) (D := updC D e) (fun j k hjk hj => ?_) (fun x hx hn k => ?_) h2
  ·unfold updC at hj ⊢
   by_cases ej : j = e.1
   ·rw [if_pos ej] at hj ⊢
    rw [if_neg (fun ek => hjk (ej.trans ek.symm))]
    exact fun eq => by
     have := ho e (List.mem_cons_self ..) hj k
     omega
   ·rw [if_neg ej] at hj ⊢
    by_cases ek : k = e.1
    ·rw [if_pos ek]
     intro eq
     by_cases hz : e.2.num = 0
     ·omega
     ·have := ho e (List.mem_cons_self ..) hz j
      omega
    ·rw [if_neg ek]
     exact h j k hjk hj
  ·unfold updC
   split
   ·exact h1 x hx hn
   ·exact ho x (List.mem_cons_of_mem _ hx) hn k
structure Td.Dist (t : Td) : Prop where
 done : DistD t.done
 over : Over t.done t.pend
 rise : Rise t.pend
theorem Td.Dist.now {t : Td} (h : t.Dist) : DistD t.now := DistD.fold h.done h.over h.rise
theorem Td.Dist.flush {t : Td} (h : t.Dist) : t.flush.Dist := ⟨h.now, (fun e he => by cases he), List.Pairwise.nil⟩
theorem Td.Dist.crash {t : Td} (h : t.Dist) (f : Nat → Bool) : (t.crash f).Dist :=
 ⟨DistD.fold h.done (fun e he => h.over e ((keptC_sub f t.pend 0).subset he)) (List.Pairwise.sublist (keptC_sub f t.pend 0) h.rise), (fun e he => by cases he), List.Pairwise.nil⟩
theorem Td.Dist.blank : Td.blank.Dist := ⟨fun _ _ _ h => absurd rfl h, (fun e he => by cases he), List.Pairwise.nil⟩
theorem Td.Dist.write {t : Td} (h : t.Dist) {m k : Nat} {c : Ct} (ho : t.Ok m) (hc : c.num = 0 ∨ m < c.num) : (t.write k c).Dist := by
 refine ⟨h.done, fun e he hn j => ?_, ?_⟩
 ·unfold Td.write at he
  rw [List.mem_append, List.mem_singleton] at he
  rcases he with he | rfl
  ·exact h.over e he hn j
  ·have h1 := (ho.1 j).2
   have h2 : c.num ≠ 0 := hn
   show (t.done j).num < c.num
   omega
 ·refine List.pairwise_append.2 ⟨h.rise, List.pairwise_singleton _ _, fun a ha b hb hn => ?_⟩
  rw [List.mem_singleton] at hb
  subst hb
  have h1 := (ho.2 a ha).2
  have h2 : c.num ≠ 0 := hn
  show a.2.num < c.num
  omega
def colR (R : Nat → Option Nt) : Nat → List Nt
 | 0 => []
 | k + 1 => colR R k ++ (R k).toList
theorem colR_mem {R : Nat → Option Nt} : ∀ {m : Nat} {e : Nt}, e ∈ colR R m ↔ ∃ k, k < m ∧ R k = some e
 | 0, e => ⟨fun h => (by cases h), fun ⟨k, h, _⟩ => absurd h (by omega)⟩
 | m + 1, e => by
  unfold colR
  rw [List.mem_append, colR_mem]
  constructor
  ·rintro (⟨k, hk, h⟩ | h)
   ·exact ⟨k, by omega, h⟩
   ·exact ⟨m, by omega, by simpa using h⟩
  ·rintro ⟨k, hk, h⟩
   by_cases e1 : k = m
   ·subst e1; exact Or.inr (by simp [h])
   ·exact Or.inl ⟨k, by omega, h⟩
def liveT (R : Nat → Option Nt) : List Nt := (colR R 16).mergeSort (fun a b => decide (a.1 ≤ b.1))
def DistR (R : Nat → Option Nt) : Prop := ∀ j k, j < 16 → k < 16 → j ≠ k → ∀ n x y, R j = some (n, x) → R k ≠ some (n, y)
theorem colR_nodup {R : Nat → Option Nt} (h : DistR R) : ∀ m, m ≤ 16 → (colR R m).Pairwise (fun a b => a.1 ≠ b.1)
 | 0, _ => List.Pairwise.nil
 | m + 1, hm => by
  unfold colR
  refine List.pairwise_append.2 ⟨colR_nodup h m (by omega), ?_, fun a ha b hb e => ?_⟩
  ·cases R m with
   | none => exact List.Pairwise.nil
   | some x => exact List.pairwise_singleton _ _
  ·obtain ⟨k, hk, ek⟩ := colR_mem.1 ha
   have hb' : R m = some b := by simpa using hb
   exact h k m (by omega) (by omega) (by omega) a.1 a.2 b.2 ek (by rw [hb', e])
theorem liveT_perm (R : Nat → Option Nt) : (liveT R).Perm (colR R 16) := List.mergeSort_perm _ _
theorem liveT_rise {R : Nat → Option Nt} (h : DistR R) : (liveT R).Pairwise (fun a b => a.1 < b.1) := by
 have h1 : (liveT R).Pairwise (fun a b => decide (a.1 ≤ b.1) = true) := List.pairwise_mergeSort (fun a b c hab hbc => by simp at *; omega) (fun a b => by simp; omega) _
 have h2 : (liveT R).Pairwise (fun a b => a.1 ≠ b.1) := (List.Perm.pairwise_iff (fun hab e => hab e.symm) (liveT_perm R)).2 (colR_nodup h 16 (Nat.le_refl _))
 exact (h1.and h2).imp (fun ⟨a, b⟩ => by simp at a; omega)
theorem liveT_len (R : Nat → Option Nt) : (liveT R).length = (colR R 16).length := (liveT_perm R).length_eq
theorem colR_len (R : Nat → Option Nt) : ∀ m, (colR R m).length ≤ m
 | 0 => Nat.le_refl _
 | m + 1 => by
  have := colR_len R m
  unfold colR
  rw [List.length_append]
  cases R m <;> simp <;> omega
theorem lv_colR {X : Nat → Sx} {R : Nat → Option Nt} (hs : ∀ k, k < 16 → SaysR (X k) (R k)) (h1 : ∀ k n x, k < 16 → R k = some (n, x) → 1 ≤ n) : ∀ m, m ≤ 16 → (lv X m).map ntOf = colR R m
 | 0, _ => rfl
 | m + 1, hm => by
  obtain ⟨a, b⟩ := hs m (by omega)
  unfold lv colR
  rw [List.map_append, lv_colR hs h1 m (by omega)]
  cases hr : R m with
  | none =>
   rw [hr] at a
   have a' : (X m).no = 0 := a
   rw [if_pos a']
   rfl
  | some e =>
   obtain ⟨n, x⟩ := e
   rw [hr] at a
   have a' : (X m).no = n := a
   have := h1 m n x (by omega) hr
   rw [if_neg (by omega)]
   have : ntOf (X m) = (n, x) := by unfold ntOf; rw [a', b n x hr]
   simp [this]
def freeTo (R : Nat → Option Nt) : Nat → Nat
 | 0 => 0
 | n + 1 => if freeTo R n < n then freeTo R n else if (R n).isNone then n else n + 1
theorem freeTo_spec (R : Nat → Option Nt) : ∀ n, freeTo R n ≤ n ∧ (∀ j, j < freeTo R n → R j ≠ none) ∧ (freeTo R n < n → R (freeTo R n) = none)
 | 0 => ⟨Nat.le_refl _, fun j hj => absurd hj (by unfold freeTo; omega), fun h => absurd h (by unfold freeTo; omega)⟩
 | n + 1 => by
  obtain ⟨a, b, c⟩ := freeTo_spec R n
  unfold freeTo
  by_cases h : freeTo R n < n
  ·rw [if_pos h]
   exact ⟨by omega, b, fun _ => c h⟩
  ·rw [if_neg h]
   have e : freeTo R n = n := by omega
   rw [e] at b
   cases hr : R n with
   | none =>
    rw [if_pos (by rfl)]
    exact ⟨by omega, b, fun _ => hr⟩
   | some x =>
    rw [if_neg (by simp)]
    refine ⟨Nat.le_refl _, fun j hj hn => ?_, fun h => absurd h (by omega)⟩
    by_cases ej : j = n
    ·subst ej; rw [hr] at hn; cases hn
    ·exact b j (by omega) hn
def sameB (x y : It) : Bool := decide (x.s = y.s) && decide (x.g = y.g) && (List.range 128).all (fun j => decide (x.D j = y.D j))
theorem sameB_iff (x y : It) : sameB x y = true ↔ x.Alike y := by
 unfold sameB It.Alike
 simp [and_assoc]
def hasR (R : Nat → Option Nt) (y : It) : Bool := (List.range 16).any (fun k => match R k with | some (_, x) => sameB x y | none => false)
theorem hasR_iff (R : Nat → Option Nt) (y : It) : hasR R y = true ↔ ∃ k n x, k < 16 ∧ R k = some (n, x) ∧ x.Alike y := by
 unfold hasR
 rw [List.any_eq_true]
 constructor
 ·rintro ⟨k, hk, h⟩
  rw [List.mem_range] at hk
  cases hr : R k with
  | none => rw [hr] at h; cases h
  | some e =>
   obtain ⟨n, x⟩ := e
   rw [hr] at h
   exact ⟨k, n, x, hk, hr, (sameB_iff x y).1 h⟩
 ·rintro ⟨k, n, x, hk, hr, h⟩
  refine ⟨k, List.mem_range.2 hk, ?_⟩
  rw [hr]
  exact (sameB_iff x y).2 h
def updR (R : Nat → Option Nt) (k : Nat) (o : Option Nt) : Nat → Option Nt := fun j => if j = k then o else R j
def relO (s g : Int) : Option Nt → Option Nt
 | some (n, x) => if (x.s : Int) = s ∧ (x.g : Int) = g then none else some (n, x)
 | none => none
structure Ns where
 t : Td
 R : Nat → Option Nt
 last : Nat
 boot : Nat
 nw : Nat
structure Rq where
 k : Int
 s : Int
 g : Int
 i : Int
 n : Nat
 D : Nat → Nat
structure Rp where
 code : Nat
 ps : List Pc
 its : List It
def Rq.pc (q : Rq) : Pc := ⟨q.s.toNat, q.g.toNat, q.i.toNat, q.D⟩
def Rq.it (q : Rq) : It := ⟨q.s.toNat, q.g.toNat, q.D⟩
def Rq.okP (q : Rq) : Bool := decide (0 ≤ q.s ∧ q.s < 40 ∧ 1 ≤ q.g ∧ q.g ≤ 1099511627776 ∧ 0 ≤ q.i ∧ q.i < 6 ∧ q.n = 32)
def Rq.okI (q : Rq) : Bool := decide (0 ≤ q.s ∧ q.s < 40 ∧ 1 ≤ q.g ∧ q.g ≤ 1099511627776 ∧ q.n = 128)
theorem Rq.okP_iff (q : Rq) : q.okP = true ↔ OkI q.s q.g q.i q.n := by unfold Rq.okP OkI; simp
theorem Rq.okI_iff (q : Rq) : q.okI = true ↔ OkJ q.s q.g q.n := by unfold Rq.okI OkJ; simp
def Ns.pcs (a : Ns) (s : Nat) : List Pc := two (a.t.now (2 * s)).pc? (a.t.now (2 * s + 1)).pc?
def Ns.log (a : Ns) (x : It) : Ns × Rp :=
 if hasR a.R x then (a, ⟨0, [], []⟩)
 else if freeTo a.R 16 = 16 then (a, ⟨6, [], []⟩)
 else (⟨a.t.write (80 + freeTo a.R 16) (.it (a.last + 1) x), updR a.R (freeTo a.R 16) (some (a.last + 1, x)), a.last + 1, a.boot, a.nw + 1⟩, ⟨0, [], []⟩)
def Ns.act (a : Ns) (q : Rq) : Ns × Rp :=
 if q.k = 1 then (a, if 0 ≤ q.s ∧ q.s < 40 then ⟨0, a.pcs q.s.toNat, []⟩ else ⟨1, [], []⟩)
 else if q.k = 2 then (if q.okP then (⟨a.t.write (atP q.pc) (.pc q.pc), a.R, a.last, a.boot, a.nw + 1⟩, ⟨0, [], []⟩) else (a, ⟨1, [], []⟩))
 else if q.k = 3 then (if q.okI then a.log q.it else (a, ⟨1, [], []⟩))
 else if q.k = 4 then (⟨a.t.flush, a.R, a.last, a.boot, a.nw⟩, ⟨0, [], []⟩)
 else if q.k = 5 then (a, ⟨0, [], (liveT a.R).map (·.2)⟩)
 else if q.k = 6 then (⟨a.t, fun k => relO q.s q.g (a.R k), a.last, a.boot, a.nw⟩, ⟨0, [], []⟩)
 else (a, ⟨1, [], []⟩)
def ringOf (t : Td) (k : Nat) : Option Nt := (t.now (80 + k)).it?
def Ns.start (t : Td) (boot nw : Nat) : Ns := ⟨t, ringOf t, lastOf (ringOf t) 16, boot + 1, nw⟩
def Ns.new : Ns := Ns.start Td.blank 0 0
def Ns.crash (a : Ns) (keep : List Int) : Ns := Ns.start (a.t.crash (keepF keep)) a.boot a.nw
def Ns.lose (a : Ns) : Ns := Ns.start Td.blank a.boot a.nw
structure Ns.Ok (a : Ns) : Prop where
 td : a.t.Ok a.last
 dist : a.t.Dist
 rs : ∀ k n x, k < 16 → a.R k = some (n, x) → 1 ≤ n ∧ n ≤ a.last ∧ x.Ok
 rd : DistR a.R
theorem lastOf_ge (R : Nat → Option Nt) : ∀ m k, k < m → numOf (R k) ≤ lastOf R m
 | 0, k, h => absurd h (by omega)
 | m + 1, k, h => by
  show _ ≤ max (lastOf R m) (numOf (R m))
  by_cases e : k = m
  ·subst e; omega
  ·have := lastOf_ge R m k (by omega)
   omega
theorem lastOf_le (R : Nat → Option Nt) (b : Nat) : ∀ m, (∀ k, k < m → numOf (R k) ≤ b) → lastOf R m ≤ b
 | 0, _ => Nat.zero_le _
 | m + 1, h => by
  show max (lastOf R m) (numOf (R m)) ≤ b
  have := lastOf_le R b m (fun k hk => h k (by omega))
  have := h m (by omega)
  omega
theorem numOf_it (c : Ct) : numOf c.it? = c.num := by cases c <;> rfl
theorem it?_some {c : Ct} {n : Nat} {x : It} (h : c.it? = some (n, x)) : c = .it n x := by
 cases c with
 | no => cases h
 | pc p => cases h
 | it m y => cases h; rfl
theorem pc?_some {c : Ct} {p : Pc} (h : c.pc? = some p) : c = .pc p := by
 cases c with
 | no => cases h
 | pc q => cases h; rfl
 | it m y => cases h
theorem Ns.start_ok {t : Td} {m : Nat} (h : t.Ok m) (hd : t.Dist) (hp : t.pend = []) (boot nw : Nat) : (Ns.start t boot nw).Ok ∧ (Ns.start t boot nw).last ≤ m := by
 have hnow : t.now = t.done := by unfold Td.now; rw [hp]; rfl
 have hin : ∀ k, (t.done k).num ≤ lastOf (ringOf t) 16 := by
  intro k
  by_cases hz : (t.done k).num = 0
  ·omega
  ·cases hc : t.done k with
   | no => rw [hc] at hz; exact absurd rfl hz
   | pc p => rw [hc] at hz; exact absurd rfl hz
   | it n x =>
    have ha := (h.1 k).1
    rw [hc] at ha
    have h80 := ha.2.2
    have e2 : ringOf t (k - 80) = some (n, x) := by
     show (t.now (80 + (k - 80))).it? = _
     rw [show 80 + (k - 80) = k by omega, hnow, hc]
     rfl
    have h3 := lastOf_ge (ringOf t) 16 (k - 80) (by omega)
    rw [e2] at h3
    exact h3
 refine ⟨⟨⟨fun k => ⟨(h.1 k).1, hin k⟩, fun e he => ?_⟩, hd, fun k n x hk e => ?_, fun j k hj hk hjk n x y e1 e2 => ?_⟩, lastOf_le _ _ _ (fun k _ => ?_)⟩
 ·have he' : e ∈ t.pend := he
  rw [hp] at he'
  cases he'
 ·have e' := it?_some e
  have ha := (h.now (80 + k)).1
  rw [e'] at ha
  refine ⟨ha.2.1, ?_, ha.1⟩
  have h3 := lastOf_ge (ringOf t) 16 k hk
  have e2 : ringOf t k = some (n, x) := e
  rw [e2] at h3
  exact h3
 ·have a1 := it?_some e1
  have a2 := it?_some e2
  have := hd.now (80 + j) (80 + k) (by omega)
  rw [a1, a2] at this
  have h0 := (h.now (80 + j)).1
  rw [a1] at h0
  exact this (by show n ≠ 0; have := h0.2.1; omega) rfl
 ·have e : numOf (ringOf t k) = (t.now (80 + k)).num := numOf_it _
  rw [e]
  exact (h.now (80 + k)).2
theorem Ns.new_ok : Ns.new.Ok ∧ Ns.new.last ≤ 0 := Ns.start_ok (Td.Ok.blank 0) Td.Dist.blank rfl 0 0
theorem Ns.Ok.crash {a : Ns} (h : a.Ok) (keep : List Int) : (a.crash keep).Ok ∧ (a.crash keep).last ≤ a.last := Ns.start_ok (h.td.crash _) (h.dist.crash _) rfl _ _
theorem Ns.Ok.lose {a : Ns} : a.lose.Ok ∧ a.lose.last ≤ 0 := Ns.start_ok (Td.Ok.blank 0) Td.Dist.blank rfl _ _
theorem Rq.pc_ok {q : Rq} (h : OkI q.s q.g q.i q.n) (hD : ∀ j, j < q.n → q.D j < 256) : q.pc.Ok := by
 obtain ⟨h1, h2, h3, h4, h5, h6, h7⟩ := h
 unfold Rq.pc Pc.Ok
 dsimp only
 exact ⟨by omega, by omega, by omega, by omega, fun j hj => hD j (by omega)⟩
theorem Rq.it_ok {q : Rq} (h : OkJ q.s q.g q.n) (hD : ∀ j, j < q.n → q.D j < 256) : q.it.Ok := by
 obtain ⟨h1, h2, h3, h4, h7⟩ := h
 unfold Rq.it It.Ok
 dsimp only
 exact ⟨by omega, by omega, by omega, fun j hj => hD j (by omega)⟩
theorem DistR.rel {R : Nat → Option Nt} (h : DistR R) (s g : Int) : DistR (fun k => relO s g (R k)) := by
 intro j k hj hk hjk n x y e1 e2
 have sub : ∀ o : Option Nt, ∀ e, relO s g o = some e → o = some e := by
  intro o e he
  cases o with
  | none => cases he
  | some p =>
   obtain ⟨m, z⟩ := p
   unfold relO at he
   dsimp only at he
   split at he
   ·cases he
   ·exact he
 exact h j k hj hk hjk n x y (sub _ _ e1) (sub _ _ e2)
theorem Ns.Ok.log {a : Ns} (h : a.Ok) {x : It} (hx : x.Ok) : (a.log x).1.Ok ∧ (a.log x).1.last ≤ a.last + 1 ∧ (a.log x).1.nw ≤ a.nw + 1 := by
 unfold Ns.log
 split
 ·exact ⟨h, by dsimp only; omega, by dsimp only; omega⟩
 ·split
  ·exact ⟨h, by dsimp only; omega, by dsimp only; omega⟩
  ·next hf =>
   obtain ⟨f1, f2, f3⟩ := freeTo_spec a.R 16
   obtain ⟨k, hk⟩ : ∃ k, freeTo a.R 16 = k := ⟨_, rfl⟩
   rw [hk] at hf f1 f3 ⊢
   have hk16 : k < 16 := by omega
   have ht := h.td.mono (Nat.le_succ a.last)
   refine ⟨⟨ht.write (c := .it (a.last + 1) x) ⟨hx, by omega, by omega, by omega⟩ (Nat.le_refl _), h.dist.write h.td (Or.inr (Nat.lt_succ_self _)), fun j n y hj e => ?_, fun i j hi hj hij n y z e1 e2 => ?_⟩, Nat.le_refl _, Nat.le_refl _⟩
   ·have e' : updR a.R k (some (a.last + 1, x)) j = some (n, y) := e
    unfold updR at e'
    split at e'
    ·cases e'
     exact ⟨by omega, Nat.le_refl _, hx⟩
    ·obtain ⟨b1, b2, b3⟩ := h.rs j n y hj e'
     exact ⟨b1, Nat.le_succ_of_le b2, b3⟩
   ·have e1' : updR a.R k (some (a.last + 1, x)) i = some (n, y) := e1
    have e2' : updR a.R k (some (a.last + 1, x)) j = some (n, z) := e2
    unfold updR at e1' e2'
    split at e1'
    ·split at e2'
     ·omega
     ·cases e1'
      have := (h.rs j _ z hj e2').2.1
      omega
    ·split at e2'
     ·cases e2'
      have := (h.rs i _ y hi e1').2.1
      omega
     ·exact h.rd i j hi hj hij n y z e1' e2'
theorem Ns.Ok.act {a : Ns} (h : a.Ok) {q : Rq} (hD : ∀ j, j < q.n → q.D j < 256) : (a.act q).1.Ok ∧ (a.act q).1.last ≤ a.last + 1 ∧ (a.act q).1.nw ≤ a.nw + 1 := by
 unfold Ns.act
 split
 ·exact ⟨h, by dsimp only; omega, by dsimp only; omega⟩
 ·split
  ·split
   ·next hq =>
    have hp := Rq.pc_ok (q.okP_iff.1 hq) hD
    exact ⟨⟨h.td.write (c := .pc q.pc) ⟨hp, rfl⟩ (Nat.zero_le _), h.dist.write h.td (Or.inl rfl), h.rs, h.rd⟩, Nat.le_succ _, Nat.le_refl _⟩
   ·exact ⟨h, by dsimp only; omega, by dsimp only; omega⟩
  ·split
   ·split
    ·next hq => exact h.log (Rq.it_ok (q.okI_iff.1 hq) hD)
    ·exact ⟨h, by dsimp only; omega, by dsimp only; omega⟩
   ·split
    ·exact ⟨⟨h.td.flush, h.dist.flush, h.rs, h.rd⟩, Nat.le_succ _, Nat.le_succ _⟩
    ·split
     ·exact ⟨h, by dsimp only; omega, by dsimp only; omega⟩
     ·split
      ·refine ⟨⟨h.td, h.dist, fun k n x hk e => ?_, h.rd.rel _ _⟩, Nat.le_succ _, Nat.le_succ _⟩
       have e' : relO q.s q.g (a.R k) = some (n, x) := e
       cases hr : a.R k with
       | none => rw [hr] at e'; cases e'
       | some p =>
        obtain ⟨m, y⟩ := p
        rw [hr] at e'
        unfold relO at e'
        dsimp only at e'
        split at e'
        ·cases e'
        ·cases e'; exact h.rs k n x hk hr
      ·exact ⟨h, by dsimp only; omega, by dsimp only; omega⟩
theorem Ct.F_lt {k : Nat} {c : Ct} (h : c.At k) (j : Nat) : c.F j < 256 := by
 cases c with
 | no => show 0 < 256; omega
 | pc p => exact pcS_lt h.1 j
 | it n x => exact itS_lt h.1 j
theorem Td.Ok.bd {t : Td} {m : Nat} (h : t.Ok m) : Bd t.disk := fun k j _ => by
 rw [disk_now]
 exact Ct.F_lt (h.now k).1 j
theorem Td.Ok.cd {t : Td} {m : Nat} (h : t.Ok m) : CD t.disk (fun k => (t.now k).pc?) := ⟨h.bd, fun k hk => by
 have e : t.disk.now k = (t.now k).F := by rw [disk_now]
 rw [e]
 have ha := (h.now k).1
 cases hc : t.now k with
 | no => exact Slot.blank
 | pc p =>
  rw [hc] at ha
  obtain ⟨h1, h2⟩ := ha
  have := Slot.of_pc h1
  unfold atP at h2
  rw [show k / 2 = p.s by omega, show k % 2 = p.g % 2 by omega]
  exact this
 | it n x =>
  rw [hc] at ha
  have := ha.2.2
  omega⟩
theorem Td.Ok.ringOn {t : Td} {m : Nat} (h : t.Ok m) (hm : m ≤ 1000000000) : RingOn t.disk (ringOf t) := fun k hk => by
 have e : t.disk.now (80 + k) = (t.now (80 + k)).F := by rw [disk_now]
 rw [e]
 obtain ⟨ha, hn⟩ := h.now (80 + k)
 unfold ringOf
 cases hc : t.now (80 + k) with
 | no => exact Or.inl ⟨rfl, fun j _ => rfl⟩
 | pc p =>
  rw [hc] at ha
  obtain ⟨h1, h2⟩ := ha
  have := h1.1
  unfold atP at h2
  omega
 | it n x =>
  rw [hc] at ha hn
  have hn' : n ≤ m := hn
  exact Or.inr ⟨n, x, rfl, ha.1, ha.2.1, by omega, fun j _ => rfl⟩
end Go.Proofs.YtobkmohoepgfmaaGreatDoor
namespace Go.Proofs.YtobkmohoepgfmaaGreatDoor
open Go.RowKit Go.Sort
set_option maxRecDepth 100000
set_option maxHeartbeats 2000000

def NdB (w : World) (n p r boot : Nat) : Prop := w.heap[n]? = some (.cells #[.pointer (some ⟨p, 0, none⟩), .pointer (some ⟨r, 0, none⟩), .int .i64 (boot : Int)] 96 (0, 0))
section
variable {w w' : World} {n p r boot : Nat}
theorem NdB.c0 (h : NdB w n p r boot) : w.cell? ⟨n, 0, none⟩ = some (.pointer (some ⟨p, 0, none⟩)) := cell_of_block h
theorem NdB.c1 (h : NdB w n p r boot) : w.cell? ⟨n, 1, none⟩ = some (.pointer (some ⟨r, 0, none⟩)) := cell_of_block h
theorem NdB.c2 (h : NdB w n p r boot) : w.cell? ⟨n, 2, none⟩ = some (.int .i64 (boot : Int)) := cell_of_block h
theorem NdB.lt (h : NdB w n p r boot) : n < w.heap.size := heap_lt h
theorem NdB.keep (h : NdB w n p r boot) (e : w'.heap[n]? = w.heap[n]?) : NdB w' n p r boot := e.trans h
theorem NdB.below (h : NdB w n p r boot) (b : Below w.heap.size w w') : NdB w' n p r boot := h.keep (b.block n h.lt)
end
structure NdM (w : World) (n r p sb : Nat) (S : List Nat) (a : Ns) : Prop where
 nb : NdB w n p r a.boot
 ex : ∃ X, Rg w r p sb a.last S a.t.disk a.nw X ∧ ∀ k, k < 16 → SaysR (X k) (a.R k)
section
variable {w w' : World} {n r p sb : Nat} {S : List Nat} {a : Ns}
theorem NdM.plt (h : NdM w n r p sb S a) : Plt w p S 96 a.t.disk a.nw := by
 obtain ⟨X, hr, _⟩ := h.ex
 exact hr.plt
theorem NdM.below (h : NdM w n r p sb S a) (b : Below w.heap.size w w') : NdM w' n r p sb S a := by
 obtain ⟨X, hr, hs⟩ := h.ex
 exact ⟨h.nb.below b, X, hr.below b, hs⟩
theorem NdM.nS (h : NdM w n r p sb S a) : n ∉ r :: sb :: S := by
 obtain ⟨X, hr, hs⟩ := h.ex
 exact hr.far h.nb (by decide) (by decide) (by decide) (by decide) (by decide)
theorem NdM.far (h : NdM w n r p sb S a) {k : Nat} {cs : Array Value} {t : TypeId} {fr : Nat × Nat} (hk : w.heap[k]? = some (.cells cs t fr)) (h1 : t ≠ 146) (h2 : t ≠ 36) (h3 : t ≠ 188) (h4 : t ≠ 191) (h5 : t ≠ 194) : k ∉ r :: sb :: S := by
 obtain ⟨X, hr, hs⟩ := h.ex
 exact hr.far hk h1 h2 h3 h4 h5
theorem NdM.lt (h : NdM w n r p sb S a) : ∀ k ∈ n :: r :: sb :: S, k < w.heap.size := by
 obtain ⟨X, hr, hs⟩ := h.ex
 intro k hk
 rw [List.mem_cons, List.mem_cons, List.mem_cons] at hk
 rcases hk with rfl | rfl | rfl | hk
 ·exact h.nb.lt
 ·exact hr.rb.lt
 ·exact hr.sr.lt
 ·exact hr.plt.lt k hk
end
abbrev rqv (k s g i : Int) (A : Option Addr) (m c : Nat) : Value := .agg #[.int .i64 k, .int .i64 s, .int .i64 g, .int .i64 i, .slice A m c]
abbrev rpv (code boot : Int) (u v : Value) : Value := .agg #[.int .i64 code, .int .i64 boot, u, v]
def QV (w : World) (b : Nat) (k s g i : Int) (A : Option Addr) (m c : Nat) : Prop := w.heap[b]? = some (.cells #[.int .i64 k, .int .i64 s, .int .i64 g, .int .i64 i, .slice A m c] 107 (0, 0))
section
variable {w w' : World} {b m c : Nat} {k s g i : Int} {A : Option Addr}
theorem QV.c0 (h : QV w b k s g i A m c) : w.cell? ⟨b, 0, none⟩ = some (.int .i64 k) := cell_of_block h
theorem QV.c1 (h : QV w b k s g i A m c) : w.cell? ⟨b, 1, none⟩ = some (.int .i64 s) := cell_of_block h
theorem QV.c2 (h : QV w b k s g i A m c) : w.cell? ⟨b, 2, none⟩ = some (.int .i64 g) := cell_of_block h
theorem QV.c3 (h : QV w b k s g i A m c) : w.cell? ⟨b, 3, none⟩ = some (.int .i64 i) := cell_of_block h
theorem QV.c4 (h : QV w b k s g i A m c) : w.cell? ⟨b, 4, none⟩ = some (.slice A m c) := cell_of_block h
theorem QV.lt (h : QV w b k s g i A m c) : b < w.heap.size := heap_lt h
theorem QV.keep (h : QV w b k s g i A m c) (e : w'.heap[b]? = w.heap[b]?) : QV w' b k s g i A m c := e.trans h
theorem QV.below (h : QV w b k s g i A m c) (e : Below w.heap.size w w') : QV w' b k s g i A m c := h.keep (e.block b h.lt)
theorem QV.of_new {H : Nat} (hH : w.heap.size = H) : QV (w.alloc (.cells #[.int .i64 k, .int .i64 s, .int .i64 g, .int .i64 i, .slice A m c] 107)) H k s g i A m c := by
 subst hH
 exact alloc_block w _
end
def RV (w : World) (b : Nat) (code boot : Int) (u v : Value) : Prop := w.heap[b]? = some (.cells #[.int .i64 code, .int .i64 boot, u, v] 103 (0, 0))
section
variable {w w' : World} {b : Nat} {code boot : Int} {u v : Value}
theorem RV.c0 (h : RV w b code boot u v) : w.cell? ⟨b, 0, none⟩ = some (.int .i64 code) := cell_of_block h
theorem RV.c1 (h : RV w b code boot u v) : w.cell? ⟨b, 1, none⟩ = some (.int .i64 boot) := cell_of_block h
theorem RV.c2 (h : RV w b code boot u v) : w.cell? ⟨b, 2, none⟩ = some u := cell_of_block h
theorem RV.c3 (h : RV w b code boot u v) : w.cell? ⟨b, 3, none⟩ = some v := cell_of_block h
theorem RV.f (h : RV w b code boot u v) (k : Nat) : w.frozen? ⟨b, k, none⟩ = false := free_of_block h
theorem RV.lt (h : RV w b code boot u v) : b < w.heap.size := heap_lt h
theorem RV.keep (h : RV w b code boot u v) (e : w'.heap[b]? = w.heap[b]?) : RV w' b code boot u v := e.trans h
theorem RV.below (h : RV w b code boot u v) (e : Below w.heap.size w w') : RV w' b code boot u v := h.keep (e.block b h.lt)
theorem RV.of_new {H : Nat} (hH : w.heap.size = H) : RV (w.alloc (.cells #[.int .i64 code, .int .i64 boot, u, v] 103)) H code boot u v := by
 subst hH
 exact alloc_block w _
theorem RV.put0 (h : RV w b code boot u v) {code' : Int} : RV (w.setCell ⟨b, 0, none⟩ (.int .i64 code')) b code' boot u v := set_block h 0 _
theorem RV.put2 (h : RV w b code boot u v) {u' : Value} : RV (w.setCell ⟨b, 2, none⟩ u') b code boot u' v := set_block h 2 _
theorem RV.put3 (h : RV w b code boot u v) {v' : Value} : RV (w.setCell ⟨b, 3, none⟩ v') b code boot u v' := set_block h 3 _
theorem RV.put4 (h : RV w b code boot u v) {code' boot' : Int} {u' v' : Value} : RV ((((w.setCell ⟨b, 0, none⟩ (.int .i64 code')).setCell ⟨b, 1, none⟩ (.int .i64 boot')).setCell ⟨b, 2, none⟩ u').setCell ⟨b, 3, none⟩ v') b code' boot' u' v' :=
 set_block (set_block (set_block (set_block h 0 _) 1 _) 2 _) 3 _
theorem RV.load {A B : Option Addr} {m c m' c' : Nat} (h : RV w b code boot (.slice A m c) (.slice B m' c')) : (loadVar 103 ⟨b, 0, none⟩).run Tryz.prog w = .ok (rpv code boot (.slice A m c) (.slice B m' c')) w := by
 have z0 := h.c0
 have z1 := h.c1
 have z2 := h.c2
 have z3 := h.c3
 have s0 := h.lt
 simp [go_sem, z0, z1, z2, z3, rpv]
end
def DatN (w : World) (A : Option Addr) (m : Nat) (D : Nat → Nat) : Prop := m = 0 ∨ ∃ g o cs, A = some ⟨g, o, none⟩ ∧ w.heap[g]? = some (.cells cs 5 (0, 0)) ∧ ∀ j, j < m → w.cell? ⟨g, o + j, none⟩ = some (.int .u8 (D j : Nat))
theorem DatN.rd {w : World} {A : Option Addr} {m : Nat} {D : Nat → Nat} (h : DatN w A m D) : Rd w A m D := fun hm => by
 rcases h with h | ⟨g, o, cs, h1, _, h3⟩
 ·omega
 ·exact ⟨g, o, h1, h3⟩
theorem DatN.datI {w : World} {A : Option Addr} {m : Nat} {D : Nat → Nat} (h : DatN w A m D) (hm : m = 128) : DatI w A D := by
 subst hm
 rcases h with h | h
 ·omega
 ·exact h
theorem DatN.keep {w w' : World} {A : Option Addr} {m : Nat} {D : Nat → Nat} (h : DatN w A m D) (k : ∀ (g : Nat) (cs : Array Value), w.heap[g]? = some (Obj.cells cs 5 (0, 0)) → w'.heap[g]? = w.heap[g]?) : DatN w' A m D := by
 rcases h with h | ⟨g, o, cs, h1, h2, h3⟩
 ·exact Or.inl h
 ·have e := k g cs h2
  refine Or.inr ⟨g, o, cs, h1, e.trans h2, fun j hj => ?_⟩
  rw [← h3 j hj]
  exact (cell_of_block (e.trans h2)).trans (cell_of_block h2).symm
theorem DatN.below {w w' : World} {A : Option Addr} {m : Nat} {D : Nat → Nat} (h : DatN w A m D) (b : Below w.heap.size w w') : DatN w' A m D := h.keep (fun g _ hg => b.block g (heap_lt hg))
theorem DatN.blk {w : World} {g m : Nat} {D : Nat → Nat} (h : Blk8 w g m D) : DatN w (some ⟨g, 0, none⟩) m D := by
 obtain ⟨cs, h1, h2, h3⟩ := h
 exact Or.inr ⟨g, 0, cs, rfl, h1, fun j hj => by rw [Nat.zero_add]; exact (cell_of_block h1).trans (h3 j hj)⟩
theorem DatN.none_ {w : World} {A : Option Addr} {D : Nat → Nat} : DatN w A 0 D := Or.inl rfl
theorem nmade {w : World} {n p r boot : Nat} (h : NdB w n p r boot) : Calls Tryz.prog 40 #[.pointer (some ⟨n, 0, none⟩)] w fun e w' => e = .returned (.bool true) ∧ w' = w := by
 have c0 := h.c0
 clear h
 go_enter Tryz.func40, Tryz.ntmps40
 go_wp2_with fail
 go_ret
 exact ⟨rfl, rfl⟩
theorem npiece (k s g i : Int) (A : Option Addr) (m c : Nat) (w : World) : Calls Tryz.prog 147 #[rqv k s g i A m c] w fun e w' => e = .returned (pv s g i A m c) ∧ Below w.heap.size w w' := by
 obtain ⟨w1, hw1⟩ : ∃ w1, (w.alloc (.cells #[.int .i64 k, .int .i64 s, .int .i64 g, .int .i64 i, .slice A m c] 107)).alloc (.cells #[.int .i64 s, .int .i64 g, .int .i64 i, .slice A m c] 162) = w1 := ⟨_, rfl⟩
 have HW1 := Lib.hid hw1
 have HB1 : Hid (Below w.heap.size w w1) := Lib.hid (by rw [← hw1]; exact ((Below.refl _ _).alloc (Nat.le_refl _) _).alloc (by simp) _)
 have HP1 : Hid (PV w1 (w.heap.size + 1) s g i A m c) := Lib.hid (by
  rw [← hw1]
  have := PV.new (w.alloc (.cells #[.int .i64 k, .int .i64 s, .int .i64 g, .int .i64 i, .slice A m c] 107)) s g i A m c
  rw [World.size_alloc] at this
  exact this)
 clear hw1
 unfold rqv
 go_enter Tryz.func147, Tryz.ntmps147
 go_wp2_with fail
 rw [HW1.out]
 refine bodyPost_ret (v := pv s g i A m c) ?_ rfl ?_
 ·rw [results_cell1 rfl]
  simp [HP1.out.load, Result.andThen, asAddr]
 exact ⟨rfl, HB1.out⟩
theorem nintent (k s g i : Int) (A : Option Addr) (m c : Nat) (w : World) : Calls Tryz.prog 149 #[rqv k s g i A m c] w fun e w' => e = .returned (iv s g A m c) ∧ Below w.heap.size w w' := by
 obtain ⟨w1, hw1⟩ : ∃ w1, (w.alloc (.cells #[.int .i64 k, .int .i64 s, .int .i64 g, .int .i64 i, .slice A m c] 107)).alloc (.cells #[.int .i64 s, .int .i64 g, .slice A m c] 109) = w1 := ⟨_, rfl⟩
 have HW1 := Lib.hid hw1
 have HB1 : Hid (Below w.heap.size w w1) := Lib.hid (by rw [← hw1]; exact ((Below.refl _ _).alloc (Nat.le_refl _) _).alloc (by simp) _)
 have HP1 : Hid (IV w1 (w.heap.size + 1) s g A m c) := Lib.hid (by
  rw [← hw1]
  exact IV.of_new (World.size_alloc _ _))
 clear hw1
 unfold rqv
 go_enter Tryz.func149, Tryz.ntmps149
 go_wp2_with fail
 rw [HW1.out]
 refine bodyPost_ret (v := iv s g A m c) ?_ rfl ?_
 ·rw [results_cell1 rfl]
  simp [HP1.out.load, Result.andThen, asAddr]
 exact ⟨rfl, HB1.out⟩
def PcsRet (l : List Pc) (w : World) (e : Ending) (w' : World) : Prop := ∃ B c, e = .returned (.tuple #[.slice B l.length c, .int .i64 0]) ∧ PL w' w.heap.size (.slice B l.length c) l ∧ Below w.heap.size w w'
theorem npieces {w : World} {n r p sb m : Nat} {S : List Nat} {a : Ns} (h : NdM w n r p sb S a) (ht : a.t.Ok m) (s : Nat) (hs : s < 40) :
  Calls Tryz.prog 145 #[.pointer (some ⟨n, 0, none⟩), .int .i64 (s : Int)] w (PcsRet (a.pcs s) w) := by
 have c0 := h.nb.c0
 have HG := Lib.hid (cgetD h.plt ht.cd (by omega) s hs)
 clear h ht
 have h1 : ¬ (s : Int) < 0 := by omega
 have h2 : ¬ (40 : Int) ≤ (s : Int) := by omega
 have h2' : (s : Int) < 40 := by omega
 go_enter Tryz.func145, Tryz.ntmps145
 go_wp2_with fail
 refine HG.out.mono ?_
 rintro e w' ⟨v, rfl, hp, hb⟩
 obtain ⟨B, c, rfl⟩ := hp.form
 try dsimp only
 have HP := Lib.hid hp
 have HB := Lib.hid hb
 clear hp hb HG
 go_wp2_with fail
 go_ret2
 exact ⟨B, c, rfl, HP.out, HB.out⟩
theorem npieces_no (n : Nat) (s : Int) (w : World) (hs : ¬ (0 ≤ s ∧ s < 40)) :
  Calls Tryz.prog 145 #[.pointer (some ⟨n, 0, none⟩), .int .i64 s] w fun e w' => e = .returned (.tuple #[.slice none 0 0, .int .i64 1]) ∧ w' = w := by
 by_cases h : s < 0
 ·clear hs
  go_enter Tryz.func145, Tryz.ntmps145
  go_wp2_with fail
  go_ret2
  exact ⟨rfl, rfl⟩
 ·have h2 : (40 : Int) ≤ s := by omega
  clear hs
  go_enter Tryz.func145, Tryz.ntmps145
  go_wp2_with fail
  go_ret2
  exact ⟨rfl, rfl⟩
end Go.Proofs.YtobkmohoepgfmaaGreatDoor
namespace Go.Proofs.YtobkmohoepgfmaaGreatDoor
open Go.RowKit Go.Sort
set_option maxRecDepth 100000
set_option maxHeartbeats 2000000

end Go.Proofs.YtobkmohoepgfmaaGreatDoor
namespace Go.Proofs.YtobkmohoepgfmaaGreatDoor
open Go.RowKit Go.Sort
set_option maxRecDepth 100000
set_option maxHeartbeats 2000000

theorem Rg.turn {w w' : World} {r p sb last : Nat} {S S' : List Nat} {d d' : Disk} {nw nw' : Nat} {X : Nat → Sx} (h : Rg w r p sb last S d nw X) (t : Turn S w w') (k : Plt w' p S' 96 d' nw') : Rg w' r p sb last S' d' nw' X ∧ KeepI w w' := by
 have ht : Turn (r :: sb :: S) w w' := t.mono (fun k hk => by simp [hk])
 have hk := h.keepI ht
 obtain ⟨cs, hc⟩ := h.sr.type
 exact ⟨⟨h.rb.keep (t.block r h.rb.lt h.rS), h.sr.keep (t.block sb (heap_lt hc) h.sS), fun j hj => (h.ok j hj).keep (fun g cs hg => hk.2 g cs _ hg (Or.inl rfl)), k⟩, hk⟩
def KD (w0 : World) (r p sb : Nat) (T : List Nt) (last : Nat) (d : Disk) (v : World) : Prop :=
 ∃ S nw X, Rg v r p sb last S d nw X ∧ AG X T last ∧ (∀ k, k < 16 → ((X k).no ≠ 0 ↔ k < last)) ∧ (∀ k ∈ r :: sb :: S, w0.heap.size ≤ k) ∧ Below w0.heap.size w0 v ∧ nw ≤ last
section
variable {w0 v v' : World} {r p sb last : Nat} {T : List Nt} {d : Disk}
end
end Go.Proofs.YtobkmohoepgfmaaGreatDoor
namespace Go.Proofs.YtobkmohoepgfmaaGreatDoor
open Go.RowKit Go.Sort
set_option maxRecDepth 100000
set_option maxHeartbeats 2000000

def KeepB (w w' : World) : Prop := w.heap.size ≤ w'.heap.size ∧ ∀ (g : Nat) (cs : Array Value) (t : TypeId), w.heap[g]? = some (Obj.cells cs t (0, 0)) → (t = 5 ∨ t = 162 ∨ t = 109) → w'.heap[g]? = w.heap[g]?
theorem KeepB.of {w w' : World} (b : Below w.heap.size w w') : KeepB w w' := ⟨b.size, fun g _ _ hg _ => b.block g (heap_lt hg)⟩
theorem KeepB.trans {a b c : World} (h : KeepB a b) (k : KeepB b c) : KeepB a c := ⟨Nat.le_trans h.1 k.1, fun g cs t hg ht => (k.2 g cs t ((h.2 g cs t hg ht).trans hg) ht).trans (h.2 g cs t hg ht)⟩
theorem KeepB.bytes {w w' : World} (k : KeepB w w') : ∀ (g : Nat) (cs : Array Value), w.heap[g]? = some (Obj.cells cs 5 (0, 0)) → w'.heap[g]? = w.heap[g]? := fun g cs h => k.2 g cs _ h (Or.inl rfl)
theorem KeepB.i {w w' : World} (k : KeepB w w') : KeepI w w' := ⟨k.1, fun g cs t h ht => k.2 g cs t h (by rcases ht with h | h; exact Or.inl h; exact Or.inr (Or.inr h))⟩
theorem KeepB.pl {w w' : World} (k : KeepB w w') {B : Nat} {v : Value} {l : List Pc} (h : PL w B v l) : PL w' B v l := h.keep (fun g cs t hg ht => k.2 g cs t hg (by rcases ht with h | h; exact Or.inl h; exact Or.inr (Or.inl h)))
theorem KeepB.li {w w' : World} (k : KeepB w w') {B : Nat} {v : Value} {l : List It} (h : LI w B v l) : LI w' B v l := h.keepI k.i
theorem KeepB.datN {w w' : World} (k : KeepB w w') {A : Option Addr} {m : Nat} {D : Nat → Nat} (h : DatN w A m D) : DatN w' A m D := h.keep k.bytes
theorem KeepB.set {w : World} {b k : Nat} {cs : Array Value} {t : TypeId} {fr : Nat × Nat} {v : Value} (hb : w.heap[b]? = some (.cells cs t fr)) (h1 : t ≠ 5) (h2 : t ≠ 162) (h3 : t ≠ 109) : KeepB w (w.setCell ⟨b, k, none⟩ v) := ⟨by simp, fun g cs' t' hg ht => set_other (by
 rintro rfl
 rw [hb] at hg
 cases hg
 rcases ht with h | h | h
 ·exact h1 h
 ·exact h2 h
 ·exact h3 h) _ _⟩
theorem NdM.keep {w w' : World} {n r p sb : Nat} {S : List Nat} {a : Ns} (h : NdM w n r p sb S a) (hk : ∀ k ∈ n :: r :: sb :: S, w'.heap[k]? = w.heap[k]?) (hb : ∀ (g : Nat) (cs : Array Value), w.heap[g]? = some (Obj.cells cs 5 (0, 0)) → w'.heap[g]? = w.heap[g]?) : NdM w' n r p sb S a := by
 obtain ⟨X, hr, hs⟩ := h.ex
 exact ⟨h.nb.keep (hk n (by simp)), X, ⟨hr.rb.keep (hk r (by simp)), hr.sr.keep (hk sb (by simp)), fun k hk' => (hr.ok k hk').keep hb, hr.plt.same ⟨hb, fun k hk' => hk k (by simp [hk'])⟩⟩, hs⟩
theorem NdM.keepB {w w' : World} {n r p sb : Nat} {S : List Nat} {a : Ns} (h : NdM w n r p sb S a) (t : Turn (r :: sb :: S) w w') : KeepB w w' :=
 ⟨t.size, fun g cs ty hg ht => t.block g (heap_lt hg) (h.far hg (by rcases ht with rfl | rfl | rfl <;> decide) (by rcases ht with rfl | rfl | rfl <;> decide) (by rcases ht with rfl | rfl | rfl <;> decide) (by rcases ht with rfl | rfl | rfl <;> decide) (by rcases ht with rfl | rfl | rfl <;> decide))⟩
theorem NdM.set {w : World} {n r p sb b k : Nat} {S : List Nat} {a : Ns} {cs : Array Value} {t : TypeId} {fr : Nat × Nat} {v : Value} (h : NdM w n r p sb S a) (hb : w.heap[b]? = some (.cells cs t fr)) (h0 : t ≠ 96) (h1 : t ≠ 146) (h2 : t ≠ 36) (h3 : t ≠ 188) (h4 : t ≠ 191) (h5 : t ≠ 194) (h6 : t ≠ 5) : NdM (w.setCell ⟨b, k, none⟩ v) n r p sb S a := by
 have hf := h.far hb h1 h2 h3 h4 h5
 refine h.keep (fun j hj => set_other ?_ _ _) (fun g cs' hg => set_other ?_ _ _)
 ·rintro rfl
  rw [List.mem_cons] at hj
  rcases hj with rfl | hj
  ·have := h.nb
   unfold NdB at this
   rw [hb] at this
   cases this
   exact h0 rfl
  ·exact hf hj
 ·rintro rfl
  rw [hb] at hg
  cases hg
  exact h6 rfl
theorem NdM.disk {w w' : World} {n r p sb : Nat} {S S' : List Nat} {a : Ns} (h : NdM w n r p sb S a) (t : Turn S w w') {T : Td} {nw : Nat} (k : Plt w' p S' 96 T.disk nw) : NdM w' n r p sb S' ⟨T, a.R, a.last, a.boot, nw⟩ := by
 obtain ⟨X, hr, hs⟩ := h.ex
 have hn := h.nS
 exact ⟨h.nb.keep (t.block n h.nb.lt (fun hm => hn (by simp [hm]))), X, (hr.turn t k).1, hs⟩
def ActRet (n r p sb : Nat) (S : List Nat) (x : Ns × Rp) (w : World) (e : Ending) (w' : World) : Prop :=
 ∃ S', e = .returned (.int .i64 (x.2.code : Int)) ∧ NdM w' n r p sb S' x.1 ∧ Turn (r :: sb :: S) w w' ∧ ∀ j ∈ S', j ∈ S ∨ w.heap.size ≤ j
theorem turn_in {r sb : Nat} {S : List Nat} {w w' : World} (t : Turn S w w') : Turn (r :: sb :: S) w w' := t.mono (fun k hk => by simp [hk])
theorem nput {w : World} {n r p sb : Nat} {S : List Nat} {a : Ns} (h : NdM w n r p sb S a) (q : Rq) (A : Option Addr) (c : Nat) (hd : DatN w A q.n q.D) (hD : ∀ j, j < q.n → q.D j < 256) (hw : a.nw ≤ 1000000000) :
  Calls Tryz.prog 146 #[.pointer (some ⟨p, 0, none⟩), pv q.s q.g q.i A q.n c] w (ActRet n r p sb S (if q.okP then (⟨a.t.write (atP q.pc) (.pc q.pc), a.R, a.last, a.boot, a.nw + 1⟩, ⟨0, [], []⟩) else (a, ⟨1, [], []⟩)) w) := by
 by_cases hq : q.okP = true
 ·rw [if_pos hq]
  have hi := q.okP_iff.1 hq
  have hok := Rq.pc_ok hi hD
  obtain ⟨i1, i2, i3, i4, i5, i6, i7⟩ := hi
  have hrd := hd.rd
  rw [i7] at hrd ⊢
  have hc := cput h.plt (by omega) q.pc hok A c hrd hw
  have e1 : ((q.pc.s : Nat) : Int) = q.s := by unfold Rq.pc; dsimp only; omega
  have e2 : ((q.pc.g : Nat) : Int) = q.g := by unfold Rq.pc; dsimp only; omega
  have e3 : ((q.pc.i : Nat) : Int) = q.i := by unfold Rq.pc; dsimp only; omega
  rw [e1, e2, e3] at hc
  refine hc.mono ?_
  rintro e w' ⟨S', rfl, hp, ht⟩
  have e4 : a.t.disk.write (atP q.pc) (pcS q.pc) = (a.t.write (atP q.pc) (.pc q.pc)).disk := (disk_write a.t (atP q.pc) (.pc q.pc)).symm
  rw [e4] at hp
  exact ⟨S', rfl, h.disk ht.turn hp, turn_in ht.turn, ht.blocks⟩
 ·rw [if_neg hq]
  refine (cput_no h.plt (by omega) q.s q.g q.i A q.n c (fun hi => hq (q.okP_iff.2 hi))).mono ?_
  rintro e w' ⟨rfl, hb⟩
  exact ⟨S, rfl, h.below hb, Turn.of hb, fun j hj => Or.inl hj⟩
theorem saysR_no {x : Sx} {o : Option Nt} (h : SaysR x o) (h1 : ∀ n y, o = some (n, y) → 1 ≤ n) : x.no = 0 ↔ o = none := by
 obtain ⟨a, b⟩ := h
 cases o with
 | none => exact ⟨fun _ => rfl, fun _ => a⟩
 | some e =>
  obtain ⟨n, y⟩ := e
  have := h1 n y rfl
  have a' : x.no = n := a
  exact ⟨fun h => by omega, fun h => by cases h⟩
theorem saysR_some {x : Sx} {o : Option Nt} (h : SaysR x o) (h0 : x.no ≠ 0) : o = some (x.no, x.it) := by
 obtain ⟨a, b⟩ := h
 cases o with
 | none => exact absurd a h0
 | some e =>
  obtain ⟨n, y⟩ := e
  have a' : x.no = n := a
  rw [b n y rfl, a']
theorem nlog {w : World} {n r p sb : Nat} {S : List Nat} {a : Ns} (h : NdM w n r p sb S a) (ho : a.Ok) (q : Rq) (A : Option Addr) (c : Nat) (hd : DatN w A q.n q.D) (hD : ∀ j, j < q.n → q.D j < 256) (hw : a.nw ≤ 1000000000) (hl : a.last ≤ 1000000000) :
  Calls Tryz.prog 148 #[.pointer (some ⟨r, 0, none⟩), iv q.s q.g A q.n c] w (ActRet n r p sb S (if q.okI then a.log q.it else (a, ⟨1, [], []⟩)) w) := by
 obtain ⟨X, hr, hs⟩ := h.ex
 have h1 : ∀ k, k < 16 → ∀ m y, a.R k = some (m, y) → 1 ≤ m := fun k hk m y e => (ho.rs k m y hk e).1
 by_cases hq : q.okI = true
 ·rw [if_pos hq]
  have hi := q.okI_iff.1 hq
  have hok := Rq.it_ok hi hD
  obtain ⟨i1, i2, i3, i4, i7⟩ := hi
  have hdi := hd.datI i7
  rw [i7]
  have e1 : ((q.it.s : Nat) : Int) = q.s := by unfold Rq.it; dsimp only; omega
  have e2 : ((q.it.g : Nat) : Int) = q.g := by unfold Rq.it; dsimp only; omega
  have hhas : (∃ k, k < 16 ∧ (X k).no ≠ 0 ∧ (X k).it.Alike q.it) ↔ hasR a.R q.it = true := by
   rw [hasR_iff]
   constructor
   ·rintro ⟨k, hk, h0, ha⟩
    exact ⟨k, _, _, hk, saysR_some (hs k hk) h0, ha⟩
   ·rintro ⟨k, m, x, hk, he, ha⟩
    refine ⟨k, hk, fun h0 => ?_, ?_⟩
    ·rw [(saysR_no (hs k hk) (h1 k hk)).1 h0] at he
     cases he
    ·rw [(hs k hk).2 m x he]
     exact ha
  unfold Ns.log
  by_cases hh : hasR a.R q.it = true
  ·rw [if_pos hh]
   have hc := ilog_same q.it A c hr hok hdi (hhas.2 hh)
   rw [e1, e2] at hc
   refine hc.mono ?_
   rintro e w' ⟨rfl, hb⟩
   exact ⟨S, rfl, h.below hb, Turn.of hb, fun j hj => Or.inl hj⟩
  ·rw [if_neg hh]
   have hn : ∀ k, k < 16 → ¬ ((X k).no ≠ 0 ∧ (X k).it.Alike q.it) := fun k hk e => hh (hhas.1 ⟨k, hk, e.1, e.2⟩)
   obtain ⟨f1, f2, f3⟩ := freeTo_spec a.R 16
   obtain ⟨k, hk⟩ : ∃ k, freeTo a.R 16 = k := ⟨_, rfl⟩
   rw [hk] at f1 f2 f3 ⊢
   by_cases hf : k = 16
   ·rw [if_pos hf]
    have hc := ilog_full q.it A c hr hok hdi hn (fun j hj h0 => f2 j (by omega) ((saysR_no (hs j hj) (h1 j hj)).1 h0))
    rw [e1, e2] at hc
    refine hc.mono ?_
    rintro e w' ⟨rfl, hb⟩
    exact ⟨S, rfl, h.below hb, Turn.of hb, fun j hj => Or.inl hj⟩
   ·rw [if_neg hf]
    have hk16 : k < 16 := by omega
    have hc := ilog_put q.it A c hr hok hdi hn k hk16 ((saysR_no (hs k hk16) (h1 k hk16)).2 (f3 hk16)) (fun j hj h0 => f2 j hj ((saysR_no (hs j (by omega)) (h1 j (by omega))).1 h0)) (by omega) hw
    rw [e1, e2] at hc
    refine hc.mono ?_
    rintro e w' ⟨S', A', c', rfl, hr', ht, hS⟩
    have e4 : a.t.disk.write (80 + k) (itS (a.last + 1) q.it) = (a.t.write (80 + k) (.it (a.last + 1) q.it)).disk := (disk_write a.t (80 + k) (.it (a.last + 1) q.it)).symm
    rw [e4] at hr'
    refine ⟨S', rfl, ⟨h.nb.keep (ht.block n h.nb.lt h.nS), _, hr', fun j hj => ?_⟩, ht, hS⟩
    show SaysR (updS X k _ j) (updR a.R k _ j)
    unfold updS updR
    by_cases ej : j = k
    ·rw [if_pos ej, if_pos ej]
     exact ⟨rfl, fun m y e => by cases e; rfl⟩
    ·rw [if_neg ej, if_neg ej]
     exact hs j hj
 ·rw [if_neg hq]
  refine (ilog_arg q.s q.g A q.n c hr.rb (fun hi => hq (q.okI_iff.2 hi))).mono ?_
  rintro e w' ⟨rfl, hb⟩
  exact ⟨S, rfl, h.below hb, Turn.of hb, fun j hj => Or.inl hj⟩
def LiveRet (l : List It) (w : World) (e : Ending) (w' : World) : Prop := ∃ B c, e = .returned (.slice B l.length c) ∧ LI w' w.heap.size (.slice B l.length c) l ∧ Below w.heap.size w w'
theorem nlive {w : World} {n r p sb : Nat} {S : List Nat} {a : Ns} (h : NdM w n r p sb S a) (ho : a.Ok) :
  Calls Tryz.prog 151 #[.pointer (some ⟨r, 0, none⟩)] w (LiveRet ((liveT a.R).map (·.2)) w) := by
 obtain ⟨X, hr, hs⟩ := h.ex
 have e1 : (lv X 16).map ntOf = colR a.R 16 := lv_colR hs (fun k m y hk e => (ho.rs k m y hk e).1) 16 (Nat.le_refl _)
 have hag : AG X (liveT a.R) a.last := by
  refine ⟨by rw [e1]; exact (liveT_perm a.R).symm, liveT_rise ho.rd, fun e he => ?_⟩
  obtain ⟨k, hk, hk2⟩ := colR_mem.1 ((liveT_perm a.R).mem_iff.1 he)
  exact (ho.rs k e.1 e.2 hk hk2).2.1
 refine (ilive_ hr).mono ?_
 rintro e w' ⟨u, L, rfl, hl, hp, hso, hb⟩
 rw [hag.live hp hso] at hl
 obtain ⟨B, c, rfl⟩ := hl.form
 exact ⟨B, c, rfl, hl, hb⟩
theorem saysR_rel {x : Sx} {o : Option Nt} (h : SaysR x o) (h1 : ∀ n y, o = some (n, y) → 1 ≤ n) (s g : Int) : SaysR (relS s g x) (relO s g o) := by
 obtain ⟨a, b⟩ := h
 cases o with
 | none =>
  have a' : x.no = 0 := a
  unfold relS
  rw [if_neg (fun h => h.1 a')]
  exact ⟨a, fun n y e => by cases e⟩
 | some e =>
  obtain ⟨n, y⟩ := e
  have := h1 n y rfl
  have a' : x.no = n := a
  have hy := b n y rfl
  have hs : x.s = y.s := by rw [← hy]; rfl
  have hg : x.g = y.g := by rw [← hy]; rfl
  unfold relS relO
  dsimp only
  rw [hs, hg]
  by_cases hc : (y.s : Int) = s ∧ (y.g : Int) = g
  ·rw [if_pos ⟨by omega, hc⟩, if_pos hc]
   exact ⟨rfl, fun n y e => by cases e⟩
  ·rw [if_neg (fun h => hc h.2), if_neg hc]
   exact ⟨a, b⟩
def RelRet (n r p sb : Nat) (S : List Nat) (a : Ns) (w : World) (e : Ending) (w' : World) : Prop := ∃ k : Int, e = .returned (.int .i64 k) ∧ NdM w' n r p sb S a ∧ Turn (r :: sb :: S) w w'
theorem nrel {w : World} {n r p sb : Nat} {S : List Nat} {a : Ns} (h : NdM w n r p sb S a) (ho : a.Ok) (s g : Int) :
  Calls Tryz.prog 152 #[.pointer (some ⟨r, 0, none⟩), .int .i64 s, .int .i64 g] w (RelRet n r p sb S ⟨a.t, fun k => relO s g (a.R k), a.last, a.boot, a.nw⟩ w) := by
 obtain ⟨X, hr, hs⟩ := h.ex
 refine (irelease s g hr.rb hr.sr).mono ?_
 rintro e w' ⟨rfl, hsr, ht⟩
 have ht' : Turn (r :: sb :: S) w w' := ht.mono (fun k hk => by rw [List.mem_singleton] at hk; subst hk; simp)
 have hu := (h.keepB ht').bytes
 refine ⟨_, rfl, ⟨h.nb.keep (ht'.block n h.nb.lt h.nS), relX s g 16 X, ⟨hr.rb.keep (ht.block r hr.rb.lt (by rw [List.mem_singleton]; exact hr.ne)), hsr, fun k hk => ?_, hr.plt.same ⟨hu, fun k hk => ht.block k (hr.plt.lt k hk) (by
   rw [List.mem_singleton]
   rintro rfl
   exact hr.sS hk)⟩⟩, fun k hk => ?_⟩, ht'⟩
 ·have e : relX s g 16 X k = relS s g (X k) := by unfold relX; rw [if_pos hk]
  rw [e]
  unfold relS
  split
  ·exact SxOk.z
  ·exact (hr.ok k hk).keep hu
 ·have e : relX s g 16 X k = relS s g (X k) := by unfold relX; rw [if_pos hk]
  rw [e]
  exact saysR_rel (hs k hk) (fun m y e => (ho.rs k m y hk e).1) s g
def FlRet (n r p sb : Nat) (S : List Nat) (a : Ns) (w : World) (e : Ending) (w' : World) : Prop := ∃ S', e = .returned (.tuple #[]) ∧ NdM w' n r p sb S' a ∧ Turn (r :: sb :: S) w w' ∧ ∀ j ∈ S', j ∈ S ∨ w.heap.size ≤ j
theorem nflush {w : World} {n r p sb : Nat} {S : List Nat} {a : Ns} (h : NdM w n r p sb S a) :
  Calls Tryz.prog 150 #[.pointer (some ⟨p, 0, none⟩)] w (FlRet n r p sb S ⟨a.t.flush, a.R, a.last, a.boot, a.nw⟩ w) := by
 refine (dflush h.plt).mono ?_
 rintro e w' ⟨S', rfl, hp, ht⟩
 rw [← disk_flush] at hp
 exact ⟨S', rfl, h.disk ht.turn hp, turn_in ht.turn, ht.blocks⟩
end Go.Proofs.YtobkmohoepgfmaaGreatDoor
