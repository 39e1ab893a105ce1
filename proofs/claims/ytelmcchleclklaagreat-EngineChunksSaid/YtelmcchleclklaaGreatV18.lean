import Derived.Test.YtelmcchleclklaaGreatV17
namespace Go.Proofs.YtelmcchleclklaaGreat
open Go.RowKit Go.Sort
set_option maxRecDepth 100000
set_option maxHeartbeats 2000000

theorem Rg.set {w : World} {r p sb last b k : Nat} {S : List Nat} {d : Disk} {nw : Nat} {X : Nat → Sx} {cs : Array Value} {t : TypeId} {fr : Nat × Nat} {v : Value} (h : Rg w r p sb last S d nw X) (hb : w.heap[b]? = some (.cells cs t fr)) (h1 : t ≠ 108) (h2 : t ≠ 33) (h3 : t ≠ 110) (h4 : t ≠ 150) (h5 : t ≠ 114) (h6 : t ≠ 5) : Rg (w.setCell ⟨b, k, none⟩ v) r p sb last S d nw X := by
 have hf := h.far hb h1 h2 h3 h4 h5
 have hu : ∀ (g : Nat) (cs : Array Value), w.heap[g]? = some (Obj.cells cs 5 (0, 0)) → (w.setCell ⟨b, k, none⟩ v).heap[g]? = w.heap[g]? := fun g cs' hg => set_other (by
  rintro rfl
  rw [hb] at hg
  cases hg
  exact h6 rfl) _ _
 exact ⟨h.rb.keep (set_other (by rintro rfl; exact hf (by simp)) _ _), h.sr.keep (set_other (by rintro rfl; exact hf (by simp)) _ _), fun j hj => (h.ok j hj).keep hu, h.plt.same ⟨hu, fun j hj => set_other (by rintro rfl; exact hf (by simp [hj])) _ _⟩⟩
def StartRet (n p : Nat) (S : List Nat) (x : Ns) (w : World) (e : Ending) (w' : World) : Prop := ∃ r sb, e = .returned (.tuple #[]) ∧ NdM w' n r p sb S x ∧ Turn [n] w w' ∧ w.heap.size ≤ r ∧ w.heap.size ≤ sb
theorem nstart {w : World} {n p boot nw m : Nat} {S : List Nat} {t : Td} {v1 : Value} (h0 : w.heap[n]? = some (.cells #[.pointer (some ⟨p, 0, none⟩), v1, .int .i64 (boot : Int)] 98 (0, 0))) (hp : Plt w p S 96 t.disk nw) (ht : t.Ok m) (hm : m ≤ 1000000000) (hb : boot ≤ 1000000000) :
  Calls Tryz.prog 42 #[.pointer (some ⟨n, 0, none⟩)] w (StartRet n p S (Ns.start t boot nw) w) := by
 have HOP := Lib.hid (iopen hp (ht.ringOn hm))
 have H0 := Lib.hid h0
 have c0 : w.cell? ⟨n, 0, none⟩ = some (.pointer (some ⟨p, 0, none⟩)) := cell_of_block h0
 have HB := Lib.hid hb
 clear hp ht h0 hb
 go_enter Tryz.func42, Tryz.ntmps42
 go_wp2_with fail
 refine HOP.out.mono ?_
 rintro e w2 ⟨r, sb, X, rfl, hr, hs, hb2, hr1, hr2⟩
 try dsimp only
 have h2 : w2.heap[n]? = some (.cells #[.pointer (some ⟨p, 0, none⟩), v1, .int .i64 (boot : Int)] 98 (0, 0)) := (hb2.block n (heap_lt H0.out)).trans H0.out
 have H2 := Lib.hid h2
 have HR := Lib.hid hr
 have HS := Lib.hid hs
 have HB2 := Lib.hid hb2
 have HR1 := Lib.hid hr1
 have HR2 := Lib.hid hr2
 have d0 : w2.cell? ⟨n, 0, none⟩ = some (.pointer (some ⟨p, 0, none⟩)) := cell_of_block h2
 have d1 : w2.cell? ⟨n, 1, none⟩ = some v1 := cell_of_block h2
 have d2 : w2.cell? ⟨n, 2, none⟩ = some (.int .i64 (boot : Int)) := cell_of_block h2
 have df : ∀ k, w2.frozen? ⟨n, k, none⟩ = false := fun k => free_of_block h2
 have hwp : IntKind.i64.wrap ((boot : Int) + 1) = ((boot + 1 : Nat) : Int) := by rw [IntWalk.i64_in _ (by have := HB.out; omega)]; omega
 obtain ⟨b1, hb1⟩ : ∃ b1, boot + 1 = b1 := ⟨_, rfl⟩
 rw [hb1] at hwp
 have HB1 := Lib.hid hb1
 clear hb1 h2 hr hs hb2 hr1 hr2 HOP c0
 go_wp2_with fail
 go_end0
 have k1 : (w2.setCell ⟨n, 1, none⟩ (.pointer (some ⟨r, 0, none⟩))).heap[n]? = some (.cells #[.pointer (some ⟨p, 0, none⟩), .pointer (some ⟨r, 0, none⟩), .int .i64 (boot : Int)] 98 (0, 0)) := set_block H2.out 1 _
 have k2 : NdB ((w2.setCell ⟨n, 1, none⟩ (.pointer (some ⟨r, 0, none⟩))).setCell ⟨n, 2, none⟩ (.int .i64 (b1 : Int))) n p r b1 := set_block k1 2 _
 have g1 := HR.out.set (k := 1) (v := .pointer (some ⟨r, 0, none⟩)) H2.out (by decide) (by decide) (by decide) (by decide) (by decide) (by decide)
 have g2 := g1.set (k := 2) (v := .int .i64 (b1 : Int)) k1 (by decide) (by decide) (by decide) (by decide) (by decide) (by decide)
 have hbb := HB1.out
 subst hbb
 exact ⟨r, sb, rfl, ⟨k2, X, g2, HS.out⟩, ((Turn.of HB2.out).trans (Turn.set [n] w2 ⟨n, 1, none⟩ _ (by simp))).trans (Turn.set [n] _ ⟨n, 2, none⟩ _ (by simp)), HR1.out, HR2.out⟩
def FallRet (n p : Nat) (S : List Nat) (x : Ns) (w : World) (e : Ending) (w' : World) : Prop :=
 ∃ r sb S', e = .returned (.tuple #[]) ∧ NdM w' n r p sb S' x ∧ Turn (n :: S) w w' ∧ w.heap.size ≤ r ∧ w.heap.size ≤ sb ∧ ∀ j ∈ S', j ∈ S ∨ w.heap.size ≤ j
theorem ncrash {w : World} {n r p sb : Nat} {S : List Nat} {a : Ns} (h : NdM w n r p sb S a) (ho : a.Ok) (A : Option Addr) (xs : List Int) (c : Nat) (hxs : Nums w A xs) (hlen : xs.length ≤ 9223372036854775807) (hw : a.nw ≤ 1000000000) (hl : a.last ≤ 1000000000) (hb : a.boot ≤ 1000000000) :
  Calls Tryz.prog 14 #[.pointer (some ⟨n, 0, none⟩), .slice A xs.length c] w (FallRet n p S (a.crash xs) w) := by
 have HM := Lib.hid (nmade h.nb)
 have HC := Lib.hid (dcrash A xs c h.plt hxs hlen hw)
 have HN := Lib.hid h
 have HO := Lib.hid ho
 have n0 := h.nb.c0
 obtain ⟨m, hm⟩ : ∃ m, xs.length = m := ⟨_, rfl⟩
 rw [hm] at HC ⊢
 clear h ho hxs hlen hm
 go_enter Tryz.func14, Tryz.ntmps14
 go_wp2_with fail
 refine HM.out.mono ?_
 rintro e w' ⟨rfl, hw⟩
 obtain rfl := hw.symm
 go_wp2_with fail
 refine HC.out.mono ?_
 rintro e w2 ⟨S', rfl, hp2, ht2⟩
 try dsimp only
 have hnb := HN.out.nb.keep (ht2.turn.block n HN.out.nb.lt (fun hm => HN.out.nS (by simp [hm])))
 rw [← disk_crash] at hp2
 have HST := Lib.hid (nstart hnb hp2 (HO.out.td.crash _) hl hb)
 have HT2 := Lib.hid ht2
 clear hnb hp2 ht2 HC HM n0
 go_wp2_with fail
 refine HST.out.mono ?_
 rintro e w3 ⟨r', sb', rfl, hn3, ht3, h1, h2⟩
 try dsimp only
 have HN3 := Lib.hid hn3
 have HT3 := Lib.hid ht3
 have H1 := Lib.hid h1
 have H2 := Lib.hid h2
 clear hn3 ht3 h1 h2
 go_wp2_with fail
 go_end0
 have hs := HT2.out.turn.size
 exact ⟨r', sb', S', rfl, HN3.out, (HT2.out.turn.mono (fun k hk => by simp [hk])).trans (HT3.out.mono (fun k hk => by simp at hk; simp [hk])), Nat.le_trans hs H1.out, Nat.le_trans hs H2.out, HT2.out.blocks⟩
def NewRet (w : World) (e : Ending) (w' : World) : Prop := ∃ n r p sb S, e = .returned (.pointer (some ⟨n, 0, none⟩)) ∧ NdM w' n r p sb S Ns.new ∧ Below w.heap.size w w' ∧ ∀ k ∈ n :: r :: p :: sb :: S, w.heap.size ≤ k
theorem nnew (w : World) : Calls Tryz.prog 72 #[] w (NewRet w) := by
 have HN := Lib.hid (dnew_of w 96 96 (by omega) rfl)
 go_enter Tryz.func72, Tryz.ntmps72
 go_wp2_with fail
 refine HN.out.mono ?_
 rintro e w1 ⟨p, S, rfl, hp1, hb1, hS1⟩
 try dsimp only
 obtain ⟨w2, hw2⟩ : ∃ w2, w1.alloc (.cells #[.pointer (some ⟨p, 0, none⟩), .pointer none, .int .i64 0] 98) = w2 := ⟨_, rfl⟩
 have HW2 := Lib.hid hw2
 have hb2 : Below w1.heap.size w1 w2 := by rw [← hw2]; exact (Below.refl _ _).alloc (Nat.le_refl _) _
 have h2 : w2.heap[w1.heap.size]? = some (.cells #[.pointer (some ⟨p, 0, none⟩), .pointer none, .int .i64 ((0 : Nat) : Int)] 98 (0, 0)) := by rw [← hw2]; exact alloc_block w1 _
 have HST := Lib.hid (nstart (t := Td.blank) h2 (hp1.below hb2) (Td.Ok.blank 0) (by omega) (Nat.zero_le _))
 have HB1 := Lib.hid hb1
 have HB2 := Lib.hid hb2
 have HS1 := Lib.hid hS1
 have HPP : Hid (w.heap.size ≤ p) := Lib.hid (hS1 p (by obtain ⟨db, nb, pv, _, _, rfl⟩ := hp1; simp))
 obtain ⟨H, hH⟩ : ∃ H, w1.heap.size = H := ⟨_, rfl⟩
 rw [hH] at HST
 have HH := Lib.hid hH
 clear hw2 hb2 h2 hp1 hb1 hS1 HN hH
 go_upto_region 2 with fail
 rw [HW2.out, HH.out]
 go_wp2_with fail
 refine HST.out.mono ?_
 rintro e w3 ⟨r', sb', rfl, hn3, ht3, h1, h2⟩
 try dsimp only
 have HN3 := Lib.hid hn3
 have HT3 := Lib.hid ht3
 have H1 := Lib.hid h1
 have H2 := Lib.hid h2
 clear hn3 ht3 h1 h2
 go_wp2_with fail
 go_ret
 have s1 := HB1.out.size
 have s2 := HB2.out.size
 have hh := HH.out
 refine ⟨H, r', p, sb', S, rfl, HN3.out, Below.of_turn (HB1.out.trans (HB2.out.mono s1)) HT3.out (fun k hk => by simp at hk; omega) (by omega), fun k hk => ?_⟩
 have a1 := H1.out
 have a2 := H2.out
 have a3 := HPP.out
 simp only [List.mem_cons] at hk
 rcases hk with rfl | rfl | rfl | rfl | hk
 ·omega
 ·omega
 ·omega
 ·omega
 ·exact HS1.out k hk
theorem nplatter {w : World} {n p r boot : Nat} (h : NdB w n p r boot) : Calls Tryz.prog 19 #[.pointer (some ⟨n, 0, none⟩)] w fun e w' => e = .returned (.pointer (some ⟨p, 0, none⟩)) ∧ w' = w := by
 have HM := Lib.hid (nmade h)
 have n0 := h.c0
 clear h
 go_enter Tryz.func19, Tryz.ntmps19
 go_wp2_with fail
 refine HM.out.mono ?_
 rintro e w' ⟨rfl, hw⟩
 obtain rfl := hw.symm
 go_wp2_with fail
 go_ret
 exact ⟨rfl, rfl⟩
theorem nring {w : World} {n p r boot : Nat} (h : NdB w n p r boot) : Calls Tryz.prog 22 #[.pointer (some ⟨n, 0, none⟩)] w fun e w' => e = .returned (.pointer (some ⟨r, 0, none⟩)) ∧ w' = w := by
 have HM := Lib.hid (nmade h)
 have n1 := h.c1
 clear h
 go_enter Tryz.func22, Tryz.ntmps22
 go_wp2_with fail
 refine HM.out.mono ?_
 rintro e w' ⟨rfl, hw⟩
 obtain rfl := hw.symm
 go_wp2_with fail
 go_ret
 exact ⟨rfl, rfl⟩
end Go.Proofs.YtelmcchleclklaaGreat
namespace Go.Proofs.YtelmcchleclklaaGreat
open Go.RowKit Go.Sort
set_option maxRecDepth 100000
set_option maxHeartbeats 2000000

def NdT (t : TypeId) : Prop := t = 98 ∨ t = 108 ∨ t = 33 ∨ t = 110 ∨ t = 150 ∨ t = 114
def NdC (cs : Array Value) (t : TypeId) : Prop := NdT t ∧ (t = 33 → 96 ≤ cs.size)
def KeepN (w w' : World) : Prop := w.heap.size ≤ w'.heap.size ∧ ∀ (k : Nat) (o : Obj), w.heap[k]? = some o → (∀ cs t fr, o = .cells cs t fr → ¬ NdC cs t) → w'.heap[k]? = some o
theorem KeepN.cells {w w' : World} (h : KeepN w w') {k : Nat} {cs : Array Value} {t : TypeId} {fr : Nat × Nat} (hk : w.heap[k]? = some (.cells cs t fr)) (ht : ¬ NdT t) : w'.heap[k]? = w.heap[k]? := (h.2 k _ hk (fun cs' t' fr' e => by cases e; exact fun h => ht h.1)).trans hk.symm
theorem notNd {t : TypeId} (h0 : t ≠ 98) (h1 : t ≠ 108) (h2 : t ≠ 33) (h3 : t ≠ 110) (h4 : t ≠ 150) (h5 : t ≠ 114) : ¬ NdT t := by
 rintro (h | h | h | h | h | h)
 ·exact h0 h
 ·exact h1 h
 ·exact h2 h
 ·exact h3 h
 ·exact h4 h
 ·exact h5 h
theorem KeepN.b {w w' : World} (h : KeepN w w') : KeepB w w' := ⟨h.1, fun g cs t hg ht => h.cells hg (by rcases ht with rfl | rfl | rfl <;> exact notNd (by decide) (by decide) (by decide) (by decide) (by decide) (by decide))⟩
theorem NdM.type {w : World} {n r p sb : Nat} {S : List Nat} {a : Ns} (h : NdM w n r p sb S a) : ∀ k ∈ n :: r :: sb :: S, ∃ cs t, w.heap[k]? = some (.cells cs t (0, 0)) ∧ NdT t := by
 obtain ⟨X, hr, _⟩ := h.ex
 intro k hk
 rw [List.mem_cons, List.mem_cons, List.mem_cons] at hk
 rcases hk with rfl | rfl | rfl | hk
 ·exact ⟨_, _, h.nb, Or.inl rfl⟩
 ·exact ⟨_, _, hr.rb, Or.inr (Or.inr (Or.inr (Or.inr (Or.inl rfl))))⟩
 ·obtain ⟨cs, hc⟩ := hr.sr.type
  exact ⟨_, _, hc, Or.inr (Or.inr (Or.inr (Or.inr (Or.inr rfl))))⟩
 ·obtain ⟨cs, t, hc, ht⟩ := hr.plt.type hk
  exact ⟨cs, t, hc, Or.inr (by rcases ht with h | h | h; exact Or.inl h; exact Or.inr (Or.inl h); exact Or.inr (Or.inr (Or.inl h)))⟩
theorem NdM.typeB {w : World} {n r p sb : Nat} {S : List Nat} {a : Ns} (h : NdM w n r p sb S a) : ∀ k ∈ n :: r :: sb :: S, ∃ cs t, w.heap[k]? = some (.cells cs t (0, 0)) ∧ NdC cs t := by
 intro k hk
 obtain ⟨cs, t, hc, ht⟩ := h.type k hk
 refine ⟨cs, t, hc, ht, fun e => ?_⟩
 obtain ⟨X, hr, _⟩ := h.ex
 rw [List.mem_cons, List.mem_cons, List.mem_cons] at hk
 rcases hk with rfl | rfl | rfl | hk
 ·have := h.nb.symm.trans hc
  cases this
  exact absurd e (by decide)
 ·have := hr.rb.symm.trans hc
  cases this
  exact absurd e (by decide)
 ·obtain ⟨cs', hc'⟩ := hr.sr.type
  have := hc'.symm.trans hc
  cases this
  exact absurd e (by decide)
 ·obtain ⟨db, nb, pv, h1, h2, rfl⟩ := hr.plt
  simp only [List.mem_append, List.mem_cons, List.not_mem_nil, or_false] at hk
  rcases hk with (rfl | rfl | rfl) | hk
  ·have := Eq.trans (Eq.symm h1.head) hc
   cases this
   exact absurd e (by decide)
  ·obtain ⟨cs', h3, h4, _⟩ := h1.rows
   have := h3.symm.trans hc
   cases this
   omega
  ·obtain ⟨cs', h3, h4⟩ := h1.arr
   have := h3.symm.trans hc
   cases this
   omega
  ·obtain ⟨xs, ⟨_, h3⟩, _⟩ := h1.pend
   rcases h3 with ⟨rfl, _⟩ | ⟨g, cap, cur, rfl, _, hh, _⟩
   ·simp [pb] at hk
   ·simp [pb] at hk
    subst hk
    have := hh.symm.trans hc
    cases this
    exact absurd e (by decide)
theorem NdM.keepN {w w' : World} {n r p sb : Nat} {S : List Nat} {a : Ns} (h : NdM w n r p sb S a) (t : Turn (n :: r :: sb :: S) w w') : KeepN w w' := ⟨t.size, fun k o hk ho => (t.block k (heap_lt hk) (fun hm => by
 obtain ⟨cs, ty, hc, ht⟩ := h.typeB k hm
 rw [hk] at hc
 cases hc
 exact ho _ _ _ rfl ht)).trans hk⟩
section
variable {w0 v v' : World} {n p : Nat} {a : Ns}
end
end Go.Proofs.YtelmcchleclklaaGreat
namespace Go.Proofs.YtelmcchleclklaaGreat
open Go.RowKit Go.Sort
set_option maxRecDepth 100000
set_option maxHeartbeats 2000000

structure Wp where
 N : Nat → Ns
 dn : Nat → Bool
 F : List Int
 fuse : Int
 dead : Bool
 sent : Nat
def Wp.setN (s : Wp) (n : Nat) (a : Ns) : Wp := { s with N := fun i => if i = n then a else s.N i }
def Wp.leads (s : Wp) (n : Nat) : Wp × Bool :=
 if (s.dead || s.dn n) = true then (s, false) else if s.fuse = 0 then ({ s with dead := true }, false) else if 0 < s.fuse then ({ s with fuse := s.fuse - 1 }, true) else (s, true)
def Wp.took (s : Wp) : Wp := { s with F := s.F.tail }
def Wp.cnt (s : Wp) : Wp := { s with sent := s.sent + 1 }
def Wp.fate (s : Wp) : Int := s.F.headD 0
def Wp.sendF (s : Wp) (n : Nat) (q : Rq) (f : Int) : Wp × Option (Ns × Rp) :=
 if f = 1 then (s, none) else if f = 2 then (s.setN n ((s.N n).act q).1, none)
 else if f = 3 then (s.setN n (((s.N n).crash []).act q).1, some (((s.N n).crash []).act q)) else (s.setN n ((s.N n).act q).1, some ((s.N n).act q))
def Wp.send (s : Wp) (n : Nat) (q : Rq) : Wp × Option (Ns × Rp) := s.cnt.took.sendF n q s.fate
inductive Ans where
 | err (c : Nat)
 | ok (x : Ns × Rp)
def Wp.tries : Nat → Wp → Nat → Rq → Wp × Ans
 | 0, s, _, _ => (s, .err 5)
 | k + 1, s, n, q => match s.leads n with
  | (s1, false) => (s1, .err 4)
  | (s1, true) => match s1.send n q with
   | (s2, none) => s2.tries k n q
   | (s2, some x) => if x.2.code = 0 then (s2, .ok x) else (s2, .err x.2.code)

structure Wp.Ok (s : Wp) (m : Nat) : Prop where
 ok : ∀ i, i < 8 → (s.N i).Ok
 nw : ∀ i, i < 8 → (s.N i).nw ≤ m
 last : ∀ i, i < 8 → (s.N i).last ≤ m
 boot : ∀ i, i < 8 → (s.N i).boot ≤ m + 1
theorem Wp.Ok.congr {s s' : Wp} {m : Nat} (h : s.Ok m) (e : s'.N = s.N) : s'.Ok m := ⟨by rw [e]; exact h.ok, by rw [e]; exact h.nw, by rw [e]; exact h.last, by rw [e]; exact h.boot⟩
theorem Wp.Ok.mono {s : Wp} {m m' : Nat} (h : s.Ok m) (hm : m ≤ m') : s.Ok m' := ⟨h.ok, fun i hi => Nat.le_trans (h.nw i hi) hm, fun i hi => Nat.le_trans (h.last i hi) hm, fun i hi => by have := h.boot i hi; omega⟩
theorem Wp.Ok.setN {s : Wp} {m n : Nat} {a : Ns} (h : s.Ok m) (h1 : a.Ok) (h2 : a.nw ≤ m) (h3 : a.last ≤ m) (h4 : a.boot ≤ m + 1) : (s.setN n a).Ok m := by
 refine ⟨fun i hi => ?_, fun i hi => ?_, fun i hi => ?_, fun i hi => ?_⟩ <;> unfold Wp.setN <;> dsimp only <;> split
 ·exact h1
 ·exact h.ok i hi
 ·exact h2
 ·exact h.nw i hi
 ·exact h3
 ·exact h.last i hi
 ·exact h4
 ·exact h.boot i hi
theorem Ns.act_boot (a : Ns) (q : Rq) : (a.act q).1.boot = a.boot := by
 unfold Ns.act
 repeat' split
 all_goals first | rfl | (unfold Ns.log; repeat' split) <;> rfl
theorem Ns.crash_boot (a : Ns) (l : List Int) : (a.crash l).boot = a.boot + 1 := rfl
theorem Ns.crash_nw (a : Ns) (l : List Int) : (a.crash l).nw = a.nw := rfl
theorem Wp.Ok.act {s : Wp} {m n : Nat} {q : Rq} (h : s.Ok m) (hn : n < 8) (hD : ∀ j, j < q.n → q.D j < 256) : ((s.N n).act q).1.Ok ∧ ((s.N n).act q).1.nw ≤ m + 1 ∧ ((s.N n).act q).1.last ≤ m + 1 ∧ ((s.N n).act q).1.boot ≤ m + 1 := by
 obtain ⟨a, b, c⟩ := (h.ok n hn).act (q := q) hD
 have := h.nw n hn
 have := h.last n hn
 exact ⟨a, by omega, by omega, by rw [Ns.act_boot]; exact h.boot n hn⟩
theorem Wp.Ok.crash {s : Wp} {m n : Nat} (h : s.Ok m) (hn : n < 8) (l : List Int) : ((s.N n).crash l).Ok ∧ ((s.N n).crash l).nw ≤ m ∧ ((s.N n).crash l).last ≤ m ∧ ((s.N n).crash l).boot ≤ m + 2 := by
 obtain ⟨a, b⟩ := (h.ok n hn).crash l
 have := h.nw n hn
 have := h.last n hn
 have := h.boot n hn
 exact ⟨a, by rw [Ns.crash_nw]; omega, by omega, by rw [Ns.crash_boot]; omega⟩
theorem Wp.Ok.sendF {s : Wp} {m n : Nat} {q : Rq} (h : s.Ok m) (hn : n < 8) (hD : ∀ j, j < q.n → q.D j < 256) (f : Int) : (s.sendF n q f).1.Ok (m + 1) := by
 obtain ⟨a1, a2, a3, a4⟩ := h.act (q := q) hn hD
 obtain ⟨c1, c2, c3, c4⟩ := h.crash hn []
 unfold Wp.sendF
 repeat' split
 ·exact h.mono (by omega)
 ·exact (h.mono (by omega)).setN a1 a2 a3 (by omega)
 ·obtain ⟨b, d, e⟩ := c1.act (q := q) hD
  exact (h.mono (by omega)).setN b (by omega) (by omega) (by rw [Ns.act_boot]; omega)
 ·exact (h.mono (by omega)).setN a1 a2 a3 (by omega)
theorem Wp.Ok.send {s : Wp} {m n : Nat} {q : Rq} (h : s.Ok m) (hn : n < 8) (hD : ∀ j, j < q.n → q.D j < 256) : (s.send n q).1.Ok (m + 1) := (Wp.Ok.congr (s' := s.cnt.took) h rfl).sendF hn hD _
theorem Wp.leads_N (s : Wp) (n : Nat) : (s.leads n).1.N = s.N := by
 unfold Wp.leads
 repeat' split
 all_goals rfl
theorem Wp.Ok.tries {q : Rq} {n : Nat} (hn : n < 8) (hD : ∀ j, j < q.n → q.D j < 256) : ∀ {k m : Nat} {s : Wp}, s.Ok m → (s.tries k n q).1.Ok (m + k)
 | 0, _, _, h => h
 | k + 1, m, s, h => by
  unfold Wp.tries
  have h1 := h.congr (s.leads_N n)
  split
  ·next s1 e => rw [e] at h1; exact h1.mono (by omega)
  ·next s1 e =>
   rw [e] at h1
   have h2 := h1.send (q := q) hn hD
   split
   ·next s2 e2 =>
    rw [e2] at h2
    exact (Wp.Ok.tries hn hD h2).mono (by omega)
   ·next s2 x e2 =>
    rw [e2] at h2
    split
    ·exact h2.mono (by omega)
    ·exact h2.mono (by omega)
def Wp.new : Wp := ⟨fun _ => Ns.new, fun _ => false, [], -1, false, 0⟩
theorem Wp.new_ok : Wp.new.Ok 0 := ⟨fun _ _ => Ns.new_ok.1, fun _ _ => Nat.le_refl _, fun _ _ => Ns.new_ok.2, fun _ _ => Nat.le_refl _⟩
end Go.Proofs.YtelmcchleclklaaGreat
namespace Go.Proofs.YtelmcchleclklaaGreat
open Go.RowKit Go.Sort
set_option maxRecDepth 100000
set_option maxHeartbeats 1000000

def qFl : Rq := ⟨4, 0, 0, 0, 0, fun _ => 0⟩
def qIn : Rq := ⟨5, 0, 0, 0, 0, fun _ => 0⟩
def qGt (s : Nat) : Rq := ⟨1, (s : Int), 0, 0, 0, fun _ => 0⟩
def qRl (s g : Nat) : Rq := ⟨6, (s : Int), (g : Int), 0, 0, fun _ => 0⟩
def qPt (s g i : Nat) (D : Nat → Nat) : Rq := ⟨2, (s : Int), (g : Int), (i : Int), 32, D⟩
def qLg (s g : Nat) (D : Nat → Nat) : Rq := ⟨3, (s : Int), (g : Int), 0, 128, D⟩
theorem fold_far : ∀ (l : List (Nat × Ct)) (D : Nat → Ct) (k : Nat), (∀ e ∈ l, e.1 ≠ k) → (l.foldl updC D) k = D k
 | [], _, _, _ => rfl
 | e :: l, D, k, h => by
  show (l.foldl updC (updC D e)) k = D k
  rw [fold_far l _ k (fun x hx => h x (List.mem_cons_of_mem _ hx))]
  unfold updC
  rw [if_neg (fun ek => h e (List.mem_cons_self ..) ek.symm)]
def Td.Held (t : Td) (k : Nat) (c : Ct) : Prop := t.done k = c ∧ ∀ e ∈ t.pend, e.1 ≠ k
theorem Td.Held.now {t : Td} {k : Nat} {c : Ct} (h : t.Held k c) : t.now k = c := (fold_far t.pend t.done k h.2).trans h.1
theorem Td.Held.write {t : Td} {k j : Nat} {c x : Ct} (h : t.Held k c) (hj : j ≠ k) : (t.write j x).Held k c := ⟨h.1, fun e he => by
 unfold Td.write at he
 rw [List.mem_append, List.mem_singleton] at he
 rcases he with he | rfl
 ·exact h.2 e he
 ·exact hj⟩
theorem Td.held_flush {t : Td} {k : Nat} {c : Ct} (h : t.now k = c) : t.flush.Held k c := ⟨h, fun e he => by cases he⟩
theorem Td.Held.flush {t : Td} {k : Nat} {c : Ct} (h : t.Held k c) : t.flush.Held k c := Td.held_flush h.now
theorem Td.Held.crash {t : Td} {k : Nat} {c : Ct} (h : t.Held k c) (f : Nat → Bool) : (t.crash f).Held k c :=
 ⟨(fold_far _ t.done k (fun e he => h.2 e ((keptC_sub f t.pend 0).subset he))).trans h.1, fun e he => by cases he⟩
theorem Td.now_write_at (t : Td) (k : Nat) (c : Ct) : (t.write k c).now k = c := by
 rw [Td.now_write]
 unfold updC
 rw [if_pos rfl]
theorem Td.now_write_ne (t : Td) {j k : Nat} (c : Ct) (h : j ≠ k) : (t.write j c).now k = t.now k := by
 rw [Td.now_write]
 unfold updC
 rw [if_neg (fun e => h e.symm)]
def Ns.fl (a : Ns) : Ns := ⟨a.t.flush, a.R, a.last, a.boot, a.nw⟩
theorem Ns.act_flush (a : Ns) : a.act qFl = (a.fl, ⟨0, [], []⟩) := by
 unfold Ns.act qFl
 simp [Ns.fl]
def Ns.Wf (a : Ns) : Prop := ∀ k n x, k < 16 → a.R k = some (n, x) → a.t.now (80 + k) = .it n x
theorem Ns.Wf.start (t : Td) (b nw : Nat) : (Ns.start t b nw).Wf := fun _ _ _ _ e => it?_some e
theorem Ns.Wf.crash (a : Ns) (l : List Int) : (a.crash l).Wf := Ns.Wf.start _ _ _
theorem Ns.Wf.new : Ns.new.Wf := Ns.Wf.start _ _ _
theorem atP_lt {q : Rq} (h : q.okP = true) : atP q.pc < 80 := by
 have := (Rq.okP_iff q).1 h
 obtain ⟨h1, h2, h3, h4, h5, h6, h7⟩ := this
 unfold atP Rq.pc
 dsimp only
 omega
theorem free_none {R : Nat → Option Nt} (h : ¬ freeTo R 16 = 16) : freeTo R 16 < 16 ∧ R (freeTo R 16) = none := by
 obtain ⟨a, _, c⟩ := freeTo_spec R 16
 have : freeTo R 16 < 16 := by omega
 exact ⟨this, c this⟩
theorem relO_some {s g : Int} {o : Option Nt} {n : Nat} {x : It} (h : relO s g o = some (n, x)) : o = some (n, x) ∧ ¬ ((x.s : Int) = s ∧ (x.g : Int) = g) := by
 cases o with
 | none => cases h
 | some e =>
  obtain ⟨m, y⟩ := e
  unfold relO at h
  dsimp only at h
  split at h
  ·cases h
  ·next hn =>
   injection h with h
   injection h with h1 h2
   subst h1
   subst h2
   exact ⟨rfl, hn⟩
theorem relO_keep {s g : Int} {n : Nat} {x : It} (h : ¬ ((x.s : Int) = s ∧ (x.g : Int) = g)) : relO s g (some (n, x)) = some (n, x) := by
 unfold relO
 dsimp only
 rw [if_neg h]
theorem Ns.act_cases {P : Ns → Prop} (a : Ns) (q : Rq) (h0 : P a) (h2 : q.k = 2 → q.okP = true → P ⟨a.t.write (atP q.pc) (.pc q.pc), a.R, a.last, a.boot, a.nw + 1⟩)
  (h3 : q.k = 3 → ¬ freeTo a.R 16 = 16 → P ⟨a.t.write (80 + freeTo a.R 16) (.it (a.last + 1) q.it), updR a.R (freeTo a.R 16) (some (a.last + 1, q.it)), a.last + 1, a.boot, a.nw + 1⟩)
  (h4 : P a.fl) (h6 : q.k = 6 → P ⟨a.t, fun k => relO q.s q.g (a.R k), a.last, a.boot, a.nw⟩) : P (a.act q).1 := by
 unfold Ns.act
 split
 ·exact h0
 ·split
  ·next e =>
   split
   ·next e2 => exact h2 e e2
   ·exact h0
  ·split
   ·next e =>
    split
    ·unfold Ns.log
     split
     ·exact h0
     ·split
      ·exact h0
      ·next e3 => exact h3 e e3
    ·exact h0
   ·split
    ·exact h4
    ·split
     ·exact h0
     ·split
      ·next e => exact h6 e
      ·exact h0
theorem Ns.Wf.act {a : Ns} (h : a.Wf) (q : Rq) : (a.act q).1.Wf := by
 refine Ns.act_cases (P := Ns.Wf) a q h (fun _ e k n x hk e2 => ?_) (fun _ e k n x hk e2 => ?_) (fun k n x hk e2 => ?_) (fun _ k n x hk e2 => ?_)
 ·show (a.t.write _ _).now _ = _
  have := atP_lt e
  rw [Td.now_write_ne _ _ (by omega)]
  exact h k n x hk e2
 ·obtain ⟨f1, f2⟩ := free_none e
  show (a.t.write _ _).now _ = _
  have e3 : updR a.R (freeTo a.R 16) (some (a.last + 1, q.it)) k = some (n, x) := e2
  unfold updR at e3
  split at e3
  ·next ek =>
   injection e3 with e3
   injection e3 with e4 e5
   subst e4
   subst e5
   rw [ek]
   exact Td.now_write_at _ _ _
  ·next ek =>
   rw [Td.now_write_ne _ _ (by omega)]
   exact h k n x hk e3
 ·exact h k n x hk e2
 ·exact h k n x hk (relO_some e2).1
def Ns.HasF (a : Ns) (s g i : Nat) : Prop := ∃ D, a.t.Held (2 * s + g % 2) (.pc ⟨s, g, i, D⟩)
theorem Ns.HasF.act {a : Ns} {s g i : Nat} (h : a.HasF s g i) (hs : s < 40) (q : Rq) (hq : q.k = 2 → q.okP = true → atP q.pc ≠ 2 * s + g % 2) : (a.act q).1.HasF s g i := by
 obtain ⟨D, h⟩ := h
 exact Ns.act_cases (P := fun b => b.HasF s g i) a q ⟨D, h⟩ (fun e1 e2 => ⟨D, h.write (hq e1 e2)⟩) (fun _ _ => ⟨D, h.write (by omega)⟩) ⟨D, h.flush⟩ (fun _ => ⟨D, h⟩)
theorem Ns.HasF.crash {a : Ns} {s g i : Nat} (h : a.HasF s g i) (l : List Int) : (a.crash l).HasF s g i := by
 obtain ⟨D, h⟩ := h
 exact ⟨D, h.crash _⟩
def Ns.HasI (a : Ns) (s g : Nat) (D : Nat → Nat) : Prop := ∃ k n x, k < 16 ∧ a.R k = some (n, x) ∧ a.t.Held (80 + k) (.it n x) ∧ x.s = s ∧ x.g = g ∧ ∀ j, j < 128 → x.D j = D j
theorem Ns.HasI.act {a : Ns} {s g : Nat} {D : Nat → Nat} (h : a.HasI s g D) (q : Rq) (hq : q.k = 6 → ¬ (q.s = (s : Int) ∧ q.g = (g : Int))) : (a.act q).1.HasI s g D := by
 obtain ⟨k, n, x, hk, e, h, e1, e2, e3⟩ := h
 refine Ns.act_cases (P := fun b => b.HasI s g D) a q ⟨k, n, x, hk, e, h, e1, e2, e3⟩ (fun _ o => ⟨k, n, x, hk, e, h.write (by have := atP_lt o; omega), e1, e2, e3⟩) (fun _ o => ?_) ⟨k, n, x, hk, e, h.flush, e1, e2, e3⟩ (fun o => ⟨k, n, x, hk, ?_, h, e1, e2, e3⟩)
 ·obtain ⟨f1, f2⟩ := free_none o
  have hne : freeTo a.R 16 ≠ k := fun ek => by rw [ek, e] at f2; cases f2
  refine ⟨k, n, x, hk, ?_, h.write (by omega), e1, e2, e3⟩
  show updR a.R (freeTo a.R 16) _ k = _
  unfold updR
  rw [if_neg (fun ek => hne ek.symm)]
  exact e
 ·show relO q.s q.g (a.R k) = _
  rw [e]
  exact relO_keep (fun ⟨y1, y2⟩ => hq o ⟨by omega, by omega⟩)
theorem Ns.HasI.crash {a : Ns} {s g : Nat} {D : Nat → Nat} (h : a.HasI s g D) (l : List Int) : (a.crash l).HasI s g D := by
 obtain ⟨k, n, x, hk, e, h, e1⟩ := h
 have h2 := h.crash (keepF l)
 refine ⟨k, n, x, hk, ?_, h2, e1⟩
 show ((a.t.crash (keepF l)).now (80 + k)).it? = _
 rw [h2.now]
 rfl
def Ns.LiveI (a : Ns) (s g : Nat) (D : Nat → Nat) : Prop := ∃ k n x, k < 16 ∧ a.R k = some (n, x) ∧ x.s = s ∧ x.g = g ∧ ∀ j, j < 128 → x.D j = D j
theorem Ns.LiveI.fl {a : Ns} {s g : Nat} {D : Nat → Nat} (h : a.LiveI s g D) (hw : a.Wf) : a.fl.HasI s g D := by
 obtain ⟨k, n, x, hk, e, e1⟩ := h
 exact ⟨k, n, x, hk, e, Td.held_flush (hw k n x hk e), e1⟩
theorem updR_at (R : Nat → Option Nt) (k : Nat) (o : Option Nt) : updR R k o k = o := if_pos rfl
theorem Ns.log_live {a : Ns} {x : It} (h : (a.log x).2.code = 0) : ∃ k n y, k < 16 ∧ (a.log x).1.R k = some (n, y) ∧ y.Alike x := by
 by_cases hh : hasR a.R x = true
 ·have e : a.log x = (a, ⟨0, [], []⟩) := by unfold Ns.log; rw [if_pos hh]
  rw [e]
  obtain ⟨k, n, y, h1, h2, h3⟩ := (hasR_iff _ _).1 hh
  exact ⟨k, n, y, h1, h2, h3⟩
 ·by_cases hf : freeTo a.R 16 = 16
  ·have e : a.log x = (a, ⟨6, [], []⟩) := by unfold Ns.log; rw [if_neg hh, if_pos hf]
   rw [e] at h
   exact absurd (show (6 : Nat) = 0 from h) (by decide)
  ·have e : a.log x = (⟨a.t.write (80 + freeTo a.R 16) (.it (a.last + 1) x), updR a.R (freeTo a.R 16) (some (a.last + 1, x)), a.last + 1, a.boot, a.nw + 1⟩, ⟨0, [], []⟩) := by unfold Ns.log; rw [if_neg hh, if_neg hf]
   rw [e]
   obtain ⟨f, hf2⟩ : ∃ f, freeTo a.R 16 = f := ⟨_, rfl⟩
   have h16 : f < 16 := by rw [← hf2]; exact (free_none hf).1
   rw [hf2]
   clear hf hf2 e
   exact ⟨f, a.last + 1, x, h16, updR_at a.R f (some (a.last + 1, x)), rfl, rfl, fun _ _ => rfl⟩
theorem qLg_it (s g : Nat) (D : Nat → Nat) : (qLg s g D).it = ⟨s, g, D⟩ := rfl
theorem qPt_pc (s g i : Nat) (D : Nat → Nat) : (qPt s g i D).pc = ⟨s, g, i, D⟩ := rfl
theorem Ns.act_lg (a : Ns) (s g : Nat) (D : Nat → Nat) : a.act (qLg s g D) = if (qLg s g D).okI then a.log ⟨s, g, D⟩ else (a, ⟨1, [], []⟩) := by
 have hk : (qLg s g D).k = 3 := rfl
 unfold Ns.act
 rw [hk, if_neg (by decide), if_neg (by decide), if_pos rfl, qLg_it]
theorem Ns.act_logged {a : Ns} {s g : Nat} {D : Nat → Nat} (h : (a.act (qLg s g D)).2.code = 0) : (a.act (qLg s g D)).1.LiveI s g D := by
 rw [Ns.act_lg] at h ⊢
 split at h
 ·next ho =>
  rw [if_pos ho]
  obtain ⟨k, n, y, h1, h2, h3, h4, h5⟩ := Ns.log_live h
  exact ⟨k, n, y, h1, h2, h3, h4, h5⟩
 ·exact absurd (show (1 : Nat) = 0 from h) (by decide)
theorem Ns.act_pt (a : Ns) (s g i : Nat) (D : Nat → Nat) : a.act (qPt s g i D) = if (qPt s g i D).okP then (⟨a.t.write (atP ⟨s, g, i, D⟩) (.pc ⟨s, g, i, D⟩), a.R, a.last, a.boot, a.nw + 1⟩, ⟨0, [], []⟩) else (a, ⟨1, [], []⟩) := by
 have hk : (qPt s g i D).k = 2 := rfl
 unfold Ns.act
 rw [hk, if_neg (by decide), if_pos rfl, qPt_pc]
theorem Ns.act_putted {a : Ns} {s g i : Nat} {D : Nat → Nat} (h : (a.act (qPt s g i D)).2.code = 0) : (a.act (qPt s g i D)).1.t.now (2 * s + g % 2) = .pc ⟨s, g, i, D⟩ := by
 rw [Ns.act_pt] at h ⊢
 split at h
 ·next ho =>
  rw [if_pos ho]
  exact Td.now_write_at _ _ _
 ·exact absurd (show (1 : Nat) = 0 from h) (by decide)
end Go.Proofs.YtelmcchleclklaaGreat
