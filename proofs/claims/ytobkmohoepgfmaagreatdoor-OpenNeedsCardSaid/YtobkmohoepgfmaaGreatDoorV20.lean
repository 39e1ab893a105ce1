import Derived.Test.YtobkmohoepgfmaaGreatDoorV19
namespace Go.Proofs.YtobkmohoepgfmaaGreatDoor
open Go.RowKit Go.Sort
set_option maxRecDepth 100000
set_option maxHeartbeats 2000000

theorem Rg.set {w : World} {r p sb last b k : Nat} {S : List Nat} {d : Disk} {nw : Nat} {X : Nat → Sx} {cs : Array Value} {t : TypeId} {fr : Nat × Nat} {v : Value} (h : Rg w r p sb last S d nw X) (hb : w.heap[b]? = some (.cells cs t fr)) (h1 : t ≠ 146) (h2 : t ≠ 36) (h3 : t ≠ 188) (h4 : t ≠ 191) (h5 : t ≠ 194) (h6 : t ≠ 5) : Rg (w.setCell ⟨b, k, none⟩ v) r p sb last S d nw X := by
 have hf := h.far hb h1 h2 h3 h4 h5
 have hu : ∀ (g : Nat) (cs : Array Value), w.heap[g]? = some (Obj.cells cs 5 (0, 0)) → (w.setCell ⟨b, k, none⟩ v).heap[g]? = w.heap[g]? := fun g cs' hg => set_other (by
  rintro rfl
  rw [hb] at hg
  cases hg
  exact h6 rfl) _ _
 exact ⟨h.rb.keep (set_other (by rintro rfl; exact hf (by simp)) _ _), h.sr.keep (set_other (by rintro rfl; exact hf (by simp)) _ _), fun j hj => (h.ok j hj).keep hu, h.plt.same ⟨hu, fun j hj => set_other (by rintro rfl; exact hf (by simp [hj])) _ _⟩⟩
def StartRet (n p : Nat) (S : List Nat) (x : Ns) (w : World) (e : Ending) (w' : World) : Prop := ∃ r sb, e = .returned (.tuple #[]) ∧ NdM w' n r p sb S x ∧ Turn [n] w w' ∧ w.heap.size ≤ r ∧ w.heap.size ≤ sb
theorem nstart {w : World} {n p boot nw m : Nat} {S : List Nat} {t : Td} {v1 : Value} (h0 : w.heap[n]? = some (.cells #[.pointer (some ⟨p, 0, none⟩), v1, .int .i64 (boot : Int)] 96 (0, 0))) (hp : Plt w p S 96 t.disk nw) (ht : t.Ok m) (hm : m ≤ 1000000000) (hb : boot ≤ 1000000000) :
  Calls Tryz.prog 42 #[.pointer (some ⟨n, 0, none⟩)] w (StartRet n p S (Ns.start t boot nw) w) := by
 have HOP := Lib.hid (iopen hp (ht.ringOn hm))
 have H0 := Lib.hid h0
 have c0 : w.cell? ⟨n, 0, none⟩ = some (.pointer (some ⟨p, 0, none⟩)) := cell_of_block h0
 have HB := Lib.hid hb
 clear hp ht h0 hb
 go_enter Tryz.func42, Tryz.ntmps42
 go_wp2_with fail
 refine HOP.out.mono ?_
 rintro e w2 ⟨r, sb, X, rfl, hr, hs, hb2, hr1, hr2⟩
 try dsimp only
 have h2 : w2.heap[n]? = some (.cells #[.pointer (some ⟨p, 0, none⟩), v1, .int .i64 (boot : Int)] 96 (0, 0)) := (hb2.block n (heap_lt H0.out)).trans H0.out
 have H2 := Lib.hid h2
 have HR := Lib.hid hr
 have HS := Lib.hid hs
 have HB2 := Lib.hid hb2
 have HR1 := Lib.hid hr1
 have HR2 := Lib.hid hr2
 have d0 : w2.cell? ⟨n, 0, none⟩ = some (.pointer (some ⟨p, 0, none⟩)) := cell_of_block h2
 have d1 : w2.cell? ⟨n, 1, none⟩ = some v1 := cell_of_block h2
 have d2 : w2.cell? ⟨n, 2, none⟩ = some (.int .i64 (boot : Int)) := cell_of_block h2
 have df : ∀ k, w2.frozen? ⟨n, k, none⟩ = false := fun k => free_of_block h2
 have hwp : IntKind.i64.wrap ((boot : Int) + 1) = ((boot + 1 : Nat) : Int) := by rw [IntWalk.i64_in _ (by have := HB.out; omega)]; omega
 obtain ⟨b1, hb1⟩ : ∃ b1, boot + 1 = b1 := ⟨_, rfl⟩
 rw [hb1] at hwp
 have HB1 := Lib.hid hb1
 clear hb1 h2 hr hs hb2 hr1 hr2 HOP c0
 go_wp2_with fail
 go_end0
 have k1 : (w2.setCell ⟨n, 1, none⟩ (.pointer (some ⟨r, 0, none⟩))).heap[n]? = some (.cells #[.pointer (some ⟨p, 0, none⟩), .pointer (some ⟨r, 0, none⟩), .int .i64 (boot : Int)] 96 (0, 0)) := set_block H2.out 1 _
 have k2 : NdB ((w2.setCell ⟨n, 1, none⟩ (.pointer (some ⟨r, 0, none⟩))).setCell ⟨n, 2, none⟩ (.int .i64 (b1 : Int))) n p r b1 := set_block k1 2 _
 have g1 := HR.out.set (k := 1) (v := .pointer (some ⟨r, 0, none⟩)) H2.out (by decide) (by decide) (by decide) (by decide) (by decide) (by decide)
 have g2 := g1.set (k := 2) (v := .int .i64 (b1 : Int)) k1 (by decide) (by decide) (by decide) (by decide) (by decide) (by decide)
 have hbb := HB1.out
 subst hbb
 exact ⟨r, sb, rfl, ⟨k2, X, g2, HS.out⟩, ((Turn.of HB2.out).trans (Turn.set [n] w2 ⟨n, 1, none⟩ _ (by simp))).trans (Turn.set [n] _ ⟨n, 2, none⟩ _ (by simp)), HR1.out, HR2.out⟩
def FallRet (n p : Nat) (S : List Nat) (x : Ns) (w : World) (e : Ending) (w' : World) : Prop :=
 ∃ r sb S', e = .returned (.tuple #[]) ∧ NdM w' n r p sb S' x ∧ Turn (n :: S) w w' ∧ w.heap.size ≤ r ∧ w.heap.size ≤ sb ∧ ∀ j ∈ S', j ∈ S ∨ w.heap.size ≤ j
theorem ncrash {w : World} {n r p sb : Nat} {S : List Nat} {a : Ns} (h : NdM w n r p sb S a) (ho : a.Ok) (A : Option Addr) (xs : List Int) (c : Nat) (hxs : Nums w A xs) (hlen : xs.length ≤ 9223372036854775807) (hw : a.nw ≤ 1000000000) (hl : a.last ≤ 1000000000) (hb : a.boot ≤ 1000000000) :
  Calls Tryz.prog 110 #[.pointer (some ⟨n, 0, none⟩), .slice A xs.length c] w (FallRet n p S (a.crash xs) w) := by
 have HM := Lib.hid (nmade h.nb)
 have HC := Lib.hid (dcrash A xs c h.plt hxs hlen hw)
 have HN := Lib.hid h
 have HO := Lib.hid ho
 have n0 := h.nb.c0
 obtain ⟨m, hm⟩ : ∃ m, xs.length = m := ⟨_, rfl⟩
 rw [hm] at HC ⊢
 clear h ho hxs hlen hm
 go_enter Tryz.func110, Tryz.ntmps110
 go_wp2_with fail
 refine HM.out.mono ?_
 rintro e w' ⟨rfl, hw⟩
 obtain rfl := hw.symm
 go_wp2_with fail
 refine HC.out.mono ?_
 rintro e w2 ⟨S', rfl, hp2, ht2⟩
 try dsimp only
 have hnb := HN.out.nb.keep (ht2.turn.block n HN.out.nb.lt (fun hm => HN.out.nS (by simp [hm])))
 rw [← disk_crash] at hp2
 have HST := Lib.hid (nstart hnb hp2 (HO.out.td.crash _) hl hb)
 have HT2 := Lib.hid ht2
 clear hnb hp2 ht2 HC HM n0
 go_wp2_with fail
 refine HST.out.mono ?_
 rintro e w3 ⟨r', sb', rfl, hn3, ht3, h1, h2⟩
 try dsimp only
 have HN3 := Lib.hid hn3
 have HT3 := Lib.hid ht3
 have H1 := Lib.hid h1
 have H2 := Lib.hid h2
 clear hn3 ht3 h1 h2
 go_wp2_with fail
 go_end0
 have hs := HT2.out.turn.size
 exact ⟨r', sb', S', rfl, HN3.out, (HT2.out.turn.mono (fun k hk => by simp [hk])).trans (HT3.out.mono (fun k hk => by simp at hk; simp [hk])), Nat.le_trans hs H1.out, Nat.le_trans hs H2.out, HT2.out.blocks⟩
theorem nlose {w : World} {n r p sb : Nat} {S : List Nat} {a : Ns} (h : NdM w n r p sb S a) (hw : a.nw ≤ 1000000000) (hb : a.boot ≤ 1000000000) :
  Calls Tryz.prog 17 #[.pointer (some ⟨n, 0, none⟩)] w (FallRet n p S a.lose w) := by
 have HM := Lib.hid (nmade h.nb)
 have HC := Lib.hid (dwipe h.plt hw)
 have HN := Lib.hid h
 have n0 := h.nb.c0
 clear h
 go_enter Tryz.func17, Tryz.ntmps17
 go_wp2_with fail
 refine HM.out.mono ?_
 rintro e w' ⟨rfl, hw⟩
 obtain rfl := hw.symm
 go_wp2_with fail
 refine HC.out.mono ?_
 rintro e w2 ⟨S', rfl, hp2, ht2⟩
 try dsimp only
 have hnb := HN.out.nb.keep (ht2.turn.block n HN.out.nb.lt (fun hm => HN.out.nS (by simp [hm])))
 have HST := Lib.hid (nstart (t := Td.blank) hnb hp2 (Td.Ok.blank 0) (by omega) hb)
 have HT2 := Lib.hid ht2
 clear hnb hp2 ht2 HC HM n0
 go_wp2_with fail
 refine HST.out.mono ?_
 rintro e w3 ⟨r', sb', rfl, hn3, ht3, h1, h2⟩
 try dsimp only
 have HN3 := Lib.hid hn3
 have HT3 := Lib.hid ht3
 have H1 := Lib.hid h1
 have H2 := Lib.hid h2
 clear hn3 ht3 h1 h2
 go_wp2_with fail
 go_end0
 have hs := HT2.out.turn.size
 exact ⟨r', sb', S', rfl, HN3.out, (HT2.out.turn.mono (fun k hk => by simp [hk])).trans (HT3.out.mono (fun k hk => by simp at hk; simp [hk])), Nat.le_trans hs H1.out, Nat.le_trans hs H2.out, HT2.out.blocks⟩
def NewRet (w : World) (e : Ending) (w' : World) : Prop := ∃ n r p sb S, e = .returned (.pointer (some ⟨n, 0, none⟩)) ∧ NdM w' n r p sb S Ns.new ∧ Below w.heap.size w w' ∧ ∀ k ∈ n :: r :: p :: sb :: S, w.heap.size ≤ k
theorem nnew (w : World) : Calls Tryz.prog 46 #[] w (NewRet w) := by
 have HN := Lib.hid (dnew_of w 96 96 (by omega) rfl)
 go_enter Tryz.func46, Tryz.ntmps46
 go_wp2_with fail
 refine HN.out.mono ?_
 rintro e w1 ⟨p, S, rfl, hp1, hb1, hS1⟩
 try dsimp only
 obtain ⟨w2, hw2⟩ : ∃ w2, w1.alloc (.cells #[.pointer (some ⟨p, 0, none⟩), .pointer none, .int .i64 0] 96) = w2 := ⟨_, rfl⟩
 have HW2 := Lib.hid hw2
 have hb2 : Below w1.heap.size w1 w2 := by rw [← hw2]; exact (Below.refl _ _).alloc (Nat.le_refl _) _
 have h2 : w2.heap[w1.heap.size]? = some (.cells #[.pointer (some ⟨p, 0, none⟩), .pointer none, .int .i64 ((0 : Nat) : Int)] 96 (0, 0)) := by rw [← hw2]; exact alloc_block w1 _
 have HST := Lib.hid (nstart (t := Td.blank) h2 (hp1.below hb2) (Td.Ok.blank 0) (by omega) (Nat.zero_le _))
 have HB1 := Lib.hid hb1
 have HB2 := Lib.hid hb2
 have HS1 := Lib.hid hS1
 have HPP : Hid (w.heap.size ≤ p) := Lib.hid (hS1 p (by obtain ⟨db, nb, pv, _, _, rfl⟩ := hp1; simp))
 obtain ⟨H, hH⟩ : ∃ H, w1.heap.size = H := ⟨_, rfl⟩
 rw [hH] at HST
 have HH := Lib.hid hH
 clear hw2 hb2 h2 hp1 hb1 hS1 HN hH
 go_upto_region 2 with fail
 rw [HW2.out, HH.out]
 go_wp2_with fail
 refine HST.out.mono ?_
 rintro e w3 ⟨r', sb', rfl, hn3, ht3, h1, h2⟩
 try dsimp only
 have HN3 := Lib.hid hn3
 have HT3 := Lib.hid ht3
 have H1 := Lib.hid h1
 have H2 := Lib.hid h2
 clear hn3 ht3 h1 h2
 go_wp2_with fail
 go_ret
 have s1 := HB1.out.size
 have s2 := HB2.out.size
 have hh := HH.out
 refine ⟨H, r', p, sb', S, rfl, HN3.out, Below.of_turn (HB1.out.trans (HB2.out.mono s1)) HT3.out (fun k hk => by simp at hk; omega) (by omega), fun k hk => ?_⟩
 have a1 := H1.out
 have a2 := H2.out
 have a3 := HPP.out
 simp only [List.mem_cons] at hk
 rcases hk with rfl | rfl | rfl | rfl | hk
 ·omega
 ·omega
 ·omega
 ·omega
 ·exact HS1.out k hk
end Go.Proofs.YtobkmohoepgfmaaGreatDoor
namespace Go.Proofs.YtobkmohoepgfmaaGreatDoor
open Go.RowKit Go.Sort
set_option maxRecDepth 100000
set_option maxHeartbeats 2000000

def NdT (t : TypeId) : Prop := t = 96 ∨ t = 146 ∨ t = 36 ∨ t = 188 ∨ t = 191 ∨ t = 194
def NdC (cs : Array Value) (t : TypeId) : Prop := NdT t ∧ (t = 36 → 96 ≤ cs.size)
def KeepN (w w' : World) : Prop := w.heap.size ≤ w'.heap.size ∧ ∀ (k : Nat) (o : Obj), w.heap[k]? = some o → (∀ cs t fr, o = .cells cs t fr → ¬ NdC cs t) → w'.heap[k]? = some o
theorem KeepN.cells {w w' : World} (h : KeepN w w') {k : Nat} {cs : Array Value} {t : TypeId} {fr : Nat × Nat} (hk : w.heap[k]? = some (.cells cs t fr)) (ht : ¬ NdT t) : w'.heap[k]? = w.heap[k]? := (h.2 k _ hk (fun cs' t' fr' e => by cases e; exact fun h => ht h.1)).trans hk.symm
theorem notNd {t : TypeId} (h0 : t ≠ 96) (h1 : t ≠ 146) (h2 : t ≠ 36) (h3 : t ≠ 188) (h4 : t ≠ 191) (h5 : t ≠ 194) : ¬ NdT t := by
 rintro (h | h | h | h | h | h)
 ·exact h0 h
 ·exact h1 h
 ·exact h2 h
 ·exact h3 h
 ·exact h4 h
 ·exact h5 h
theorem KeepN.b {w w' : World} (h : KeepN w w') : KeepB w w' := ⟨h.1, fun g cs t hg ht => h.cells hg (by rcases ht with rfl | rfl | rfl <;> exact notNd (by decide) (by decide) (by decide) (by decide) (by decide) (by decide))⟩
theorem NdM.type {w : World} {n r p sb : Nat} {S : List Nat} {a : Ns} (h : NdM w n r p sb S a) : ∀ k ∈ n :: r :: sb :: S, ∃ cs t, w.heap[k]? = some (.cells cs t (0, 0)) ∧ NdT t := by
 obtain ⟨X, hr, _⟩ := h.ex
 intro k hk
 rw [List.mem_cons, List.mem_cons, List.mem_cons] at hk
 rcases hk with rfl | rfl | rfl | hk
 ·exact ⟨_, _, h.nb, Or.inl rfl⟩
 ·exact ⟨_, _, hr.rb, Or.inr (Or.inr (Or.inr (Or.inr (Or.inl rfl))))⟩
 ·obtain ⟨cs, hc⟩ := hr.sr.type
  exact ⟨_, _, hc, Or.inr (Or.inr (Or.inr (Or.inr (Or.inr rfl))))⟩
 ·obtain ⟨cs, t, hc, ht⟩ := hr.plt.type hk
  exact ⟨cs, t, hc, Or.inr (by rcases ht with h | h | h; exact Or.inl h; exact Or.inr (Or.inl h); exact Or.inr (Or.inr (Or.inl h)))⟩
theorem NdM.typeB {w : World} {n r p sb : Nat} {S : List Nat} {a : Ns} (h : NdM w n r p sb S a) : ∀ k ∈ n :: r :: sb :: S, ∃ cs t, w.heap[k]? = some (.cells cs t (0, 0)) ∧ NdC cs t := by
 intro k hk
 obtain ⟨cs, t, hc, ht⟩ := h.type k hk
 refine ⟨cs, t, hc, ht, fun e => ?_⟩
 obtain ⟨X, hr, _⟩ := h.ex
 rw [List.mem_cons, List.mem_cons, List.mem_cons] at hk
 rcases hk with rfl | rfl | rfl | hk
 ·have := h.nb.symm.trans hc
  cases this
  exact absurd e (by decide)
 ·have := hr.rb.symm.trans hc
  cases this
  exact absurd e (by decide)
 ·obtain ⟨cs', hc'⟩ := hr.sr.type
  have := hc'.symm.trans hc
  cases this
  exact absurd e (by decide)
 ·obtain ⟨db, nb, pv, h1, h2, rfl⟩ := hr.plt
  simp only [List.mem_append, List.mem_cons, List.not_mem_nil, or_false] at hk
  rcases hk with (rfl | rfl | rfl) | hk
  ·have := Eq.trans (Eq.symm h1.head) hc
   cases this
   exact absurd e (by decide)
  ·obtain ⟨cs', h3, h4, _⟩ := h1.rows
   have := h3.symm.trans hc
   cases this
   omega
  ·obtain ⟨cs', h3, h4⟩ := h1.arr
   have := h3.symm.trans hc
   cases this
   omega
  ·obtain ⟨xs, ⟨_, h3⟩, _⟩ := h1.pend
   rcases h3 with ⟨rfl, _⟩ | ⟨g, cap, cur, rfl, _, hh, _⟩
   ·simp [pb] at hk
   ·simp [pb] at hk
    subst hk
    have := hh.symm.trans hc
    cases this
    exact absurd e (by decide)
theorem NdM.keepN {w w' : World} {n r p sb : Nat} {S : List Nat} {a : Ns} (h : NdM w n r p sb S a) (t : Turn (n :: r :: sb :: S) w w') : KeepN w w' := ⟨t.size, fun k o hk ho => (t.block k (heap_lt hk) (fun hm => by
 obtain ⟨cs, ty, hc, ht⟩ := h.typeB k hm
 rw [hk] at hc
 cases hc
 exact ho _ _ _ rfl ht)).trans hk⟩
section
variable {w0 v v' : World} {n p : Nat} {a : Ns}
end
end Go.Proofs.YtobkmohoepgfmaaGreatDoor
namespace Go.Proofs.YtobkmohoepgfmaaGreatDoor
open Go.RowKit Go.Sort
set_option maxRecDepth 100000
set_option maxHeartbeats 2000000

structure Wp where
 N : Nat → Ns
 dn : Nat → Bool
 F : List Int
 fuse : Int
 dead : Bool
 sent : Nat
def Wp.setN (s : Wp) (n : Nat) (a : Ns) : Wp := { s with N := fun i => if i = n then a else s.N i }
def Wp.leads (s : Wp) (n : Nat) : Wp × Bool :=
 if (s.dead || s.dn n) = true then (s, false) else if s.fuse = 0 then ({ s with dead := true }, false) else if 0 < s.fuse then ({ s with fuse := s.fuse - 1 }, true) else (s, true)
def Wp.took (s : Wp) : Wp := { s with F := s.F.tail }
def Wp.cnt (s : Wp) : Wp := { s with sent := s.sent + 1 }
def Wp.fate (s : Wp) : Int := s.F.headD 0
def Wp.sendF (s : Wp) (n : Nat) (q : Rq) (f : Int) : Wp × Option (Ns × Rp) :=
 if f = 1 then (s, none) else if f = 2 then (s.setN n ((s.N n).act q).1, none)
 else if f = 3 then (s.setN n (((s.N n).crash []).act q).1, some (((s.N n).crash []).act q)) else (s.setN n ((s.N n).act q).1, some ((s.N n).act q))
def Wp.send (s : Wp) (n : Nat) (q : Rq) : Wp × Option (Ns × Rp) := s.cnt.took.sendF n q s.fate
inductive Ans where
 | err (c : Nat)
 | ok (x : Ns × Rp)
def Wp.tries : Nat → Wp → Nat → Rq → Wp × Ans
 | 0, s, _, _ => (s, .err 5)
 | k + 1, s, n, q => match s.leads n with
  | (s1, false) => (s1, .err 4)
  | (s1, true) => match s1.send n q with
   | (s2, none) => s2.tries k n q
   | (s2, some x) => if x.2.code = 0 then (s2, .ok x) else (s2, .err x.2.code)

structure Wp.Ok (s : Wp) (m : Nat) : Prop where
 ok : ∀ i, i < 8 → (s.N i).Ok
 nw : ∀ i, i < 8 → (s.N i).nw ≤ m
 last : ∀ i, i < 8 → (s.N i).last ≤ m
 boot : ∀ i, i < 8 → (s.N i).boot ≤ m + 1
theorem Wp.Ok.congr {s s' : Wp} {m : Nat} (h : s.Ok m) (e : s'.N = s.N) : s'.Ok m := ⟨by rw [e]; exact h.ok, by rw [e]; exact h.nw, by rw [e]; exact h.last, by rw [e]; exact h.boot⟩
theorem Wp.Ok.mono {s : Wp} {m m' : Nat} (h : s.Ok m) (hm : m ≤ m') : s.Ok m' := ⟨h.ok, fun i hi => Nat.le_trans (h.nw i hi) hm, fun i hi => Nat.le_trans (h.last i hi) hm, fun i hi => by have := h.boot i hi; omega⟩
theorem Wp.Ok.setN {s : Wp} {m n : Nat} {a : Ns} (h : s.Ok m) (h1 : a.Ok) (h2 : a.nw ≤ m) (h3 : a.last ≤ m) (h4 : a.boot ≤ m + 1) : (s.setN n a).Ok m := by
 refine ⟨fun i hi => ?_, fun i hi => ?_, fun i hi => ?_, fun i hi => ?_⟩ <;> unfold Wp.setN <;> dsimp only <;> split
 ·exact h1
 ·exact h.ok i hi
 ·exact h2
 ·exact h.nw i hi
 ·exact h3
 ·exact h.last i hi
 ·exact h4
 ·exact h.boot i hi
theorem Ns.act_boot (a : Ns) (q : Rq) : (a.act q).1.boot = a.boot := by
 unfold Ns.act
 repeat' split
 all_goals first | rfl | (unfold Ns.log; repeat' split) <;> rfl
theorem Ns.crash_boot (a : Ns) (l : List Int) : (a.crash l).boot = a.boot + 1 := rfl
theorem Ns.crash_nw (a : Ns) (l : List Int) : (a.crash l).nw = a.nw := rfl
theorem Wp.Ok.act {s : Wp} {m n : Nat} {q : Rq} (h : s.Ok m) (hn : n < 8) (hD : ∀ j, j < q.n → q.D j < 256) : ((s.N n).act q).1.Ok ∧ ((s.N n).act q).1.nw ≤ m + 1 ∧ ((s.N n).act q).1.last ≤ m + 1 ∧ ((s.N n).act q).1.boot ≤ m + 1 := by
 obtain ⟨a, b, c⟩ := (h.ok n hn).act (q := q) hD
 have := h.nw n hn
 have := h.last n hn
 exact ⟨a, by omega, by omega, by rw [Ns.act_boot]; exact h.boot n hn⟩
theorem Wp.Ok.crash {s : Wp} {m n : Nat} (h : s.Ok m) (hn : n < 8) (l : List Int) : ((s.N n).crash l).Ok ∧ ((s.N n).crash l).nw ≤ m ∧ ((s.N n).crash l).last ≤ m ∧ ((s.N n).crash l).boot ≤ m + 2 := by
 obtain ⟨a, b⟩ := (h.ok n hn).crash l
 have := h.nw n hn
 have := h.last n hn
 have := h.boot n hn
 exact ⟨a, by rw [Ns.crash_nw]; omega, by omega, by rw [Ns.crash_boot]; omega⟩
theorem Wp.Ok.sendF {s : Wp} {m n : Nat} {q : Rq} (h : s.Ok m) (hn : n < 8) (hD : ∀ j, j < q.n → q.D j < 256) (f : Int) : (s.sendF n q f).1.Ok (m + 1) := by
 obtain ⟨a1, a2, a3, a4⟩ := h.act (q := q) hn hD
 obtain ⟨c1, c2, c3, c4⟩ := h.crash hn []
 unfold Wp.sendF
 repeat' split
 ·exact h.mono (by omega)
 ·exact (h.mono (by omega)).setN a1 a2 a3 (by omega)
 ·obtain ⟨b, d, e⟩ := c1.act (q := q) hD
  exact (h.mono (by omega)).setN b (by omega) (by omega) (by rw [Ns.act_boot]; omega)
 ·exact (h.mono (by omega)).setN a1 a2 a3 (by omega)
theorem Wp.Ok.send {s : Wp} {m n : Nat} {q : Rq} (h : s.Ok m) (hn : n < 8) (hD : ∀ j, j < q.n → q.D j < 256) : (s.send n q).1.Ok (m + 1) := (Wp.Ok.congr (s' := s.cnt.took) h rfl).sendF hn hD _
theorem Wp.leads_N (s : Wp) (n : Nat) : (s.leads n).1.N = s.N := by
 unfold Wp.leads
 repeat' split
 all_goals rfl
theorem Wp.Ok.tries {q : Rq} {n : Nat} (hn : n < 8) (hD : ∀ j, j < q.n → q.D j < 256) : ∀ {k m : Nat} {s : Wp}, s.Ok m → (s.tries k n q).1.Ok (m + k)
 | 0, _, _, h => h
 | k + 1, m, s, h => by
  unfold Wp.tries
  have h1 := h.congr (s.leads_N n)
  split
  ·next s1 e => rw [e] at h1; exact h1.mono (by omega)
  ·next s1 e =>
   rw [e] at h1
   have h2 := h1.send (q := q) hn hD
   split
   ·next s2 e2 =>
    rw [e2] at h2
    exact (Wp.Ok.tries hn hD h2).mono (by omega)
   ·next s2 x e2 =>
    rw [e2] at h2
    split
    ·exact h2.mono (by omega)
    ·exact h2.mono (by omega)
def Wp.new : Wp := ⟨fun _ => Ns.new, fun _ => false, [], -1, false, 0⟩
theorem Wp.new_ok : Wp.new.Ok 0 := ⟨fun _ _ => Ns.new_ok.1, fun _ _ => Nat.le_refl _, fun _ _ => Ns.new_ok.2, fun _ _ => Nat.le_refl _⟩
end Go.Proofs.YtobkmohoepgfmaaGreatDoor
namespace Go.Proofs.YtobkmohoepgfmaaGreatDoor
open Go.RowKit Go.Sort
set_option maxRecDepth 100000
set_option maxHeartbeats 2000000

def FatV (w : World) (v : Value) (F : List Int) : Prop :=
 ∃ A c, v = .slice A F.length c ∧ F.length ≤ c ∧ c ≤ maxLen ∧ (0 < c → ∃ g o row, A = some ⟨g, o, none⟩ ∧ w.heap[g]? = some (.cells row 3 (0, 0)) ∧ o + c ≤ row.size ∧ ∀ (i : Nat) (x : Int), F[i]? = some x → row[o + i]? = some (.int .i64 x))
def fatB (v : Value) : List Nat := match v with | .slice (some a) _ c => if 0 < c then [a.block] else [] | _ => []
theorem FatV.nil (w : World) : FatV w (.slice none 0 0) [] := ⟨none, 0, rfl, Nat.le_refl _, by unfold maxLen; omega, fun h => absurd h (by omega)⟩
theorem FatV.keep {w w' : World} {v : Value} {F : List Int} (h : FatV w v F) (e : ∀ k ∈ fatB v, w'.heap[k]? = w.heap[k]?) : FatV w' v F := by
 obtain ⟨A, c, rfl, h1, h2, h3⟩ := h
 refine ⟨A, c, rfl, h1, h2, fun hc => ?_⟩
 obtain ⟨g, o, row, rfl, r1, r2, r3⟩ := h3 hc
 exact ⟨g, o, row, rfl, (e g (by simp [fatB, hc])).trans r1, r2, r3⟩
theorem FatV.type {w : World} {v : Value} {F : List Int} (h : FatV w v F) : ∀ k ∈ fatB v, ∃ row, w.heap[k]? = some (.cells row 3 (0, 0)) := by
 obtain ⟨A, c, rfl, h1, h2, h3⟩ := h
 intro k hk
 cases A with
 | none => simp [fatB] at hk
 | some a =>
  by_cases hc : 0 < c
  ·obtain ⟨g, o, row, e, r1, r2, r3⟩ := h3 hc
   cases e
   simp [fatB, hc] at hk
   subst hk
   exact ⟨row, r1⟩
  ·simp [fatB, hc] at hk

abbrev whead (P : Nat → Value) (dn : Nat → Bool) (fv : Value) (fuse : Int) (dead : Bool) (sent : Nat) : Array Value :=
 #[P 0, P 1, P 2, P 3, P 4, P 5, P 6, P 7, .bool (dn 0), .bool (dn 1), .bool (dn 2), .bool (dn 3), .bool (dn 4), .bool (dn 5), .bool (dn 6), .bool (dn 7), fv, .int .i64 fuse, .bool dead, .int .i64 (sent : Int)]
def nptr (m : Nat) (nd : Nat → Nat) (i : Nat) : Value := if i < m then .pointer (some ⟨nd i, 0, none⟩) else .pointer none
structure WM (v : World) (g m : Nat) (nd : Nat → Nat) (T : Nat → List Nat) (fv : Value) (s : Wp) : Prop where
 hd : v.heap[g]? = some (.cells (whead (nptr m nd) s.dn fv s.fuse s.dead s.sent) 92 (0, 0))
 fat : FatV v fv s.F
 node : ∀ i, i < m → ∃ r p sb S, NdM v (nd i) r p sb S (s.N i) ∧ (s.N i).Ok ∧ T i = nd i :: r :: p :: sb :: S
 sep : ∀ i j, i < m → j < m → i ≠ j → ∀ k ∈ T i, k ∉ T j
theorem wire_notN : ¬ NdT 92 := notNd (by decide) (by decide) (by decide) (by decide) (by decide) (by decide)
theorem int_notN : ¬ NdT 3 := notNd (by decide) (by decide) (by decide) (by decide) (by decide) (by decide)
section
variable {v v' : World} {g m : Nat} {nd : Nat → Nat} {T : Nat → List Nat} {fv : Value} {s : Wp}
theorem WM.lt (h : WM v g m nd T fv s) : g < v.heap.size := heap_lt h.hd
theorem WM.f (h : WM v g m nd T fv s) (k : Nat) : v.frozen? ⟨g, k, none⟩ = false := free_of_block h.hd
theorem WM.cp (h : WM v g m nd T fv s) {i : Nat} (hi : i < 8) : v.cell? ⟨g, i, none⟩ = some (nptr m nd i) := by
 rw [cell_of_block h.hd]
 rcases (by omega : i = 0 ∨ i = 1 ∨ i = 2 ∨ i = 3 ∨ i = 4 ∨ i = 5 ∨ i = 6 ∨ i = 7) with rfl | rfl | rfl | rfl | rfl | rfl | rfl | rfl <;> rfl
theorem WM.cn (h : WM v g m nd T fv s) {i : Nat} (hi : i < 8) (hm : i < m) : v.cell? ⟨g, i, none⟩ = some (.pointer (some ⟨nd i, 0, none⟩)) := by
 rw [h.cp hi]
 simp [nptr, hm]
theorem WM.cd (h : WM v g m nd T fv s) {i : Nat} (hi : i < 8) : v.cell? ⟨g, 8 + i, none⟩ = some (.bool (s.dn i)) := by
 rw [cell_of_block h.hd]
 rcases (by omega : i = 0 ∨ i = 1 ∨ i = 2 ∨ i = 3 ∨ i = 4 ∨ i = 5 ∨ i = 6 ∨ i = 7) with rfl | rfl | rfl | rfl | rfl | rfl | rfl | rfl <;> rfl
theorem WM.cf (h : WM v g m nd T fv s) : v.cell? ⟨g, 16, none⟩ = some fv := by rw [cell_of_block h.hd]; rfl
theorem WM.cz (h : WM v g m nd T fv s) : v.cell? ⟨g, 17, none⟩ = some (.int .i64 s.fuse) := by rw [cell_of_block h.hd]; rfl
theorem WM.ce (h : WM v g m nd T fv s) : v.cell? ⟨g, 18, none⟩ = some (.bool s.dead) := by rw [cell_of_block h.hd]; rfl
theorem WM.cs (h : WM v g m nd T fv s) : v.cell? ⟨g, 19, none⟩ = some (.int .i64 (s.sent : Int)) := by rw [cell_of_block h.hd]; rfl
theorem WM.Tlt (h : WM v g m nd T fv s) {i : Nat} (hi : i < m) {k : Nat} (hk : k ∈ T i) : k < v.heap.size := by
 obtain ⟨r, p, sb, S, h1, h2, h3⟩ := h.node i hi
 rw [h3] at hk
 have hl := h1.lt
 simp only [List.mem_cons] at hk hl
 rcases hk with rfl | rfl | rfl | rfl | hk
 ·exact hl _ (by simp)
 ·exact hl _ (by simp)
 ·obtain ⟨X, hr, _⟩ := h1.ex
  obtain ⟨db, nb, pv, hp, _, _⟩ := hr.plt
  exact heap_lt hp.head
 ·exact hl _ (by simp)
 ·exact hl _ (by simp [hk])
theorem WM.same (h : WM v g m nd T fv s) (h1 : ∀ k ∈ g :: fatB fv, v'.heap[k]? = v.heap[k]?) (h2 : ∀ i, i < m → ∀ k ∈ T i, v'.heap[k]? = v.heap[k]?) (hb : ∀ (k : Nat) (cs : Array Value), v.heap[k]? = some (Obj.cells cs 5 (0, 0)) → v'.heap[k]? = v.heap[k]?) : WM v' g m nd T fv s :=
 ⟨(h1 g (by simp)).trans h.hd, h.fat.keep (fun k hk => h1 k (by simp [hk])), fun i hi => by
  obtain ⟨r, p, sb, S, q1, q2, q3⟩ := h.node i hi
  exact ⟨r, p, sb, S, q1.keep (fun k hk => h2 i hi k (by rw [q3]; simp at hk ⊢; rcases hk with rfl | rfl | rfl | hk <;> simp [*])) hb, q2, q3⟩, h.sep⟩
theorem WM.fatLt (h : WM v g m nd T fv s) {k : Nat} (hk : k ∈ fatB fv) : k < v.heap.size := by
 obtain ⟨row, hr⟩ := h.fat.type k hk
 exact heap_lt hr
theorem WM.below (h : WM v g m nd T fv s) (b : Below v.heap.size v v') : WM v' g m nd T fv s :=
 h.same (fun k hk => by
  rw [List.mem_cons] at hk
  rcases hk with rfl | hk
  ·exact b.block _ h.lt
  ·exact b.block _ (h.fatLt hk)) (fun i hi k hk => b.block _ (h.Tlt hi hk)) (fun k cs hk => b.block _ (heap_lt hk))
theorem WM.put (h : WM v g m nd T fv s) {fv' : Value} {s' : Wp} (k : Nat) (u : Value) (hN : s'.N = s.N) (hw : (whead (nptr m nd) s.dn fv s.fuse s.dead s.sent).setIfInBounds k u = whead (nptr m nd) s'.dn fv' s'.fuse s'.dead s'.sent) (hf : FatV v fv' s'.F) : WM (v.setCell ⟨g, k, none⟩ u) g m nd T fv' s' := by
 refine ⟨?_, hf.keep (fun j hj => set_other (fun e => ?_) _ _), fun i hi => ?_, h.sep⟩
 ·rw [set_block h.hd, hw]
 ·subst e
  obtain ⟨row, hr⟩ := hf.type j hj
  rw [h.hd] at hr
  injection hr with hr
  injection hr with _ hr
  exact absurd hr (by decide)
 ·obtain ⟨r, p, sb, S, q1, q2, q3⟩ := h.node i hi
  rw [hN]
  exact ⟨r, p, sb, S, q1.set h.hd (by decide) (by decide) (by decide) (by decide) (by decide) (by decide) (by decide), q2, q3⟩
theorem WM.act (h : WM v g m nd T fv s) {i : Nat} (hi : i < m) : ∃ r p sb S, NdM v (nd i) r p sb S (s.N i) ∧ (s.N i).Ok ∧ T i = nd i :: r :: p :: sb :: S ∧ ∀ w' r' sb' S' x, NdM w' (nd i) r' p sb' S' x → x.Ok → Turn (nd i :: r :: sb :: S) v w' → (∀ k ∈ r' :: sb' :: S', k ∈ r :: sb :: S ∨ v.heap.size ≤ k) →
  ∃ T', WM w' g m nd T' fv (s.setN i x) ∧ KeepN v w' ∧ ∀ j, j < m → ∀ k ∈ T' j, k ∈ T j ∨ v.heap.size ≤ k := by
 obtain ⟨r, p, sb, S, h1, h2, h3⟩ := h.node i hi
 refine ⟨r, p, sb, S, h1, h2, h3, fun w' r' sb' S' x n1 n2 t hs => ?_⟩
 have hk := h1.keepN t
 have hT : ∀ k ∈ nd i :: r' :: p :: sb' :: S', k ∈ T i ∨ v.heap.size ≤ k := by
  intro k hk
  rw [h3]
  simp only [List.mem_cons] at hk hs ⊢
  rcases hk with rfl | rfl | rfl | rfl | hk
  ·simp
  ·rcases hs k (by simp) with h | h
   ·exact Or.inl (by rcases h with h | h | h <;> simp [h])
   ·exact Or.inr h
  ·simp
  ·rcases hs k (by simp) with h | h
   ·exact Or.inl (by rcases h with h | h | h <;> simp [h])
   ·exact Or.inr h
  ·rcases hs k (by simp [hk]) with h | h
   ·exact Or.inl (by rcases h with h | h | h <;> simp [h])
   ·exact Or.inr h
 refine ⟨fun j => if j = i then nd i :: r' :: p :: sb' :: S' else T j, ⟨(hk.cells h.hd wire_notN).trans h.hd, h.fat.keep (fun k hk' => by
  obtain ⟨row, hr⟩ := h.fat.type k hk'
  exact hk.cells hr int_notN), fun j hj => ?_, fun a b ha hb hab k hka hkb => ?_⟩, hk, fun j hj k hk' => ?_⟩
 ·by_cases e : j = i
  ·subst e
   simp only [Wp.setN, if_true]
   exact ⟨r', p, sb', S', n1, n2, rfl⟩
  ·obtain ⟨rj, pj, sbj, Sj, q1, q2, q3⟩ := h.node j hj
   simp only [Wp.setN, if_neg e]
   refine ⟨rj, pj, sbj, Sj, q1.keep (fun k hkj => t.block k (q1.lt k hkj) (fun hm => ?_)) hk.b.bytes, q2, q3⟩
   refine h.sep j i hj hi e k (by rw [q3]; simp at hkj ⊢; rcases hkj with rfl | rfl | rfl | hkj <;> simp [*]) ?_
   rw [h3]
   simp at hm ⊢
   rcases hm with rfl | rfl | rfl | hm <;> simp [*]
 ·by_cases e : a = i
  ·rw [if_pos e] at hka
   rw [if_neg (fun e2 => hab (e.trans e2.symm))] at hkb
   rcases hT k hka with hx | hx
   ·exact h.sep i b hi hb (fun e2 => hab (e.trans e2)) k hx hkb
   ·exact absurd (h.Tlt hb hkb) (by omega)
  ·rw [if_neg e] at hka
   by_cases e2 : b = i
   ·rw [if_pos e2] at hkb
    rcases hT k hkb with hx | hx
    ·exact h.sep a i ha hi e k hka hx
    ·exact absurd (h.Tlt ha hka) (by omega)
   ·rw [if_neg e2] at hkb
    exact h.sep a b ha hb hab k hka hkb
 ·replace hk' : k ∈ if j = i then nd i :: r' :: p :: sb' :: S' else T j := hk'
  by_cases e : j = i
  ·rw [if_pos e] at hk'
   subst e
   exact hT k hk'
  ·rw [if_neg e] at hk'
   exact Or.inl hk'
end
end Go.Proofs.YtobkmohoepgfmaaGreatDoor
