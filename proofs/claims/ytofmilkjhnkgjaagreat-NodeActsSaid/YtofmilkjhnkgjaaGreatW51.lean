import Derived.Test.YtofmilkjhnkgjaaGreatW48
import Derived.Test.YtofmilkjhnkgjaaGreatW06
namespace Go.Proofs.YtofmilkjhnkgjaaGreat
open Go.RowKit Go.Sort
set_option maxRecDepth 100000
set_option maxHeartbeats 2000000

/-! Steps whose answer is known. -/
def DoN (w0 : World) (n p : Nat) (b : Ns) (code boot : Int) (lp li : Nat) (v : World) (e : Ending) (w' : World) : Prop :=
  ∃ B c B' c', e = .returned (rpv code boot (.slice B lp c) (.slice B' li c')) ∧ NdL w0 n p b w' ∧ KeepN v w'
theorem nl_step {w0 v : World} {n p : Nat} {a : Ns} (h : NdL w0 n p a v) (q : Rq) (A : Option Addr) (c : Nat) (hd : DatN v A q.n q.D) (hD : ∀ j, j < q.n → q.D j < 256) (hw : a.nw ≤ 1000000000) (hl : a.last ≤ 1000000000) (code boot : Int) (lp li : Nat) (h1 : ((a.act q).2.code : Int) = code) (h2 : ((a.act q).1.boot : Int) = boot) (h3 : (a.act q).2.ps.length = lp) (h4 : (a.act q).2.its.length = li) :
    Calls Tryz.prog 14 #[.pointer (some ⟨n, 0, none⟩), rqv q.k q.s q.g q.i A q.n c] v (DoN w0 n p (a.act q).1 code boot lp li v) := by
  refine (nl_do h q A c hd hD hw hl).mono ?_
  rintro e w' ⟨B, b, B', b', he, hp, hi, hn, hk⟩
  rw [h1, h2, h3, h4] at he
  exact ⟨B, b, B', b', he, hn, hk⟩
theorem rep_f0 (c b : Int) (B C : Option Addr) (m k m2 k2 : Nat) (w : World) : Sem.run Tryz.prog (Instr.field 44 (.agg #[.int .i64 c, .int .i64 b, .slice B m k, .slice C m2 k2]) 0) w = .ok (.int .i64 c) w := by kernel_rfl
theorem rep_f1 (c b : Int) (B C : Option Addr) (m k m2 k2 : Nat) (w : World) : Sem.run Tryz.prog (Instr.field 44 (.agg #[.int .i64 c, .int .i64 b, .slice B m k, .slice C m2 k2]) 1) w = .ok (.int .i64 b) w := by kernel_rfl
theorem rep_f2 (c b : Int) (B C : Option Addr) (m k m2 k2 : Nat) (w : World) : Sem.run Tryz.prog (Instr.field 44 (.agg #[.int .i64 c, .int .i64 b, .slice B m k, .slice C m2 k2]) 2) w = .ok (.slice B m k) w := by kernel_rfl
theorem rep_f3 (c b : Int) (B C : Option Addr) (m k m2 k2 : Nat) (w : World) : Sem.run Tryz.prog (Instr.field 44 (.agg #[.int .i64 c, .int .i64 b, .slice B m k, .slice C m2 k2]) 3) w = .ok (.slice C m2 k2) w := by kernel_rfl
/-- Requests without bytes. -/
def qGet (s : Int) : Rq := ⟨1, s, 0, 0, 0, fun _ => 0⟩
def qFlush : Rq := ⟨4, 0, 0, 0, 0, fun _ => 0⟩
def qInt : Rq := ⟨5, 0, 0, 0, 0, fun _ => 0⟩
def qRel (s g : Int) : Rq := ⟨6, s, g, 0, 0, fun _ => 0⟩
def qPut (s g i : Int) (D : Nat → Nat) : Rq := ⟨2, s, g, i, 32, D⟩
def qLog (s g : Int) (D : Nat → Nat) : Rq := ⟨3, s, g, 0, 128, D⟩
def knA : Ns := (Ns.new.act (qPut 2 1 3 (bytesF 1))).1
def knB : Ns := (knA.act (qGet 2)).1
def knC : Ns := knB.crash []
def knD : Ns := (knC.act (qGet 2)).1
theorem kn_facts : ((Ns.new.act (qPut 2 1 3 (bytesF 1))).2.code = 0 ∧ knA.boot = 1 ∧ (Ns.new.act (qPut 2 1 3 (bytesF 1))).2.ps.length = 0 ∧ (Ns.new.act (qPut 2 1 3 (bytesF 1))).2.its.length = 0) ∧
    ((knA.act (qGet 2)).2.code = 0 ∧ knB.boot = 1 ∧ (knA.act (qGet 2)).2.ps.length = 1 ∧ (knA.act (qGet 2)).2.its.length = 0) ∧
    ((knC.act (qGet 2)).2.code = 0 ∧ knD.boot = 2 ∧ (knC.act (qGet 2)).2.ps.length = 0 ∧ (knC.act (qGet 2)).2.its.length = 0) ∧ knA.nw ≤ 100 ∧ knB.nw ≤ 100 ∧ knC.nw ≤ 100 ∧ knA.last ≤ 100 ∧ knB.last ≤ 100 ∧ knC.last ≤ 100 ∧ knC.boot = 2 := by
  refine ⟨⟨rfl, rfl, rfl, rfl⟩, ⟨rfl, rfl, rfl, rfl⟩, ⟨rfl, rfl, rfl, rfl⟩, ?_, ?_, ?_, ?_, ?_, ?_, rfl⟩ <;> decide
theorem lknown10 (w : World) : Calls Tryz.prog 5 #[] w fun e w' => e = .returned (.bool true) ∧ Below w.heap.size w w' := by
  have hf0 := rep_f0
  have hf2 := rep_f2
  have HN := Lib.hid (nl_new (Below.refl w.heap.size w))
  go_enter Tryz.func5, Tryz.ntmps5
  go_wp2_with fail
  refine HN.out.mono ?_
  rintro e w1 ⟨n, p, rfl, hn1⟩
  try dsimp only
  have HN1 := Lib.hid hn1
  have HBT := Lib.hid (nl_boot hn1)
  rw [show Ns.new.boot = 1 from rfl] at HBT
  have HBY := Lib.hid (cbytes 1 32 32 rfl w1 (by omega))
  clear hn1 HN
  go_wp2_with fail
  refine HBT.out.mono ?_
  rintro e w' ⟨rfl, hw⟩
  obtain rfl := hw.symm
  try dsimp only
  go_wp2_with fail
  refine HBY.out.mono ?_
  rintro e w2 ⟨g2, rfl, k2, b2, _⟩
  try dsimp only
  have HD : Hid (Calls Tryz.prog 14 #[.pointer (some ⟨n, 0, none⟩), rqv 2 2 1 3 (some ⟨g2, 0, none⟩) 32 32] w2 (DoN w n p knA 0 1 0 0 w2)) := Lib.hid (nl_step (HN1.out.below b2) (qPut 2 1 3 (bytesF 1)) (some ⟨g2, 0, none⟩) 32 (DatN.blk k2) (fun j _ => bytesF_lt 1 j) (by decide) (by decide) 0 1 0 0 (by rw [kn_facts.1.1]; rfl) rfl rfl rfl)
  unfold rqv at HD
  clear k2 b2 HBY HBT HN1
  go_wp2_with fail
  refine HD.out.mono ?_
  rintro e w3 ⟨B3, c3, B3', c3', rfl, hn3, _⟩
  unfold rpv
  try dsimp only
  have HE : Hid (Calls Tryz.prog 14 #[.pointer (some ⟨n, 0, none⟩), rqv 1 2 0 0 none 0 0] w3 (DoN w n p knB 0 1 1 0 w3)) := Lib.hid (nl_step hn3 (qGet 2) none 0 DatN.none_ (fun j hj => absurd hj (Nat.not_lt_zero j)) (Nat.le_trans kn_facts.2.2.2.1 (by omega)) (Nat.le_trans kn_facts.2.2.2.2.2.2.1 (by omega)) 0 1 1 0 (by rw [kn_facts.2.1.1]; rfl) rfl rfl rfl)
  unfold rqv at HE
  clear hn3 HD
  go_wp2_with fail
  refine HE.out.mono ?_
  rintro e w4 ⟨B4, c4, B4', c4', rfl, hn4, _⟩
  unfold rpv
  try dsimp only
  have HC : Hid (Calls Tryz.prog 8 #[.pointer (some ⟨n, 0, none⟩), .slice none 0 0] w4 (FallL w n p knC w4)) := Lib.hid (nl_crash0 hn4 (Nat.le_trans kn_facts.2.2.2.2.1 (by omega)) (Nat.le_trans kn_facts.2.2.2.2.2.2.2.1 (by omega)) (by decide))
  clear hn4 HE
  go_wp2_with fail
  refine HC.out.mono ?_
  rintro e w5 ⟨rfl, hn5, _⟩
  try dsimp only
  have HF : Hid (Calls Tryz.prog 14 #[.pointer (some ⟨n, 0, none⟩), rqv 1 2 0 0 none 0 0] w5 (DoN w n p knD 0 2 0 0 w5)) := Lib.hid (nl_step hn5 (qGet 2) none 0 DatN.none_ (fun j hj => absurd hj (Nat.not_lt_zero j)) (Nat.le_trans kn_facts.2.2.2.2.2.1 (by omega)) (Nat.le_trans kn_facts.2.2.2.2.2.2.2.2.1 (by omega)) 0 2 0 0 (by rw [kn_facts.2.2.1.1]; rfl) rfl rfl rfl)
  unfold rqv at HF
  clear hn5 HC
  go_wp2_with fail
  refine HF.out.mono ?_
  rintro e w6 ⟨B6, c6, B6', c6', rfl, hn6, _⟩
  unfold rpv
  try dsimp only
  have HB6 := Lib.hid hn6.blw
  clear hn6 HF
  go_wp2_with fail
  go_ret
  exact ⟨rfl, HB6.out.alloc HB6.out.size _⟩
end Go.Proofs.YtofmilkjhnkgjaaGreat
namespace Go.Proofs.YtofmilkjhnkgjaaGreat
open Go.RowKit Go.Sort
set_option maxRecDepth 100000
set_option maxHeartbeats 1000000

/-- Writes. -/
theorem dwrites {w : World} {p : Nat} {S : List Nat} {N : Nat} {d : Disk} {wr : Nat} (h : Plt w p S N d wr) :
    Calls Tryz.prog 18 #[.pointer (some ⟨p, 0, none⟩)] w fun e w' => e = .returned (.int .i64 (wr : Int)) ∧ w' = w := by
  obtain ⟨db, nb, pv, h1, _, _⟩ := h
  have c1 := h1.c3
  clear h1
  go_enter Tryz.func18, Tryz.ntmps18
  go_wp2_with fail
  go_ret
  exact ⟨rfl, rfl⟩
end Go.Proofs.YtofmilkjhnkgjaaGreat
