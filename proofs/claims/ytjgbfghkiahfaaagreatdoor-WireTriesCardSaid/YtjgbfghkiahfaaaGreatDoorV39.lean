import Derived.Test.YtjgbfghkiahfaaaGreatDoorV27
import Derived.Test.YtjgbfghkiahfaaaGreatDoorV38
namespace Go.Proofs.YtjgbfghkiahfaaaGreatDoor
open Go.RowKit Go.Sort
set_option maxRecDepth 100000
set_option maxHeartbeats 2000000

/-! Steps whose answer is known. -/
def DoN (w0 : World) (n p : Nat) (b : Ns) (code boot : Int) (lp li : Nat) (v : World) (e : Ending) (w' : World) : Prop :=
  ∃ B c B' c', e = .returned (rpv code boot (.slice B lp c) (.slice B' li c')) ∧ NdL w0 n p b w' ∧ KeepN v w'
theorem nl_step {w0 v : World} {n p : Nat} {a : Ns} (h : NdL w0 n p a v) (q : Rq) (A : Option Addr) (c : Nat) (hd : DatN v A q.n q.D) (hD : ∀ j, j < q.n → q.D j < 256) (hw : a.nw ≤ 1000000000) (hl : a.last ≤ 1000000000) (code boot : Int) (lp li : Nat) (h1 : ((a.act q).2.code : Int) = code) (h2 : ((a.act q).1.boot : Int) = boot) (h3 : (a.act q).2.ps.length = lp) (h4 : (a.act q).2.its.length = li) :
    Calls Tryz.prog 55 #[.pointer (some ⟨n, 0, none⟩), rqv q.k q.s q.g q.i A q.n c] v (DoN w0 n p (a.act q).1 code boot lp li v) := by
  refine (nl_do h q A c hd hD hw hl).mono ?_
  rintro e w' ⟨B, b, B', b', he, hp, hi, hn, hk⟩
  rw [h1, h2, h3, h4] at he
  exact ⟨B, b, B', b', he, hn, hk⟩
theorem rep_f0 (c b : Int) (B C : Option Addr) (m k m2 k2 : Nat) (w : World) : Sem.run Tryz.prog (Instr.field 31 (.agg #[.int .i64 c, .int .i64 b, .slice B m k, .slice C m2 k2]) 0) w = .ok (.int .i64 c) w := by kernel_rfl
theorem rep_f1 (c b : Int) (B C : Option Addr) (m k m2 k2 : Nat) (w : World) : Sem.run Tryz.prog (Instr.field 31 (.agg #[.int .i64 c, .int .i64 b, .slice B m k, .slice C m2 k2]) 1) w = .ok (.int .i64 b) w := by kernel_rfl
theorem rep_f2 (c b : Int) (B C : Option Addr) (m k m2 k2 : Nat) (w : World) : Sem.run Tryz.prog (Instr.field 31 (.agg #[.int .i64 c, .int .i64 b, .slice B m k, .slice C m2 k2]) 2) w = .ok (.slice B m k) w := by kernel_rfl
theorem rep_f3 (c b : Int) (B C : Option Addr) (m k m2 k2 : Nat) (w : World) : Sem.run Tryz.prog (Instr.field 31 (.agg #[.int .i64 c, .int .i64 b, .slice B m k, .slice C m2 k2]) 3) w = .ok (.slice C m2 k2) w := by kernel_rfl
/-- Requests without bytes. -/
def qGet (s : Int) : Rq := ⟨1, s, 0, 0, 0, fun _ => 0⟩
def qFlush : Rq := ⟨4, 0, 0, 0, 0, fun _ => 0⟩
def qInt : Rq := ⟨5, 0, 0, 0, 0, fun _ => 0⟩
def qRel (s g : Int) : Rq := ⟨6, s, g, 0, 0, fun _ => 0⟩
def qPut (s g i : Int) (D : Nat → Nat) : Rq := ⟨2, s, g, i, 32, D⟩
def qLog (s g : Int) (D : Nat → Nat) : Rq := ⟨3, s, g, 0, 128, D⟩
def knA : Ns := (Ns.new.act (qPut 2 1 3 (bytesF 1))).1
def knB : Ns := (knA.act (qGet 2)).1
def knC : Ns := knB.crash []
def knD : Ns := (knC.act (qGet 2)).1
theorem kn_facts : ((Ns.new.act (qPut 2 1 3 (bytesF 1))).2.code = 0 ∧ knA.boot = 1 ∧ (Ns.new.act (qPut 2 1 3 (bytesF 1))).2.ps.length = 0 ∧ (Ns.new.act (qPut 2 1 3 (bytesF 1))).2.its.length = 0) ∧
    ((knA.act (qGet 2)).2.code = 0 ∧ knB.boot = 1 ∧ (knA.act (qGet 2)).2.ps.length = 1 ∧ (knA.act (qGet 2)).2.its.length = 0) ∧
    ((knC.act (qGet 2)).2.code = 0 ∧ knD.boot = 2 ∧ (knC.act (qGet 2)).2.ps.length = 0 ∧ (knC.act (qGet 2)).2.its.length = 0) ∧ knA.nw ≤ 100 ∧ knB.nw ≤ 100 ∧ knC.nw ≤ 100 ∧ knA.last ≤ 100 ∧ knB.last ≤ 100 ∧ knC.last ≤ 100 ∧ knC.boot = 2 := by
  refine ⟨⟨rfl, rfl, rfl, rfl⟩, ⟨rfl, rfl, rfl, rfl⟩, ⟨rfl, rfl, rfl, rfl⟩, ?_, ?_, ?_, ?_, ?_, ?_, rfl⟩ <;> decide
end Go.Proofs.YtjgbfghkiahfaaaGreatDoor
namespace Go.Proofs.YtjgbfghkiahfaaaGreatDoor
open Go.RowKit Go.Sort
set_option maxRecDepth 100000
set_option maxHeartbeats 2000000

theorem CallRet.err {w0 v w' : World} {g c : Nat} {nd : Nat → Nat} {n : Int} {x : Wp × Ans} {s2 : Wp} {e : Ending} (h : CallRet w0 v g nd n x e w') (hx : x = (s2, .err c)) :
    ∃ b, e = .returned (.tuple #[rpv 0 0 (.slice none 0 0) (.slice none 0 0), onv b]) ∧ WL w0 w' g nd s2 ∧ KeepW v w' ∧ v.heap.size ≤ b ∧ OnE w' b n (c : Int) := by
  subst hx
  obtain ⟨r, u, rfl, h1, h2, ⟨c', hc, rfl, b, rfl, hb, ho⟩ | ⟨y, hy, _⟩⟩ := h
  · cases hc
    exact ⟨b, rfl, h1, h2, hb, ho⟩
  · cases hy
theorem CallRet.ok {w0 v w' : World} {g : Nat} {nd : Nat → Nat} {n : Int} {x : Wp × Ans} {s2 : Wp} {y : Ns × Rp} {e : Ending} (h : CallRet w0 v g nd n x e w') (hx : x = (s2, .ok y)) :
    ∃ A c A' c', e = .returned (.tuple #[rpv (y.2.code : Int) (y.1.boot : Int) (.slice A y.2.ps.length c) (.slice A' y.2.its.length c'), .nilIface]) ∧ WL w0 w' g nd s2 ∧ KeepW v w' := by
  subst hx
  obtain ⟨r, u, rfl, h1, h2, ⟨c', hc, _⟩ | ⟨y', hy, rfl, A, c, A', c', rfl, _⟩⟩ := h
  · cases hc
  · cases hy
    exact ⟨A, c, A', c', rfl, h1, h2⟩
theorem wl_flushReq (w : World) : Calls Tryz.prog 10 #[] w fun e w' => e = .returned (rqv 4 0 0 0 none 0 0) ∧ Below w.heap.size w w' := by
  obtain ⟨H, hH⟩ : ∃ H, w.heap.size = H := ⟨_, rfl⟩
  have HH := Lib.hid hH
  have q1 : QV (w.alloc (.cells #[.int .i64 4, .int .i64 0, .int .i64 0, .int .i64 0, .slice none 0 0] 38)) H 4 0 0 0 none 0 0 := QV.of_new hH
  have HQ := Lib.hid q1
  clear q1 hH
  go_enter Tryz.func10, Tryz.ntmps10
  go_wp2_with fail
  refine bodyPost_ret (v := rqv 4 0 0 0 none 0 0) ?_ rfl ?_
  · rw [HH.out, results_cell1 rfl]
    simp [HQ.out.load, Result.andThen, asAddr]
  exact ⟨rfl, (Below.refl _ _).alloc (Nat.le_refl _) _⟩
/-- The errors that a law holds. -/
def Ers (w : World) (l : List (Nat × Int × Int)) : Prop := ∀ x ∈ l, OnE w x.1 x.2.1 x.2.2
theorem Ers.nil {w : World} : Ers w [] := fun x hx => by cases hx
theorem Ers.cons {w : World} {l : List (Nat × Int × Int)} {b : Nat} {n c : Int} (h : Ers w l) (o : OnE w b n c) : Ers w ((b, n, c) :: l) := fun x hx => by
  rcases List.mem_cons.1 hx with rfl | hx
  · exact o
  · exact h x hx
theorem Ers.keep {w w' : World} {l : List (Nat × Int × Int)} (h : Ers w l) (k : KeepW w w') : Ers w' l := fun x hx => k.on (h x hx)
theorem Ers.below {w w' : World} {l : List (Nat × Int × Int)} (h : Ers w l) (b : Below w.heap.size w w') : Ers w' l := h.keep (KeepW.of b)
theorem okQ_flush : OkQ 4 0 0 0 0 := by unfold OkQ; omega
theorem okQ_put : OkQ 2 0 0 0 0 := by unfold OkQ; omega
def qNo : Rq := ⟨0, 0, 0, 0, 0, fun _ => 0⟩
def qPut0 : Rq := ⟨2, 0, 0, 0, 0, fun _ => 0⟩
/-- A wire that is neither dead nor bound by a fuse leads to a node that is not down. -/
theorem Wp.leads_free {s : Wp} {n : Nat} (h1 : s.dead = false) (h2 : s.dn n = false) (h3 : s.fuse < 0) : s.leads n = (s, true) := by
  unfold Wp.leads
  rw [h1, h2]
  rw [if_neg (by decide), if_neg (by omega), if_neg (by omega)]
theorem flush_act (a : Ns) : a.act qFlush = (⟨a.t.flush, a.R, a.last, a.boot, a.nw⟩, ⟨0, [], []⟩) := by
  unfold Ns.act qFlush
  simp
theorem wl_call_flush {w0 v : World} {g : Nat} {nd : Nat → Nat} {s : Wp} (h : WL w0 v g nd s) {m : Nat} (ho : s.Ok m) (hbd : s.Bd m) (hm : m ≤ 999999980) {n : Nat} (hn : n < 8) :
    Calls Tryz.prog 9 #[.pointer (some ⟨g, 0, none⟩), .int .i64 (n : Int), rqv 4 0 0 0 none 0 0] v (CallRet w0 v g nd (n : Int) (s.call n qFlush)) :=
  wl_call h ho hbd hm hn qFlush none 0 DatN.none_ (fun _ hj => absurd hj (by show ¬ _ < 0; omega)) okQ_flush
def knW0 : Wp := { Wp.new with F := [1, 1, 1] }
def knW1 : Wp := { Wp.new with sent := 3 }
def knW2 : Wp := { (Wp.new.setN 2 ⟨Ns.new.t.flush, Ns.new.R, Ns.new.last, Ns.new.boot, Ns.new.nw⟩) with sent := 4 }
theorem knW_1 : knW0.call 2 qFlush = (knW1, .err 5) := rfl
theorem knW_2 : knW1.call 2 qFlush = (knW2, .ok (Ns.new.act qFlush)) := by
  unfold Wp.call
  rw [Wp.tries_ok (s1 := knW1) (s2 := knW2) (y := Ns.new.act qFlush) rfl]
  · unfold Wp.send Wp.sendF
    rfl
  · rw [flush_act]
theorem knW_boot : (Ns.new.act qFlush).1.boot = 1 ∧ (Ns.new.act qFlush).2.code = 0 ∧ (Ns.new.act qFlush).2.ps.length = 0 ∧ (Ns.new.act qFlush).2.its.length = 0 := by
  rw [flush_act]
  exact ⟨rfl, rfl, rfl, rfl⟩
theorem Wp.new_bd : Wp.new.Bd 0 := ⟨by decide, by decide, Nat.le_refl _⟩
theorem knW0_ok : knW0.Ok 0 := Wp.Ok.congr Wp.new_ok rfl
theorem knW1_ok : knW1.Ok 3 := (Wp.Ok.congr (s' := knW1) Wp.new_ok rfl).mono (by omega)
end Go.Proofs.YtjgbfghkiahfaaaGreatDoor
namespace Go.Proofs.YtjgbfghkiahfaaaGreatDoor
open Go.RowKit Go.Sort
set_option maxRecDepth 100000
set_option maxHeartbeats 2000000

theorem lit_int (w : World) (cs : List Int) : Nums (w.alloc (.cells (intsV cs).toArray 3)) (some ⟨w.heap.size, 0, none⟩) cs := fun i x hx => by
  refine ⟨w.heap.size, 0, rfl, by simp, ?_⟩
  rw [cell_of_block (alloc_block _ _), Nat.zero_add]
  simp [intsV, hx]
/-- A law's wire, the errors it holds, and the variable errors.errorType. -/
structure LS (w0 : World) (g : Nat) (nd : Nat → Nat) (v : World) (s : Wp) (l : List (Nat × Int × Int)) : Prop where
  wl : WL w0 v g nd s
  er : Ers v l
  ty : ErrType v
section
variable {w0 v v' : World} {g : Nat} {nd : Nat → Nat} {s s' : Wp} {l : List (Nat × Int × Int)}
theorem LS.below (h : LS w0 g nd v s l) (b : Below v.heap.size v v') : LS w0 g nd v' s l := ⟨h.wl.below b, h.er.below b, h.ty.below b h.ty.lt⟩
theorem LS.alloc (h : LS w0 g nd v s l) (o : Obj) (b : Below (v.alloc o).heap.size (v.alloc o) v') : LS w0 g nd v' s l := (h.below ((Below.refl _ _).alloc (Nat.le_refl _) o)).below b
theorem LS.next (h : LS w0 g nd v s l) (hE : ErrType w0) (W : WL w0 v' g nd s') (K : KeepW v v') : LS w0 g nd v' s' l := ⟨W, h.er.keep K, hE.below W.blw hE.lt⟩
theorem LS.more (h : LS w0 g nd v s l) {b : Nat} {n c : Int} (o : OnE v b n c) : LS w0 g nd v s ((b, n, c) :: l) := ⟨h.wl, h.er.cons o, h.ty⟩
theorem LS.code (h : LS w0 g nd v s l) {b : Nat} {n c : Int} (hm : (b, n, c) ∈ l) : Calls Tryz.prog 21 #[onv b] v fun e w' => e = .returned (.int .i64 c) ∧ Below v.heap.size v w' := we_code (h.er _ hm) h.ty
end
/-- Nodes of an error, held against a list of one's own. -/
theorem one_node {w : World} {b : Nat} {n c : Int} (h : OnE w b n c) : Calls Tryz.prog 23 #[onv b] w fun e w' => ∃ A cap, e = .returned (.slice A 1 cap) ∧ Nums w' A [n] ∧ Below w.heap.size w w' := by
  refine (we_nodes h).mono ?_
  rintro e w' ⟨v, rfl, ho, hb⟩
  obtain ⟨A, cap, rfl, _⟩ := own_form ho
  exact ⟨A, cap, rfl, (own_nums ho).1, hb⟩
theorem same_one {w : World} {A : Option Addr} {c1 : Nat} {n : Int} (h : Nums w A [n]) : Calls Tryz.prog 22 #[.slice A 1 c1, .slice (some ⟨w.heap.size, 0, none⟩) 1 1] (w.alloc (.cells #[.int .i64 n] 3)) fun e w' => e = .returned (.bool true) ∧ Below w.heap.size w w' := by
  have hb := (Below.refl w.heap.size w).alloc (Nat.le_refl _) (.cells #[.int .i64 n] 3)
  refine (lsame A _ [n] [n] c1 1 _ (h.keep hb) (lit_int w [n]) (by simp) true ⟨fun _ => rfl, fun _ => rfl⟩).mono ?_
  rintro e w' ⟨rfl, hb'⟩
  exact ⟨rfl, hb.trans (hb'.mono hb.size)⟩
theorem lknown12 (w : World) (hE : ErrType w) : Calls Tryz.prog 7 #[] w fun e w' => e = .returned (.bool true) ∧ Below w.heap.size w w' := by
  have HE := Lib.hid hE
  clear hE
  have q1 := we_eqlNil
  have q2 := we_neqNil
  have q3 := we_eqlNilNil
  have q4 := we_neqNilNil
  go_enter Tryz.func7, Tryz.ntmps7
  go_wp2_with fail
  refine (wl_new (w0 := w) w (Below.refl _ _)).mono ?_
  rintro e w1 ⟨g, nd, rfl, W1, b1⟩
  try dsimp only
  obtain ⟨P, hP⟩ : ∃ P, w1.heap.size = P := ⟨_, rfl⟩
  have HP := Lib.hid hP
  have bb : Below w1.heap.size w1 (w1.alloc (.cells #[.int .i64 1, .int .i64 1, .int .i64 1] 3)) := (Below.refl _ _).alloc (Nat.le_refl _) _
  have HF := Lib.hid (wl_fates (W1.below bb) (by decide) (some ⟨w1.heap.size, 0, none⟩) [1, 1, 1] 3 (lit_int w1 [1, 1, 1]) (by decide) (by decide))
  rw [hP] at HF
  clear hP W1 b1 bb
  go_wp2_with fail
  rw [HP.out]
  refine HF.out.mono ?_
  rintro e w2 ⟨rfl, W2, K2⟩
  try dsimp only
  have HS2 : Hid (LS w g nd w2 knW0 []) := Lib.hid ⟨W2, Ers.nil, HE.out.below W2.blw HE.out.lt⟩
  clear W2 K2 HF HP
  go_wp2_with fail
  refine (wl_flushReq _).mono ?_
  rintro e w3 ⟨rfl, b3⟩
  try dsimp only
  have HS3 := Lib.hid (HS2.out.below b3)
  have HC := Lib.hid (wl_call_flush HS3.out.wl knW0_ok Wp.new_bd (by omega) (n := 2) (by omega))
  unfold rqv at HC
  clear b3
  go_wp2_with fail
  refine HC.out.mono ?_
  rintro e w4 hc
  obtain ⟨b4, rfl, W4, K4, _, o4⟩ := hc.err knW_1
  try dsimp only
  have HS4 := Lib.hid ((HS3.out.next HE.out W4 K4).more o4)
  clear W4 K4 o4 hc HC HS2 HS3
  go_wp2_with fail
  refine (wl_flushReq _).mono ?_
  rintro e w5 ⟨rfl, b5⟩
  try dsimp only
  have HS5 := Lib.hid (HS4.out.alloc _ b5)
  have HC := Lib.hid (wl_call_flush HS5.out.wl knW1_ok (m := 3) ⟨by decide, by decide, Nat.le_refl _⟩ (by omega) (n := 2) (by omega))
  unfold rqv at HC
  clear b5
  go_wp2_with fail
  refine HC.out.mono ?_
  rintro e w6 hc
  obtain ⟨A6, c6, A6', c6', rfl, W6, K6⟩ := hc.ok knW_2
  rw [knW_boot.1, knW_boot.2.1, knW_boot.2.2.1, knW_boot.2.2.2]
  try dsimp only
  have HS6 := Lib.hid (HS5.out.next HE.out W6 K6)
  clear W6 K6 hc HC HS4 HS5
  obtain ⟨P6, hP6⟩ : ∃ P, w6.heap.size = P := ⟨_, rfl⟩
  obtain ⟨w7, hw7⟩ : ∃ w7, w6.alloc (.cells #[.int .i64 0, .int .i64 1, .slice A6 0 c6, .slice A6' 0 c6'] 31) = w7 := ⟨_, rfl⟩
  have HV7 := Lib.hid hw7
  have HP6 := Lib.hid hP6
  have r7 : RV w7 P6 0 1 (.slice A6 0 c6) (.slice A6' 0 c6') := by rw [← hw7]; exact RV.of_new hP6
  have HR7 := Lib.hid r7
  have HS7 := Lib.hid (HS6.out.below (v' := w7) (by rw [← hw7]; exact (Below.refl _ _).alloc (Nat.le_refl _) _))
  clear hP6 hw7 r7
  go_upto_region 7 with fail
  rw [HV7.out, HP6.out]
  go_wp2_with fail
  refine (HS7.out.code (List.mem_cons_self ..)).mono ?_
  rintro e w8 ⟨rfl, b8⟩
  try dsimp only
  have HS8 := Lib.hid (HS7.out.below b8)
  have HR8 := Lib.hid (HR7.out.below b8)
  clear b8 HS6
  go_wp2_with fail
  refine (one_node (HS8.out.er _ (List.mem_cons_self ..))).mono ?_
  rintro e w9 ⟨A9, c9, rfl, n9, b9⟩
  try dsimp only
  have HS9 := Lib.hid (HS8.out.below b9)
  have HR9 := Lib.hid (HR8.out.below b9)
  have HN9 := Lib.hid n9
  clear b9 n9 HS8 HR8
  go_wp2_with fail
  refine (same_one HN9.out).mono ?_
  rintro e wa ⟨rfl, ba⟩
  try dsimp only
  have HSa := Lib.hid (HS9.out.below ba)
  have ra := HR9.out.below ba
  have xa := ra.c1
  have HT := Lib.hid (wl_sent HSa.out.wl)
  clear ba ra HS9 HR9
  go_wp2_with fail
  refine HT.out.mono ?_
  rintro e wb ⟨rfl, hw⟩
  obtain rfl := hw.symm
  try dsimp only
  have hsent : knW2.sent = 4 := rfl
  rw [hsent]
  clear hsent
  go_wp2_with fail
  go_ret
  exact ⟨rfl, HSa.out.wl.blw⟩
end Go.Proofs.YtjgbfghkiahfaaaGreatDoor
namespace Go.Proofs.YtjgbfghkiahfaaaGreatDoor
open Go.RowKit Go.Sort
set_option maxRecDepth 100000
set_option maxHeartbeats 2000000

/-! Logs: how many are live. -/
def cntR (R : Nat → Option Nt) : Nat := (colR R 16).length
theorem colR_upd_le (R : Nat → Option Nt) (k : Nat) (o : Option Nt) : ∀ m, (colR (updR R k o) m).length ≤ (colR R m).length + (if k < m then 1 else 0)
  | 0 => Nat.zero_le _
  | m + 1 => by
    have ih := colR_upd_le R k o m
    unfold colR
    rw [List.length_append, List.length_append]
    by_cases e : m = k
    · subst e
      rw [if_neg (by omega)] at ih
      rw [if_pos (by omega)]
      have : (updR R m o m).toList.length ≤ 1 := by cases updR R m o m <;> simp
      omega
    · have e2 : updR R k o m = R m := by unfold updR; rw [if_neg e]
      rw [e2]
      split at ih
      · rw [if_pos (by omega)]; omega
      · rw [if_neg (by omega)]; omega
theorem colR_full (R : Nat → Option Nt) : ∀ m, (∀ j, j < m → R j ≠ none) → (colR R m).length = m
  | 0, _ => rfl
  | m + 1, h => by
    unfold colR
    rw [List.length_append, colR_full R m (fun j hj => h j (by omega))]
    cases e : R m with
    | none => exact absurd e (h m (by omega))
    | some x => rfl
theorem colR_none (R : Nat → Option Nt) : ∀ m, (∀ j, j < m → R j = none) → colR R m = []
  | 0, _ => rfl
  | m + 1, h => by
    unfold colR
    rw [colR_none R m (fun j hj => h j (by omega)), h m (by omega)]
    rfl
theorem cnt_pos {R : Nat → Option Nt} {x : It} (h : hasR R x = true) : 1 ≤ cntR R := by
  obtain ⟨k, n, y, hk, e, _⟩ := (hasR_iff R x).1 h
  have : (n, y) ∈ colR R 16 := colR_mem.2 ⟨k, hk, e⟩
  unfold cntR
  exact List.length_pos_of_mem this
def msr (R : Nat → Option Nt) (x : It) : Nat := cntR R + (if hasR R x = true then 0 else 1)
theorem cnt_msr (R : Nat → Option Nt) (x : It) : cntR R ≤ msr R x := Nat.le_add_right _ _
theorem msr_le (R : Nat → Option Nt) (x : It) : msr R x ≤ cntR R + 1 := by
  unfold msr
  split <;> omega
/-- Nothing of the node's disk is flushed; its ring has room enough for x. -/
structure Sm (a : Ns) (x : It) (M : Nat) : Prop where
  done : a.t.done = fun _ => .no
  le : msr a.R x ≤ M
theorem hasR_new (R : Nat → Option Nt) (k n : Nat) (x : It) (hk : k < 16) : hasR (updR R k (some (n, x))) x = true :=
  (hasR_iff _ _).2 ⟨k, n, x, hk, by unfold updR; rw [if_pos rfl], ⟨rfl, rfl, fun _ _ => rfl⟩⟩
theorem Sm.log {a : Ns} {x : It} {M : Nat} (h : Sm a x M) (hM : M ≤ 16) : (a.log x).2.code = 0 ∧ hasR (a.log x).1.R x = true ∧ Sm (a.log x).1 x M := by
  unfold Ns.log
  by_cases hh : hasR a.R x = true
  · rw [if_pos hh]
    exact ⟨rfl, hh, h⟩
  · rw [if_neg hh]
    have hm := h.le
    unfold msr at hm
    rw [if_neg hh] at hm
    have hf : ¬ freeTo a.R 16 = 16 := by
      intro e
      obtain ⟨_, h2, _⟩ := freeTo_spec a.R 16
      rw [e] at h2
      have := colR_full a.R 16 h2
      unfold cntR at hm
      omega
    rw [if_neg hf]
    have hlt : freeTo a.R 16 < 16 := by have := (freeTo_spec a.R 16).1; omega
    have hn := hasR_new a.R (freeTo a.R 16) (a.last + 1) x hlt
    refine ⟨rfl, hn, ⟨h.done, ?_⟩⟩
    show msr (updR a.R (freeTo a.R 16) (some (a.last + 1, x))) x ≤ M
    unfold msr
    rw [if_pos hn]
    have := colR_upd_le a.R (freeTo a.R 16) (some (a.last + 1, x)) 16
    rw [if_pos hlt] at this
    unfold cntR at hm ⊢
    omega
theorem keepF_nil (i : Nat) : keepF [] i = false := by simp [keepF]
theorem keptC_no : ∀ (l : List (Nat × Ct)) (i : Nat), keptC (keepF []) i l = []
  | [], _ => rfl
  | e :: l, i => by
    unfold keptC
    rw [keepF_nil]
    exact keptC_no l (i + 1)
theorem crash_blank {a : Ns} (h : a.t.done = fun _ => .no) : (a.crash []).t.done = (fun _ => .no) ∧ ∀ k, (a.crash []).R k = none := by
  have e : (a.t.crash (keepF [])) = Td.blank := by
    unfold Td.crash
    rw [keptC_no, h]
    rfl
  unfold Ns.crash Ns.start
  rw [e]
  exact ⟨rfl, fun k => rfl⟩
theorem Sm.crash {a : Ns} {x : It} {M : Nat} (h : Sm a x M) (hM : 1 ≤ M) : Sm (a.crash []) x M := by
  obtain ⟨h1, h2⟩ := crash_blank h.done
  refine ⟨h1, Nat.le_trans (msr_le _ _) ?_⟩
  unfold cntR
  rw [colR_none _ 16 (fun j _ => h2 j)]
  simpa using hM
theorem log_act {a : Ns} {q : Rq} (hk : q.k = 3) (hq : q.okI = true) : a.act q = a.log q.it := by
  unfold Ns.act
  rw [hk, if_neg (by decide), if_neg (by decide), if_pos rfl, hq, if_pos rfl]
/-- What a Call of a Log leaves. -/
structure LogRet' (s s' : Wp) (n : Nat) (x : It) (M : Nat) : Prop where
  sm : Sm (s'.N n) x M
  oth : ∀ j, j ≠ n → s'.N j = s.N j
  dead : s'.dead = false
  dn : s'.dn = s.dn
  fuse : s'.fuse = s.fuse
  len : s'.F.length ≤ s.F.length
theorem tries_log {n : Nat} {q : Rq} {x : It} {M : Nat} (hk : q.k = 3) (hq : q.okI = true) (hx : q.it = x) (hM : 1 ≤ M) (hM2 : M ≤ 16) : ∀ (k : Nat) (s : Wp), s.dead = false → s.dn n = false → s.fuse < 0 → Sm (s.N n) x M →
    LogRet' s (s.tries k n q).1 n x M ∧ (((s.tries k n q).2 = .err 5 ∧ (s.tries k n q).1.sent = s.sent + k) ∨ ∃ y, (s.tries k n q).2 = .ok y ∧ hasR ((s.tries k n q).1.N n).R x = true ∧ s.sent + 1 ≤ (s.tries k n q).1.sent ∧ (s.tries k n q).1.sent ≤ s.sent + k)
  | 0, s, h1, _, _, h4 => ⟨⟨h4, fun _ _ => rfl, h1, rfl, rfl, Nat.le_refl _⟩, Or.inl ⟨rfl, rfl⟩⟩
  | k + 1, s, h1, h2, h3, h4 => by
    have hl := Wp.leads_free h1 h2 h3
    have ht : s.F.tail.length ≤ s.F.length := by rw [List.length_tail]; omega
    have hlog := h4.log hM2
    rw [← hx] at hlog
    rw [← log_act (a := s.N n) hk hq, hx] at hlog
    have hcr := (h4.crash hM).log hM2
    rw [← hx] at hcr
    rw [← log_act (a := (s.N n).crash []) hk hq, hx] at hcr
    by_cases e1 : s.fate = 1
    · have hs : s.send n q = (s.cnt.took, none) := by unfold Wp.send Wp.sendF; rw [if_pos e1]
      rw [Wp.tries_none hl hs]
      obtain ⟨a, b⟩ := tries_log hk hq hx hM hM2 k s.cnt.took h1 h2 h3 h4
      refine ⟨⟨a.sm, a.oth, a.dead, a.dn, a.fuse, Nat.le_trans a.len ht⟩, ?_⟩
      have hc : s.cnt.took.sent = s.sent + 1 := rfl
      rw [hc] at b
      rcases b with ⟨b1, b2⟩ | ⟨y, b1, b2, b3, b4⟩
      · exact Or.inl ⟨b1, by omega⟩
      · exact Or.inr ⟨y, b1, b2, by omega, by omega⟩
    · by_cases e2 : s.fate = 2
      · have hs : s.send n q = (s.cnt.took.setN n ((s.N n).act q).1, none) := by unfold Wp.send Wp.sendF; rw [if_neg e1, if_pos e2]; rfl
        rw [Wp.tries_none hl hs]
        obtain ⟨a, b⟩ := tries_log hk hq hx hM hM2 k (s.cnt.took.setN n ((s.N n).act q).1) h1 h2 h3 (by rw [Wp.setN_at]; exact hlog.2.2)
        refine ⟨⟨a.sm, fun j hj => (a.oth j hj).trans (by show (if j = n then _ else s.N j) = _; rw [if_neg hj]), a.dead, a.dn, a.fuse, Nat.le_trans a.len ht⟩, ?_⟩
        have hc : (s.cnt.took.setN n ((s.N n).act q).1).sent = s.sent + 1 := rfl
        rw [hc] at b
        rcases b with ⟨b1, b2⟩ | ⟨y, b1, b2, b3, b4⟩
        · exact Or.inl ⟨b1, by omega⟩
        · exact Or.inr ⟨y, b1, b2, by omega, by omega⟩
      · by_cases e3 : s.fate = 3
        · have hs : s.send n q = (s.cnt.took.setN n (((s.N n).crash []).act q).1, some (((s.N n).crash []).act q)) := by unfold Wp.send Wp.sendF; rw [if_neg e1, if_neg e2, if_pos e3]; rfl
          rw [Wp.tries_ok hl hs hcr.1]
          refine ⟨⟨by rw [Wp.setN_at]; exact hcr.2.2, fun j hj => by show (if j = n then _ else s.N j) = _; rw [if_neg hj], h1, rfl, rfl, ht⟩, Or.inr ⟨_, rfl, by rw [Wp.setN_at]; exact hcr.2.1, by show s.sent + 1 ≤ s.sent + 1; omega, by show s.sent + 1 ≤ _; omega⟩⟩
        · have hs : s.send n q = (s.cnt.took.setN n ((s.N n).act q).1, some ((s.N n).act q)) := by unfold Wp.send Wp.sendF; rw [if_neg e1, if_neg e2, if_neg e3]; rfl
          rw [Wp.tries_ok hl hs hlog.1]
          refine ⟨⟨by rw [Wp.setN_at]; exact hlog.2.2, fun j hj => by show (if j = n then _ else s.N j) = _; rw [if_neg hj], h1, rfl, rfl, ht⟩, Or.inr ⟨_, rfl, by rw [Wp.setN_at]; exact hlog.2.1, by show s.sent + 1 ≤ s.sent + 1; omega, by show s.sent + 1 ≤ _; omega⟩⟩
/-- Is x among those that are told? -/
theorem has_live (R : Nat → Option Nt) (x : It) : hasR R x = true ↔ ∃ y ∈ (liveT R).map (·.2), x.Alike y := by
  rw [hasR_iff]
  constructor
  · rintro ⟨k, n, y, hk, e, ha⟩
    refine ⟨y, List.mem_map.2 ⟨(n, y), (liveT_perm R).mem_iff.2 (colR_mem.2 ⟨k, hk, e⟩), rfl⟩, ha.1.symm, ha.2.1.symm, fun j hj => (ha.2.2 j hj).symm⟩
  · rintro ⟨y, hy, ha⟩
    obtain ⟨⟨n, y'⟩, hm, rfl⟩ := List.mem_map.1 hy
    obtain ⟨k, hk, e⟩ := colR_mem.1 ((liveT_perm R).mem_iff.1 hm)
    exact ⟨k, n, _, hk, e, ha.1.symm, ha.2.1.symm, fun j hj => (ha.2.2 j hj).symm⟩
theorem new_cnt : cntR Ns.new.R = 0 ∧ Ns.new.t.done = fun _ => .no := ⟨by unfold cntR; rw [colR_none Ns.new.R 16 (fun j _ => rfl)]; rfl, rfl⟩
end Go.Proofs.YtjgbfghkiahfaaaGreatDoor
