import Derived.Test.YtjgbfghkiahfaaaGreatDoorV39
import Derived.Test.YtjgbfghkiahfaaaGreatDoorV40
import Derived.Test.YtjgbfghkiahfaaaGreatDoorV08
namespace Go.Proofs.YtjgbfghkiahfaaaGreatDoor
open Go.RowKit Go.Sort
set_option maxRecDepth 100000
set_option maxHeartbeats 4000000

/-- A law's state, and what it keeps beside. -/
structure LX (w0 : World) (g : Nat) (nd : Nat → Nat) (v : World) (s : Wp) (l : List (Nat × Int × Int)) (Q : World → Prop) : Prop where
  ls : LS w0 g nd v s l
  q : Q v
  k : ∀ a b : World, KeepW a b → Q a → Q b
section
variable {w0 v v' : World} {g : Nat} {nd : Nat → Nat} {s s' : Wp} {l : List (Nat × Int × Int)} {Q : World → Prop}
theorem LX.below (h : LX w0 g nd v s l Q) (b : Below v.heap.size v v') : LX w0 g nd v' s l Q := ⟨h.ls.below b, h.k _ _ (KeepW.of b) h.q, h.k⟩
theorem LX.alloc (h : LX w0 g nd v s l Q) (o : Obj) (b : Below (v.alloc o).heap.size (v.alloc o) v') : LX w0 g nd v' s l Q := (h.below ((Below.refl _ _).alloc (Nat.le_refl _) o)).below b
theorem LX.next (h : LX w0 g nd v s l Q) (hE : ErrType w0) (W : WL w0 v' g nd s') (K : KeepW v v') : LX w0 g nd v' s' l Q := ⟨h.ls.next hE W K, h.k _ _ K h.q, h.k⟩
theorem LX.more (h : LX w0 g nd v s l Q) {b : Nat} {n c : Int} (o : OnE v b n c) : LX w0 g nd v s ((b, n, c) :: l) Q := ⟨h.ls.more o, h.q, h.k⟩
theorem LX.code (h : LX w0 g nd v s l Q) {b : Nat} {n c : Int} (hm : (b, n, c) ∈ l) : Calls Tryz.prog 21 #[onv b] v fun e w' => e = .returned (.int .i64 c) ∧ Below v.heap.size v w' := h.ls.code hm
theorem LX.keeps (h : LX w0 g nd v s l Q) {R : World → Prop} (hr : R v) (k : ∀ a b : World, KeepW a b → R a → R b) : LX w0 g nd v s l (fun x => Q x ∧ R x) := ⟨h.ls, ⟨h.q, hr⟩, fun a b x y => ⟨h.k a b x y.1, k a b x y.2⟩⟩
theorem LX.wl (h : LX w0 g nd v s l Q) : WL w0 v g nd s := h.ls.wl
end
theorem KeepW.qvd {a b : World} (h : KeepW a b) {P : Nat} {k s g i : Int} {A : Option Addr} {m c : Nat} {D : Nat → Nat} (q : QV a P k s g i A m c ∧ DatN a A m D) : QV b P k s g i A m c ∧ DatN b A m D := ⟨h.qv q.1, h.b.datN q.2⟩
def qLogK : Rq := ⟨3, 0, 1, 0, 128, bytesF 1⟩
theorem qLogK_ok : OkQ qLogK.k qLogK.s qLogK.g qLogK.i qLogK.n ∧ qLogK.okI = true := by
  unfold OkQ qLogK
  exact ⟨by dsimp only; omega, by decide⟩
/-- How many intents are live at a node. -/
theorem wl_livelen {w0 v : World} {g : Nat} {nd : Nat → Nat} {s : Wp} (h : WL w0 v g nd s) {n : Nat} (hn : n < 8) {m : Nat} (hm : cntR (s.N n).R = m) : ∃ r, Calls Tryz.prog 15 #[.pointer (some ⟨nd n, 0, none⟩)] v (fun e w' => e = .returned (.pointer (some ⟨r, 0, none⟩)) ∧ w' = v) ∧ Calls Tryz.prog 16 #[.pointer (some ⟨r, 0, none⟩)] v (fun e w' => (∃ A c, e = .returned (.slice A m c)) ∧ Below v.heap.size v w') := by
  obtain ⟨r, h1, h2⟩ := wl_live h hn
  refine ⟨r, h1, (h2 v (Below.refl _ _)).mono ?_⟩
  rintro e w' ⟨B, c, rfl, _, hb⟩
  have hl : ((liveT (s.N n).R).map (·.2)).length = m := by rw [List.length_map, liveT_len]; exact hm
  exact ⟨⟨B, c, by rw [hl]⟩, hb⟩
theorem wireKnown (w : World) (hE : ErrType w) : Calls Tryz.prog 3 #[] w fun e w' => e = .returned (.bool true) ∧ Below w.heap.size w w' := by
  have HE := Lib.hid hE
  clear hE
  have q1 := we_eqlNil
  have q2 := we_neqNil
  have q3 := we_eqlNilNil
  have q4 := we_neqNilNil
  go_enter Tryz.func3, Tryz.ntmps3
  go_wp2_with fail
  refine (wl_new (w0 := w) w (Below.refl _ _)).mono ?_
  rintro e w1 ⟨g, nd, rfl, W1, b1⟩
  try dsimp only
  have HS : Hid (LX w g nd w1 Wp.new [] (fun _ => True)) := Lib.hid ⟨⟨W1, Ers.nil, HE.out.below W1.blw HE.out.lt⟩, trivial, fun _ _ _ _ => trivial⟩
  have HT : Hid (Wp.new.Fit 0) := Lib.hid Wp.Fit.new
  clear W1 b1
  go_wp2_with fail
  refine (lknown12 _ HS.out.ls.ty).mono ?_
  rintro e w2 ⟨rfl, b2⟩
  try dsimp only
  have HS := Lib.hid (HS.out.below b2)
  clear b2
  have T := Lib.hid (wl_node HS.out.wl (n := 3) (by omega))
  go_wp2_with fail
  refine T.out.mono ?_
  rintro e wx ⟨rfl, hw⟩
  obtain rfl := hw.symm
  try dsimp only
  clear T
  have T := Lib.hid (wl_node_no HS.out.wl (n := 8) (by omega))
  go_wp2_with fail
  refine T.out.mono ?_
  rintro e wx ⟨rfl, hw⟩
  obtain rfl := hw.symm
  try dsimp only
  clear T
  have T := Lib.hid (wl_node_no HS.out.wl (n := -1) (by omega))
  go_wp2_with fail
  refine T.out.mono ?_
  rintro e wx ⟨rfl, hw⟩
  obtain rfl := hw.symm
  try dsimp only
  clear T
  go_wp2_with fail
  refine (wl_flushReq _).mono ?_
  rintro e w3 ⟨rfl, bb⟩
  try dsimp only
  have HS := Lib.hid (HS.out.below bb)
  clear bb
  have HC := Lib.hid ((wl_call_no HS.out.wl 8 qFlush none 0 DatN.none_ (Or.inr (by omega)) : Calls Tryz.prog 9 #[.pointer (some ⟨g, 0, none⟩), .int .i64 8, rqv 4 0 0 0 none 0 0] _ _))
  unfold rqv at HC
  go_wp2_with fail
  refine HC.out.mono ?_
  rintro e w4 hc
  obtain ⟨be1, rfl, WW, KK, _, oo⟩ := hc.err rfl
  have oo : OnE w4 be1 8 1 := oo
  try dsimp only
  have HS := Lib.hid ((HS.out.next HE.out WW KK).more oo)
  clear WW KK oo hc HC
  obtain ⟨w5, hv⟩ : ∃ w5, w4.alloc (.cells #[.int .i64 0, .int .i64 0, .slice none 0 0, .slice none 0 0] 31) = w5 := ⟨_, rfl⟩
  have HV := Lib.hid hv
  have HS := Lib.hid (HS.out.below (v' := w5) (by rw [← hv]; exact (Below.refl _ _).alloc (Nat.le_refl _) _))
  clear hv
  go_upto_region 5 with fail
  rw [HV.out]
  clear HV
  have HC := Lib.hid ((wl_call_no HS.out.wl 0 qNo none 0 DatN.none_ (Or.inl (by unfold OkQ qNo; dsimp only; omega)) : Calls Tryz.prog 9 #[.pointer (some ⟨g, 0, none⟩), .int .i64 0, rqv 0 0 0 0 none 0 0] _ _))
  unfold rqv at HC
  go_wp2_with fail
  refine HC.out.mono ?_
  rintro e w6 hc
  obtain ⟨be2, rfl, WW, KK, _, oo⟩ := hc.err rfl
  have oo : OnE w6 be2 0 1 := oo
  try dsimp only
  have HS := Lib.hid ((HS.out.next HE.out WW KK).more oo)
  clear WW KK oo hc HC
  obtain ⟨w7, hv⟩ : ∃ w7, w6.alloc (.cells #[.int .i64 0, .int .i64 0, .slice none 0 0, .slice none 0 0] 31) = w7 := ⟨_, rfl⟩
  have HV := Lib.hid hv
  have HS := Lib.hid (HS.out.below (v' := w7) (by rw [← hv]; exact (Below.refl _ _).alloc (Nat.le_refl _) _))
  clear hv
  go_upto_region 6 with fail
  rw [HV.out]
  clear HV
  obtain ⟨s1, hx1, p1, p2, p3, p4, p5, p6, p7⟩ := call_put (s := Wp.new) (n := 0) rfl rfl (by decide) rfl
  have HX1 := Lib.hid hx1
  have HQ1 : Hid ((∀ j, s1.N j = Ns.new) ∧ s1.F = [] ∧ s1.sent = 1 ∧ s1.dead = false ∧ (∀ j, s1.dn j = false) ∧ s1.fuse = -1) := Lib.hid ⟨fun j => by
      by_cases e : j = 0
      · subst e; exact p1
      · exact p2 j e, p3, p4, p5, fun j => by rw [p6]; rfl, p7⟩
  clear hx1 p1 p2 p3 p4 p5 p6 p7
  have HC := Lib.hid ((wl_call HS.out.wl HT.out.1 HT.out.2 (by omega) (n := 0) (by omega) qPut0 none 0 DatN.none_ (fun _ hj => absurd hj (by show ¬ _ < 0; omega)) okQ_put : Calls Tryz.prog 9 #[.pointer (some ⟨g, 0, none⟩), .int .i64 0, rqv 2 0 0 0 none 0 0] _ (CallRet w _ g nd 0 (Wp.new.call 0 qPut0))))
  unfold rqv at HC
  go_wp2_with fail
  refine HC.out.mono ?_
  rintro e w8 hc
  obtain ⟨be3, rfl, WW, KK, _, oo⟩ := hc.err HX1.out
  have oo : OnE w8 be3 0 1 := oo
  try dsimp only
  have HS := Lib.hid ((HS.out.next HE.out WW KK).more oo)
  clear WW KK oo hc HC
  have HT := Lib.hid (HT.out.call (by omega) (fun _ hj => absurd hj (by show ¬ _ < 0; omega)) HX1.out)
  obtain ⟨w9, hv⟩ : ∃ w9, w8.alloc (.cells #[.int .i64 0, .int .i64 0, .slice none 0 0, .slice none 0 0] 31) = w9 := ⟨_, rfl⟩
  have HV := Lib.hid hv
  have HS := Lib.hid (HS.out.below (v' := w9) (by rw [← hv]; exact (Below.refl _ _).alloc (Nat.le_refl _) _))
  clear hv
  go_upto_region 7 with fail
  rw [HV.out]
  clear HV
  have T := Lib.hid (wl_sent HS.out.wl)
  rw [HQ1.out.2.2.1] at T
  go_wp2_with fail
  refine T.out.mono ?_
  rintro e wx ⟨rfl, hw⟩
  obtain rfl := hw.symm
  try dsimp only
  clear T
  go_wp2_with fail
  refine (cbytes 1 128 128 rfl _ (by omega)).mono ?_
  rintro e w10 ⟨gb, rfl, hkb, bb, _⟩
  try dsimp only
  have HS := Lib.hid (HS.out.below bb)
  obtain ⟨P9, hP9⟩ : ∃ P, w10.heap.size = P := ⟨_, rfl⟩
  obtain ⟨w9, hw9⟩ : ∃ w9, w10.alloc (.cells #[.int .i64 3, .int .i64 0, .int .i64 1, .int .i64 0, .slice (some ⟨gb, 0, none⟩) 128 128] 38) = w9 := ⟨_, rfl⟩
  have b9 : Below w10.heap.size w10 w9 := by rw [← hw9]; exact (Below.refl _ _).alloc (Nat.le_refl _) _
  have v9 : QV w9 P9 3 0 1 0 (some ⟨gb, 0, none⟩) 128 128 := by rw [← hw9]; exact QV.of_new hP9
  have HV := Lib.hid hw9
  have HP9 := Lib.hid hP9
  have HS := Lib.hid ((HS.out.below b9).keeps (R := fun a => QV a P9 3 0 1 0 (some ⟨gb, 0, none⟩) 128 128 ∧ DatN a (some ⟨gb, 0, none⟩) 128 (bytesF 1)) ⟨v9, DatN.blk (hkb.below b9)⟩ (fun _ _ k q => k.qvd q))
  clear hP9 hw9 b9 v9 hkb bb
  go_upto_region 9 with fail
  rw [HV.out, HP9.out]
  clear HV HP9
  obtain ⟨P, hP⟩ : ∃ P, w9.heap.size = P := ⟨_, rfl⟩
  have HP := Lib.hid hP
  have bb : Below w9.heap.size w9 (w9.alloc (.cells #[.int .i64 2, .int .i64 2, .int .i64 0, .int .i64 3, .int .i64 77] 3)) := (Below.refl _ _).alloc (Nat.le_refl _) _
  have HWF := Lib.hid (wl_fates (HS.out.wl.below bb) (by rw [HQ1.out.2.1]; decide) (some ⟨w9.heap.size, 0, none⟩) [2, 2, 0, 3, 77] 5 (lit_int w9 [2, 2, 0, 3, 77]) (by decide) (by decide))
  have HS := Lib.hid (HS.out.below bb)
  rw [hP] at HWF
  clear hP bb
  go_wp2_with fail
  rw [HP.out]
  refine HWF.out.mono ?_
  rintro e w10 ⟨rfl, WW, KK⟩
  try dsimp only
  obtain ⟨s2, hs2⟩ : ∃ s2 : Wp, { s1 with F := s1.F ++ [2, 2, 0, 3, 77].take (1000 - s1.F.length) } = s2 := ⟨_, rfl⟩
  rw [hs2] at WW
  have HS := Lib.hid (HS.out.next HE.out WW KK)
  have HQ2 : Hid ((∀ j, s2.N j = Ns.new) ∧ s2.F = [2, 2, 0, 3, 77] ∧ s2.sent = 1 ∧ s2.dead = false ∧ (∀ j, s2.dn j = false) ∧ s2.fuse = -1) := Lib.hid (by
    rw [← hs2]
    exact ⟨HQ1.out.1, by show s1.F ++ _ = _; rw [HQ1.out.2.1]; rfl, HQ1.out.2.2.1, HQ1.out.2.2.2.1, HQ1.out.2.2.2.2.1, HQ1.out.2.2.2.2.2⟩)
  have HT : Hid (s2.Fit (0 + 3)) := Lib.hid (by rw [← hs2]; exact HT.out.congr rfl rfl rfl)
  clear WW KK HWF HP hs2 HQ1 HX1
  have y0 := HS.out.q.2.1.c0
  have y1 := HS.out.q.2.1.c1
  have y2 := HS.out.q.2.1.c2
  have y3 := HS.out.q.2.1.c3
  have y4 := HS.out.q.2.1.c4
  obtain ⟨s3, y, hx3, p1, p2, p3, p4, p5, p6, p7, p8, p9⟩ := call_log (s := s2) (n := 1) (q := qLogK) rfl qLogK_ok.2 HQ2.out.2.2.2.1 (HQ2.out.2.2.2.2.1 1) (by rw [HQ2.out.2.2.2.2.2]; decide) HQ2.out.2.1 (by rw [HQ2.out.1]; exact new_cnt.1) (by rw [HQ2.out.1]; exact new_cnt.2)
  have HX3 := Lib.hid hx3
  have HQ3 : Hid (s3.F = [3, 77] ∧ s3.dead = false ∧ (∀ j, s3.dn j = false) ∧ s3.fuse = -1 ∧ cntR (s3.N 1).R = 1 ∧ (s3.N 1).boot = 1 ∧ (s3.N 1).t.done = fun _ => .no) := Lib.hid ⟨p1, p3, fun j => by rw [p4]; exact HQ2.out.2.2.2.2.1 j, by rw [p5]; exact HQ2.out.2.2.2.2.2, p6, by rw [p7, HQ2.out.1]; rfl, p8⟩
  clear hx3 p1 p2 p3 p4 p5 p6 p7 p8 p9
  have HC := Lib.hid ((wl_call HS.out.wl HT.out.1 HT.out.2 (by omega) (n := 1) (by omega) qLogK (some ⟨gb, 0, none⟩) 128 HS.out.q.2.2 (fun j _ => bytesF_lt 1 j) qLogK_ok.1 : Calls Tryz.prog 9 #[.pointer (some ⟨g, 0, none⟩), .int .i64 1, rqv 3 0 1 0 (some ⟨gb, 0, none⟩) 128 128] _ (CallRet w _ g nd 1 (s2.call 1 qLogK))))
  unfold rqv at HC
  go_wp2_with fail
  refine HC.out.mono ?_
  rintro e w11 hc
  obtain ⟨B1, d1, B2, d2, rfl, WW, KK⟩ := hc.ok HX3.out
  have HT := Lib.hid (HT.out.call (by omega) (fun j _ => bytesF_lt 1 j) HX3.out)
  obtain ⟨y0', hy0⟩ : ∃ y0, y.2.code = y0 := ⟨_, rfl⟩
  obtain ⟨y1', hy1⟩ : ∃ y1, y.1.boot = y1 := ⟨_, rfl⟩
  obtain ⟨l0, hl0⟩ : ∃ l0, y.2.ps.length = l0 := ⟨_, rfl⟩
  obtain ⟨l1, hl1⟩ : ∃ l1, y.2.its.length = l1 := ⟨_, rfl⟩
  rw [hy0, hy1, hl0, hl1]
  try dsimp only
  have HS := Lib.hid (HS.out.next HE.out WW KK)
  clear WW KK hc HC y0 y1 y2 y3 y4 hy0 hy1 hl0 hl1
  obtain ⟨w12, hv⟩ : ∃ w12, w11.alloc (.cells #[.int .i64 (y0' : Int), .int .i64 (y1' : Int), .slice B1 l0 d1, .slice B2 l1 d2] 31) = w12 := ⟨_, rfl⟩
  have HV := Lib.hid hv
  have HS := Lib.hid (HS.out.below (v' := w12) (by rw [← hv]; exact (Below.refl _ _).alloc (Nat.le_refl _) _))
  clear hv
  go_upto_region 11 with fail
  rw [HV.out]
  clear HV HX3 HQ2
  have T := Lib.hid (wl_left HS.out.wl)
  rw [HQ3.out.1] at T
  go_wp2_with fail
  refine T.out.mono ?_
  rintro e wx ⟨rfl, hw⟩
  obtain rfl := hw.symm
  try dsimp only
  clear T
  have T := Lib.hid (wl_node HS.out.wl (n := 1) (by omega))
  go_wp2_with fail
  refine T.out.mono ?_
  rintro e wx ⟨rfl, hw⟩
  obtain rfl := hw.symm
  try dsimp only
  clear T
  obtain ⟨r, hr1, hr2⟩ := wl_livelen HS.out.wl (n := 1) (by omega) (HQ3.out.2.2.2.2.1)
  have T := Lib.hid hr1
  have T2 := Lib.hid hr2
  clear hr1 hr2
  go_wp2_with fail
  refine T.out.mono ?_
  rintro e wx ⟨rfl, hw⟩
  obtain rfl := hw.symm
  try dsimp only
  clear T
  go_wp2_with fail
  refine T2.out.mono ?_
  rintro e w13 ⟨⟨A, c, rfl⟩, bb⟩
  try dsimp only
  have HS := Lib.hid (HS.out.below bb)
  clear bb T2
  go_wp2_with fail
  refine (wl_flushReq _).mono ?_
  rintro e w14 ⟨rfl, bb⟩
  try dsimp only
  have HS := Lib.hid (HS.out.below bb)
  clear bb
  have HC := Lib.hid (wl_call_fit HS.out.wl HT.out (by omega) (n := 1) (by omega))
  unfold rqv at HC
  go_wp2_with fail
  refine HC.out.mono ?_
  rintro e w15 hc
  obtain ⟨s4, y, hx, fl⟩ := call_flush (s := s3) (n := 1) HQ3.out.2.1 (HQ3.out.2.2.1 1) (by rw [HQ3.out.2.2.2.1]; decide) (by show s3.F.headD 0 ≠ 1; rw [HQ3.out.1]; decide) (by show s3.F.headD 0 ≠ 2; rw [HQ3.out.1]; decide)
  obtain ⟨Ba4, da4, Bb4, db4, rfl, WW, KK⟩ := hc.ok hx
  have HF4 := Lib.hid fl
  have HT := Lib.hid (HT.out.call (by omega) (fun _ hj => absurd hj (by show ¬ _ < 0; omega)) hx)
  obtain ⟨y0, hy0⟩ : ∃ y0, y.2.code = y0 := ⟨_, rfl⟩
  obtain ⟨y1, hy1⟩ : ∃ y1, y.1.boot = y1 := ⟨_, rfl⟩
  rw [hy0, hy1, fl.ps, fl.its]
  have HY0 : Hid (y0 = 0) := Lib.hid (hy0.symm.trans fl.code)
  have HY1 : Hid ((s4.N 1).boot = y1) := Lib.hid (by rw [fl.at_]; exact hy1)
  try dsimp only
  have HS := Lib.hid (HS.out.next HE.out WW KK)
  clear WW KK hc HC fl hx hy0 hy1
  have HQ4 : Hid (s4.F = [77] ∧ s4.dead = false ∧ (∀ j, s4.dn j = false) ∧ s4.fuse = -1 ∧ cntR (s4.N 1).R = 0 ∧ y1 = 2) := Lib.hid ⟨by rw [HF4.out.F, HQ3.out.1]; rfl, HF4.out.dead, fun j => by rw [HF4.out.dn]; exact HQ3.out.2.2.1 j, by rw [HF4.out.fuse, HQ3.out.2.2.2.1]; rfl, HF4.out.gone (by show s3.F.headD 0 = 3; rw [HQ3.out.1]; rfl) HQ3.out.2.2.2.2.2.2, by
    rw [← HY1.out, HF4.out.at_, HF4.out.boot, if_pos (by show s3.F.headD 0 = 3; rw [HQ3.out.1]; rfl), HQ3.out.2.2.2.2.2.1]⟩
  obtain ⟨hy2, hy3⟩ := And.intro HQ4.out.2.2.2.2.2 HY0.out
  subst hy2
  subst hy3
  clear HY0 HY1
  obtain ⟨P14, hP⟩ : ∃ P, w15.heap.size = P := ⟨_, rfl⟩
  obtain ⟨w14, hw⟩ : ∃ w14, w15.alloc (.cells #[.int .i64 0, .int .i64 2, .slice Ba4 0 da4, .slice Bb4 0 db4] 31) = w14 := ⟨_, rfl⟩
  have b9 : Below w15.heap.size w15 w14 := by rw [← hw]; exact (Below.refl _ _).alloc (Nat.le_refl _) _
  have v9 : RV w14 P14 0 2 (.slice Ba4 0 da4) (.slice Bb4 0 db4) := by rw [← hw]; exact RV.of_new hP
  have HV := Lib.hid hw
  have HP := Lib.hid hP
  have HS := Lib.hid ((HS.out.below b9).keeps (R := fun a => RV a P14 0 2 (.slice Ba4 0 da4) (.slice Bb4 0 db4)) v9 (fun _ _ k q => k.rv q))
  clear hP hw b9 v9
  go_upto_region 14 with fail
  rw [HV.out, HP.out]
  clear HV HP
  have T := Lib.hid (wl_node HS.out.wl (n := 1) (by omega))
  go_wp2_with fail
  refine T.out.mono ?_
  rintro e wx ⟨rfl, hw⟩
  obtain rfl := hw.symm
  try dsimp only
  clear T
  obtain ⟨r, hr1, hr2⟩ := wl_livelen HS.out.wl (n := 1) (by omega) (HQ4.out.2.2.2.2.1)
  have T := Lib.hid hr1
  have T2 := Lib.hid hr2
  clear hr1 hr2
  go_wp2_with fail
  refine T.out.mono ?_
  rintro e wx ⟨rfl, hw⟩
  obtain rfl := hw.symm
  try dsimp only
  clear T
  go_wp2_with fail
  refine T2.out.mono ?_
  rintro e w16 ⟨⟨A, c, rfl⟩, bb⟩
  try dsimp only
  have HS := Lib.hid (HS.out.below bb)
  clear bb T2
  go_wp2_with fail
  refine (wl_flushReq _).mono ?_
  rintro e w17 ⟨rfl, bb⟩
  try dsimp only
  have HS := Lib.hid (HS.out.below bb)
  clear bb
  have HC := Lib.hid (wl_call_fit HS.out.wl HT.out (by omega) (n := 1) (by omega))
  unfold rqv at HC
  go_wp2_with fail
  refine HC.out.mono ?_
  rintro e w18 hc
  obtain ⟨s5, y, hx, fl⟩ := call_flush (s := s4) (n := 1) HQ4.out.2.1 (HQ4.out.2.2.1 1) (by rw [HQ4.out.2.2.2.1]; decide) (by show s4.F.headD 0 ≠ 1; rw [HQ4.out.1]; decide) (by show s4.F.headD 0 ≠ 2; rw [HQ4.out.1]; decide)
  obtain ⟨Ba5, da5, Bb5, db5, rfl, WW, KK⟩ := hc.ok hx
  have HF5 := Lib.hid fl
  have HT := Lib.hid (HT.out.call (by omega) (fun _ hj => absurd hj (by show ¬ _ < 0; omega)) hx)
  obtain ⟨y0, hy0⟩ : ∃ y0, y.2.code = y0 := ⟨_, rfl⟩
  obtain ⟨y1, hy1⟩ : ∃ y1, y.1.boot = y1 := ⟨_, rfl⟩
  rw [hy0, hy1, fl.ps, fl.its]
  have HY0 : Hid (y0 = 0) := Lib.hid (hy0.symm.trans fl.code)
  have HY1 : Hid ((s5.N 1).boot = y1) := Lib.hid (by rw [fl.at_]; exact hy1)
  try dsimp only
  have HS := Lib.hid (HS.out.next HE.out WW KK)
  clear WW KK hc HC fl hx hy0 hy1
  have HQ5 : Hid (s5.F = [] ∧ s5.dead = false ∧ (∀ j, s5.dn j = false) ∧ s5.fuse = -1) := Lib.hid ⟨by rw [HF5.out.F, HQ4.out.1]; rfl, HF5.out.dead, fun j => by rw [HF5.out.dn]; exact HQ4.out.2.2.1 j, by rw [HF5.out.fuse, HQ4.out.2.2.2.1]; rfl⟩
  clear HF4 HF5 HQ3 HQ4
  have HC := Lib.hid (wl_down HS.out.wl (n := 1) (by omega) true)
  go_wp2_with fail
  refine HC.out.mono ?_
  rintro e w19 ⟨rfl, WW, KK⟩
  try dsimp only

  have HS := Lib.hid (HS.out.next HE.out WW KK)
  clear WW KK HC
  have HT : Hid ((s5.setD 1 true).Fit _) := Lib.hid (HT.out.congr rfl rfl rfl)
  have T := Lib.hid (wl_down_no HS.out.wl (n := 9) (by omega) true)
  go_wp2_with fail
  refine T.out.mono ?_
  rintro e wx ⟨rfl, hw⟩
  obtain rfl := hw.symm
  try dsimp only
  clear T
  go_wp2_with fail
  refine (wl_flushReq _).mono ?_
  rintro e w20 ⟨rfl, bb⟩
  try dsimp only
  have HS := Lib.hid (HS.out.below bb)
  clear bb
  have HC := Lib.hid (wl_call_fit HS.out.wl HT.out (by omega) (n := 1) (by omega))
  unfold rqv at HC
  go_wp2_with fail
  refine HC.out.mono ?_
  rintro e w21 hc
  obtain ⟨be4, rfl, WW, KK, _, oo⟩ := hc.err (call_down (by show (s5.dead || (if 1 = 1 then true else s5.dn 1)) = true; simp))
  have oo : OnE w21 be4 1 4 := oo
  try dsimp only
  have HS := Lib.hid ((HS.out.next HE.out WW KK).more oo)
  clear WW KK oo hc HC
  obtain ⟨w22, hv⟩ : ∃ w22, w21.alloc (.cells #[.int .i64 0, .int .i64 0, .slice none 0 0, .slice none 0 0] 31) = w22 := ⟨_, rfl⟩
  have HV := Lib.hid hv
  have HS := Lib.hid (HS.out.below (v' := w22) (by rw [← hv]; exact (Below.refl _ _).alloc (Nat.le_refl _) _))
  clear hv
  go_upto_region 19 with fail
  rw [HV.out]
  clear HV
  have HC := Lib.hid (wl_down HS.out.wl (n := 1) (by omega) false)
  go_wp2_with fail
  refine HC.out.mono ?_
  rintro e w23 ⟨rfl, WW, KK⟩
  try dsimp only

  have HS := Lib.hid (HS.out.next HE.out WW KK)
  clear WW KK HC
  have HC := Lib.hid (wl_fuse HS.out.wl 1)
  go_wp2_with fail
  refine HC.out.mono ?_
  rintro e w24 ⟨rfl, WW, KK⟩
  try dsimp only
  obtain ⟨s8, hs8⟩ : ∃ s8 : Wp, { (s5.setD 1 true).setD 1 false with fuse := 1 } = s8 := ⟨_, rfl⟩
  rw [hs8] at WW
  have HQ8 : Hid (s8.F = [] ∧ s8.dead = false ∧ (∀ j, s8.dn j = false) ∧ s8.fuse = 1) := Lib.hid (by
    rw [← hs8]
    refine ⟨HQ5.out.1, HQ5.out.2.1, fun j => ?_, rfl⟩
    show (if j = 1 then false else if j = 1 then true else s5.dn j) = false
    split
    · rfl
    · exact HQ5.out.2.2.1 j)
  have HT : Hid (s8.Fit _) := Lib.hid (by rw [← hs8]; exact ⟨HT.out.1.congr rfl, by show (-1000000000 : Int) ≤ 1; decide, by show (1 : Int) ≤ 1000000000; decide, HT.out.2.2.2⟩)
  clear hs8
  have HS := Lib.hid (HS.out.next HE.out WW KK)
  clear WW KK HC
  go_wp2_with fail
  refine (wl_flushReq _).mono ?_
  rintro e w25 ⟨rfl, bb⟩
  try dsimp only
  have HS := Lib.hid (HS.out.below bb)
  clear bb
  have HC := Lib.hid (wl_call_fit HS.out.wl HT.out (by omega) (n := 1) (by omega))
  unfold rqv at HC
  go_wp2_with fail
  refine HC.out.mono ?_
  rintro e w26 hc
  obtain ⟨s9, y, hx, fl⟩ := call_flush (s := s8) (n := 1) HQ8.out.2.1 (HQ8.out.2.2.1 1) (by rw [HQ8.out.2.2.2]; decide) (by show s8.F.headD 0 ≠ 1; rw [HQ8.out.1]; decide) (by show s8.F.headD 0 ≠ 2; rw [HQ8.out.1]; decide)
  obtain ⟨Ba9, da9, Bb9, db9, rfl, WW, KK⟩ := hc.ok hx
  have HF9 := Lib.hid fl
  have HT := Lib.hid (HT.out.call (by omega) (fun _ hj => absurd hj (by show ¬ _ < 0; omega)) hx)
  obtain ⟨y0, hy0⟩ : ∃ y0, y.2.code = y0 := ⟨_, rfl⟩
  obtain ⟨y1, hy1⟩ : ∃ y1, y.1.boot = y1 := ⟨_, rfl⟩
  rw [hy0, hy1, fl.ps, fl.its]
  have HY0 : Hid (y0 = 0) := Lib.hid (hy0.symm.trans fl.code)
  have HY1 : Hid ((s9.N 1).boot = y1) := Lib.hid (by rw [fl.at_]; exact hy1)
  try dsimp only
  have HS := Lib.hid (HS.out.next HE.out WW KK)
  clear WW KK hc HC fl hx hy0 hy1
  have HQ9 : Hid (s9.F = [] ∧ s9.dead = false ∧ (∀ j, s9.dn j = false) ∧ s9.fuse = 0) := Lib.hid ⟨by rw [HF9.out.F, HQ8.out.1]; rfl, HF9.out.dead, fun j => by rw [HF9.out.dn]; exact HQ8.out.2.2.1 j, by rw [HF9.out.fuse, HQ8.out.2.2.2]; rfl⟩
  clear HF9 HQ8 HQ5 HY0 HY1
  obtain ⟨w27, hv⟩ : ∃ w27, w26.alloc (.cells #[.int .i64 (y0 : Int), .int .i64 (y1 : Int), .slice Ba9 0 da9, .slice Bb9 0 db9] 31) = w27 := ⟨_, rfl⟩
  have HV := Lib.hid hv
  have HS := Lib.hid (HS.out.below (v' := w27) (by rw [← hv]; exact (Below.refl _ _).alloc (Nat.le_refl _) _))
  clear hv
  go_upto_region 22 with fail
  rw [HV.out]
  clear HV
  go_wp2_with fail
  refine (wl_flushReq _).mono ?_
  rintro e w28 ⟨rfl, bb⟩
  try dsimp only
  have HS := Lib.hid (HS.out.below bb)
  clear bb
  have HC := Lib.hid (wl_call_fit HS.out.wl HT.out (by omega) (n := 1) (by omega))
  unfold rqv at HC
  go_wp2_with fail
  refine HC.out.mono ?_
  rintro e w29 hc
  have hx := call_fuse (q := qFlush) HQ9.out.2.1 (HQ9.out.2.2.1 1) HQ9.out.2.2.2
  have HT := Lib.hid (HT.out.call (n := 1) (by omega) (fun _ hj => absurd hj (by show ¬ _ < 0; omega)) hx)
  obtain ⟨be5, rfl, WW, KK, _, oo⟩ := hc.err hx
  have oo : OnE w29 be5 1 4 := oo
  try dsimp only
  have HS := Lib.hid ((HS.out.next HE.out WW KK).more oo)
  clear WW KK oo hc HC
  obtain ⟨s10, hs10⟩ : ∃ s10 : Wp, { s9 with dead := true } = s10 := ⟨_, rfl⟩
  rw [hs10] at HS HT
  have HQ10 : Hid (s10.F = [] ∧ s10.dead = true ∧ (∀ j, s10.dn j = false)) := Lib.hid (by rw [← hs10]; exact ⟨HQ9.out.1, rfl, HQ9.out.2.2.1⟩)
  clear hs10 hx HQ9
  obtain ⟨w30, hv⟩ : ∃ w30, w29.alloc (.cells #[.int .i64 0, .int .i64 0, .slice none 0 0, .slice none 0 0] 31) = w30 := ⟨_, rfl⟩
  have HV := Lib.hid hv
  have HS := Lib.hid (HS.out.below (v' := w30) (by rw [← hv]; exact (Below.refl _ _).alloc (Nat.le_refl _) _))
  clear hv
  go_upto_region 23 with fail
  rw [HV.out]
  clear HV
  have T := Lib.hid (wl_dead HS.out.wl)
  rw [HQ10.out.2.1] at T
  go_wp2_with fail
  refine T.out.mono ?_
  rintro e wx ⟨rfl, hw⟩
  obtain rfl := hw.symm
  try dsimp only
  clear T
  go_wp2_with fail
  refine (wl_flushReq _).mono ?_
  rintro e w31 ⟨rfl, bb⟩
  try dsimp only
  have HS := Lib.hid (HS.out.below bb)
  clear bb
  have HC := Lib.hid (wl_call_fit HS.out.wl HT.out (by omega) (n := 2) (by omega))
  unfold rqv at HC
  go_wp2_with fail
  refine HC.out.mono ?_
  rintro e w32 hc
  obtain ⟨be6, rfl, WW, KK, _, oo⟩ := hc.err (call_down (by rw [HQ10.out.2.1]; rfl))
  have oo : OnE w32 be6 2 4 := oo
  try dsimp only
  have HS := Lib.hid ((HS.out.next HE.out WW KK).more oo)
  clear WW KK oo hc HC
  obtain ⟨w33, hv⟩ : ∃ w33, w32.alloc (.cells #[.int .i64 0, .int .i64 0, .slice none 0 0, .slice none 0 0] 31) = w33 := ⟨_, rfl⟩
  have HV := Lib.hid hv
  have HS := Lib.hid (HS.out.below (v' := w33) (by rw [← hv]; exact (Below.refl _ _).alloc (Nat.le_refl _) _))
  clear hv
  go_upto_region 25 with fail
  rw [HV.out]
  clear HV
  have HC := Lib.hid (wl_revive HS.out.wl)
  go_wp2_with fail
  refine HC.out.mono ?_
  rintro e w34 ⟨rfl, WW, KK⟩
  try dsimp only
  obtain ⟨s11, hs11⟩ : ∃ s11 : Wp, { s10 with dead := false, fuse := -1 } = s11 := ⟨_, rfl⟩
  rw [hs11] at WW
  have HQ11 : Hid (s11.F = [] ∧ s11.dead = false ∧ (∀ j, s11.dn j = false) ∧ s11.fuse = -1) := Lib.hid (by rw [← hs11]; exact ⟨HQ10.out.1, rfl, HQ10.out.2.2, rfl⟩)
  have HT : Hid (s11.Fit _) := Lib.hid (by rw [← hs11]; exact ⟨HT.out.1.congr rfl, by show (-1000000000 : Int) ≤ -1; decide, by show (-1 : Int) ≤ 1000000000; decide, HT.out.2.2.2⟩)
  clear hs11
  have HS := Lib.hid (HS.out.next HE.out WW KK)
  clear WW KK HC
  go_wp2_with fail
  refine (wl_flushReq _).mono ?_
  rintro e w35 ⟨rfl, bb⟩
  try dsimp only
  have HS := Lib.hid (HS.out.below bb)
  clear bb
  have HC := Lib.hid (wl_call_fit HS.out.wl HT.out (by omega) (n := 2) (by omega))
  unfold rqv at HC
  go_wp2_with fail
  refine HC.out.mono ?_
  rintro e w36 hc
  obtain ⟨s12, y, hx, fl⟩ := call_flush (s := s11) (n := 2) HQ11.out.2.1 (HQ11.out.2.2.1 2) (by rw [HQ11.out.2.2.2]; decide) (by show s11.F.headD 0 ≠ 1; rw [HQ11.out.1]; decide) (by show s11.F.headD 0 ≠ 2; rw [HQ11.out.1]; decide)
  obtain ⟨Ba12, da12, Bb12, db12, rfl, WW, KK⟩ := hc.ok hx
  have HF12 := Lib.hid fl
  have HT := Lib.hid (HT.out.call (by omega) (fun _ hj => absurd hj (by show ¬ _ < 0; omega)) hx)
  obtain ⟨y0, hy0⟩ : ∃ y0, y.2.code = y0 := ⟨_, rfl⟩
  obtain ⟨y1, hy1⟩ : ∃ y1, y.1.boot = y1 := ⟨_, rfl⟩
  rw [hy0, hy1, fl.ps, fl.its]
  have HY0 : Hid (y0 = 0) := Lib.hid (hy0.symm.trans fl.code)
  have HY1 : Hid ((s12.N 2).boot = y1) := Lib.hid (by rw [fl.at_]; exact hy1)
  try dsimp only
  have HS := Lib.hid (HS.out.next HE.out WW KK)
  clear WW KK hc HC fl hx hy0 hy1
  have HQ12 : Hid (s12.dead = false ∧ ∀ j, s12.dn j = false) := Lib.hid ⟨HF12.out.dead, fun j => by rw [HF12.out.dn]; exact HQ11.out.2.2.1 j⟩
  clear HF12 HQ11 HQ10 HT HY0 HY1
  have HS := Lib.hid (HS.out.below (v' := w36.alloc (.cells #[.int .i64 (y0 : Int), .int .i64 (y1 : Int), .slice Ba12 0 da12, .slice Bb12 0 db12] 31)) ((Below.refl _ _).alloc (Nat.le_refl _) _))
  have T := Lib.hid (HS.out.code (b := be1) (n := 8) (c := 1) (by simp))
  go_wp2_with fail
  refine T.out.mono ?_
  rintro e w37 ⟨rfl, bb⟩
  try dsimp only
  have HS := Lib.hid (HS.out.below bb)
  clear bb T
  have T := Lib.hid (HS.out.code (b := be2) (n := 0) (c := 1) (by simp))
  go_wp2_with fail
  refine T.out.mono ?_
  rintro e w38 ⟨rfl, bb⟩
  try dsimp only
  have HS := Lib.hid (HS.out.below bb)
  clear bb T
  have T := Lib.hid (HS.out.code (b := be3) (n := 0) (c := 1) (by simp))
  go_wp2_with fail
  refine T.out.mono ?_
  rintro e w39 ⟨rfl, bb⟩
  try dsimp only
  have HS := Lib.hid (HS.out.below bb)
  clear bb T
  have T := Lib.hid (one_node (HS.out.ls.er (be1, 8, 1) (by simp)))
  go_wp2_with fail
  refine T.out.mono ?_
  rintro e w40 ⟨A9, c9, rfl, n9, bb⟩
  try dsimp only
  have HS := Lib.hid (HS.out.below bb)
  have HN9 := Lib.hid n9
  clear bb n9 T
  have T := Lib.hid (same_one (c1 := c9) HN9.out)
  go_wp2_with fail
  refine T.out.mono ?_
  rintro e w41 ⟨rfl, bb⟩
  try dsimp only
  have HS := Lib.hid (HS.out.below bb)
  clear bb T
  have xb := HS.out.q.2.c1
  have T := Lib.hid (HS.out.code (b := be4) (n := 1) (c := 4) (by simp))
  go_wp2_with fail
  refine T.out.mono ?_
  rintro e w42 ⟨rfl, bb⟩
  try dsimp only
  have HS := Lib.hid (HS.out.below bb)
  clear bb T
  clear xb
  have T := Lib.hid (wl_isdown HS.out.wl (n := 1) (by omega))
  rw [HQ12.out.2 1] at T
  go_wp2_with fail
  refine T.out.mono ?_
  rintro e wx ⟨rfl, hw⟩
  obtain rfl := hw.symm
  try dsimp only
  clear T
  have T := Lib.hid (wl_isdown_no HS.out.wl (n := -1) (by omega))
  go_wp2_with fail
  refine T.out.mono ?_
  rintro e wx ⟨rfl, hw⟩
  obtain rfl := hw.symm
  try dsimp only
  clear T
  have T := Lib.hid (HS.out.code (b := be5) (n := 1) (c := 4) (by simp))
  go_wp2_with fail
  refine T.out.mono ?_
  rintro e w43 ⟨rfl, bb⟩
  try dsimp only
  have HS := Lib.hid (HS.out.below bb)
  clear bb T
  have T := Lib.hid (HS.out.code (b := be6) (n := 2) (c := 4) (by simp))
  go_wp2_with fail
  refine T.out.mono ?_
  rintro e w44 ⟨rfl, bb⟩
  try dsimp only
  have HS := Lib.hid (HS.out.below bb)
  clear bb T
  have T := Lib.hid (wl_dead HS.out.wl)
  rw [HQ12.out.1] at T
  go_wp2_with fail
  refine T.out.mono ?_
  rintro e wx ⟨rfl, hw⟩
  obtain rfl := hw.symm
  try dsimp only
  clear T
  go_wp2_with fail
  go_ret
  exact ⟨rfl, HS.out.wl.blw⟩
end Go.Proofs.YtjgbfghkiahfaaaGreatDoor
