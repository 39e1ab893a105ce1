import Derived.Test.YtofmilkjhnkgjaaNd7
namespace Go.Proofs.Ytofmilkjhnkgjaa
open Go.RowKit Go.Sort
set_option maxRecDepth 100000
set_option maxHeartbeats 4000000

/-! NodeKnown. -/
def q9 : Rq := ⟨9, 0, 0, 0, 0, fun _ => 0⟩
def qBad : Rq := ⟨2, 0, 1, 0, 0, fun _ => 0⟩
def z1 : Ns := (Ns.new.act (qGet 40)).1
def z2 : Ns := (z1.act q9).1
def z3 : Ns := (z2.act qBad).1
def z4 : Ns := (z3.act (qLog 0 1 (bytesF 1))).1
def z5 : Ns := (z4.act qInt).1
def z6 : Ns := (z5.act (qRel 0 1)).1
def z7 : Ns := (z6.act qInt).1
def z8 : Ns := (z7.act qFlush).1
def z9 : Ns := z8.crash []
def z10 : Ns := (z9.act qInt).1
def z11 : Ns := z10.lose
def z12 : Ns := (z11.act qInt).1
def Fine (a : Ns) (boot : Nat) : Prop := a.nw ≤ 1000 ∧ a.last ≤ 1000 ∧ a.boot = boot
def Says (a : Ns) (q : Rq) (code lp li : Nat) : Prop := (a.act q).2.code = code ∧ (a.act q).2.ps.length = lp ∧ (a.act q).2.its.length = li
theorem says_int {a : Ns} {m : Nat} (h : (colR a.R 16).length = m) : Says a qInt 0 0 m := ⟨rfl, rfl, by
  show ((liveT a.R).map (·.2)).length = m
  rw [List.length_map, liveT_len, h]⟩
theorem zf0 : Fine Ns.new 1 := ⟨by decide, by decide, rfl⟩
theorem zf1 : Fine z1 1 := ⟨by decide, by decide, rfl⟩
theorem zf2 : Fine z2 1 := ⟨by decide, by decide, rfl⟩
theorem zf3 : Fine z3 1 := ⟨by decide, by decide, rfl⟩
theorem zf4 : Fine z4 1 := ⟨by decide, by decide, rfl⟩
theorem zf5 : Fine z5 1 := ⟨by decide, by decide, rfl⟩
theorem zf6 : Fine z6 1 := ⟨by decide, by decide, rfl⟩
theorem zf7 : Fine z7 1 := ⟨by decide, by decide, rfl⟩
theorem zf8 : Fine z8 1 := ⟨by decide, by decide, rfl⟩
theorem zf9 : Fine z9 2 := ⟨by decide, by decide, rfl⟩
theorem zf10 : Fine z10 2 := ⟨by decide, by decide, rfl⟩
theorem zf11 : Fine z11 3 := ⟨by decide, by decide, rfl⟩
theorem zf12 : Fine z12 3 := ⟨by decide, by decide, rfl⟩
theorem zs0 : Says Ns.new (qGet 40) 1 0 0 := ⟨rfl, rfl, rfl⟩
theorem zs1 : Says z1 (q9) 1 0 0 := ⟨rfl, rfl, rfl⟩
theorem zs2 : Says z2 (qBad) 1 0 0 := ⟨rfl, rfl, rfl⟩
theorem zs3 : Says z3 (qLog 0 1 (bytesF 1)) 0 0 0 := ⟨rfl, rfl, rfl⟩
theorem zs4 : Says z4 qInt 0 0 1 := says_int (by rfl)
theorem zs5 : Says z5 (qRel 0 1) 0 0 0 := ⟨rfl, rfl, rfl⟩
theorem zs6 : Says z6 qInt 0 0 0 := says_int (by rfl)
theorem zs7 : Says z7 (qFlush) 0 0 0 := ⟨rfl, rfl, rfl⟩
theorem zs9 : Says z9 qInt 0 0 1 := says_int (by rfl)
theorem zs11 : Says z11 qInt 0 0 0 := says_int (by rfl)
theorem RV.keepN {w w' : World} {b : Nat} {code boot : Int} {u v : Value} (h : RV w b code boot u v) (k : KeepN w w') : RV w' b code boot u v := h.keep (k.cells h (notNd (by decide) (by decide) (by decide) (by decide) (by decide) (by decide)))
theorem nl_says {w0 v : World} {n p : Nat} {a b : Ns} (h : NdL w0 n p a v) (q : Rq) (A : Option Addr) (c : Nat) (hd : DatN v A q.n q.D) (hD : ∀ j, j < q.n → q.D j < 256) {boot boot' code lp li : Nat} (hf : Fine a boot) (hb : (a.act q).1 = b) (hf2 : Fine b boot') (hs : Says a q code lp li) :
    Calls Try.prog 10 #[.pointer (some ⟨n, 0, none⟩), rqv q.k q.s q.g q.i A q.n c] v (DoN w0 n p b (code : Int) (boot' : Int) lp li v) := by
  subst hb
  exact nl_step h q A c hd hD (Nat.le_trans hf.1 (by omega)) (Nat.le_trans hf.2.1 (by omega)) _ _ lp li (by rw [hs.1]) (by rw [hf2.2.2]) hs.2.1 hs.2.2
theorem nodeKnown (w : World) : Calls Try.prog 3 #[] w fun e w' => e = .returned (.bool true) ∧ Below w.heap.size w w' := by
  have HN := Lib.hid (nl_new (Below.refl w.heap.size w))
  go_enter Try.func3, Try.ntmps3
  go_wp2_with fail
  refine HN.out.mono ?_
  rintro e w1 ⟨n, p, rfl, hn1⟩
  try dsimp only
  have HN1 := Lib.hid hn1
  have HK := Lib.hid (lknown10 w1)
  clear hn1 HN
  go_wp2_with fail
  refine HK.out.mono ?_
  rintro e w2 ⟨rfl, hb2⟩
  try dsimp only
  have hn2 := HN1.out.below hb2
  have HPL := Lib.hid (nl_platter hn2)
  obtain ⟨r0, hr0⟩ := nl_ring hn2
  have HRI := Lib.hid hr0
  have HX0 := Lib.hid hn2
  clear hb2 hn2 hr0 HN1 HK
  go_wp2_with fail
  refine HPL.out.mono ?_
  rintro e w' ⟨rfl, hw⟩
  obtain rfl := hw.symm
  try dsimp only
  go_wp2_with fail
  refine HRI.out.mono ?_
  rintro e w' ⟨rfl, hw⟩
  obtain rfl := hw.symm
  try dsimp only
  clear HPL HRI
  have HC : Hid (Calls Try.prog 10 #[.pointer (some ⟨n, 0, none⟩), rqv 1 40 0 0 none 0 0] w2 (DoN w n p z1 1 1 0 0 w2)) := Lib.hid (nl_says HX0.out (qGet 40) none 0 DatN.none_ (fun j hj => absurd hj (Nat.not_lt_zero j)) zf0 rfl zf1 zs0)
  unfold rqv at HC
  clear HX0
  go_wp2_with fail
  refine HC.out.mono ?_
  rintro e v0 ⟨B0, c0, D0, d0, rfl, hn, hk⟩
  unfold rpv
  try dsimp only
  obtain ⟨x0, hx⟩ : ∃ x, v0.alloc (.cells #[.int .i64 1, .int .i64 1, .slice B0 0 c0, .slice D0 0 d0] 33) = x := ⟨_, rfl⟩
  have HXE := Lib.hid hx
  obtain ⟨a0, ha⟩ : ∃ a, v0.heap.size = a := ⟨_, rfl⟩
  have HAE := Lib.hid ha
  have hb : Below v0.heap.size v0 x0 := by rw [← hx]; exact (Below.refl _ _).alloc (Nat.le_refl _) _
  have HV0 : Hid (RV x0 a0 1 1 (.slice B0 0 c0) (.slice D0 0 d0)) := Lib.hid (by rw [← hx]; exact RV.of_new ha)
  have HX1 := Lib.hid (hn.below hb)
  clear hx ha hb hn hk HC 
  go_upto_region 5 with fail
  rw [HXE.out, HAE.out]
  clear HXE HAE
  have HC : Hid (Calls Try.prog 10 #[.pointer (some ⟨n, 0, none⟩), rqv 9 0 0 0 none 0 0] x0 (DoN w n p z2 1 1 0 0 x0)) := Lib.hid (nl_says HX1.out (q9) none 0 DatN.none_ (fun j hj => absurd hj (Nat.not_lt_zero j)) zf1 rfl zf2 zs1)
  unfold rqv at HC
  clear HX1
  go_wp2_with fail
  refine HC.out.mono ?_
  rintro e v1 ⟨B1, c1, D1, d1, rfl, hn, hk⟩
  unfold rpv
  try dsimp only
  have HV0k := Lib.hid (HV0.out.keepN hk)
  clear HV0
  obtain ⟨x1, hx⟩ : ∃ x, v1.alloc (.cells #[.int .i64 1, .int .i64 1, .slice B1 0 c1, .slice D1 0 d1] 33) = x := ⟨_, rfl⟩
  have HXE := Lib.hid hx
  obtain ⟨a1, ha⟩ : ∃ a, v1.heap.size = a := ⟨_, rfl⟩
  have HAE := Lib.hid ha
  have hb : Below v1.heap.size v1 x1 := by rw [← hx]; exact (Below.refl _ _).alloc (Nat.le_refl _) _
  have HV1 : Hid (RV x1 a1 1 1 (.slice B1 0 c1) (.slice D1 0 d1)) := Lib.hid (by rw [← hx]; exact RV.of_new ha)
  have HX2 := Lib.hid (hn.below hb)
  have HV0kb := Lib.hid (HV0k.out.below hb)
  clear hx ha hb hn hk HC HV0k
  go_upto_region 6 with fail
  rw [HXE.out, HAE.out]
  clear HXE HAE
  have HC : Hid (Calls Try.prog 10 #[.pointer (some ⟨n, 0, none⟩), rqv 2 0 1 0 none 0 0] x1 (DoN w n p z3 1 1 0 0 x1)) := Lib.hid (nl_says HX2.out (qBad) none 0 DatN.none_ (fun j hj => absurd hj (Nat.not_lt_zero j)) zf2 rfl zf3 zs2)
  unfold rqv at HC
  clear HX2
  go_wp2_with fail
  refine HC.out.mono ?_
  rintro e v2 ⟨B2, c2, D2, d2, rfl, hn, hk⟩
  unfold rpv
  try dsimp only
  have HV0kbk := Lib.hid (HV0kb.out.keepN hk)
  have HV1k := Lib.hid (HV1.out.keepN hk)
  clear HV0kb HV1
  obtain ⟨x2, hx⟩ : ∃ x, v2.alloc (.cells #[.int .i64 1, .int .i64 1, .slice B2 0 c2, .slice D2 0 d2] 33) = x := ⟨_, rfl⟩
  have HXE := Lib.hid hx
  obtain ⟨a2, ha⟩ : ∃ a, v2.heap.size = a := ⟨_, rfl⟩
  have HAE := Lib.hid ha
  have hb : Below v2.heap.size v2 x2 := by rw [← hx]; exact (Below.refl _ _).alloc (Nat.le_refl _) _
  have HV2 : Hid (RV x2 a2 1 1 (.slice B2 0 c2) (.slice D2 0 d2)) := Lib.hid (by rw [← hx]; exact RV.of_new ha)
  have HX3 := Lib.hid (hn.below hb)
  have HV0kbkb := Lib.hid (HV0kbk.out.below hb)
  have HV1kb := Lib.hid (HV1k.out.below hb)
  clear hx ha hb hn hk HC HV0kbk HV1k
  go_upto_region 7 with fail
  rw [HXE.out, HAE.out]
  clear HXE HAE
  have HBY := Lib.hid (cbytes 1 128 128 rfl x2 (by omega))
  go_wp2_with fail
  refine HBY.out.mono ?_
  rintro e w3 ⟨g3, rfl, k3, b3, _⟩
  try dsimp only
  have HV0kbkbb := Lib.hid (HV0kbkb.out.below b3)
  have HV1kbb := Lib.hid (HV1kb.out.below b3)
  have HV2b := Lib.hid (HV2.out.below b3)
  have HC : Hid (Calls Try.prog 10 #[.pointer (some ⟨n, 0, none⟩), rqv 3 0 1 0 (some ⟨g3, 0, none⟩) 128 128] w3 (DoN w n p z4 0 1 0 0 w3)) := Lib.hid (nl_says (HX3.out.below b3) (qLog 0 1 (bytesF 1)) (some ⟨g3, 0, none⟩) 128 (DatN.blk k3) (fun j _ => bytesF_lt 1 j) zf3 rfl zf4 zs3)
  unfold rqv at HC
  clear b3 k3 HBY HX3 HV0kbkb HV1kb HV2
  go_wp2_with fail
  refine HC.out.mono ?_
  rintro e v3 ⟨B3, c3, D3, d3, rfl, hn, hk⟩
  unfold rpv
  try dsimp only
  have HV0kbkbbk := Lib.hid (HV0kbkbb.out.keepN hk)
  have HV1kbbk := Lib.hid (HV1kbb.out.keepN hk)
  have HV2bk := Lib.hid (HV2b.out.keepN hk)
  clear HV0kbkbb HV1kbb HV2b
  obtain ⟨x3, hx⟩ : ∃ x, v3.alloc (.cells #[.int .i64 0, .int .i64 1, .slice B3 0 c3, .slice D3 0 d3] 33) = x := ⟨_, rfl⟩
  have HXE := Lib.hid hx
  obtain ⟨a3, ha⟩ : ∃ a, v3.heap.size = a := ⟨_, rfl⟩
  have HAE := Lib.hid ha
  have hb : Below v3.heap.size v3 x3 := by rw [← hx]; exact (Below.refl _ _).alloc (Nat.le_refl _) _
  have HV3 : Hid (RV x3 a3 0 1 (.slice B3 0 c3) (.slice D3 0 d3)) := Lib.hid (by rw [← hx]; exact RV.of_new ha)
  have HX4 := Lib.hid (hn.below hb)
  have HV0kbkbbkb := Lib.hid (HV0kbkbbk.out.below hb)
  have HV1kbbkb := Lib.hid (HV1kbbk.out.below hb)
  have HV2bkb := Lib.hid (HV2bk.out.below hb)
  clear hx ha hb hn hk HC HV0kbkbbk HV1kbbk HV2bk
  go_upto_region 8 with fail
  rw [HXE.out, HAE.out]
  clear HXE HAE
  have HC : Hid (Calls Try.prog 10 #[.pointer (some ⟨n, 0, none⟩), rqv 5 0 0 0 none 0 0] x3 (DoN w n p z5 0 1 0 1 x3)) := Lib.hid (nl_says HX4.out (qInt) none 0 DatN.none_ (fun j hj => absurd hj (Nat.not_lt_zero j)) zf4 rfl zf5 zs4)
  unfold rqv at HC
  clear HX4
  go_wp2_with fail
  refine HC.out.mono ?_
  rintro e v4 ⟨B4, c4, D4, d4, rfl, hn, hk⟩
  unfold rpv
  try dsimp only
  have HV0kbkbbkbk := Lib.hid (HV0kbkbbkb.out.keepN hk)
  have HV1kbbkbk := Lib.hid (HV1kbbkb.out.keepN hk)
  have HV2bkbk := Lib.hid (HV2bkb.out.keepN hk)
  have HV3k := Lib.hid (HV3.out.keepN hk)
  clear HV0kbkbbkb HV1kbbkb HV2bkb HV3
  obtain ⟨x4, hx⟩ : ∃ x, v4.alloc (.cells #[.int .i64 0, .int .i64 1, .slice B4 0 c4, .slice D4 1 d4] 33) = x := ⟨_, rfl⟩
  have HXE := Lib.hid hx
  obtain ⟨a4, ha⟩ : ∃ a, v4.heap.size = a := ⟨_, rfl⟩
  have HAE := Lib.hid ha
  have hb : Below v4.heap.size v4 x4 := by rw [← hx]; exact (Below.refl _ _).alloc (Nat.le_refl _) _
  have HV4 : Hid (RV x4 a4 0 1 (.slice B4 0 c4) (.slice D4 1 d4)) := Lib.hid (by rw [← hx]; exact RV.of_new ha)
  have HX5 := Lib.hid (hn.below hb)
  have HV0kbkbbkbkb := Lib.hid (HV0kbkbbkbk.out.below hb)
  have HV1kbbkbkb := Lib.hid (HV1kbbkbk.out.below hb)
  have HV2bkbkb := Lib.hid (HV2bkbk.out.below hb)
  have HV3kb := Lib.hid (HV3k.out.below hb)
  clear hx ha hb hn hk HC HV0kbkbbkbk HV1kbbkbk HV2bkbk HV3k
  go_upto_region 9 with fail
  rw [HXE.out, HAE.out]
  clear HXE HAE
  have HC : Hid (Calls Try.prog 10 #[.pointer (some ⟨n, 0, none⟩), rqv 6 0 1 0 none 0 0] x4 (DoN w n p z6 0 1 0 0 x4)) := Lib.hid (nl_says HX5.out (qRel 0 1) none 0 DatN.none_ (fun j hj => absurd hj (Nat.not_lt_zero j)) zf5 rfl zf6 zs5)
  unfold rqv at HC
  clear HX5
  go_wp2_with fail
  refine HC.out.mono ?_
  rintro e v5 ⟨B5, c5, D5, d5, rfl, hn, hk⟩
  unfold rpv
  try dsimp only
  have HV0kbkbbkbkbk := Lib.hid (HV0kbkbbkbkb.out.keepN hk)
  have HV1kbbkbkbk := Lib.hid (HV1kbbkbkb.out.keepN hk)
  have HV2bkbkbk := Lib.hid (HV2bkbkb.out.keepN hk)
  have HV3kbk := Lib.hid (HV3kb.out.keepN hk)
  have HV4k := Lib.hid (HV4.out.keepN hk)
  clear HV0kbkbbkbkb HV1kbbkbkb HV2bkbkb HV3kb HV4
  have HX6 := Lib.hid hn
  clear hn hk HC
  have HC : Hid (Calls Try.prog 10 #[.pointer (some ⟨n, 0, none⟩), rqv 5 0 0 0 none 0 0] v5 (DoN w n p z7 0 1 0 0 v5)) := Lib.hid (nl_says HX6.out (qInt) none 0 DatN.none_ (fun j hj => absurd hj (Nat.not_lt_zero j)) zf6 rfl zf7 zs6)
  unfold rqv at HC
  clear HX6
  go_wp2_with fail
  refine HC.out.mono ?_
  rintro e v6 ⟨B6, c6, D6, d6, rfl, hn, hk⟩
  unfold rpv
  try dsimp only
  have HV0kbkbbkbkbkk := Lib.hid (HV0kbkbbkbkbk.out.keepN hk)
  have HV1kbbkbkbkk := Lib.hid (HV1kbbkbkbk.out.keepN hk)
  have HV2bkbkbkk := Lib.hid (HV2bkbkbk.out.keepN hk)
  have HV3kbkk := Lib.hid (HV3kbk.out.keepN hk)
  have HV4kk := Lib.hid (HV4k.out.keepN hk)
  clear HV0kbkbbkbkbk HV1kbbkbkbk HV2bkbkbk HV3kbk HV4k
  obtain ⟨x6, hx⟩ : ∃ x, v6.alloc (.cells #[.int .i64 0, .int .i64 1, .slice B6 0 c6, .slice D6 0 d6] 33) = x := ⟨_, rfl⟩
  have HXE := Lib.hid hx
  obtain ⟨a6, ha⟩ : ∃ a, v6.heap.size = a := ⟨_, rfl⟩
  have HAE := Lib.hid ha
  have hb : Below v6.heap.size v6 x6 := by rw [← hx]; exact (Below.refl _ _).alloc (Nat.le_refl _) _
  have HV6 : Hid (RV x6 a6 0 1 (.slice B6 0 c6) (.slice D6 0 d6)) := Lib.hid (by rw [← hx]; exact RV.of_new ha)
  have HX7 := Lib.hid (hn.below hb)
  have HV0kbkbbkbkbkkb := Lib.hid (HV0kbkbbkbkbkk.out.below hb)
  have HV1kbbkbkbkkb := Lib.hid (HV1kbbkbkbkk.out.below hb)
  have HV2bkbkbkkb := Lib.hid (HV2bkbkbkk.out.below hb)
  have HV3kbkkb := Lib.hid (HV3kbkk.out.below hb)
  have HV4kkb := Lib.hid (HV4kk.out.below hb)
  clear hx ha hb hn hk HC HV0kbkbbkbkbkk HV1kbbkbkbkk HV2bkbkbkk HV3kbkk HV4kk
  go_upto_region 11 with fail
  rw [HXE.out, HAE.out]
  clear HXE HAE
  have HC : Hid (Calls Try.prog 10 #[.pointer (some ⟨n, 0, none⟩), rqv 4 0 0 0 none 0 0] x6 (DoN w n p z8 0 1 0 0 x6)) := Lib.hid (nl_says HX7.out (qFlush) none 0 DatN.none_ (fun j hj => absurd hj (Nat.not_lt_zero j)) zf7 rfl zf8 zs7)
  unfold rqv at HC
  clear HX7
  go_wp2_with fail
  refine HC.out.mono ?_
  rintro e v7 ⟨B7, c7, D7, d7, rfl, hn, hk⟩
  unfold rpv
  try dsimp only
  have HV0kbkbbkbkbkkbk := Lib.hid (HV0kbkbbkbkbkkb.out.keepN hk)
  have HV1kbbkbkbkkbk := Lib.hid (HV1kbbkbkbkkb.out.keepN hk)
  have HV2bkbkbkkbk := Lib.hid (HV2bkbkbkkb.out.keepN hk)
  have HV3kbkkbk := Lib.hid (HV3kbkkb.out.keepN hk)
  have HV4kkbk := Lib.hid (HV4kkb.out.keepN hk)
  have HV6k := Lib.hid (HV6.out.keepN hk)
  clear HV0kbkbbkbkbkkb HV1kbbkbkbkkb HV2bkbkbkkb HV3kbkkb HV4kkb HV6
  have HX8 := Lib.hid hn
  clear hn hk HC
  have HC : Hid (Calls Try.prog 12 #[.pointer (some ⟨n, 0, none⟩), .slice none 0 0] v7 (FallL w n p z9 v7)) := Lib.hid (nl_crash0 HX8.out (Nat.le_trans zf8.1 (by omega)) (Nat.le_trans zf8.2.1 (by omega)) (by decide))
  clear HX8
  go_wp2_with fail
  refine HC.out.mono ?_
  rintro e v8 ⟨rfl, hn, hk⟩
  try dsimp only
  have HV0kbkbbkbkbkkbkk := Lib.hid (HV0kbkbbkbkbkkbk.out.keepN hk)
  have HV1kbbkbkbkkbkk := Lib.hid (HV1kbbkbkbkkbk.out.keepN hk)
  have HV2bkbkbkkbkk := Lib.hid (HV2bkbkbkkbk.out.keepN hk)
  have HV3kbkkbkk := Lib.hid (HV3kbkkbk.out.keepN hk)
  have HV4kkbkk := Lib.hid (HV4kkbk.out.keepN hk)
  have HV6kk := Lib.hid (HV6k.out.keepN hk)
  clear HV0kbkbbkbkbkkbk HV1kbbkbkbkkbk HV2bkbkbkkbk HV3kbkkbk HV4kkbk HV6k
  have HX9 := Lib.hid hn
  clear hn hk HC
  have HC : Hid (Calls Try.prog 10 #[.pointer (some ⟨n, 0, none⟩), rqv 5 0 0 0 none 0 0] v8 (DoN w n p z10 0 2 0 1 v8)) := Lib.hid (nl_says HX9.out (qInt) none 0 DatN.none_ (fun j hj => absurd hj (Nat.not_lt_zero j)) zf9 rfl zf10 zs9)
  unfold rqv at HC
  clear HX9
  go_wp2_with fail
  refine HC.out.mono ?_
  rintro e v9 ⟨B9, c9, D9, d9, rfl, hn, hk⟩
  unfold rpv
  try dsimp only
  have HV0kbkbbkbkbkkbkkk := Lib.hid (HV0kbkbbkbkbkkbkk.out.keepN hk)
  have HV1kbbkbkbkkbkkk := Lib.hid (HV1kbbkbkbkkbkk.out.keepN hk)
  have HV2bkbkbkkbkkk := Lib.hid (HV2bkbkbkkbkk.out.keepN hk)
  have HV3kbkkbkkk := Lib.hid (HV3kbkkbkk.out.keepN hk)
  have HV4kkbkkk := Lib.hid (HV4kkbkk.out.keepN hk)
  have HV6kkk := Lib.hid (HV6kk.out.keepN hk)
  clear HV0kbkbbkbkbkkbkk HV1kbbkbkbkkbkk HV2bkbkbkkbkk HV3kbkkbkk HV4kkbkk HV6kk
  obtain ⟨x9, hx⟩ : ∃ x, v9.alloc (.cells #[.int .i64 0, .int .i64 2, .slice B9 0 c9, .slice D9 1 d9] 33) = x := ⟨_, rfl⟩
  have HXE := Lib.hid hx
  obtain ⟨a9, ha⟩ : ∃ a, v9.heap.size = a := ⟨_, rfl⟩
  have HAE := Lib.hid ha
  have hb : Below v9.heap.size v9 x9 := by rw [← hx]; exact (Below.refl _ _).alloc (Nat.le_refl _) _
  have HV9 : Hid (RV x9 a9 0 2 (.slice B9 0 c9) (.slice D9 1 d9)) := Lib.hid (by rw [← hx]; exact RV.of_new ha)
  have HX10 := Lib.hid (hn.below hb)
  have HV0kbkbbkbkbkkbkkkb := Lib.hid (HV0kbkbbkbkbkkbkkk.out.below hb)
  have HV1kbbkbkbkkbkkkb := Lib.hid (HV1kbbkbkbkkbkkk.out.below hb)
  have HV2bkbkbkkbkkkb := Lib.hid (HV2bkbkbkkbkkk.out.below hb)
  have HV3kbkkbkkkb := Lib.hid (HV3kbkkbkkk.out.below hb)
  have HV4kkbkkkb := Lib.hid (HV4kkbkkk.out.below hb)
  have HV6kkkb := Lib.hid (HV6kkk.out.below hb)
  clear hx ha hb hn hk HC HV0kbkbbkbkbkkbkkk HV1kbbkbkbkkbkkk HV2bkbkbkkbkkk HV3kbkkbkkk HV4kkbkkk HV6kkk
  go_upto_region 14 with fail
  rw [HXE.out, HAE.out]
  clear HXE HAE
  have HC : Hid (Calls Try.prog 13 #[.pointer (some ⟨n, 0, none⟩)] x9 (FallL w n p z11 x9)) := Lib.hid (nl_lose HX10.out (Nat.le_trans zf10.1 (by omega)) (by decide))
  clear HX10
  go_wp2_with fail
  refine HC.out.mono ?_
  rintro e v10 ⟨rfl, hn, hk⟩
  try dsimp only
  have HV0kbkbbkbkbkkbkkkbk := Lib.hid (HV0kbkbbkbkbkkbkkkb.out.keepN hk)
  have HV1kbbkbkbkkbkkkbk := Lib.hid (HV1kbbkbkbkkbkkkb.out.keepN hk)
  have HV2bkbkbkkbkkkbk := Lib.hid (HV2bkbkbkkbkkkb.out.keepN hk)
  have HV3kbkkbkkkbk := Lib.hid (HV3kbkkbkkkb.out.keepN hk)
  have HV4kkbkkkbk := Lib.hid (HV4kkbkkkb.out.keepN hk)
  have HV6kkkbk := Lib.hid (HV6kkkb.out.keepN hk)
  have HV9k := Lib.hid (HV9.out.keepN hk)
  clear HV0kbkbbkbkbkkbkkkb HV1kbbkbkbkkbkkkb HV2bkbkbkkbkkkb HV3kbkkbkkkb HV4kkbkkkb HV6kkkb HV9
  have HX11 := Lib.hid hn
  clear hn hk HC
  have HC : Hid (Calls Try.prog 10 #[.pointer (some ⟨n, 0, none⟩), rqv 5 0 0 0 none 0 0] v10 (DoN w n p z12 0 3 0 0 v10)) := Lib.hid (nl_says HX11.out (qInt) none 0 DatN.none_ (fun j hj => absurd hj (Nat.not_lt_zero j)) zf11 rfl zf12 zs11)
  unfold rqv at HC
  clear HX11
  go_wp2_with fail
  refine HC.out.mono ?_
  rintro e v11 ⟨B11, c11, D11, d11, rfl, hn, hk⟩
  unfold rpv
  try dsimp only
  have HV0kbkbbkbkbkkbkkkbkk := Lib.hid (HV0kbkbbkbkbkkbkkkbk.out.keepN hk)
  have HV1kbbkbkbkkbkkkbkk := Lib.hid (HV1kbbkbkbkkbkkkbk.out.keepN hk)
  have HV2bkbkbkkbkkkbkk := Lib.hid (HV2bkbkbkkbkkkbk.out.keepN hk)
  have HV3kbkkbkkkbkk := Lib.hid (HV3kbkkbkkkbk.out.keepN hk)
  have HV4kkbkkkbkk := Lib.hid (HV4kkbkkkbk.out.keepN hk)
  have HV6kkkbkk := Lib.hid (HV6kkkbk.out.keepN hk)
  have HV9kk := Lib.hid (HV9k.out.keepN hk)
  clear HV0kbkbbkbkbkkbkkkbk HV1kbbkbkbkkbkkkbk HV2bkbkbkkbkkkbk HV3kbkkbkkkbk HV4kkbkkkbk HV6kkkbk HV9k
  obtain ⟨x11, hx⟩ : ∃ x, v11.alloc (.cells #[.int .i64 0, .int .i64 3, .slice B11 0 c11, .slice D11 0 d11] 33) = x := ⟨_, rfl⟩
  have HXE := Lib.hid hx
  obtain ⟨a11, ha⟩ : ∃ a, v11.heap.size = a := ⟨_, rfl⟩
  have HAE := Lib.hid ha
  have hb : Below v11.heap.size v11 x11 := by rw [← hx]; exact (Below.refl _ _).alloc (Nat.le_refl _) _
  have HV11 : Hid (RV x11 a11 0 3 (.slice B11 0 c11) (.slice D11 0 d11)) := Lib.hid (by rw [← hx]; exact RV.of_new ha)
  have HX12 := Lib.hid (hn.below hb)
  have HV0kbkbbkbkbkkbkkkbkkb := Lib.hid (HV0kbkbbkbkbkkbkkkbkk.out.below hb)
  have HV1kbbkbkbkkbkkkbkkb := Lib.hid (HV1kbbkbkbkkbkkkbkk.out.below hb)
  have HV2bkbkbkkbkkkbkkb := Lib.hid (HV2bkbkbkkbkkkbkk.out.below hb)
  have HV3kbkkbkkkbkkb := Lib.hid (HV3kbkkbkkkbkk.out.below hb)
  have HV4kkbkkkbkkb := Lib.hid (HV4kkbkkkbkk.out.below hb)
  have HV6kkkbkkb := Lib.hid (HV6kkkbkk.out.below hb)
  have HV9kkb := Lib.hid (HV9kk.out.below hb)
  clear hx ha hb hn hk HC HV0kbkbbkbkbkkbkkkbkk HV1kbbkbkbkkbkkkbkk HV2bkbkbkkbkkkbkk HV3kbkkbkkkbkk HV4kkbkkkbkk HV6kkkbkk HV9kk
  go_upto_region 16 with fail
  rw [HXE.out, HAE.out]
  clear HXE HAE
  have y00 := HV0kbkbbkbkbkkbkkkbkkb.out.c0
  have y01 := HV0kbkbbkbkbkkbkkkbkkb.out.c1
  have y02 := HV0kbkbbkbkbkkbkkkbkkb.out.c2
  have y03 := HV0kbkbbkbkbkkbkkkbkkb.out.c3
  have y10 := HV1kbbkbkbkkbkkkbkkb.out.c0
  have y11 := HV1kbbkbkbkkbkkkbkkb.out.c1
  have y12 := HV1kbbkbkbkkbkkkbkkb.out.c2
  have y13 := HV1kbbkbkbkkbkkkbkkb.out.c3
  have y20 := HV2bkbkbkkbkkkbkkb.out.c0
  have y21 := HV2bkbkbkkbkkkbkkb.out.c1
  have y22 := HV2bkbkbkkbkkkbkkb.out.c2
  have y23 := HV2bkbkbkkbkkkbkkb.out.c3
  have y30 := HV3kbkkbkkkbkkb.out.c0
  have y31 := HV3kbkkbkkkbkkb.out.c1
  have y32 := HV3kbkkbkkkbkkb.out.c2
  have y33 := HV3kbkkbkkkbkkb.out.c3
  have y40 := HV4kkbkkkbkkb.out.c0
  have y41 := HV4kkbkkkbkkb.out.c1
  have y42 := HV4kkbkkkbkkb.out.c2
  have y43 := HV4kkbkkkbkkb.out.c3
  have y60 := HV6kkkbkkb.out.c0
  have y61 := HV6kkkbkkb.out.c1
  have y62 := HV6kkkbkkb.out.c2
  have y63 := HV6kkkbkkb.out.c3
  have y90 := HV9kkb.out.c0
  have y91 := HV9kkb.out.c1
  have y92 := HV9kkb.out.c2
  have y93 := HV9kkb.out.c3
  have y110 := HV11.out.c0
  have y111 := HV11.out.c1
  have y112 := HV11.out.c2
  have y113 := HV11.out.c3
  have HBO : Hid (Calls Try.prog 14 #[.pointer (some ⟨n, 0, none⟩)] x11 fun e w' => e = .returned (.int .i64 3) ∧ w' = x11) := Lib.hid (nl_boot HX12.out)
  have HPL := Lib.hid (nl_platter HX12.out)
  obtain ⟨SS, hp⟩ := HX12.out.plt
  have HBL := Lib.hid (dblocks hp)
  have HBW := Lib.hid HX12.out.blw
  clear hp HX12
  go_wp2_with fail
  refine HBO.out.mono ?_
  rintro e w' ⟨rfl, hw⟩
  obtain rfl := hw.symm
  try dsimp only
  go_wp2_with fail
  refine HPL.out.mono ?_
  rintro e w' ⟨rfl, hw⟩
  obtain rfl := hw.symm
  try dsimp only
  go_wp2_with fail
  refine HBL.out.mono ?_
  rintro e w' ⟨rfl, hw⟩
  obtain rfl := hw.symm
  try dsimp only
  go_wp2_with fail
  go_ret
  exact ⟨rfl, HBW.out⟩
end Go.Proofs.Ytofmilkjhnkgjaa
