import Derived.Test.YtjbicpekpgaokaaIn14
import Derived.Deep.RegionHeld
namespace Go.Proofs.Ytjbicpekpgaokaa
open Go.RowKit Go.Sort
set_option maxRecDepth 100000
set_option maxHeartbeats 4000000

abbrev kA : It := oneI 2 5 1
abbrev kB : It := oneI 2 6 2
abbrev kC : It := oneI 2 5 3
theorem bytes_13 : bytesF 1 0 ≠ bytesF 3 0 := by decide +kernel
theorem kA_ok : kA.Ok := oneI_ok (by omega) (by omega) (by omega)
theorem kB_ok : kB.Ok := oneI_ok (by omega) (by omega) (by omega)
theorem kC_ok : kC.Ok := oneI_ok (by omega) (by omega) (by omega)
theorem kAB : ¬ kA.Alike kB := fun h => absurd (show (5 : Nat) = 6 from h.2.1) (by omega)
theorem kAC : ¬ kA.Alike kC := fun h => bytes_13 (h.2.2 0 (by omega))
theorem kBC : ¬ kB.Alike kC := fun h => absurd (show (6 : Nat) = 5 from h.2.1) (by omega)
theorem k12 : ¬ (oneI 1 1 1).Alike (oneI 1 1 2) := fun h => bytes_12 (h.2.2 0 (by omega))
abbrev kT : List Nt := [(1, kA), (2, kB), (3, kC)]
abbrev kU : List Nt := [(1, kA), (3, kC)]
theorem kT_rel : kT.filter (keepsR 2 6) = kU := by kernel_rfl
theorem kU_rel : kU.filter (keepsR 2 6) = kU := by kernel_rfl
def kF (k : Nat) : It := if k = 0 then kA else if k = 1 then kB else kC
def kD1 : Disk := Disk.blank.write 80 (itS 1 kA)
def kD2 : Disk := kD1.flush.write 81 (itS 2 kB)
def kD3 : Disk := kD2.write 82 (itS 3 kC)
theorem kD1_now (k : Nat) : kD1.now k = if k = 80 then itS 1 kA else fun _ => 0 := rfl
theorem kD3_now (k : Nat) : kD3.now k = if k = 82 then itS 3 kC else if k = 81 then itS 2 kB else kD1.now k := rfl
theorem kDc_now (k : Nat) : (kD3.crash (keepF [])).now k = kD1.now k := rfl
theorem kF_ok (k : Nat) : (kF k).Ok := by
  unfold kF
  split
  · exact kA_ok
  · split
    · exact kB_ok
    · exact kC_ok
theorem kD3_on (k : Nat) (h : k < 3) : (kF k).Ok ∧ ∀ j, j < 160 → kD3.now (80 + k) j = itS (k + 1) (kF k) j := by
  refine ⟨kF_ok k, fun j _ => ?_⟩
  rw [kD3_now, kD1_now]
  unfold kF
  obtain rfl | rfl | rfl : k = 0 ∨ k = 1 ∨ k = 2 := by omega
  · rfl
  · rfl
  · rfl
theorem kD3_off (k : Nat) (h : 3 ≤ k) (_ : k < 16) (j : Nat) (_ : j < 160) : kD3.now (80 + k) j = 0 := by
  rw [kD3_now, kD1_now, if_neg (by omega), if_neg (by omega), if_neg (by omega)]
theorem kDc_on (k : Nat) (h : k < 1) : (kF k).Ok ∧ ∀ j, j < 160 → (kD3.crash (keepF [])).now (80 + k) j = itS (k + 1) (kF k) j := by
  obtain rfl : k = 0 := by omega
  refine ⟨kF_ok 0, fun j _ => ?_⟩
  rw [kDc_now, kD1_now]
  rfl
theorem kDc_off (k : Nat) (h : 1 ≤ k) (_ : k < 16) (j : Nat) (_ : j < 160) : (kD3.crash (keepF [])).now (80 + k) j = 0 := by
  rw [kDc_now, kD1_now, if_neg (by omega)]
/-- Two intents in a row of one's own. -/
def L2 (W : World) (b : Nat) (x y : It) (Ax : Option Addr) (cx : Nat) (Ay : Option Addr) (cy : Nat) : Prop :=
  (∃ cur, W.heap[b]? = some (.cells cur 71 (0, 0)) ∧ cur[0]? = some (.int .i64 (x.s : Int)) ∧ cur[1]? = some (.int .i64 (x.g : Int)) ∧ cur[2]? = some (.slice Ax 128 cx) ∧ cur[3]? = some (.int .i64 (y.s : Int)) ∧ cur[4]? = some (.int .i64 (y.g : Int)) ∧ cur[5]? = some (.slice Ay 128 cy)) ∧ DatI W Ax x.D ∧ DatI W Ay y.D
theorem cellK {W : World} {b k : Nat} {cur : Array Value} {t : TypeId} {v : Value} (h : W.heap[b]? = some (.cells cur t (0, 0))) (hv : cur[k]? = some v) : W.cell? ⟨b, k, none⟩ = some v := by
  simp [World.cell?, h, hv]
theorem LI.two {W : World} {B : Nat} {v : Value} {x y : It} (h : LI W B v [x, y]) : ∃ b c Ax cx Ay cy, v = .slice (some ⟨b, 0, none⟩) 2 c ∧ L2 W b x y Ax cx Ay cy := by
  rcases h.pl with ⟨h0, _⟩ | ⟨b, c, cur, rfl, _, hh, hx⟩
  · cases h0
  · obtain ⟨Ax, cx, a0, a1, a2, ad⟩ := hx 0 x rfl
    obtain ⟨Ay, cy, b0, b1, b2, bd⟩ := hx 1 y rfl
    exact ⟨b, c, Ax, cx, Ay, cy, rfl, ⟨cur, hh, a0, a1, a2, b0, b1, b2⟩, ad, bd⟩
def L1 (W : World) (b : Nat) (x : It) (Ax : Option Addr) (cx : Nat) : Prop :=
  (∃ cur, W.heap[b]? = some (.cells cur 71 (0, 0)) ∧ cur[0]? = some (.int .i64 (x.s : Int)) ∧ cur[1]? = some (.int .i64 (x.g : Int)) ∧ cur[2]? = some (.slice Ax 128 cx)) ∧ DatI W Ax x.D
theorem LI.one {W : World} {B : Nat} {v : Value} {x : It} (h : LI W B v [x]) : ∃ b c Ax cx, v = .slice (some ⟨b, 0, none⟩) 1 c ∧ L1 W b x Ax cx := by
  rcases h.pl with ⟨h0, _⟩ | ⟨b, c, cur, rfl, _, hh, hx⟩
  · cases h0
  · obtain ⟨Ax, cx, a0, a1, a2, ad⟩ := hx 0 x rfl
    exact ⟨b, c, Ax, cx, rfl, ⟨cur, hh, a0, a1, a2⟩, ad⟩
theorem L2.keepI {w w' : World} {b : Nat} {x y : It} {Ax Ay : Option Addr} {cx cy : Nat} (h : L2 w b x y Ax cx Ay cy) (k : KeepI w w') : L2 w' b x y Ax cx Ay cy := by
  obtain ⟨⟨cur, hh, r⟩, d1, d2⟩ := h
  exact ⟨⟨cur, (k.2 b cur _ hh (Or.inr rfl)).trans hh, r⟩, d1.keepI k, d2.keepI k⟩
theorem L2.below {w w' : World} {b : Nat} {x y : It} {Ax Ay : Option Addr} {cx cy : Nat} (h : L2 w b x y Ax cx Ay cy) (k : Below w.heap.size w w') : L2 w' b x y Ax cx Ay cy := h.keepI (KeepI.of k)
theorem L2.cells {w : World} {b : Nat} {x y : It} {Ax Ay : Option Addr} {cx cy : Nat} (h : L2 w b x y Ax cx Ay cy) : w.cell? ⟨b, 0, none⟩ = some (.int .i64 (x.s : Int)) ∧ w.cell? ⟨b, 1, none⟩ = some (.int .i64 (x.g : Int)) ∧ w.cell? ⟨b, 2, none⟩ = some (.slice Ax 128 cx) ∧ w.cell? ⟨b, 3, none⟩ = some (.int .i64 (y.s : Int)) ∧ w.cell? ⟨b, 4, none⟩ = some (.int .i64 (y.g : Int)) ∧ w.cell? ⟨b, 5, none⟩ = some (.slice Ay 128 cy) := by
  obtain ⟨⟨cur, hh, a, b, c, d, e, f⟩, _, _⟩ := h
  exact ⟨cellK hh a, cellK hh b, cellK hh c, cellK hh d, cellK hh e, cellK hh f⟩
theorem L1.below {w w' : World} {b : Nat} {x : It} {Ax : Option Addr} {cx : Nat} (h : L1 w b x Ax cx) (k : Below w.heap.size w w') : L1 w' b x Ax cx := by
  obtain ⟨⟨cur, hh, r⟩, d1⟩ := h
  exact ⟨⟨cur, (k.block b (heap_lt hh)).trans hh, r⟩, d1.below k⟩
theorem L1.cells {w : World} {b : Nat} {x : It} {Ax : Option Addr} {cx : Nat} (h : L1 w b x Ax cx) : w.cell? ⟨b, 0, none⟩ = some (.int .i64 (x.s : Int)) ∧ w.cell? ⟨b, 1, none⟩ = some (.int .i64 (x.g : Int)) ∧ w.cell? ⟨b, 2, none⟩ = some (.slice Ax 128 cx) := by
  obtain ⟨⟨cur, hh, a, b, c⟩, _⟩ := h
  exact ⟨cellK hh a, cellK hh b, cellK hh c⟩
theorem okJ00 : ¬ OkJ 0 0 128 := by
  unfold OkJ
  omega
theorem okJn : ¬ OkJ 0 0 0 := by
  unfold OkJ
  omega
theorem intentKnown (w : World) : Calls Try.prog 10 #[] w fun e w' => e = .returned (.bool true) ∧ Below w.heap.size w w' := by
  have HN := Lib.hid (dnew_of w 96 96 (by omega) rfl)
  go_enter Try.func10, Try.ntmps10
  go_wp2_with fail
  refine HN.out.mono ?_
  rintro e w1 ⟨p, S1, rfl, hp1, hb1, hS1⟩
  try dsimp only
  have HOP := Lib.hid (kd_open (w0 := w) hp1 hS1 hb1)
  clear hp1 hb1 hS1 HN
  go_wp2_with fail
  refine HOP.out.mono ?_
  rintro e w2 ⟨r, sb, rfl, hr2⟩
  try dsimp only
  have HK2 := Lib.hid hr2
  have HKN := Lib.hid (lknown9 w2)
  clear hr2 HOP
  go_wp2_with fail
  refine HKN.out.mono ?_
  rintro e w3 ⟨rfl, hb⟩
  try dsimp only
  have HK3 := Lib.hid (HK2.out.below hb)
  clear hb HK2
  have HNIL := Lib.hid (iopen_nil w3)
  clear HKN
  go_wp2_with fail
  refine HNIL.out.mono ?_
  rintro e w4 ⟨rfl, hb⟩
  try dsimp only
  have HK4 := Lib.hid (HK3.out.below hb)
  clear hb HK3
  have HN95 := Lib.hid (dnew_of w4 95 95 (by omega) rfl)
  clear HNIL
  go_wp2_with fail
  refine HN95.out.mono ?_
  rintro e w5 ⟨q, S5, rfl, hq, hb, _⟩
  try dsimp only
  have HSM := Lib.hid (iopen_small hq)
  have HK5 := Lib.hid (HK4.out.below hb)
  clear hb HK4
  clear HN95 hq
  go_wp2_with fail
  refine HSM.out.mono ?_
  rintro e w6 ⟨rfl, hb⟩
  try dsimp only
  have HK6 := Lib.hid (HK5.out.below hb)
  clear hb HK5
  have HON := Lib.hid (lone9I 0 0 0 0 1 w6 rfl rfl)
  clear HSM
  go_wp2_with fail
  refine HON.out.mono ?_
  rintro e w7 ⟨b, rfl, kb, hb, _⟩
  try dsimp only
  have HK7 := Lib.hid (HK6.out.below hb)
  clear hb HK6
  clear kb HON
  have HLG := Lib.hid (kd_arg HK7.out 0 0 (some ⟨b, 0, none⟩) 128 128 okJ00)
  go_wp2_with fail
  refine HLG.out.mono ?_
  rintro e w8 ⟨rfl, hb⟩
  try dsimp only
  have HK8 := Lib.hid (HK7.out.below hb)
  clear hb HK7
  have HON := Lib.hid (lone9I 2 5 2 5 1 w8 rfl rfl)
  clear HLG
  go_wp2_with fail
  refine HON.out.mono ?_
  rintro e w9 ⟨b8, rfl, kb, hb, _⟩
  try dsimp only
  have HK9 := Lib.hid (HK8.out.below hb)
  clear hb HK8
  have HLG := Lib.hid (kd_log HK9.out kA (some ⟨b8, 0, none⟩) 128 kA_ok (DatI.blk kb) (fun e he => by cases he) (by omega))
  clear kb HON
  go_wp2_with fail
  refine HLG.out.mono ?_
  rintro e w10 ⟨rfl, hr⟩
  try dsimp only
  have HK10 : Hid (KD w r p sb [(1, kA)] 1 kD1 w10) := Lib.hid hr
  clear hr HK9
  have HFL := Lib.hid (kd_flush HK10.out)
  clear HLG
  go_wp2_with fail
  refine HFL.out.mono ?_
  rintro e w11 ⟨rfl, hr⟩
  try dsimp only
  have HK11 := Lib.hid hr
  clear hr HK10
  have HON := Lib.hid (lone9I 2 6 2 6 2 w11 rfl rfl)
  clear HFL
  go_wp2_with fail
  refine HON.out.mono ?_
  rintro e w12 ⟨b11, rfl, kb, hb, _⟩
  try dsimp only
  have HK12 := Lib.hid (HK11.out.below hb)
  clear hb HK11
  have HLG := Lib.hid (kd_log HK12.out kB (some ⟨b11, 0, none⟩) 128 kB_ok (DatI.blk kb) (fun e he => by rw [List.mem_singleton] at he; subst he; exact kAB) (by omega))
  clear kb HON
  go_wp2_with fail
  refine HLG.out.mono ?_
  rintro e w13 ⟨rfl, hr⟩
  try dsimp only
  have HK13 : Hid (KD w r p sb [(1, kA), (2, kB)] 2 kD2 w13) := Lib.hid hr
  clear hr HK12
  have HON := Lib.hid (lone9I 2 5 2 5 1 w13 rfl rfl)
  clear HLG
  go_wp2_with fail
  refine HON.out.mono ?_
  rintro e w14 ⟨b13, rfl, kb, hb, _⟩
  try dsimp only
  have HK14 := Lib.hid (HK13.out.below hb)
  clear hb HK13
  have HLG := Lib.hid (kd_same HK14.out kA (some ⟨b13, 0, none⟩) 128 kA_ok (DatI.blk kb) ⟨(1, kA), by simp, It.Alike.refl _⟩)
  clear kb HON
  go_wp2_with fail
  refine HLG.out.mono ?_
  rintro e w15 ⟨rfl, hb⟩
  try dsimp only
  have HK15 := Lib.hid (HK14.out.below hb)
  clear hb HK14
  have HON := Lib.hid (lone9I 2 5 2 5 3 w15 rfl rfl)
  clear HLG
  go_wp2_with fail
  refine HON.out.mono ?_
  rintro e w16 ⟨b15, rfl, kb, hb, _⟩
  try dsimp only
  have HK16 := Lib.hid (HK15.out.below hb)
  clear hb HK15
  have HLG := Lib.hid (kd_log HK16.out kC (some ⟨b15, 0, none⟩) 128 kC_ok (DatI.blk kb) (fun e he => by
      rw [List.mem_cons, List.mem_singleton] at he
      rcases he with rfl | rfl
      · exact kAC
      · exact kBC) (by omega))
  clear kb HON
  go_wp2_with fail
  refine HLG.out.mono ?_
  rintro e w17 ⟨rfl, hr⟩
  try dsimp only
  have hk : KD w r p sb kT 3 kD3 w17 := hr
  have HK17 := Lib.hid (hk.rd (by omega))
  clear hr hk HK16 HLG
  have HFR : Hid (Calls Try.prog 50 #[.pointer (some ⟨r, 0, none⟩)] w17 fun e w' => e = .returned (.int .i64 13) ∧ Below w17.heap.size w17 w') := Lib.hid (rd_free HK17.out)
  go_wp2_with fail
  refine HFR.out.mono ?_
  rintro e w18 ⟨rfl, hb⟩
  try dsimp only
  have HK18 := Lib.hid (HK17.out.below hb)
  clear hb HK17
  have HRL : Hid (Calls Try.prog 51 #[.pointer (some ⟨r, 0, none⟩), .int .i64 2, .int .i64 6] w18 (DRelRet w r p sb kU 3 kD3 1)) := Lib.hid (by
    have h := rd_rel HK18.out 2 6
    rw [kT_rel] at h
    exact h)
  clear HFR
  go_wp2_with fail
  refine HRL.out.mono ?_
  rintro e w19 ⟨rfl, hr⟩
  try dsimp only
  have HK19 := Lib.hid hr
  clear hr HK18 HRL
  have HRL : Hid (Calls Try.prog 51 #[.pointer (some ⟨r, 0, none⟩), .int .i64 2, .int .i64 6] w19 (DRelRet w r p sb kU 3 kD3 0)) := Lib.hid (by
    have h := rd_rel HK19.out 2 6
    rw [kU_rel] at h
    exact h)
  go_wp2_with fail
  refine HRL.out.mono ?_
  rintro e w20 ⟨rfl, hr⟩
  try dsimp only
  have HK20 := Lib.hid hr
  clear hr HK19 HRL
  have HLV := Lib.hid (rd_live HK20.out)
  go_wp2_with fail
  refine HLV.out.mono ?_
  rintro e w21 ⟨u, rfl, hu, hb⟩
  try dsimp only
  obtain ⟨bl, cl, Aa, ca, Ac, cc, rfl, hl2⟩ := LI.two (x := kA) (y := kC) hu
  have HL2 := Lib.hid hl2
  have HK21 := Lib.hid (HK20.out.below hb)
  clear hb HK20
  have HOP := Lib.hid (rd_open HK21.out kF 3 (by omega) kD3_on kD3_off)
  clear hu hl2 HLV
  go_wp2_with fail
  refine HOP.out.mono ?_
  rintro e w22 ⟨s, ss, rfl, hs, hb⟩
  try dsimp only
  have HS22 := Lib.hid hs
  have HL3 := Lib.hid (HL2.out.below hb)
  clear hs hb HL2 HK21 HOP
  have HCR := Lib.hid (rd_crash HS22.out)
  go_wp2_with fail
  refine HCR.out.mono ?_
  rintro e w23 ⟨rfl, hs, hk⟩
  try dsimp only
  have HS23 := Lib.hid hs
  have HL4 := Lib.hid (HL3.out.keepI hk)
  clear hs hk HS22 HL3 HCR
  have HOP := Lib.hid (rd_open HS23.out kF 1 (by omega) kDc_on kDc_off)
  go_wp2_with fail
  refine HOP.out.mono ?_
  rintro e w24 ⟨t, st, rfl, ht, hb⟩
  try dsimp only
  have HT24 := Lib.hid ht
  have HS24 := Lib.hid (HS23.out.below hb)
  have HL5 := Lib.hid (HL4.out.below hb)
  clear ht hb HS23 HL4 HOP
  have HLV := Lib.hid (rd_live HS24.out)
  go_wp2_with fail
  refine HLV.out.mono ?_
  rintro e w25 ⟨u, rfl, hu, hb⟩
  try dsimp only
  obtain ⟨A6, c6, hu6⟩ := hu.form
  rw [List.length_map, Ts_len] at hu6
  subst hu6
  have HT25 := Lib.hid (HT24.out.below hb)
  have HL6 := Lib.hid (HL5.out.below hb)
  clear hu hb HS24 HT24 HL5 HLV
  have HLV := Lib.hid (rd_live HT25.out)
  go_wp2_with fail
  refine HLV.out.mono ?_
  rintro e w26 ⟨u, rfl, hu, hb⟩
  try dsimp only
  obtain ⟨A7, c7, hu7⟩ := hu.form
  rw [List.length_map, Ts_len] at hu7
  subst hu7
  have HT26 := Lib.hid (HT25.out.below hb)
  have HL7 := Lib.hid (HL6.out.below hb)
  have HB26 := Lib.hid HT26.out.blw
  clear hu hb HT25 HL6 HLV
  go_wp2_with fail
  have hbW := below_drewN 1 w26
  have HSY : Hid (∀ W, Below w26.heap.size w26 W → (fun W => W.cell? ⟨bl, 0, none⟩ = some (.int .i64 (kA.s : Int)) ∧ W.cell? ⟨bl, 1, none⟩ = some (.int .i64 (kA.g : Int)) ∧ W.cell? ⟨bl, 2, none⟩ = some (.slice Aa 128 ca) ∧ W.cell? ⟨bl, 3, none⟩ = some (.int .i64 (kC.s : Int)) ∧ W.cell? ⟨bl, 4, none⟩ = some (.int .i64 (kC.g : Int)) ∧ W.cell? ⟨bl, 5, none⟩ = some (.slice Ac 128 cc)) W) := Lib.hid (fun W hW => (HL7.out.below hW).cells)
  have HR0 := Lib.hid (fun W => iright 0 0 none 0 0 W false ⟨fun h => (by cases h), fun h => absurd h okJn⟩)
  have HSZ := Lib.hid HB26.out.size
  unfold iv at HR0
  simp only [List.append_eq, List.cons_append, List.nil_append]
  refine wp_region_held_drew (S := (fun W => W.cell? ⟨bl, 0, none⟩ = some (.int .i64 (kA.s : Int)) ∧ W.cell? ⟨bl, 1, none⟩ = some (.int .i64 (kA.g : Int)) ∧ W.cell? ⟨bl, 2, none⟩ = some (.slice Aa 128 ca) ∧ W.cell? ⟨bl, 3, none⟩ = some (.int .i64 (kC.s : Int)) ∧ W.cell? ⟨bl, 4, none⟩ = some (.int .i64 (kC.g : Int)) ∧ W.cell? ⟨bl, 5, none⟩ = some (.slice Ac 128 cc))) (by as_aux_lemma => kernel_rfl) ?_ (fun hHeld => ?_)
  · exact HSY.out _ hbW
  refine wpAnyH_take (i := 0) (v := ?_) rfl (by as_aux_lemma => kernel_rfl) (by as_aux_lemma => kernel_rfl) (by as_aux_lemma => kernel_rfl) (fun _ _ _ h => h) (Or.inl ⟨by rfl, ?_⟩) (by assumption) ?_
  rotate_left
  · intro w hSw; (try dsimp only at hSw); go_simp; (try with_reducible rfl)
  simp only [Act.put, List.getElem_toArray, List.getElem_cons_zero, List.setIfInBounds_toArray, List.set_cons_zero, List.set_cons_succ]
  refine wpAnyH_take (i := 1) (v := ?_) rfl (by as_aux_lemma => kernel_rfl) (by as_aux_lemma => kernel_rfl) (by as_aux_lemma => kernel_rfl) (fun _ _ _ h => h) (Or.inl ⟨by rfl, ?_⟩) (by assumption) ?_
  rotate_left
  · intro w hSw; (try dsimp only at hSw); go_simp; (try with_reducible rfl)
  simp only [Act.put, List.getElem_toArray, List.getElem_cons_zero, List.getElem_cons_succ, List.setIfInBounds_toArray, List.set_cons_zero, List.set_cons_succ]
  refine wpAnyH_take (i := 2) (v := ?_) rfl (by as_aux_lemma => kernel_rfl) (by as_aux_lemma => kernel_rfl) (by as_aux_lemma => kernel_rfl) (fun _ _ _ h => h) (Or.inl ⟨by rfl, ?_⟩) (by assumption) ?_
  rotate_left
  · intro w hSw; (try dsimp only at hSw); go_simp; (try with_reducible rfl)
  simp only [Act.put, List.getElem_toArray, List.getElem_cons_zero, List.getElem_cons_succ, List.setIfInBounds_toArray, List.set_cons_zero, List.set_cons_succ]
  refine wpAnyH_take (i := 3) (v := ?_) rfl (by as_aux_lemma => kernel_rfl) (by as_aux_lemma => kernel_rfl) (by as_aux_lemma => kernel_rfl) (fun _ _ _ h => h) (Or.inl ⟨by rfl, ?_⟩) (by assumption) ?_
  rotate_left
  · intro w hSw; (try dsimp only at hSw); go_simp; (try with_reducible rfl)
  simp only [Act.put, List.getElem_toArray, List.getElem_cons_zero, List.getElem_cons_succ, List.setIfInBounds_toArray, List.set_cons_zero, List.set_cons_succ]
  refine wpAnyH_take (i := 4) (v := ?_) rfl (by as_aux_lemma => kernel_rfl) (by as_aux_lemma => kernel_rfl) (by as_aux_lemma => kernel_rfl) (fun _ _ _ h => h) (Or.inl ⟨by rfl, ?_⟩) (by assumption) ?_
  rotate_left
  · intro w hSw; (try dsimp only at hSw); go_simp; (try with_reducible rfl)
  simp only [Act.put, List.getElem_toArray, List.getElem_cons_zero, List.getElem_cons_succ, List.setIfInBounds_toArray, List.set_cons_zero, List.set_cons_succ]
  refine wpAnyH_take (i := 5) (v := ?_) rfl (by as_aux_lemma => kernel_rfl) (by as_aux_lemma => kernel_rfl) (by as_aux_lemma => kernel_rfl) (fun _ _ _ h => h) (Or.inl ⟨by rfl, ?_⟩) (by assumption) ?_
  rotate_left
  · intro w hSw; (try dsimp only at hSw); go_simp; (try with_reducible rfl)
  simp only [Act.put, List.getElem_toArray, List.getElem_cons_zero, List.getElem_cons_succ, List.setIfInBounds_toArray, List.set_cons_zero, List.set_cons_succ]
  refine wpAnyH_take (i := 6) (v := ?_) rfl (by as_aux_lemma => kernel_rfl) (by as_aux_lemma => kernel_rfl) (by as_aux_lemma => kernel_rfl) (fun _ _ _ h => h) (Or.inl ⟨by rfl, ?_⟩) (by assumption) ?_
  rotate_left
  · intro w hSw; (try dsimp only at hSw); go_simp; (try with_reducible rfl)
  simp only [Act.put, List.getElem_toArray, List.getElem_cons_zero, List.getElem_cons_succ, List.setIfInBounds_toArray, List.set_cons_zero, List.set_cons_succ]
  refine wpAnyH_take (i := 7) (v := ?_) rfl (by as_aux_lemma => kernel_rfl) (by as_aux_lemma => kernel_rfl) (by as_aux_lemma => kernel_rfl) (fun _ _ _ h => h) (Or.inl ⟨by rfl, ?_⟩) (by assumption) ?_
  rotate_left
  · intro w hSw; (try dsimp only at hSw); go_simp; (try with_reducible rfl)
  simp only [Act.put, List.getElem_toArray, List.getElem_cons_zero, List.getElem_cons_succ, List.setIfInBounds_toArray, List.set_cons_zero, List.set_cons_succ]
  refine wpAnyH_take (i := 8) (v := ?_) rfl (by as_aux_lemma => kernel_rfl) (by as_aux_lemma => kernel_rfl) (by as_aux_lemma => kernel_rfl) (fun _ _ _ h => h) (Or.inl ⟨by rfl, ?_⟩) (by assumption) ?_
  rotate_left
  · intro w hSw; (try dsimp only at hSw); go_simp; (try with_reducible rfl)
  simp only [Act.put, List.getElem_toArray, List.getElem_cons_zero, List.getElem_cons_succ, List.setIfInBounds_toArray, List.set_cons_zero, List.set_cons_succ]
  refine wpAnyH_take (i := 9) (v := ?_) rfl (by as_aux_lemma => kernel_rfl) (by as_aux_lemma => kernel_rfl) (by as_aux_lemma => kernel_rfl) (fun _ _ _ h => h) (Or.inl ⟨by rfl, ?_⟩) (by assumption) ?_
  rotate_left
  · intro w hSw; (try dsimp only at hSw); go_simp; (try with_reducible rfl)
  simp only [Act.put, List.getElem_toArray, List.getElem_cons_zero, List.getElem_cons_succ, List.setIfInBounds_toArray, List.set_cons_zero, List.set_cons_succ]
  refine wpAnyH_take (i := 10) (v := ?_) rfl (by as_aux_lemma => kernel_rfl) (by as_aux_lemma => kernel_rfl) (by as_aux_lemma => kernel_rfl) (fun _ _ _ h => h) (Or.inl ⟨by rfl, ?_⟩) (by assumption) ?_
  rotate_left
  · intro w hSw; (try dsimp only at hSw); go_simp; (try with_reducible rfl)
  simp only [Act.put, List.getElem_toArray, List.getElem_cons_zero, List.getElem_cons_succ, List.setIfInBounds_toArray, List.set_cons_zero, List.set_cons_succ]
  refine wpAnyH_take (i := 11) (v := ?_) rfl (by as_aux_lemma => kernel_rfl) (by as_aux_lemma => kernel_rfl) (by as_aux_lemma => kernel_rfl) (fun _ _ _ h => h) (Or.inl ⟨by rfl, ?_⟩) (by assumption) ?_
  rotate_left
  · intro w hSw; (try dsimp only at hSw); go_simp; (try with_reducible rfl)
  simp only [Act.put, List.getElem_toArray, List.getElem_cons_zero, List.getElem_cons_succ, List.setIfInBounds_toArray, List.set_cons_zero, List.set_cons_succ]
  refine wpAnyH_take (i := 12) (v := ?_) rfl (by as_aux_lemma => kernel_rfl) (by as_aux_lemma => kernel_rfl) (by as_aux_lemma => kernel_rfl) (fun _ _ _ h => h) (Or.inl ⟨by rfl, ?_⟩) (by assumption) ?_
  rotate_left
  · intro w hSw; (try dsimp only at hSw); go_simp; (try with_reducible rfl)
  simp only [Act.put, List.getElem_toArray, List.getElem_cons_zero, List.getElem_cons_succ, List.setIfInBounds_toArray, List.set_cons_zero, List.set_cons_succ]
  refine wpAnyH_take (i := 13) (v := ?_) rfl (by as_aux_lemma => kernel_rfl) (by as_aux_lemma => kernel_rfl) (by as_aux_lemma => kernel_rfl) (fun _ _ _ h => h) (Or.inl ⟨by rfl, ?_⟩) (by assumption) ?_
  rotate_left
  · intro w hSw; (try dsimp only at hSw); go_simp; (try with_reducible rfl)
  simp only [Act.put, List.getElem_toArray, List.getElem_cons_zero, List.getElem_cons_succ, List.setIfInBounds_toArray, List.set_cons_zero, List.set_cons_succ]
  refine wpAnyH_take (i := 14) (v := ?_) rfl (by as_aux_lemma => kernel_rfl) (by as_aux_lemma => kernel_rfl) (by as_aux_lemma => kernel_rfl) (fun _ _ _ h => h) (Or.inl ⟨by rfl, ?_⟩) (by assumption) ?_
  rotate_left
  · intro w hSw; (try dsimp only at hSw); go_simp; (try with_reducible rfl)
  simp only [Act.put, List.getElem_toArray, List.getElem_cons_zero, List.getElem_cons_succ, List.setIfInBounds_toArray, List.set_cons_zero, List.set_cons_succ]
  refine wpAnyH_take (i := 15) (v := ?_) rfl (by as_aux_lemma => kernel_rfl) (by as_aux_lemma => kernel_rfl) (by as_aux_lemma => kernel_rfl) (fun _ _ _ h => h) (Or.inl ⟨by rfl, ?_⟩) (by assumption) ?_
  rotate_left
  · intro w hSw; (try dsimp only at hSw); go_simp; (try with_reducible rfl)
  simp only [Act.put, List.getElem_toArray, List.getElem_cons_zero, List.getElem_cons_succ, List.setIfInBounds_toArray, List.set_cons_zero, List.set_cons_succ]
  refine wpAnyH_take (i := 16) (v := ?_) rfl (by as_aux_lemma => kernel_rfl) (by as_aux_lemma => kernel_rfl) (by as_aux_lemma => kernel_rfl) (fun _ _ _ h => h) (Or.inl ⟨by rfl, ?_⟩) (by assumption) ?_
  rotate_left
  · intro w hSw; (try dsimp only at hSw); go_simp; (try with_reducible rfl)
  simp only [Act.put, List.getElem_toArray, List.getElem_cons_zero, List.getElem_cons_succ, List.setIfInBounds_toArray, List.set_cons_zero, List.set_cons_succ]
  refine wpAnyH_take (i := 17) (v := ?_) rfl (by as_aux_lemma => kernel_rfl) (by as_aux_lemma => kernel_rfl) (by as_aux_lemma => kernel_rfl) (fun _ _ _ h => h) (Or.inl ⟨by rfl, ?_⟩) (by assumption) ?_
  rotate_left
  · intro w hSw; (try dsimp only at hSw); go_simp; (try with_reducible rfl)
  simp only [Act.put, List.getElem_toArray, List.getElem_cons_zero, List.getElem_cons_succ, List.setIfInBounds_toArray, List.set_cons_zero, List.set_cons_succ]
  refine wpAnyH_take (i := 18) (v := ?_) rfl (by as_aux_lemma => kernel_rfl) (by as_aux_lemma => kernel_rfl) (by as_aux_lemma => kernel_rfl) (fun _ _ _ h => h) (Or.inl ⟨by rfl, ?_⟩) (by assumption) ?_
  rotate_left
  · intro w hSw; (try dsimp only at hSw); go_simp; (try with_reducible rfl)
  simp only [Act.put, List.getElem_toArray, List.getElem_cons_zero, List.getElem_cons_succ, List.setIfInBounds_toArray, List.set_cons_zero, List.set_cons_succ]
  refine wpAnyH_take (i := 19) (v := ?_) rfl (by as_aux_lemma => kernel_rfl) (by as_aux_lemma => kernel_rfl) (by as_aux_lemma => kernel_rfl) (fun _ _ _ h => h) (Or.inl ⟨by rfl, ?_⟩) (by assumption) ?_
  rotate_left
  · intro w hSw; (try dsimp only at hSw); go_simp; (try with_reducible rfl)
  simp only [Act.put, List.getElem_toArray, List.getElem_cons_zero, List.getElem_cons_succ, List.setIfInBounds_toArray, List.set_cons_zero, List.set_cons_succ]
  refine wpAnyH_take (i := 20) (v := ?_) rfl (by as_aux_lemma => kernel_rfl) (by as_aux_lemma => kernel_rfl) (by as_aux_lemma => kernel_rfl) (fun _ _ _ h => h) (Or.inl ⟨by rfl, ?_⟩) (by assumption) ?_
  rotate_left
  · intro w hSw; (try dsimp only at hSw); go_simp; (try with_reducible rfl)
  simp only [Act.put, List.getElem_toArray, List.getElem_cons_zero, List.getElem_cons_succ, List.setIfInBounds_toArray, List.set_cons_zero, List.set_cons_succ]
  refine wpAnyH_take (i := 21) (v := ?_) rfl (by as_aux_lemma => kernel_rfl) (by as_aux_lemma => kernel_rfl) (by as_aux_lemma => kernel_rfl) (fun _ _ _ h => h) (Or.inl ⟨by rfl, ?_⟩) (by assumption) ?_
  rotate_left
  · intro w hSw; (try dsimp only at hSw); go_simp; (try with_reducible rfl)
  simp only [Act.put, List.getElem_toArray, List.getElem_cons_zero, List.getElem_cons_succ, List.setIfInBounds_toArray, List.set_cons_zero, List.set_cons_succ]
  refine wpAnyH_take (i := 22) (v := ?_) rfl (by as_aux_lemma => kernel_rfl) (by as_aux_lemma => kernel_rfl) (by as_aux_lemma => kernel_rfl) (fun _ _ _ h => h) (Or.inl ⟨by rfl, ?_⟩) (by assumption) ?_
  rotate_left
  · intro w hSw; (try dsimp only at hSw); go_simp; (try with_reducible rfl)
  simp only [Act.put, List.getElem_toArray, List.getElem_cons_zero, List.getElem_cons_succ, List.setIfInBounds_toArray, List.set_cons_zero, List.set_cons_succ]
  refine wpAnyH_take (i := 23) (v := ?_) rfl (by as_aux_lemma => kernel_rfl) (by as_aux_lemma => kernel_rfl) (by as_aux_lemma => kernel_rfl) (fun _ _ _ h => h) (Or.inl ⟨by rfl, ?_⟩) (by assumption) ?_
  rotate_left
  · intro w hSw; (try dsimp only at hSw); go_simp; (try with_reducible rfl)
  simp only [Act.put, List.getElem_toArray, List.getElem_cons_zero, List.getElem_cons_succ, List.setIfInBounds_toArray, List.set_cons_zero, List.set_cons_succ]
  refine wpAnyH_take (i := 24) (v := ?_) rfl (by as_aux_lemma => kernel_rfl) (by as_aux_lemma => kernel_rfl) (by as_aux_lemma => kernel_rfl) (fun _ _ _ h => h) (Or.inl ⟨by rfl, ?_⟩) (by assumption) ?_
  rotate_left
  · intro w hSw; (try dsimp only at hSw); go_simp; (try with_reducible rfl)
  simp only [Act.put, List.getElem_toArray, List.getElem_cons_zero, List.getElem_cons_succ, List.setIfInBounds_toArray, List.set_cons_zero, List.set_cons_succ]
  refine wpAnyH_take (i := 25) (v := ?_) rfl (by as_aux_lemma => kernel_rfl) (by as_aux_lemma => kernel_rfl) (by as_aux_lemma => kernel_rfl) (fun _ _ _ h => h) (Or.inl ⟨by rfl, ?_⟩) (by assumption) ?_
  rotate_left
  · intro w hSw; (try dsimp only at hSw); go_simp; (try with_reducible rfl)
  simp only [Act.put, List.getElem_toArray, List.getElem_cons_zero, List.getElem_cons_succ, List.setIfInBounds_toArray, List.set_cons_zero, List.set_cons_succ]
  refine wpAnyH_take (i := 26) (v := ?_) rfl (by as_aux_lemma => kernel_rfl) (by as_aux_lemma => kernel_rfl) (by as_aux_lemma => kernel_rfl) (fun _ _ _ h => h) (Or.inl ⟨by rfl, ?_⟩) (by assumption) ?_
  rotate_left
  · intro w hSw; (try dsimp only at hSw); go_simp; (try with_reducible rfl)
  simp only [Act.put, List.getElem_toArray, List.getElem_cons_zero, List.getElem_cons_succ, List.setIfInBounds_toArray, List.set_cons_zero, List.set_cons_succ]
  refine wpAnyH_take (i := 27) (v := ?_) rfl (by as_aux_lemma => kernel_rfl) (by as_aux_lemma => kernel_rfl) (by as_aux_lemma => kernel_rfl) (fun _ _ _ h => h) (Or.inl ⟨by rfl, ?_⟩) (by assumption) ?_
  rotate_left
  · intro w hSw; (try dsimp only at hSw); go_simp; (try with_reducible rfl)
  simp only [Act.put, List.getElem_toArray, List.getElem_cons_zero, List.getElem_cons_succ, List.setIfInBounds_toArray, List.set_cons_zero, List.set_cons_succ]
  refine wpAnyH_take (i := 28) (v := ?_) rfl (by as_aux_lemma => kernel_rfl) (by as_aux_lemma => kernel_rfl) (by as_aux_lemma => kernel_rfl) (fun _ _ _ h => h) (Or.inl ⟨by rfl, ?_⟩) (by assumption) ?_
  rotate_left
  · intro w hSw; (try dsimp only at hSw); go_simp; (try with_reducible rfl)
  simp only [Act.put, List.getElem_toArray, List.getElem_cons_zero, List.getElem_cons_succ, List.setIfInBounds_toArray, List.set_cons_zero, List.set_cons_succ]
  refine wpAnyH_take (i := 29) (v := ?_) rfl (by as_aux_lemma => kernel_rfl) (by as_aux_lemma => kernel_rfl) (by as_aux_lemma => kernel_rfl) (fun _ _ _ h => h) (Or.inl ⟨by rfl, ?_⟩) (by assumption) ?_
  rotate_left
  · intro w hSw; (try dsimp only at hSw); go_simp; (try with_reducible rfl)
  simp only [Act.put, List.getElem_toArray, List.getElem_cons_zero, List.getElem_cons_succ, List.setIfInBounds_toArray, List.set_cons_zero, List.set_cons_succ]
  refine wpAnyH_take (i := 30) (v := ?_) rfl (by as_aux_lemma => kernel_rfl) (by as_aux_lemma => kernel_rfl) (by as_aux_lemma => kernel_rfl) (fun _ _ _ h => h) (Or.inl ⟨by rfl, ?_⟩) (by assumption) ?_
  rotate_left
  · intro w hSw; (try dsimp only at hSw); go_simp; (try with_reducible rfl)
  simp only [Act.put, List.getElem_toArray, List.getElem_cons_zero, List.getElem_cons_succ, List.setIfInBounds_toArray, List.set_cons_zero, List.set_cons_succ]
  refine wpAnyH_take (i := 31) (v := ?_) rfl (by as_aux_lemma => kernel_rfl) (by as_aux_lemma => kernel_rfl) (by as_aux_lemma => kernel_rfl) (fun _ _ _ h => h) (Or.inl ⟨by rfl, ?_⟩) (by assumption) ?_
  rotate_left
  · intro w hSw; (try dsimp only at hSw); go_simp; (try with_reducible rfl)
  simp only [Act.put, List.getElem_toArray, List.getElem_cons_zero, List.getElem_cons_succ, List.setIfInBounds_toArray, List.set_cons_zero, List.set_cons_succ]
  refine wpAnyH_take (i := 32) (v := ?_) rfl (by as_aux_lemma => kernel_rfl) (by as_aux_lemma => kernel_rfl) (by as_aux_lemma => kernel_rfl) (fun _ _ _ h => h) (Or.inl ⟨by rfl, ?_⟩) (by assumption) ?_
  rotate_left
  · intro w hSw; (try dsimp only at hSw); go_simp; (try with_reducible rfl)
  simp only [Act.put, List.getElem_toArray, List.getElem_cons_zero, List.getElem_cons_succ, List.setIfInBounds_toArray, List.set_cons_zero, List.set_cons_succ]
  refine wpAnyH_take (i := 33) (v := ?_) rfl (by as_aux_lemma => kernel_rfl) (by as_aux_lemma => kernel_rfl) (by as_aux_lemma => kernel_rfl) (fun _ _ _ h => h) (Or.inl ⟨by rfl, ?_⟩) (by assumption) ?_
  rotate_left
  · intro w hSw; (try dsimp only at hSw); go_simp; (try with_reducible rfl)
  simp only [Act.put, List.getElem_toArray, List.getElem_cons_zero, List.getElem_cons_succ, List.setIfInBounds_toArray, List.set_cons_zero, List.set_cons_succ]
  refine wpAnyH_ready (rs := [34]) (by as_aux_lemma => kernel_rfl) (by simp) ?_
  refine AllReadyH.cons rfl (fun K hK => ?_) AllReadyH.nil
  go_simp
  go_wp2_with fail
  refine (lone9I 2 5 2 5 1 _ rfl rfl).mono ?_
  rintro e wn34 ⟨b34, rfl, kb, hb, _⟩
  try dsimp only
  have hbW' := hbW.trans (hb.mono hbW.size)
  have HD34 := Lib.hid (DatI.blk kb)
  clear kb
  clear hb hbW
  have hbW := hbW'
  clear hbW'
  refine hK.out _ _ ?_ (fun hHeld2 => ?_)
  · (try dsimp only); exact HSY.out _ hbW
  clear hK K hHeld
  have hHeld := hHeld2
  clear hHeld2
  refine wpAnyH_ready (rs := [35]) (by as_aux_lemma => kernel_rfl) (by simp) ?_
  refine AllReadyH.cons rfl (fun K hK => ?_) AllReadyH.nil
  go_simp
  go_wp2_with fail
  refine (isameV (x := kA) (y := kA) ⟨_, _, rfl, (HL7.out.below hbW).2.1⟩ ⟨_, _, rfl, HD34.out⟩ (fun j _ => bytesF_lt _ j) (fun j _ => bytesF_lt _ j) true ⟨fun _ => It.Alike.refl _, fun _ => rfl⟩).mono ?_
  rintro e wn35 ⟨rfl, hb⟩
  try dsimp only
  have hbW' := hbW.trans (hb.mono hbW.size)
  clear hb hbW
  have hbW := hbW'
  clear hbW'
  refine hK.out _ _ ?_ (fun hHeld2 => ?_)
  · (try dsimp only); exact HSY.out _ hbW
  clear hK K hHeld
  have hHeld := hHeld2
  clear hHeld2
  refine wpAnyH_take (i := 36) (v := ?_) rfl (by as_aux_lemma => kernel_rfl) (by as_aux_lemma => kernel_rfl) (by as_aux_lemma => kernel_rfl) (fun _ _ _ h => h) (Or.inl ⟨by rfl, ?_⟩) (by assumption) ?_
  rotate_left
  · intro w hSw; (try dsimp only at hSw); go_simp; (try with_reducible rfl)
  simp only [Act.put, List.getElem_toArray, List.getElem_cons_zero, List.getElem_cons_succ, List.setIfInBounds_toArray, List.set_cons_zero, List.set_cons_succ]
  refine wpAnyH_take (i := 37) (v := ?_) rfl (by as_aux_lemma => kernel_rfl) (by as_aux_lemma => kernel_rfl) (by as_aux_lemma => kernel_rfl) (fun _ _ _ h => h) (Or.inl ⟨by rfl, ?_⟩) (by assumption) ?_
  rotate_left
  · intro w hSw; (try dsimp only at hSw); go_simp; (try with_reducible rfl)
  simp only [Act.put, List.getElem_toArray, List.getElem_cons_zero, List.getElem_cons_succ, List.setIfInBounds_toArray, List.set_cons_zero, List.set_cons_succ]
  refine wpAnyH_take (i := 38) (v := ?_) rfl (by as_aux_lemma => kernel_rfl) (by as_aux_lemma => kernel_rfl) (by as_aux_lemma => kernel_rfl) (fun _ _ _ h => h) (Or.inl ⟨by rfl, ?_⟩) (by assumption) ?_
  rotate_left
  · intro w hSw; (try dsimp only at hSw); go_simp; (try with_reducible rfl)
  simp only [Act.put, List.getElem_toArray, List.getElem_cons_zero, List.getElem_cons_succ, List.setIfInBounds_toArray, List.set_cons_zero, List.set_cons_succ]
  refine wpAnyH_take (i := 39) (v := ?_) rfl (by as_aux_lemma => kernel_rfl) (by as_aux_lemma => kernel_rfl) (by as_aux_lemma => kernel_rfl) (fun _ _ _ h => h) (Or.inl ⟨by rfl, ?_⟩) (by assumption) ?_
  rotate_left
  · intro w hSw; (try dsimp only at hSw); go_simp; (try with_reducible rfl)
  simp only [Act.put, List.getElem_toArray, List.getElem_cons_zero, List.getElem_cons_succ, List.setIfInBounds_toArray, List.set_cons_zero, List.set_cons_succ]
  refine wpAnyH_take (i := 40) (v := ?_) rfl (by as_aux_lemma => kernel_rfl) (by as_aux_lemma => kernel_rfl) (by as_aux_lemma => kernel_rfl) (fun _ _ _ h => h) (Or.inl ⟨by rfl, ?_⟩) (by assumption) ?_
  rotate_left
  · intro w hSw; (try dsimp only at hSw); go_simp; (try with_reducible rfl)
  simp only [Act.put, List.getElem_toArray, List.getElem_cons_zero, List.getElem_cons_succ, List.setIfInBounds_toArray, List.set_cons_zero, List.set_cons_succ]
  refine wpAnyH_ready (rs := [41]) (by as_aux_lemma => kernel_rfl) (by simp) ?_
  refine AllReadyH.cons rfl (fun K hK => ?_) AllReadyH.nil
  go_simp
  go_wp2_with fail
  refine (lone9I 2 5 2 5 3 _ rfl rfl).mono ?_
  rintro e wn41 ⟨b41, rfl, kb, hb, _⟩
  try dsimp only
  have hbW' := hbW.trans (hb.mono hbW.size)
  have HD41 := Lib.hid (DatI.blk kb)
  clear kb
  clear hb hbW
  have hbW := hbW'
  clear hbW'
  refine hK.out _ _ ?_ (fun hHeld2 => ?_)
  · (try dsimp only); exact HSY.out _ hbW
  clear hK K hHeld
  have hHeld := hHeld2
  clear hHeld2
  refine wpAnyH_ready (rs := [42]) (by as_aux_lemma => kernel_rfl) (by simp) ?_
  refine AllReadyH.cons rfl (fun K hK => ?_) AllReadyH.nil
  go_simp
  go_wp2_with fail
  refine (isameV (x := kC) (y := kC) ⟨_, _, rfl, (HL7.out.below hbW).2.2⟩ ⟨_, _, rfl, HD41.out⟩ (fun j _ => bytesF_lt _ j) (fun j _ => bytesF_lt _ j) true ⟨fun _ => It.Alike.refl _, fun _ => rfl⟩).mono ?_
  rintro e wn42 ⟨rfl, hb⟩
  try dsimp only
  have hbW' := hbW.trans (hb.mono hbW.size)
  clear hb hbW
  have hbW := hbW'
  clear hbW'
  refine hK.out _ _ ?_ (fun hHeld2 => ?_)
  · (try dsimp only); exact HSY.out _ hbW
  clear hK K hHeld
  have hHeld := hHeld2
  clear hHeld2
  refine wpAnyH_take (i := 43) (v := ?_) rfl (by as_aux_lemma => kernel_rfl) (by as_aux_lemma => kernel_rfl) (by as_aux_lemma => kernel_rfl) (fun _ _ _ h => h) (Or.inl ⟨by rfl, ?_⟩) (by assumption) ?_
  rotate_left
  · intro w hSw; (try dsimp only at hSw); go_simp; (try with_reducible rfl)
  simp only [Act.put, List.getElem_toArray, List.getElem_cons_zero, List.getElem_cons_succ, List.setIfInBounds_toArray, List.set_cons_zero, List.set_cons_succ]
  refine wpAnyH_take (i := 44) (v := ?_) rfl (by as_aux_lemma => kernel_rfl) (by as_aux_lemma => kernel_rfl) (by as_aux_lemma => kernel_rfl) (fun _ _ _ h => h) (Or.inl ⟨by rfl, ?_⟩) (by assumption) ?_
  rotate_left
  · intro w hSw; (try dsimp only at hSw); go_simp; (try with_reducible rfl)
  simp only [Act.put, List.getElem_toArray, List.getElem_cons_zero, List.getElem_cons_succ, List.setIfInBounds_toArray, List.set_cons_zero, List.set_cons_succ]
  refine wpAnyH_take (i := 45) (v := ?_) rfl (by as_aux_lemma => kernel_rfl) (by as_aux_lemma => kernel_rfl) (by as_aux_lemma => kernel_rfl) (fun _ _ _ h => h) (Or.inl ⟨by rfl, ?_⟩) (by assumption) ?_
  rotate_left
  · intro w hSw; (try dsimp only at hSw); go_simp; (try with_reducible rfl)
  simp only [Act.put, List.getElem_toArray, List.getElem_cons_zero, List.getElem_cons_succ, List.setIfInBounds_toArray, List.set_cons_zero, List.set_cons_succ]
  refine wpAnyH_ready (rs := [46]) (by as_aux_lemma => kernel_rfl) (by simp) ?_
  refine AllReadyH.cons rfl (fun K hK => ?_) AllReadyH.nil
  go_simp
  go_wp2_with fail
  refine (rd_live (HT26.out.below hbW)).mono ?_
  rintro e wn46 ⟨u, rfl, hu, hb⟩
  try dsimp only
  have hbW' := hbW.trans (hb.mono hbW.size)
  obtain ⟨b46, c46, A46, d46, rfl, h1⟩ := LI.one (x := kA) hu
  have HQ := Lib.hid h1
  obtain ⟨q0, q1, q2⟩ := h1.cells
  clear hu h1
  clear hb hbW
  have hbW := hbW'
  clear hbW'
  refine hK.out _ _ ?_ (fun hHeld2 => ?_)
  · (try dsimp only); exact HSY.out _ hbW
  clear hK K hHeld
  have hHeld := hHeld2
  clear hHeld2
  refine wpAnyH_take (i := 47) (v := ?_) rfl (by as_aux_lemma => kernel_rfl) (by as_aux_lemma => kernel_rfl) (by as_aux_lemma => kernel_rfl) (fun _ _ _ h => h) (Or.inl ⟨by rfl, ?_⟩) (by assumption) ?_
  rotate_left
  · intro w hSw; (try dsimp only at hSw); go_simp; (try with_reducible rfl)
  simp only [Act.put, List.getElem_toArray, List.getElem_cons_zero, List.getElem_cons_succ, List.setIfInBounds_toArray, List.set_cons_zero, List.set_cons_succ]
  refine wpAnyH_ready (rs := [48, 49]) (by as_aux_lemma => kernel_rfl) (by simp) ?_
  refine AllReadyH.cons rfl (fun K hK => ?_) (AllReadyH.cons rfl (fun K hK => ?_) AllReadyH.nil)
  · go_simp
    refine hK.out _ _ ?_ (fun hHeld2 => ?_)
    · (try dsimp only); exact HSY.out _ hbW
    clear hK K hHeld
    have hHeld := hHeld2
    clear hHeld2
    refine wpAnyH_ready (rs := [49]) (by as_aux_lemma => kernel_rfl) (by simp) ?_
    refine AllReadyH.cons rfl (fun K hK => ?_) AllReadyH.nil
    go_simp
    go_wp2_with fail
    refine (lone9I 2 5 2 5 1 _ rfl rfl).mono ?_
    rintro e wn49 ⟨b49, rfl, kb, hb, _⟩
    try dsimp only
    have HQ2 := Lib.hid (HQ.out.below hb)
    have hbW' := hbW.trans (hb.mono hbW.size)
    have HD49 := Lib.hid (DatI.blk kb)
    clear kb
    clear hb hbW
    have hbW := hbW'
    clear hbW'
    refine hK.out _ _ ?_ (fun hHeld2 => ?_)
    · (try dsimp only); exact HSY.out _ hbW
    clear hK K hHeld
    have hHeld := hHeld2
    clear hHeld2
    refine wpAnyH_ready (rs := [50]) (by as_aux_lemma => kernel_rfl) (by simp) ?_
    refine AllReadyH.cons rfl (fun K hK => ?_) AllReadyH.nil
    go_simp
    go_wp2_with fail
    refine (isameV (x := kA) (y := kA) ⟨_, _, rfl, HQ2.out.2⟩ ⟨_, _, rfl, HD49.out⟩ (fun j _ => bytesF_lt _ j) (fun j _ => bytesF_lt _ j) true ⟨fun _ => It.Alike.refl _, fun _ => rfl⟩).mono ?_
    rintro e wn50 ⟨rfl, hb⟩
    try dsimp only
    have hbW' := hbW.trans (hb.mono hbW.size)
    clear hb hbW
    have hbW := hbW'
    clear hbW'
    refine hK.out _ _ ?_ (fun hHeld2 => ?_)
    · (try dsimp only); exact HSY.out _ hbW
    clear hK K hHeld
    have hHeld := hHeld2
    clear hHeld2
    refine wpAnyH_take (i := 51) (v := ?_) rfl (by as_aux_lemma => kernel_rfl) (by as_aux_lemma => kernel_rfl) (by as_aux_lemma => kernel_rfl) (fun _ _ _ h => h) (Or.inl ⟨by rfl, ?_⟩) (by assumption) ?_
    rotate_left
    · intro w hSw; (try dsimp only at hSw); go_simp; (try with_reducible rfl)
    simp only [Act.put, List.getElem_toArray, List.getElem_cons_zero, List.getElem_cons_succ, List.setIfInBounds_toArray, List.set_cons_zero, List.set_cons_succ]
    refine wpAnyH_take (i := 52) (v := ?_) rfl (by as_aux_lemma => kernel_rfl) (by as_aux_lemma => kernel_rfl) (by as_aux_lemma => kernel_rfl) (fun _ _ _ h => h) (Or.inl ⟨by rfl, ?_⟩) (by assumption) ?_
    rotate_left
    · intro w hSw; (try dsimp only at hSw); go_simp; (try with_reducible rfl)
    simp only [Act.put, List.getElem_toArray, List.getElem_cons_zero, List.getElem_cons_succ, List.setIfInBounds_toArray, List.set_cons_zero, List.set_cons_succ]
    refine wpAnyH_take (i := 53) (v := ?_) rfl (by as_aux_lemma => kernel_rfl) (by as_aux_lemma => kernel_rfl) (by as_aux_lemma => kernel_rfl) (fun _ _ _ h => h) (Or.inl ⟨by rfl, ?_⟩) (by assumption) ?_
    rotate_left
    · intro w hSw; (try dsimp only at hSw); go_simp; (try with_reducible rfl)
    simp only [Act.put, List.getElem_toArray, List.getElem_cons_zero, List.getElem_cons_succ, List.setIfInBounds_toArray, List.set_cons_zero, List.set_cons_succ]
    refine wpAnyH_ready (rs := [54]) (by as_aux_lemma => kernel_rfl) (by simp) ?_
    refine AllReadyH.cons rfl (fun K hK => ?_) AllReadyH.nil
    go_simp
    go_wp2_with fail
    refine (HR0.out _).mono ?_
    rintro e wn54 ⟨rfl, hb⟩
    try dsimp only
    have hbW' := hbW.trans (hb.mono hbW.size)
    clear hb hbW
    have hbW := hbW'
    clear hbW'
    refine hK.out _ _ ?_ (fun hHeld2 => ?_)
    · (try dsimp only); exact HSY.out _ hbW
    clear hK K hHeld
    have hHeld := hHeld2
    clear hHeld2
    refine wpAnyH_take (i := 55) (v := ?_) rfl (by as_aux_lemma => kernel_rfl) (by as_aux_lemma => kernel_rfl) (by as_aux_lemma => kernel_rfl) (fun _ _ _ h => h) (Or.inl ⟨by rfl, ?_⟩) (by assumption) ?_
    rotate_left
    · intro w hSw; (try dsimp only at hSw); go_simp; (try with_reducible rfl)
    simp only [Act.put, List.getElem_toArray, List.getElem_cons_zero, List.getElem_cons_succ, List.setIfInBounds_toArray, List.set_cons_zero, List.set_cons_succ]
    refine wpAnyH_take (i := 56) (v := ?_) rfl (by as_aux_lemma => kernel_rfl) (by as_aux_lemma => kernel_rfl) (by as_aux_lemma => kernel_rfl) (fun _ _ _ h => h) (Or.inl ⟨by rfl, ?_⟩) (by assumption) ?_
    rotate_left
    · intro w hSw; (try dsimp only at hSw); go_simp; (try with_reducible rfl)
    simp only [Act.put, List.getElem_toArray, List.getElem_cons_zero, List.getElem_cons_succ, List.setIfInBounds_toArray, List.set_cons_zero, List.set_cons_succ]
    refine wpAnyH_take (i := 57) (v := ?_) rfl (by as_aux_lemma => kernel_rfl) (by as_aux_lemma => kernel_rfl) (by as_aux_lemma => kernel_rfl) (fun _ _ _ h => h) (Or.inl ⟨by rfl, ?_⟩) (by assumption) ?_
    rotate_left
    · intro w hSw; (try dsimp only at hSw); go_simp; (try with_reducible rfl)
    simp only [Act.put, List.getElem_toArray, List.getElem_cons_zero, List.getElem_cons_succ, List.setIfInBounds_toArray, List.set_cons_zero, List.set_cons_succ]
    refine wpAnyH_ready (rs := [58]) (by as_aux_lemma => kernel_rfl) (by simp) ?_
    refine AllReadyH.cons rfl (fun K hK => ?_) AllReadyH.nil
    go_simp
    go_wp2_with fail
    refine (lone9I 1 1 1 1 1 _ rfl rfl).mono ?_
    rintro e wn58 ⟨b58, rfl, kb, hb, _⟩
    try dsimp only
    have hbW' := hbW.trans (hb.mono hbW.size)
    have HD58 := Lib.hid (DatI.blk kb)
    clear kb
    clear hb hbW
    have hbW := hbW'
    clear hbW'
    refine hK.out _ _ ?_ (fun hHeld2 => ?_)
    · (try dsimp only); exact HSY.out _ hbW
    clear hK K hHeld
    have hHeld := hHeld2
    clear hHeld2
    refine wpAnyH_ready (rs := [59]) (by as_aux_lemma => kernel_rfl) (by simp) ?_
    refine AllReadyH.cons rfl (fun K hK => ?_) AllReadyH.nil
    go_simp
    go_wp2_with fail
    refine (lone9I 1 1 1 1 2 _ rfl rfl).mono ?_
    rintro e wn59 ⟨b59, rfl, kb, hb, _⟩
    try dsimp only
    have hbW' := hbW.trans (hb.mono hbW.size)
    have HD59 := Lib.hid (DatI.blk kb)
    clear kb
    have HE58 := Lib.hid (HD58.out.below hb)
    clear hb hbW
    have hbW := hbW'
    clear hbW'
    refine hK.out _ _ ?_ (fun hHeld2 => ?_)
    · (try dsimp only); exact HSY.out _ hbW
    clear hK K hHeld
    have hHeld := hHeld2
    clear hHeld2
    refine wpAnyH_ready (rs := [60]) (by as_aux_lemma => kernel_rfl) (by simp) ?_
    refine AllReadyH.cons rfl (fun K hK => ?_) AllReadyH.nil
    go_simp
    go_wp2_with fail
    refine (isameV (x := oneI 1 1 1) (y := oneI 1 1 2) ⟨_, _, rfl, HE58.out⟩ ⟨_, _, rfl, HD59.out⟩ (fun j _ => bytesF_lt _ j) (fun j _ => bytesF_lt _ j) false ⟨fun h => (by cases h), fun h => absurd h k12⟩).mono ?_
    rintro e wn60 ⟨rfl, hb⟩
    try dsimp only
    have hbW' := hbW.trans (hb.mono hbW.size)
    clear hb hbW
    have hbW := hbW'
    clear hbW'
    refine hK.out _ _ ?_ (fun hHeld2 => ?_)
    · (try dsimp only); exact HSY.out _ hbW
    clear hK K hHeld
    have hHeld := hHeld2
    clear hHeld2
    refine wpAnyH_take (i := 61) (v := ?_) rfl (by as_aux_lemma => kernel_rfl) (by as_aux_lemma => kernel_rfl) (by as_aux_lemma => kernel_rfl) (fun _ _ _ h => h) (Or.inl ⟨by rfl, ?_⟩) (by assumption) ?_
    rotate_left
    · intro w hSw; (try dsimp only at hSw); go_simp; (try with_reducible rfl)
    simp only [Act.put, List.getElem_toArray, List.getElem_cons_zero, List.getElem_cons_succ, List.setIfInBounds_toArray, List.set_cons_zero, List.set_cons_succ]
    refine wpAnyH_take (i := 62) (v := ?_) rfl (by as_aux_lemma => kernel_rfl) (by as_aux_lemma => kernel_rfl) (by as_aux_lemma => kernel_rfl) (fun _ _ _ h => h) (Or.inl ⟨by rfl, ?_⟩) (by assumption) ?_
    rotate_left
    · intro w hSw; (try dsimp only at hSw); go_simp; (try with_reducible rfl)
    simp only [Act.put, List.getElem_toArray, List.getElem_cons_zero, List.getElem_cons_succ, List.setIfInBounds_toArray, List.set_cons_zero, List.set_cons_succ]
    refine wpAnyH_take (i := 63) (v := ?_) rfl (by as_aux_lemma => kernel_rfl) (by as_aux_lemma => kernel_rfl) (by as_aux_lemma => kernel_rfl) (fun _ _ _ h => h) (Or.inl ⟨by rfl, ?_⟩) (by assumption) ?_
    rotate_left
    · intro w hSw; (try dsimp only at hSw); go_simp; (try with_reducible rfl)
    simp only [Act.put, List.getElem_toArray, List.getElem_cons_zero, List.getElem_cons_succ, List.setIfInBounds_toArray, List.set_cons_zero]
    refine wpAnyH_done (by as_aux_lemma => kernel_rfl) ?_ _
    go_wp2_with fail
    go_ret
    exact ⟨rfl, HB26.out.trans (hbW.mono HSZ.out)⟩
  · go_simp
    go_wp2_with fail
    refine (lone9I 2 5 2 5 1 _ rfl rfl).mono ?_
    rintro e wn49 ⟨b49, rfl, kb, hb, _⟩
    try dsimp only
    have HQ2 := Lib.hid (HQ.out.below hb)
    have hbW' := hbW.trans (hb.mono hbW.size)
    have HD49 := Lib.hid (DatI.blk kb)
    clear kb
    clear hb hbW
    have hbW := hbW'
    clear hbW'
    obtain ⟨q0, q1, q2⟩ := HQ2.out.cells
    refine hK.out _ _ ?_ (fun hHeld2 => ?_)
    · (try dsimp only); exact HSY.out _ hbW
    clear hK K hHeld
    have hHeld := hHeld2
    clear hHeld2
    refine wpAnyH_ready (rs := [48]) (by as_aux_lemma => kernel_rfl) (by simp) ?_
    refine AllReadyH.cons rfl (fun K hK => ?_) AllReadyH.nil
    go_simp
    refine hK.out _ _ ?_ (fun hHeld2 => ?_)
    · (try dsimp only); exact HSY.out _ hbW
    clear hK K hHeld
    have hHeld := hHeld2
    clear hHeld2
    refine wpAnyH_ready (rs := [50]) (by as_aux_lemma => kernel_rfl) (by simp) ?_
    refine AllReadyH.cons rfl (fun K hK => ?_) AllReadyH.nil
    go_simp
    go_wp2_with fail
    refine (isameV (x := kA) (y := kA) ⟨_, _, rfl, HQ2.out.2⟩ ⟨_, _, rfl, HD49.out⟩ (fun j _ => bytesF_lt _ j) (fun j _ => bytesF_lt _ j) true ⟨fun _ => It.Alike.refl _, fun _ => rfl⟩).mono ?_
    rintro e wn50 ⟨rfl, hb⟩
    try dsimp only
    have hbW' := hbW.trans (hb.mono hbW.size)
    clear hb hbW
    have hbW := hbW'
    clear hbW'
    refine hK.out _ _ ?_ (fun hHeld2 => ?_)
    · (try dsimp only); exact HSY.out _ hbW
    clear hK K hHeld
    have hHeld := hHeld2
    clear hHeld2
    refine wpAnyH_take (i := 51) (v := ?_) rfl (by as_aux_lemma => kernel_rfl) (by as_aux_lemma => kernel_rfl) (by as_aux_lemma => kernel_rfl) (fun _ _ _ h => h) (Or.inl ⟨by rfl, ?_⟩) (by assumption) ?_
    rotate_left
    · intro w hSw; (try dsimp only at hSw); go_simp; (try with_reducible rfl)
    simp only [Act.put, List.getElem_toArray, List.getElem_cons_zero, List.getElem_cons_succ, List.setIfInBounds_toArray, List.set_cons_zero, List.set_cons_succ]
    refine wpAnyH_take (i := 52) (v := ?_) rfl (by as_aux_lemma => kernel_rfl) (by as_aux_lemma => kernel_rfl) (by as_aux_lemma => kernel_rfl) (fun _ _ _ h => h) (Or.inl ⟨by rfl, ?_⟩) (by assumption) ?_
    rotate_left
    · intro w hSw; (try dsimp only at hSw); go_simp; (try with_reducible rfl)
    simp only [Act.put, List.getElem_toArray, List.getElem_cons_zero, List.getElem_cons_succ, List.setIfInBounds_toArray, List.set_cons_zero, List.set_cons_succ]
    refine wpAnyH_take (i := 53) (v := ?_) rfl (by as_aux_lemma => kernel_rfl) (by as_aux_lemma => kernel_rfl) (by as_aux_lemma => kernel_rfl) (fun _ _ _ h => h) (Or.inl ⟨by rfl, ?_⟩) (by assumption) ?_
    rotate_left
    · intro w hSw; (try dsimp only at hSw); go_simp; (try with_reducible rfl)
    simp only [Act.put, List.getElem_toArray, List.getElem_cons_zero, List.getElem_cons_succ, List.setIfInBounds_toArray, List.set_cons_zero, List.set_cons_succ]
    refine wpAnyH_ready (rs := [54]) (by as_aux_lemma => kernel_rfl) (by simp) ?_
    refine AllReadyH.cons rfl (fun K hK => ?_) AllReadyH.nil
    go_simp
    go_wp2_with fail
    refine (HR0.out _).mono ?_
    rintro e wn54 ⟨rfl, hb⟩
    try dsimp only
    have hbW' := hbW.trans (hb.mono hbW.size)
    clear hb hbW
    have hbW := hbW'
    clear hbW'
    refine hK.out _ _ ?_ (fun hHeld2 => ?_)
    · (try dsimp only); exact HSY.out _ hbW
    clear hK K hHeld
    have hHeld := hHeld2
    clear hHeld2
    refine wpAnyH_take (i := 55) (v := ?_) rfl (by as_aux_lemma => kernel_rfl) (by as_aux_lemma => kernel_rfl) (by as_aux_lemma => kernel_rfl) (fun _ _ _ h => h) (Or.inl ⟨by rfl, ?_⟩) (by assumption) ?_
    rotate_left
    · intro w hSw; (try dsimp only at hSw); go_simp; (try with_reducible rfl)
    simp only [Act.put, List.getElem_toArray, List.getElem_cons_zero, List.getElem_cons_succ, List.setIfInBounds_toArray, List.set_cons_zero, List.set_cons_succ]
    refine wpAnyH_take (i := 56) (v := ?_) rfl (by as_aux_lemma => kernel_rfl) (by as_aux_lemma => kernel_rfl) (by as_aux_lemma => kernel_rfl) (fun _ _ _ h => h) (Or.inl ⟨by rfl, ?_⟩) (by assumption) ?_
    rotate_left
    · intro w hSw; (try dsimp only at hSw); go_simp; (try with_reducible rfl)
    simp only [Act.put, List.getElem_toArray, List.getElem_cons_zero, List.getElem_cons_succ, List.setIfInBounds_toArray, List.set_cons_zero, List.set_cons_succ]
    refine wpAnyH_take (i := 57) (v := ?_) rfl (by as_aux_lemma => kernel_rfl) (by as_aux_lemma => kernel_rfl) (by as_aux_lemma => kernel_rfl) (fun _ _ _ h => h) (Or.inl ⟨by rfl, ?_⟩) (by assumption) ?_
    rotate_left
    · intro w hSw; (try dsimp only at hSw); go_simp; (try with_reducible rfl)
    simp only [Act.put, List.getElem_toArray, List.getElem_cons_zero, List.getElem_cons_succ, List.setIfInBounds_toArray, List.set_cons_zero, List.set_cons_succ]
    refine wpAnyH_ready (rs := [58]) (by as_aux_lemma => kernel_rfl) (by simp) ?_
    refine AllReadyH.cons rfl (fun K hK => ?_) AllReadyH.nil
    go_simp
    go_wp2_with fail
    refine (lone9I 1 1 1 1 1 _ rfl rfl).mono ?_
    rintro e wn58 ⟨b58, rfl, kb, hb, _⟩
    try dsimp only
    have hbW' := hbW.trans (hb.mono hbW.size)
    have HD58 := Lib.hid (DatI.blk kb)
    clear kb
    clear hb hbW
    have hbW := hbW'
    clear hbW'
    refine hK.out _ _ ?_ (fun hHeld2 => ?_)
    · (try dsimp only); exact HSY.out _ hbW
    clear hK K hHeld
    have hHeld := hHeld2
    clear hHeld2
    refine wpAnyH_ready (rs := [59]) (by as_aux_lemma => kernel_rfl) (by simp) ?_
    refine AllReadyH.cons rfl (fun K hK => ?_) AllReadyH.nil
    go_simp
    go_wp2_with fail
    refine (lone9I 1 1 1 1 2 _ rfl rfl).mono ?_
    rintro e wn59 ⟨b59, rfl, kb, hb, _⟩
    try dsimp only
    have hbW' := hbW.trans (hb.mono hbW.size)
    have HD59 := Lib.hid (DatI.blk kb)
    clear kb
    have HE58 := Lib.hid (HD58.out.below hb)
    clear hb hbW
    have hbW := hbW'
    clear hbW'
    refine hK.out _ _ ?_ (fun hHeld2 => ?_)
    · (try dsimp only); exact HSY.out _ hbW
    clear hK K hHeld
    have hHeld := hHeld2
    clear hHeld2
    refine wpAnyH_ready (rs := [60]) (by as_aux_lemma => kernel_rfl) (by simp) ?_
    refine AllReadyH.cons rfl (fun K hK => ?_) AllReadyH.nil
    go_simp
    go_wp2_with fail
    refine (isameV (x := oneI 1 1 1) (y := oneI 1 1 2) ⟨_, _, rfl, HE58.out⟩ ⟨_, _, rfl, HD59.out⟩ (fun j _ => bytesF_lt _ j) (fun j _ => bytesF_lt _ j) false ⟨fun h => (by cases h), fun h => absurd h k12⟩).mono ?_
    rintro e wn60 ⟨rfl, hb⟩
    try dsimp only
    have hbW' := hbW.trans (hb.mono hbW.size)
    clear hb hbW
    have hbW := hbW'
    clear hbW'
    refine hK.out _ _ ?_ (fun hHeld2 => ?_)
    · (try dsimp only); exact HSY.out _ hbW
    clear hK K hHeld
    have hHeld := hHeld2
    clear hHeld2
    refine wpAnyH_take (i := 61) (v := ?_) rfl (by as_aux_lemma => kernel_rfl) (by as_aux_lemma => kernel_rfl) (by as_aux_lemma => kernel_rfl) (fun _ _ _ h => h) (Or.inl ⟨by rfl, ?_⟩) (by assumption) ?_
    rotate_left
    · intro w hSw; (try dsimp only at hSw); go_simp; (try with_reducible rfl)
    simp only [Act.put, List.getElem_toArray, List.getElem_cons_zero, List.getElem_cons_succ, List.setIfInBounds_toArray, List.set_cons_zero, List.set_cons_succ]
    refine wpAnyH_take (i := 62) (v := ?_) rfl (by as_aux_lemma => kernel_rfl) (by as_aux_lemma => kernel_rfl) (by as_aux_lemma => kernel_rfl) (fun _ _ _ h => h) (Or.inl ⟨by rfl, ?_⟩) (by assumption) ?_
    rotate_left
    · intro w hSw; (try dsimp only at hSw); go_simp; (try with_reducible rfl)
    simp only [Act.put, List.getElem_toArray, List.getElem_cons_zero, List.getElem_cons_succ, List.setIfInBounds_toArray, List.set_cons_zero, List.set_cons_succ]
    refine wpAnyH_take (i := 63) (v := ?_) rfl (by as_aux_lemma => kernel_rfl) (by as_aux_lemma => kernel_rfl) (by as_aux_lemma => kernel_rfl) (fun _ _ _ h => h) (Or.inl ⟨by rfl, ?_⟩) (by assumption) ?_
    rotate_left
    · intro w hSw; (try dsimp only at hSw); go_simp; (try with_reducible rfl)
    simp only [Act.put, List.getElem_toArray, List.getElem_cons_zero, List.getElem_cons_succ, List.setIfInBounds_toArray, List.set_cons_zero]
    refine wpAnyH_done (by as_aux_lemma => kernel_rfl) ?_ _
    go_wp2_with fail
    go_ret
    exact ⟨rfl, HB26.out.trans (hbW.mono HSZ.out)⟩
end Go.Proofs.Ytjbicpekpgaokaa
