import Derived.Test.YtjgbfghkiahfaaaGreatDoorV13
namespace Go.Proofs.YtjgbfghkiahfaaaGreatDoor
open Go.RowKit Go.Sort
set_option maxRecDepth 100000
set_option maxHeartbeats 1000000

theorem irelease {w : World} {r p sb last : Nat} {X : Nat → Sx} (s g : Int) (h : RB w r p sb last) (hs : SR w sb 16 X) :
    Calls Tryz.prog 74 #[.pointer (some ⟨r, 0, none⟩), .int .i64 s, .int .i64 g] w fun e w' => e = .returned (.int .i64 (relC s g X 16 : Nat)) ∧ SR w' sb 16 (relX s g 16 X) ∧ Turn [sb] w w' := by
  have HA := Lib.hid (iall h)
  have HS := Lib.hid hs
  have HR := Lib.hid h
  have hne : r ≠ sb := by
    rintro rfl
    obtain ⟨cs, hc⟩ := hs.type
    unfold RB at h
    rw [hc] at h
    cases h
  have HNE := Lib.hid hne
  clear h hs hne
  go_enter Tryz.func74, Tryz.ntmps74
  go_wp2_with fail
  refine HA.out.mono ?_
  rintro e w' ⟨rfl, hw⟩
  obtain rfl := hw.symm
  go_wp2_with fail
  go_loopg [7, 8, 9, 13] 16 (fun q s7 s8 s9 s13 v => ∃ i : Nat, s13 = .int .i64 (i : Int) ∧ i ≤ 16 ∧ q = 16 - i ∧ s7 = .int .i64 (relC s g X i : Nat) ∧ Hid (SR v sb 16 (relX s g i X) ∧ Turn [sb] w v))
  case atStart => exact ⟨0, rfl, by omega, rfl, rfl, Lib.hid ⟨HS.out, Turn.refl _ _⟩⟩
  case round =>
    obtain ⟨i, rfl, hi, rfl, rfl, HB⟩ := hrel
    by_cases hlt : i < 16
    · have hl : (i : Int) < 16 := by omega
      have hz := relC_le s g X i
      obtain ⟨a0, a1, a2, a3⟩ := HB.out.1.cell hlt
      rw [relX_at] at a0 a1 a2 a3
      obtain ⟨v1, hv1⟩ : ∃ v1, wr.alloc (.cells #[.int .i64 ((X i).no : Int), .int .i64 ((X i).s : Int), .int .i64 ((X i).g : Int), .slice (X i).A (X i).n (X i).c] 79) = v1 := ⟨_, rfl⟩
      obtain ⟨H, hH⟩ : ∃ H, wr.heap.size = H := ⟨_, rfl⟩
      have HHE := Lib.hid hH
      have HV1 := Lib.hid hv1
      have hb1 : Below wr.heap.size wr v1 := by rw [← hv1]; exact (Below.refl _ _).alloc (Nat.le_refl _) _
      have HK1 : Hid (SV v1 H ((X i).no : Int) ((X i).s : Int) ((X i).g : Int) (X i).A (X i).n (X i).c) := Lib.hid (by rw [← hv1]; exact SV.of_new hH)
      have HB1 : Hid (SR v1 sb 16 (relX s g i X) ∧ Turn [sb] w v1) := Lib.hid ⟨HB.out.1.below hb1, HB.out.2.trans (Turn.of hb1)⟩
      have HZE : Hid (relC s g X (i + 1) = relC s g X i + (if (X i).no ≠ 0 ∧ ((X i).s : Int) = s ∧ ((X i).g : Int) = g then 1 else 0)) := Lib.hid rfl
      have HXH := Lib.hid (fun h => relX_succ_hit (s := s) (g := g) (k := i) (X := X) h)
      have HXM := Lib.hid (fun h => relX_succ_miss (s := s) (g := g) (k := i) (X := X) h)
      obtain ⟨z, hz'⟩ : ∃ z, relC s g X i = z := ⟨_, rfl⟩
      rw [hz'] at HZE hz ⊢
      obtain ⟨x, hx⟩ : ∃ x, X i = x := ⟨_, rfl⟩
      rw [hx] at HV1 HZE HK1 HXH HXM a0 a1 a2 a3
      clear hv1 hz' hx hb1 hH
      by_cases h0 : x.no = 0
      · have HL := Lib.hid (ilive x.no (x.s : Int) (x.g : Int) x.A x.n x.c v1 false ⟨fun e => (by cases e), fun e => absurd h0 e⟩)
        have hno : ¬ (x.no ≠ 0 ∧ (x.s : Int) = s ∧ (x.g : Int) = g) := fun h => h.1 h0
        rw [if_neg hno] at HZE
        have HXN := Lib.hid (HXM.out hno)
        clear h0 hno
        unfold sv at HL
        go_wp2_with fail
        rw [HV1.out, HHE.out]
        refine HL.out.mono ?_
        rintro e w2 ⟨rfl, hb2⟩
        try dsimp only
        have HB2 : Hid (SR w2 sb 16 (relX s g (i + 1) X) ∧ Turn [sb] w w2) := Lib.hid (by rw [← HXN.out]; exact ⟨HB1.out.1.below hb2, HB1.out.2.trans (Turn.of hb2)⟩)
        clear hb2 HL
        go_wp2_with fail
        go_roundg (16 - (i + 1))
        case measure => omega
        case rel => exact ⟨i + 1, by go_num, by omega, rfl, by rw [HZE.out, Nat.add_zero], HB2⟩
      · have HL := Lib.hid (ilive x.no (x.s : Int) (x.g : Int) x.A x.n x.c v1 true ⟨fun _ => h0, fun _ => rfl⟩)
        unfold sv at HL
        by_cases h1 : (x.s : Int) = s
        · by_cases h2 : (x.g : Int) = g
          · have e1 : ((x.s : Int) == s) = true := beq_iff_eq.2 h1
            have e2 : ((x.g : Int) == g) = true := beq_iff_eq.2 h2
            have hyes : x.no ≠ 0 ∧ (x.s : Int) = s ∧ (x.g : Int) = g := ⟨h0, h1, h2⟩
            rw [if_pos hyes] at HZE
            have HXN := Lib.hid (HXH.out hyes)
            clear h0 h1 h2 hyes
            go_wp2_with fail
            rw [HV1.out, HHE.out]
            refine HL.out.mono ?_
            rintro e w2 ⟨rfl, hb2⟩
            try dsimp only
            have HK2 := Lib.hid (HK1.out.below hb2)
            have k1 := HK2.out.c1
            have k2 := HK2.out.c2
            have HB2 : Hid (SR w2 sb 16 (relX s g i X) ∧ Turn [sb] w w2) := Lib.hid ⟨HB1.out.1.below hb2, HB1.out.2.trans (Turn.of hb2)⟩
            have HR2 : Hid (RB w2 r p sb last) := Lib.hid (HR.out.keep (HB2.out.2.block r HR.out.lt (by rw [List.mem_singleton]; exact HNE.out)))
            have r1 := HR2.out.c1
            clear hb2 HL a0 a1 a2 a3
            obtain ⟨a0, a1, a2, a3⟩ := HB2.out.1.cell hlt
            have f0 := HB2.out.1.f
            have HB3 : Hid (SR ((((w2.setCell ⟨sb, i * 4, none⟩ (.int .i64 0)).setCell ⟨sb, i * 4 + 1, none⟩ (.int .i64 0)).setCell ⟨sb, i * 4 + 2, none⟩ (.int .i64 0)).setCell ⟨sb, i * 4 + 3, none⟩ (.slice none 0 0)) sb 16 (relX s g (i + 1) X) ∧ Turn [sb] w ((((w2.setCell ⟨sb, i * 4, none⟩ (.int .i64 0)).setCell ⟨sb, i * 4 + 1, none⟩ (.int .i64 0)).setCell ⟨sb, i * 4 + 2, none⟩ (.int .i64 0)).setCell ⟨sb, i * 4 + 3, none⟩ (.slice none 0 0))) := Lib.hid (by
              rw [← HXN.out]
              exact ⟨HB2.out.1.put hlt Sx.z, HB2.out.2.put4 (by simp) _ _ _ _ _ _ _ _⟩)
            go_wp2_with fail
            go_roundg (16 - (i + 1))
            case measure => omega
            case rel => exact ⟨i + 1, by go_num, by omega, rfl, by rw [HZE.out]; go_num, HB3⟩
          · have e1 : ((x.s : Int) == s) = true := beq_iff_eq.2 h1
            have e2 : ((x.g : Int) == g) = false := beq_eq_false_iff_ne.2 h2
            have hno : ¬ (x.no ≠ 0 ∧ (x.s : Int) = s ∧ (x.g : Int) = g) := fun h => h2 h.2.2
            rw [if_neg hno] at HZE
            have HXN := Lib.hid (HXM.out hno)
            clear h0 h1 h2 hno
            go_wp2_with fail
            rw [HV1.out, HHE.out]
            refine HL.out.mono ?_
            rintro e w2 ⟨rfl, hb2⟩
            try dsimp only
            have HK2 := Lib.hid (HK1.out.below hb2)
            have k1 := HK2.out.c1
            have k2 := HK2.out.c2
            have HB2 : Hid (SR w2 sb 16 (relX s g (i + 1) X) ∧ Turn [sb] w w2) := Lib.hid (by rw [← HXN.out]; exact ⟨HB1.out.1.below hb2, HB1.out.2.trans (Turn.of hb2)⟩)
            clear hb2 HL
            go_wp2_with fail
            go_roundg (16 - (i + 1))
            case measure => omega
            case rel => exact ⟨i + 1, by go_num, by omega, rfl, by rw [HZE.out, Nat.add_zero], HB2⟩
        · have e1 : ((x.s : Int) == s) = false := beq_eq_false_iff_ne.2 h1
          have hno : ¬ (x.no ≠ 0 ∧ (x.s : Int) = s ∧ (x.g : Int) = g) := fun h => h1 h.2.1
          rw [if_neg hno] at HZE
          have HXN := Lib.hid (HXM.out hno)
          clear h0 h1 hno
          go_wp2_with fail
          rw [HV1.out, HHE.out]
          refine HL.out.mono ?_
          rintro e w2 ⟨rfl, hb2⟩
          try dsimp only
          have HK2 := Lib.hid (HK1.out.below hb2)
          have k1 := HK2.out.c1
          have HB2 : Hid (SR w2 sb 16 (relX s g (i + 1) X) ∧ Turn [sb] w w2) := Lib.hid (by rw [← HXN.out]; exact ⟨HB1.out.1.below hb2, HB1.out.2.trans (Turn.of hb2)⟩)
          clear hb2 HL
          go_wp2_with fail
          go_roundg (16 - (i + 1))
          case measure => omega
          case rel => exact ⟨i + 1, by go_num, by omega, rfl, by rw [HZE.out, Nat.add_zero], HB2⟩
    · obtain rfl : i = 16 := by omega
      go_wp2_with fail
      go_ret
      exact ⟨rfl, HB.out.1, HB.out.2⟩
/-- Is a slot's intent live, and the one that was boxed? -/
theorem ihas1 (x : Sx) (bi : Nat) (y : It) (A : Option Addr) (c : Nat) (W : World) (h : IV W bi (y.s : Int) (y.g : Int) A 128 c) (hd : DatI W A y.D) (hy : ∀ j, j < 128 → y.D j < 256) (hx : SxOk W x) (t : Bool) (ht : t = true ↔ x.no ≠ 0 ∧ x.it.Alike y) :
    Calls Tryz.prog 107 #[x.v, .pointer (some ⟨bi, 0, none⟩)] W fun e w' => e = .returned (.bool t) ∧ Below W.heap.size W w' := by
  obtain ⟨w1, hw1⟩ : ∃ w1, W.alloc (.cells #[.int .i64 (x.no : Int), .int .i64 (x.s : Int), .int .i64 (x.g : Int), .slice x.A x.n x.c] 79) = w1 := ⟨_, rfl⟩
  obtain ⟨H, hH⟩ : ∃ H, W.heap.size = H := ⟨_, rfl⟩
  have HHE := Lib.hid hH
  have HW1 := Lib.hid hw1
  have hb1 : Below W.heap.size W w1 := by rw [← hw1]; exact (Below.refl _ _).alloc (Nat.le_refl _) _
  have HB1 : Hid (Below H W w1) := Lib.hid (by rw [← hH]; exact hb1)
  have HK1 : Hid (SV w1 H (x.no : Int) (x.s : Int) (x.g : Int) x.A x.n x.c) := Lib.hid (by rw [← hw1]; exact SV.of_new hH)
  have HI1 := Lib.hid (h.below hb1)
  have HD1 := Lib.hid (hd.below hb1)
  have HX1 := Lib.hid (hx.below hb1)
  have HT := Lib.hid ht
  have HY := Lib.hid hy
  have HZ1 : Hid (H ≤ w1.heap.size) := Lib.hid (Nat.le_of_lt HK1.out.lt)
  clear hw1 hH hb1 h hd hx ht hy
  unfold Sx.v sv
  by_cases h0 : x.no = 0
  · have HL := Lib.hid (ilive x.no (x.s : Int) (x.g : Int) x.A x.n x.c w1 false ⟨fun e => (by cases e), fun e => absurd h0 e⟩)
    obtain rfl : t = false := not_true HT.out (fun h => h.1 h0)
    clear h0
    unfold sv at HL
    go_enter Tryz.func107, Tryz.ntmps107
    go_wp2_with fail
    rw [HW1.out, HHE.out]
    refine HL.out.mono ?_
    rintro e w2 ⟨rfl, hb2⟩
    try dsimp only
    have HB2 : Hid (Below H W w2) := Lib.hid (HB1.out.trans (hb2.mono HZ1.out))
    clear hb2
    go_wp2_with fail
    go_ret
    exact ⟨rfl, by rw [HHE.out]; exact HB2.out⟩
  · have HL := Lib.hid (ilive x.no (x.s : Int) (x.g : Int) x.A x.n x.c w1 true ⟨fun _ => h0, fun _ => rfl⟩)
    obtain ⟨hn, hdx, hok⟩ := HX1.out h0
    have HDX := Lib.hid hdx
    have HOK := Lib.hid hok
    have HT2 : Hid (t = true ↔ x.it.Alike y) := Lib.hid ⟨fun e => (HT.out.1 e).2, fun e => HT.out.2 ⟨h0, e⟩⟩
    rw [hn] at HL HW1 HK1 ⊢
    clear h0 hn hdx hok HT HX1
    unfold sv at HL
    go_enter Tryz.func107, Tryz.ntmps107
    go_wp2_with fail
    rw [HW1.out, HHE.out]
    refine HL.out.mono ?_
    rintro e w2 ⟨rfl, hb2⟩
    try dsimp only
    have HB2 : Hid (Below H W w2) := Lib.hid (HB1.out.trans (hb2.mono HZ1.out))
    have HZ2 : Hid (H ≤ w2.heap.size) := Lib.hid (Nat.le_trans HZ1.out hb2.size)
    have HK2 := Lib.hid (HK1.out.below hb2)
    have HI2 := Lib.hid (HI1.out.below hb2)
    have k1 := HK2.out.c1
    have k2 := HK2.out.c2
    have k3 := HK2.out.c3
    have i0 := HI2.out.c0
    have i1 := HI2.out.c1
    have i2 := HI2.out.c2
    have HSA := Lib.hid (isameV (w := w2) (v := iv (x.s : Int) (x.g : Int) x.A 128 x.c) (v' := iv (y.s : Int) (y.g : Int) A 128 c) (x := x.it) (y := y) ⟨x.A, x.c, rfl, HDX.out.below hb2⟩ ⟨A, c, rfl, HD1.out.below hb2⟩ HOK.out.2.2.2 HY.out t HT2.out)
    unfold iv at HSA
    clear hb2
    go_wp2_with fail
    refine HSA.out.mono ?_
    rintro e w3 ⟨rfl, hb3⟩
    try dsimp only
    have HB3 : Hid (Below H W w3) := Lib.hid (HB2.out.trans (hb3.mono HZ2.out))
    clear hb3 k1 k2 k3 i0 i1 i2 HSA
    go_wp2_with fail
    go_ret
    exact ⟨rfl, by rw [HHE.out]; exact HB3.out⟩
/-- has: is such an intent live? -/
theorem ihas {w : World} {r p sb last : Nat} {X : Nat → Sx} (y : It) (A : Option Addr) (c : Nat) (h : RB w r p sb last) (hs : SR w sb 16 X) (hx : ∀ k, k < 16 → SxOk w (X k)) (hd : DatI w A y.D) (hy : ∀ j, j < 128 → y.D j < 256) (t : Bool) (ht : t = true ↔ ∃ k, k < 16 ∧ (X k).no ≠ 0 ∧ (X k).it.Alike y) :
    Calls Tryz.prog 91 #[.pointer (some ⟨r, 0, none⟩), iv (y.s : Int) (y.g : Int) A 128 c] w fun e w' => e = .returned (.bool t) ∧ Below w.heap.size w w' := by
  obtain ⟨w1, hw1⟩ : ∃ w1, w.alloc (.cells #[.int .i64 (y.s : Int), .int .i64 (y.g : Int), .slice A 128 c] 56) = w1 := ⟨_, rfl⟩
  obtain ⟨H, hH⟩ : ∃ H, w.heap.size = H := ⟨_, rfl⟩
  have HHE := Lib.hid hH
  have HW1 := Lib.hid hw1
  have hb1 : Below w.heap.size w w1 := by rw [← hw1]; exact (Below.refl _ _).alloc (Nat.le_refl _) _
  have HB1 : Hid (Below H w w1) := Lib.hid (by rw [← hH]; exact hb1)
  have HI1 : Hid (IV w1 H (y.s : Int) (y.g : Int) A 128 c) := Lib.hid (by rw [← hw1]; exact IV.of_new hH)
  have HZ1 : Hid (H ≤ w1.heap.size) := Lib.hid (Nat.le_of_lt HI1.out.lt)
  have c1 := h.c1
  have hrl : r < w.heap.size := h.lt
  have hrn : ¬ r = w.heap.size := by omega
  have hex : ∀ k, ∃ t : Bool, t = true ↔ (X k).no ≠ 0 ∧ (X k).it.Alike y := fun k => by
    by_cases hh : (X k).no ≠ 0 ∧ (X k).it.Alike y
    · exact ⟨true, fun _ => hh, fun _ => rfl⟩
    · exact ⟨false, fun e => (by cases e), fun e => absurd e hh⟩
  obtain ⟨pp, hpp⟩ := Classical.axiomOfChoice hex
  have HC : Hid (Calls Tryz.prog 57 #[.slice (some ⟨sb, 0, none⟩) 16 16, .func (.func 107) #[] #[.pointer (some ⟨H, 0, none⟩)]] w1 (IdxRet 16 (fun i => pp i = true) w1)) :=
    Lib.hid (iindexH (.pointer (some ⟨H, 0, none⟩)) sb 16 16 X pp w1 (hs.below hb1) (by omega) (fun i hi W hW => ihas1 (X i) H y A c W (HI1.out.below hW) ((hd.below hb1).below hW) hy (((hx i hi).below hb1).below hW) (pp i) (hpp i)))
  have HT : Hid (∀ k : Int, FirstI 16 (fun i => pp i = true) k → (0 ≤ k ↔ t = true)) := Lib.hid (fun k hk => by
    rcases hk with ⟨rfl, hno⟩ | ⟨i, rfl, hi, hyes, _⟩
    · constructor
      · intro h; omega
      · intro e
        obtain ⟨k, hk, hk2⟩ := ht.1 e
        exact absurd ((hpp k).2 hk2) (hno k hk)
    · exact ⟨fun _ => ht.2 ⟨i, hi, (hpp i).1 hyes⟩, fun _ => by omega⟩)
  have HCT : Hid (Calls Tryz.prog 106 #[.slice (some ⟨sb, 0, none⟩) 16 16, .func (.func 107) #[] #[.pointer (some ⟨H, 0, none⟩)]] w1 (fun e w' => e = .returned (.bool t) ∧ Below w1.heap.size w1 w')) := by
    refine Lib.hid ?_
    clear hw1 hH hb1 h hs hx hd hy ht c1 hex hpp hrl hrn
    go_enter Tryz.func106, Tryz.ntmps106
    go_wp2_with fail
    refine HC.out.mono ?_
    rintro e w2 ⟨k, rfl, hk, hb2⟩
    try dsimp only
    have HB2 := Lib.hid hb2
    have hkt := HT.out k hk
    clear hk hb2
    cases t
    · have hk0 : ¬ 0 ≤ k := fun h => (by have := hkt.1 h; cases this)
      clear hkt
      go_wp2_with fail
      go_ret
      exact ⟨rfl, HB2.out⟩
    · have hk0 : 0 ≤ k := hkt.2 rfl
      clear hkt
      go_wp2_with fail
      go_ret
      exact ⟨rfl, HB2.out⟩
  clear hw1 hH hb1 h hs hx hd hy ht hex hpp HC HT
  unfold iv
  go_enter Tryz.func91, Tryz.ntmps91
  go_wp2_with fail
  rw [HW1.out, HHE.out]
  refine HCT.out.mono ?_
  rintro e w2 ⟨rfl, hb2⟩
  try dsimp only
  have HB2 : Hid (Below H w w2) := Lib.hid (HB1.out.trans (hb2.mono HZ1.out))
  clear hb2
  go_wp2_with fail
  go_ret
  exact ⟨rfl, by rw [HHE.out]; exact HB2.out⟩
end Go.Proofs.YtjgbfghkiahfaaaGreatDoor
