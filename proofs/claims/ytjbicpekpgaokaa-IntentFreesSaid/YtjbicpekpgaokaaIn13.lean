import Derived.Test.YtjbicpekpgaokaaIn12
namespace Go.Proofs.Ytjbicpekpgaokaa
open Go.RowKit Go.Sort
set_option maxRecDepth 100000
set_option maxHeartbeats 4000000

theorem RS.turnI {w0 v v' : World} {r p sb last : Nat} {T : List Nt} (h : RS w0 r p sb T last v) {S0 : List Nat} (t : Turn S0 v v') (hS : ∀ k ∈ S0, w0.heap.size ≤ k ∧ ∃ cs, v.heap[k]? = some (Obj.cells cs 71 (0, 0))) : RS w0 r p sb T last v' := by
  obtain ⟨S, d, nw, X, h1, h2, h3, h4, h5⟩ := h
  have far : ∀ k cs (ty : TypeId), v.heap[k]? = some (Obj.cells cs ty (0, 0)) → ty ≠ 71 → k ∉ S0 := fun k cs ty hk hne hm => by
    obtain ⟨_, cs', hc⟩ := hS k hm
    rw [hk] at hc
    cases hc
    exact hne rfl
  have hu : ∀ (g' : Nat) (cs : Array Value), v.heap[g']? = some (Obj.cells cs 5 (0, 0)) → v'.heap[g']? = v.heap[g']? := fun g' cs hg => t.block g' (heap_lt hg) (far g' cs _ hg (by decide))
  obtain ⟨cs, hc⟩ := h1.sr.type
  refine ⟨S, d, nw, X, ⟨h1.rb.keep (t.block r h1.rb.lt (far r _ _ h1.rb (by decide))), h1.sr.keep (t.block sb h1.sr.lt (far sb cs _ hc (by decide))), fun k hk => (h1.ok k hk).keep hu, h1.plt.same ⟨hu, fun k hk => t.block k (h1.plt.lt k hk) (fun hm => by
    obtain ⟨_, cs', hc'⟩ := hS k hm
    exact h1.plt.notMem hc' (by decide) (by decide) (by decide) hk)⟩⟩, h2, h3, Below.of_turn h4 t (fun k hk => (hS k hk).1) h4.size, h5⟩
theorem RS.okT {w0 v : World} {r p sb last : Nat} {T : List Nt} (h : RS w0 r p sb T last v) : ∀ e ∈ T, e.2.Ok := by
  obtain ⟨S, d, nw, X, h1, h2, h3, h4, h5⟩ := h
  intro e he
  obtain ⟨x, hx, rfl⟩ := List.mem_map.1 (h2.1.mem_iff.2 he)
  obtain ⟨i, hi, hno, rfl⟩ := lv_mem.1 hx
  exact (h1.ok i hi hno).2.2
/-- The ring, and the list that the law keeps of it. -/
def FR (w : World) (r p sb B : Nat) (u : Value) (T : List Nt) (last : Nat) (v : World) : Prop := RS w r p sb T last v ∧ LI v B u (T.map (·.2)) ∧ B ≤ v.heap.size
theorem FR.below {w v v' : World} {r p sb B last : Nat} {u : Value} {T : List Nt} (h : FR w r p sb B u T last v) (b : Below v.heap.size v v') : FR w r p sb B u T last v' := ⟨h.1.below b, h.2.1.below b, Nat.le_trans h.2.2 b.size⟩
theorem filter_g {T : List Nt} {s : Nat} (h : ∀ e ∈ T, e.2.g = 3) : T.filter (keepsR (s : Int) 2) = T := by
  refine List.filter_eq_self.2 (fun e he => ?_)
  have := h e he
  unfold keepsR
  simp [this]
theorem keeps_ne {e : Nt} {s : Nat} (hg : e.2.g = 3) : keepsR (s : Int) 3 e = true ↔ ¬ (e.2.s : Int) = (s : Int) := by
  unfold keepsR
  simp [hg]
theorem intentFrees (A0 : Option Addr) (xs : List Int) (c0 : Nat) (x1 : Int) (w : World) (hN : Nums w A0 xs) (hl : xs.length ≤ 9223372036854775807) :
    Calls Try.prog 11 #[.slice A0 xs.length c0, .int .i64 x1] w fun e w' => e = .returned (.bool true) ∧ Below w.heap.size w w' := by
  have HNW := Lib.hid (dnew_of w 96 96 (by omega) rfl)
  have HNN := Lib.hid hN
  obtain ⟨m, hm⟩ : ∃ m, xs.length = m := ⟨_, rfl⟩
  rw [hm] at hl ⊢
  have HM := Lib.hid hm
  obtain ⟨m20, hm20⟩ : ∃ m20, m20 = min m 20 := ⟨_, rfl⟩
  have l20 : m20 ≤ 20 := by omega
  have lm : m20 ≤ m := by omega
  have H20 : Hid (∀ i : Nat, i = m20 → m ≤ i ∨ 20 ≤ i) := Lib.hid (by omega)
  clear hN hm hm20
  go_enter Try.func11, Try.ntmps11
  go_wp2_with fail
  refine HNW.out.mono ?_
  rintro e w1 ⟨p, S1, rfl, hp1, hb1, hS1⟩
  try dsimp only
  have HOP := Lib.hid (rs_open (w0 := w) hp1 hS1 hb1)
  clear hp1 hb1 hS1 HNW
  go_wp2_with fail
  refine HOP.out.mono ?_
  rintro e w2 ⟨r, sb, rfl, hr2⟩
  try dsimp only
  have HR2 := Lib.hid hr2
  clear hr2 HOP
  go_wp2_with fail
  refine (lknown9 w2).mono ?_
  rintro e w3 ⟨rfl, hb3⟩
  try dsimp only
  have HR3 : Hid (RS w r p sb (Ts (fun k => oneI k 3 (k : Int)) 0) 0 w3) := Lib.hid (HR2.out.below hb3)
  obtain ⟨B, hB⟩ : ∃ B, w3.heap.size = B := ⟨_, rfl⟩
  have HF3 : Hid (FR w r p sb B (.slice none 0 0) (Ts (fun k => oneI k 3 (k : Int)) 0) 0 w3) := Lib.hid ⟨HR3.out, LI.nil, Nat.le_of_eq hB.symm⟩
  have HBW : Hid (w.heap.size ≤ B) := Lib.hid (by rw [← hB]; exact HR3.out.blw.size)
  clear hb3 hB HR2 HR3
  go_wp2_with fail
  go_loopg [8, 9] 16 (fun q s8 s9 v => ∃ i : Nat, s9 = .int .i64 (i : Int) ∧ i ≤ 16 ∧ q = 16 - i ∧ Hid (FR w r p sb B s8 (Ts (fun k => oneI k 3 (k : Int)) i) i v))
  case atStart => exact ⟨0, rfl, by omega, rfl, HF3⟩
  case round =>
    obtain ⟨i, rfl, hi, rfl, HV⟩ := hrel
    clear HF3
    by_cases hlt : i < 16
    · have hli : (i : Int) < 16 := by omega
      have hi0 : (0 : Int) ≤ (i : Int) := by omega
      have HON := Lib.hid (lone9I (i : Int) 3 i 3 (i : Int) wr rfl rfl)
      obtain ⟨A8, c8, hu8⟩ := HV.out.2.1.form
      rw [List.length_map, Ts_len] at hu8
      subst hu8
      go_wp2_with fail
      refine HON.out.mono ?_
      rintro e w4 ⟨b, rfl, kb, hb4, _⟩
      try dsimp only
      obtain ⟨v4, hv4⟩ : ∃ v4, w4.alloc (.cells #[.int .i64 (i : Int), .int .i64 3, .slice (some ⟨b, 0, none⟩) 128 128] 71) = v4 := ⟨_, rfl⟩
      have HV4 := Lib.hid hv4
      have bv4 : Below w4.heap.size w4 v4 := by rw [← hv4]; exact (Below.refl _ _).alloc (Nat.le_refl _) _
      have HF4 := Lib.hid ((HV.out.below hb4).below bv4)
      have HI4 : Hid (IV v4 w4.heap.size ((oneI i 3 (i : Int)).s : Int) ((oneI i 3 (i : Int)).g : Int) (some ⟨b, 0, none⟩) 128 128) := Lib.hid (by rw [← hv4]; exact IV.new w4 _ _ _ _ _)
      have HD4 : Hid (DatI v4 (some ⟨b, 0, none⟩) (oneI i 3 (i : Int)).D) := Lib.hid ((DatI.blk kb).below bv4)
      obtain ⟨l0, hl0⟩ : ∃ l0, (Ts (fun k => oneI k 3 (k : Int)) i).map (·.2) = l0 := ⟨_, rfl⟩
      have hl0l : l0.length = i := by rw [← hl0, List.length_map, Ts_len]
      have HL0L := Lib.hid hl0l
      have HLI := Lib.hid HF4.out.2.1
      rw [hl0] at HLI
      have HTS : Hid ((Ts (fun k => oneI k 3 (k : Int)) (i + 1)).map (·.2) = l0 ++ [oneI i 3 (i : Int)]) := Lib.hid (by rw [Ts_succ, List.map_append, hl0]; rfl)
      clear kb hb4 hv4 bv4 hl0 hl0l HON HV
      go_wp2_with (rw [HV4.out]; at_builtin; refine append_it _ rfl (.tmp 45) (.tmp 49) rfl B (.slice A8 i c8) l0 (oneI i 3 (i : Int)) rfl HLI.out w4.heap.size (some ⟨b, 0, none⟩) 128 rfl HI4.out HD4.out (by rw [HL0L.out]; omega) HF4.out.2.2 ?_; intro v5 w5 hl' _ ht'; have HLE := Lib.hid hl'; have HTE := Lib.hid ht'; clear hl' ht'; obtain ⟨b5, c5, A5, d5, hv5, _, _, k0, k1, k2, hd5⟩ := HLE.out.pl.at (i := i) (p := oneI i 3 (i : Int)) (by rw [List.getElem?_append_right (by rw [HL0L.out]; exact Nat.le_refl _), HL0L.out, Nat.sub_self]; rfl); rw [show (l0 ++ [oneI i 3 (i : Int)]).length = i + 1 by rw [List.length_append, HL0L.out]; rfl] at hv5; subst hv5; have q0 : w5.cell? ⟨b5, i * 3, none⟩ = some (.int .i64 (i : Int)) := k0; have q1 : w5.cell? ⟨b5, i * 3 + 1, none⟩ = some (.int .i64 3) := k1; have HD5 := Lib.hid hd5; clear k0 k1 hd5)
      have HF5 : Hid (RS w r p sb (Ts (fun k => oneI k 3 (k : Int)) i) i w5) := Lib.hid (by
        obtain ⟨S0, t0, h0⟩ := HTE.out
        exact HF4.out.1.turnI t0 (fun k hk => ⟨Nat.le_trans HBW.out (h0 k hk).1, (h0 k hk).2⟩))
      have HSZ : Hid (B ≤ w5.heap.size) := Lib.hid (by
        obtain ⟨S0, t0, h0⟩ := HTE.out
        exact Nat.le_trans HF4.out.2.2 t0.size)
      have HLG := Lib.hid (rs_log HF5.out (oneI i 3 (i : Int)) A5 d5 (oneI_ok (by omega) (by omega) (by omega)) HD5.out (Ts_far (by show i ≤ i; omega)) (by rw [Ts_len]; exact hlt) (by omega))
      clear q0 q1 k2
      refine HLG.out.mono ?_
      rintro e w6 ⟨rfl, hr6, hk6⟩
      try dsimp only
      have HF6 : Hid (FR w r p sb B (.slice (some ⟨b5, 0, none⟩) (i + 1) c5) (Ts (fun k => oneI k 3 (k : Int)) (i + 1)) (i + 1) w6) := Lib.hid ⟨by rw [Ts_succ]; exact hr6, by rw [HTS.out]; exact HLE.out.keepI hk6, Nat.le_trans HSZ.out hk6.1⟩
      clear hr6 hk6 HLG
      go_wp2_with fail
      go_roundg (16 - (i + 1))
      case measure => omega
      case rel => exact ⟨i + 1, by go_num, by omega, rfl, HF6⟩
    · obtain rfl : i = 16 := by omega
      have HV2 : Hid (∃ T : List Nt, T.length ≤ 16 ∧ (∀ e ∈ T, e.2.g = 3 ∧ e.2.s < 16) ∧ (0 : Int) = ((16 - T.length : Nat) : Int) ∧ FR w r p sb B u8 T 16 wr) := Lib.hid ⟨_, by rw [Ts_len]; exact Nat.le_refl _, fun e he => by
        obtain ⟨k, hk, rfl⟩ := Ts_mem he
        exact ⟨rfl, hk⟩, by rw [Ts_len]; rfl, HV.out⟩
      clear HV
      generalize wr = v0 at *
      go_wp2_with fail
      go_loopg [8, 10, 11, 12, 13, 14, 16] m20 (fun q s8 s10 s11 s12 s13 s14 s16 v => ∃ (i : Nat) (z10 : Int), s11 = .int .i64 (i : Int) ∧ i ≤ m20 ∧ q = m20 - i ∧ s10 = .int .i64 z10 ∧ Hid (∃ T : List Nt, T.length ≤ 16 ∧ (∀ e ∈ T, e.2.g = 3 ∧ e.2.s < 16) ∧ z10 = ((16 - T.length : Nat) : Int) ∧ FR w r p sb B s8 T 16 v))
      case atStart => exact ⟨0, 0, rfl, by omega, rfl, rfl, HV2⟩
      case round =>
        obtain ⟨i, z10, rfl, hi, rfl, rfl, HV⟩ := hrel
        clear HV2
        generalize wr = v1 at *
        obtain ⟨T, hT1, hT2, hT3, hF⟩ := HV.out
        have HT2 := Lib.hid hT2
        have HF := Lib.hid hF
        obtain ⟨A8, c8, hu8⟩ := hF.2.1.form
        rw [List.length_map] at hu8
        obtain ⟨m1, hm1⟩ : ∃ m1, T.length = m1 := ⟨_, rfl⟩
        rw [hm1] at hu8 hT1 hT3
        subst hu8
        have HM1 := Lib.hid hm1
        clear hT2 hF hm1 HV
        by_cases hlt : i < m20
        · have t1 : (i : Int) < (m : Int) := by omega
          have t2 : (i : Int) < 20 := by omega
          have t0 : (0 : Int) ≤ (i : Int) := by omega
          obtain ⟨z, hz⟩ : ∃ z, xs[i]? = some z := ⟨_, List.getElem?_eq_getElem (by rw [HM.out]; omega)⟩
          obtain ⟨ag, ao, rfl, hag, hac⟩ := HNN.out i z hz
          have a1 := (HF.out.1.blw.cell (p := ⟨ag, ao + i, none⟩) hag).trans hac
          obtain ⟨ps, lps, hps⟩ := rpickN z 18 (by omega) (by omega)
          have HPS := Lib.hid hps
          have HRL := Lib.hid (rs_rel HF.out.1 (ps : Int) 3)
          rw [HM1.out] at HRL
          obtain ⟨T', hT'⟩ : ∃ T', T.filter (keepsR (ps : Int) 3) = T' := ⟨_, rfl⟩
          obtain ⟨m2, hm2⟩ : ∃ m2, T'.length = m2 := ⟨_, rfl⟩
          rw [hT', hm2] at HRL
          have HTP := Lib.hid hT'
          have HM2 := Lib.hid hm2
          have hm21 : m2 ≤ m1 := by rw [← hm2, ← hT', ← HM1.out]; exact List.length_filter_le _ _
          obtain ⟨nn, hnn⟩ : ∃ nn, m1 - m2 = nn := ⟨_, rfl⟩
          rw [hnn] at HRL
          clear hz hag hac hps hT' hm2
          go_wp2_with fail
          refine (HPS.out _).mono ?_
          rintro e w' ⟨rfl, hw⟩
          obtain rfl := hw.symm
          clear a1
          go_wp2_with fail
          refine HRL.out.mono ?_
          rintro e w5 ⟨rfl, hr5, hk5⟩
          try dsimp only
          have HR5 := Lib.hid hr5
          have HL5 := Lib.hid (HF.out.2.1.keepI hk5)
          have HSZ5 : Hid (B ≤ w5.heap.size) := Lib.hid (Nat.le_trans HF.out.2.2 hk5.1)
          clear hr5 hk5 HRL HF
          go_wp2_with fail
          go_loopg [14, 16, 78] m1 (fun q s14 s16 s78 v => ∃ k : Nat, s78 = .int .i64 (k : Int) ∧ k ≤ m1 ∧ q = m1 - k ∧ Hid (LI v w5.heap.size s14 (((T.take k).filter (keepsR (ps : Int) 3)).map (·.2)) ∧ Below w5.heap.size w5 v))
          case atStart => exact ⟨0, rfl, by omega, rfl, Lib.hid ⟨LI.nil, Below.refl _ _⟩⟩
          case round =>
            obtain ⟨k, rfl, hk, rfl, HK⟩ := hrel
            by_cases hkl : k < m1
            · have hkk : (k : Int) < (m1 : Int) := by omega
              have hk0 : (0 : Int) ≤ (k : Int) := by omega
              obtain ⟨e0, he0⟩ : ∃ e0, T[k]? = some e0 := ⟨_, List.getElem?_eq_getElem (by rw [HM1.out]; exact hkl)⟩
              have hmem := List.mem_of_getElem? he0
              obtain ⟨hg3, hs16⟩ := HT2.out e0 hmem
              obtain ⟨b8, c8', A9, d9, hv8, _, _, k0, k1, k2, hd9⟩ := (HL5.out.below HK.out.2).pl.at (i := k) (p := e0.2) (by rw [List.getElem?_map, he0]; rfl)
              rw [List.length_map, HM1.out] at hv8
              cases hv8
              obtain ⟨y, hy⟩ : ∃ y, e0.2 = y := ⟨_, rfl⟩
              rw [hy] at hg3 hs16 k0 k1 hd9
              have HTT := Lib.hid (And.intro he0 hy)
              obtain ⟨v6, hv6⟩ : ∃ v6, wr.alloc (.cells #[.int .i64 (y.s : Int), .int .i64 (y.g : Int), .slice A9 128 d9] 71) = v6 := ⟨_, rfl⟩
              have HV6 := Lib.hid hv6
              have bv6 : Below wr.heap.size wr v6 := by rw [← hv6]; exact (Below.refl _ _).alloc (Nat.le_refl _) _
              have HB6 : Hid (Below w5.heap.size w5 v6) := Lib.hid (HK.out.2.trans (bv6.mono HK.out.2.size))
              have HI6 : Hid (IV v6 wr.heap.size (y.s : Int) (y.g : Int) A9 128 d9) := Lib.hid (by rw [← hv6]; exact IV.new wr _ _ _ _ _)
              have HD6 := Lib.hid (hd9.below bv6)
              have HL6 := Lib.hid (HK.out.1.below bv6)
              have HG3 := Lib.hid hg3
              clear he0 hmem hv6 bv6 hd9 HK hg3
              by_cases hne : (y.s : Int) = (ps : Int)
              · have ene : ((y.s : Int) != (ps : Int)) = false := by rw [hne]; simp
                have HTK : Hid (((T.take (k + 1)).filter (keepsR (ps : Int) 3)).map (·.2) = ((T.take k).filter (keepsR (ps : Int) 3)).map (·.2)) := Lib.hid (by
                  have hkp : keepsR (ps : Int) 3 e0 = false := by
                    rw [Bool.eq_false_iff]
                    exact fun h => (keeps_ne (by rw [HTT.out.2]; exact HG3.out)).1 h (by rw [HTT.out.2]; exact hne)
                  rw [List.take_add_one, HTT.out.1]
                  simp [hkp])
                clear hne
                go_wp2_with fail
                rw [HV6.out]
                go_roundg (m1 - (k + 1))
                case measure => omega
                case rel => exact ⟨k + 1, by go_num, by omega, rfl, Lib.hid ⟨by rw [HTK.out]; exact HL6.out, HB6.out⟩⟩
              · have ene : ((y.s : Int) != (ps : Int)) = true := by rw [bne_iff_ne]; exact hne
                obtain ⟨l0, hl0⟩ : ∃ l0, ((T.take k).filter (keepsR (ps : Int) 3)).map (·.2) = l0 := ⟨_, rfl⟩
                have hl0l : l0.length ≤ 16 := by
                  rw [← hl0, List.length_map]
                  have h1 := List.length_filter_le (keepsR (ps : Int) 3) (T.take k)
                  rw [List.length_take] at h1
                  omega
                have HTK : Hid (((T.take (k + 1)).filter (keepsR (ps : Int) 3)).map (·.2) = l0 ++ [y]) := Lib.hid (by
                  have hkp : keepsR (ps : Int) 3 e0 = true := (keeps_ne (by rw [HTT.out.2]; exact HG3.out)).2 (by rw [HTT.out.2]; exact hne)
                  rw [List.take_add_one, HTT.out.1, ← hl0, ← HTT.out.2]
                  simp [hkp])
                rw [hl0] at HL6
                obtain ⟨v7, hv7⟩ : ∃ v7, v6.alloc (.cells #[.int .i64 (y.s : Int), .int .i64 (y.g : Int), .slice A9 128 d9] 71) = v7 := ⟨_, rfl⟩
                have HV7 := Lib.hid hv7
                have bv7 : Below v6.heap.size v6 v7 := by rw [← hv7]; exact (Below.refl _ _).alloc (Nat.le_refl _) _
                have HB7 : Hid (Below w5.heap.size w5 v7) := Lib.hid (HB6.out.trans (bv7.mono HB6.out.size))
                have HI7 : Hid (IV v7 v6.heap.size (y.s : Int) (y.g : Int) A9 128 d9) := Lib.hid (by rw [← hv7]; exact IV.new v6 _ _ _ _ _)
                have HD7 := Lib.hid (HD6.out.below bv7)
                have HL7 := Lib.hid (HL6.out.below bv7)
                obtain ⟨A14, c14, hu14⟩ := HL6.out.form
                obtain ⟨n14, hn14⟩ : ∃ n14, l0.length = n14 := ⟨_, rfl⟩
                rw [hn14] at hu14
                subst hu14
                have HN14 := Lib.hid hn14
                have h14 : n14 ≤ 16 := by omega
                have i0 := HI6.out.c0
                have i1 := HI6.out.c1
                have i2 := HI6.out.c2
                clear hne hl0 hl0l hv7 bv7 hn14
                go_upto_region 23 with fail
                rw [HV6.out]
                go_wp2_with (rw [HV7.out]; at_builtin; refine append_it _ rfl (.tmp 86) (.tmp 88) rfl w5.heap.size (.slice A14 n14 c14) l0 y rfl HL7.out v6.heap.size A9 d9 rfl HI7.out HD7.out (by rw [HN14.out]; omega) HB7.out.size ?_; intro v8 w8 hl' hb' _; have HLE := Lib.hid hl'; have HBE := Lib.hid (hb' w5 HB7.out); clear hl' hb')
                go_roundg (m1 - (k + 1))
                case measure => omega
                case rel => exact ⟨k + 1, by go_num, by omega, rfl, Lib.hid ⟨by rw [HTK.out]; exact HLE.out, HBE.out⟩⟩
            · obtain rfl : k = m1 := by omega
              have HLF : Hid (LI wr w5.heap.size u14 (T'.map (·.2))) := Lib.hid (by
                have := HK.out.1
                rwa [List.take_of_length_le (by rw [HM1.out]; exact Nat.le_refl _), HTP.out] at this)
              have HR6 := Lib.hid (HR5.out.below HK.out.2)
              have HSZ6 : Hid (B ≤ wr.heap.size) := Lib.hid (Nat.le_trans HSZ5.out HK.out.2.size)
              have HT2' : Hid (∀ e ∈ T', e.2.g = 3 ∧ e.2.s < 16) := Lib.hid (fun e he => HT2.out e (by rw [← HTP.out] at he; exact (List.mem_filter.1 he).1))
              have HRL2 : Hid (Calls Try.prog 51 #[.pointer (some ⟨r, 0, none⟩), .int .i64 (ps : Int), .int .i64 2] wr (RRelRet w r p sb T' 16 0 wr)) := Lib.hid (by
                have h := rs_rel HR6.out (ps : Int) 2
                rw [filter_g (fun e he => (HT2'.out e he).1), Nat.sub_self] at h
                exact h)
              obtain ⟨A14, c14, hu14⟩ := HLF.out.form
              rw [List.length_map, HM2.out] at hu14
              subst hu14
              have e2 : (k : Int) - (m2 : Int) = (nn : Int) := by omega
              have hw2 : IntKind.i64.wrap ((k : Int) - (m2 : Int)) = (nn : Int) := by rw [IntWalk.i64_in _ (by omega)]; exact e2
              have e10 : ((16 - k : Nat) : Int) + (nn : Int) = ((16 - m2 : Nat) : Int) := by omega
              have hw10 : IntKind.i64.wrap (((16 - k : Nat) : Int) + (nn : Int)) = ((16 - m2 : Nat) : Int) := by rw [IntWalk.i64_in _ (by omega)]; exact e10
              clear HK HR5 HL5
              go_wp2_with fail
              refine HRL2.out.mono ?_
              rintro e w7 ⟨rfl, hr7, hk7⟩
              try dsimp only
              have HE7 : Hid (∃ T : List Nt, T.length ≤ 16 ∧ (∀ e ∈ T, e.2.g = 3 ∧ e.2.s < 16) ∧ ((16 - m2 : Nat) : Int) = ((16 - T.length : Nat) : Int) ∧ FR w r p sb B (.slice A14 m2 c14) T 16 w7) := Lib.hid ⟨T', by rw [HM2.out]; omega, HT2'.out, by rw [HM2.out], hr7, (HLF.out.mono HSZ5.out).keepI hk7, Nat.le_trans HSZ6.out hk7.1⟩
              clear hr7 hk7 HRL2
              go_wp2_with fail
              go_roundg (m20 - (i + 1))
              case measure => omega
              case rel => exact ⟨i + 1, _, by go_num, by omega, rfl, rfl, HE7⟩
        · obtain rfl : i = m20 := by omega
          have hor : ((i : Int) < (m : Int) ∧ ¬ (i : Int) < 20) ∨ ¬ (i : Int) < (m : Int) := by have := H20.out i rfl; omega
          obtain ⟨G, hG⟩ : ∃ G, 16 - m1 = G := ⟨_, rfl⟩
          rw [hG] at hT3
          subst hT3
          have hGm : m1 + G = 16 := by omega
          have HL0 : Hid (∃ T : List Nt, T.length = m1 + 0 ∧ (∀ e ∈ T, e.2.g = 3 ∨ e.2.s < 20 + 0) ∧ FR w r p sb B (.slice A8 m1 c8) T (16 + 0) v1) := Lib.hid ⟨T, HM1.out, fun e he => Or.inl (HT2.out e he).1, HF.out⟩
          clear HF HT2 HM1 hG
          rcases hor with ⟨h1, h2⟩ | h1
          all_goals
            go_wp2_with fail
            go_loopg [8, 17, 18] G (fun q s8 s17 s18 v => ∃ j : Nat, s17 = .int .i64 (j : Int) ∧ j ≤ G ∧ q = G - j ∧ Hid (∃ T : List Nt, T.length = m1 + j ∧ (∀ e ∈ T, e.2.g = 3 ∨ e.2.s < 20 + j) ∧ FR w r p sb B s8 T (16 + j) v))
            case atStart => exact ⟨0, rfl, by omega, rfl, HL0⟩
            case round =>
              obtain ⟨j, rfl, hj, rfl, HV⟩ := hrel
              clear HL0
              obtain ⟨T', hT1, hT2, hF⟩ := HV.out
              have HT1 := Lib.hid hT1
              have HT2 := Lib.hid hT2
              have HF := Lib.hid hF
              obtain ⟨A9, c9, hu9⟩ := hF.2.1.form
              obtain ⟨nl, hnl⟩ : ∃ nl, m1 + j = nl := ⟨_, rfl⟩
              rw [List.length_map, hT1, hnl] at hu9
              subst hu9
              have HNL := Lib.hid hnl
              clear hT1 hT2 hF HV hnl
              by_cases hjl : j < G
              · have hjj : (j : Int) < (G : Int) := by omega
                obtain ⟨z, hz⟩ : ∃ z, IntKind.i64.wrap (x1 + (j : Int)) = z := ⟨_, rfl⟩
                obtain ⟨K, hK⟩ : ∃ K, 20 + j = K := ⟨_, rfl⟩
                have HKK := Lib.hid hK
                have eK : (20 : Int) + (j : Int) = (K : Int) := by omega
                have hK40 : K < 40 := by omega
                have HON := Lib.hid (lone9I (K : Int) 4 K 4 z wr rfl rfl)
                clear hK
                go_wp2_with fail
                refine HON.out.mono ?_
                rintro e w4 ⟨b, rfl, kb, hb4, _⟩
                try dsimp only
                obtain ⟨v4, hv4⟩ : ∃ v4, w4.alloc (.cells #[.int .i64 (K : Int), .int .i64 4, .slice (some ⟨b, 0, none⟩) 128 128] 71) = v4 := ⟨_, rfl⟩
                obtain ⟨X4, hX4⟩ : ∃ X4, w4.heap.size = X4 := ⟨_, rfl⟩
                have HV4 := Lib.hid hv4
                have HX4 := Lib.hid hX4
                have bv4 : Below w4.heap.size w4 v4 := by rw [← hv4]; exact (Below.refl _ _).alloc (Nat.le_refl _) _
                have HF4 := Lib.hid ((HF.out.below hb4).below bv4)
                have HI4 : Hid (IV v4 X4 (K : Int) 4 (some ⟨b, 0, none⟩) 128 128) := Lib.hid (by rw [← hv4, ← hX4]; exact IV.new w4 _ _ _ _ _)
                have HD4 : Hid (DatI v4 (some ⟨b, 0, none⟩) (oneI K 4 z).D) := Lib.hid ((DatI.blk kb).below bv4)
                have HLG := Lib.hid (rs_log HF4.out.1 (oneI K 4 z) (some ⟨b, 0, none⟩) 128 (oneI_ok hK40 (by omega) (by omega)) HD4.out (fun e he ha => by
                  rcases HT2.out e he with h | h
                  · have h3 : e.2.g = 4 := ha.2.1
                    omega
                  · have h3 : e.2.s = K := ha.1
                    have := HKK.out
                    omega) (by rw [HT1.out]; omega) (by omega))
                clear kb hb4 hv4 hX4 bv4 HON HF
                go_wp2_with fail
                rw [HV4.out, HX4.out]
                refine HLG.out.mono ?_
                rintro e w5 ⟨rfl, hr5, hk5⟩
                try dsimp only
                have HR5 := Lib.hid hr5
                have HI5 := Lib.hid (HI4.out.keepI hk5)
                have HD5 := Lib.hid (HD4.out.keepI hk5)
                have HL5 := Lib.hid (HF4.out.2.1.keepI hk5)
                have HSZ5 : Hid (B ≤ w5.heap.size) := Lib.hid (Nat.le_trans HF4.out.2.2 hk5.1)
                have i0 := HI5.out.c0
                have i1 := HI5.out.c1
                have i2 := HI5.out.c2
                obtain ⟨v6, hv6⟩ : ∃ v6, w5.alloc (.cells #[.int .i64 (K : Int), .int .i64 4, .slice (some ⟨b, 0, none⟩) 128 128] 71) = v6 := ⟨_, rfl⟩
                have HV6 := Lib.hid hv6
                have bv6 : Below w5.heap.size w5 v6 := by rw [← hv6]; exact (Below.refl _ _).alloc (Nat.le_refl _) _
                have HI6 : Hid (IV v6 w5.heap.size ((oneI K 4 z).s : Int) ((oneI K 4 z).g : Int) (some ⟨b, 0, none⟩) 128 128) := Lib.hid (by rw [← hv6]; exact IV.new w5 _ _ _ _ _)
                have HD6 := Lib.hid (HD5.out.below bv6)
                have HR6 := Lib.hid (HR5.out.below bv6)
                have HSZ6 : Hid (B ≤ v6.heap.size) := Lib.hid (Nat.le_trans HSZ5.out bv6.size)
                obtain ⟨l0, hl0⟩ : ∃ l0, T'.map (·.2) = l0 := ⟨_, rfl⟩
                have hl0l : l0.length = nl := by rw [← hl0, List.length_map, HT1.out]; exact HNL.out
                have HL0L := Lib.hid hl0l
                have hnl16 : nl ≤ 16 := by have := HNL.out; omega
                have HL6 := Lib.hid (HL5.out.below bv6)
                rw [hl0] at HL6
                have HTS : Hid ((T' ++ [(16 + j + 1, oneI K 4 z)]).map (·.2) = l0 ++ [oneI K 4 z]) := Lib.hid (by rw [List.map_append, hl0]; rfl)
                clear hr5 hk5 hv6 bv6 hl0 hl0l HLG HF4 HI4 HD4 HL5
                go_upto_region 35 with fail
                go_wp2_with (rw [HV6.out]; at_builtin; refine append_it _ rfl (.tmp 123) (.tmp 125) rfl B (.slice A9 nl c9) l0 (oneI K 4 z) rfl HL6.out w5.heap.size (some ⟨b, 0, none⟩) 128 rfl HI6.out HD6.out (by rw [HL0L.out]; omega) HSZ6.out ?_; intro v8 w8 hl' _ ht'; have HLE := Lib.hid hl'; have HTE := Lib.hid ht'; clear hl' ht')
                have HF8 : Hid (∃ T : List Nt, T.length = m1 + (j + 1) ∧ (∀ e ∈ T, e.2.g = 3 ∨ e.2.s < 20 + (j + 1)) ∧ FR w r p sb B v8 T (16 + (j + 1)) w8) := Lib.hid (by
                  obtain ⟨S0, t0, h0⟩ := HTE.out
                  refine ⟨_, by rw [List.length_append, HT1.out]; rfl, fun e he => ?_, HR6.out.turnI t0 (fun k hk => ⟨Nat.le_trans HBW.out (h0 k hk).1, (h0 k hk).2⟩), by rw [HTS.out]; exact HLE.out, Nat.le_trans HSZ6.out t0.size⟩
                  rw [List.mem_append, List.mem_singleton] at he
                  rcases he with he | rfl
                  · rcases HT2.out e he with h | h
                    · exact Or.inl h
                    · exact Or.inr (by omega)
                  · exact Or.inr (by show K < 20 + (j + 1); have := HKK.out; omega))
                clear i0 i1 i2
                go_roundg (G - (j + 1))
                case measure => omega
                case rel => exact ⟨j + 1, by go_num, by omega, rfl, HF8⟩
              · obtain rfl : j = G := by omega
                obtain rfl : nl = 16 := by have := HNL.out; omega
                have HLV := Lib.hid (rs_live HF.out.1)
                generalize wr = v2 at *
                go_wp2_with fail
                refine HLV.out.mono ?_
                rintro e w6 ⟨u, rfl, hu, hb6⟩
                try dsimp only
                have HU6 := Lib.hid hu
                have HF6 := Lib.hid (HF.out.below hb6)
                have hT16 : T'.length = 16 := by rw [HT1.out]; exact HNL.out
                obtain ⟨A19, c19, hu19⟩ := hu.form
                rw [List.length_map, hT16] at hu19
                subst hu19
                have HT16 := Lib.hid hT16
                have HON := Lib.hid (lone9I 39 9 39 9 9 w6 rfl rfl)
                clear hu hb6 hT16 HLV HF
                go_wp2_with fail
                refine HON.out.mono ?_
                rintro e w7 ⟨b, rfl, kb, hb7, _⟩
                try dsimp only
                have HF7 := Lib.hid (HF6.out.below hb7)
                have HU7 := Lib.hid (HU6.out.below hb7)
                have HLG := Lib.hid (rs_full HF7.out.1 (oneI 39 9 9) (some ⟨b, 0, none⟩) 128 (oneI_ok (by omega) (by omega) (by omega)) (DatI.blk kb) (fun e he ha => by
                  rcases HT2.out e he with h | h
                  · have h3 : e.2.g = 9 := ha.2.1
                    omega
                  · have h3 : e.2.s = 39 := ha.1
                    omega) HT16.out)
                clear kb hb7 HON HF6 HU6
                go_wp2_with fail
                refine HLG.out.mono ?_
                rintro e w8 ⟨rfl, hb8⟩
                try dsimp only
                have HF8 := Lib.hid (HF7.out.below hb8)
                have HU8 := Lib.hid (HU7.out.below hb8)
                have HW8 : Hid (Below w.heap.size w w8) := Lib.hid HF8.out.1.blw
                clear hb8 HLG HF7 HU7
                go_wp2_with fail
                go_loopg [20, 140] 16 (fun q s20 s140 v => ∃ k : Nat, s140 = .int .i64 (k : Int) ∧ k ≤ 16 ∧ q = 16 - k ∧ Hid (Below w8.heap.size w8 v))
                case atStart => exact ⟨0, rfl, by omega, rfl, Lib.hid (Below.refl _ _)⟩
                case round =>
                  obtain ⟨k, rfl, hk, rfl, HK⟩ := hrel
                  by_cases hkl : k < 16
                  · have hkk : (k : Int) < 16 := by omega
                    have hk0 : (0 : Int) ≤ (k : Int) := by omega
                    obtain ⟨e0, he0⟩ : ∃ e0, T'[k]? = some e0 := ⟨_, List.getElem?_eq_getElem (by rw [HT16.out]; exact hkl)⟩
                    have hok := HF8.out.1.okT e0 (List.mem_of_getElem? he0)
                    have hg1 := (HU8.out.below HK.out).pl.at (i := k) (p := e0.2) (by rw [List.getElem?_map, he0]; rfl)
                    have hg2 := (HF8.out.2.1.below HK.out).pl.at (i := k) (p := e0.2) (by rw [List.getElem?_map, he0]; rfl)
                    obtain ⟨y, hy⟩ : ∃ y, e0.2 = y := ⟨_, rfl⟩
                    rw [hy] at hok hg1 hg2
                    obtain ⟨bl, cl, Al, dl, hvl, _, hbl, k0, k1, k2, hdl⟩ := hg1
                    obtain ⟨bh, ch, Ah, dh, hvh, _, hbh, m0, m1', m2, hdh⟩ := hg2
                    rw [List.length_map, HT16.out] at hvl hvh
                    cases hvl
                    cases hvh
                    have HC : Hid (∀ W, Below wr.heap.size wr W → (W.cell? ⟨bl, k * 3, none⟩ = some (.int .i64 (y.s : Int)) ∧ W.cell? ⟨bl, k * 3 + 1, none⟩ = some (.int .i64 (y.g : Int)) ∧ W.cell? ⟨bl, k * 3 + 2, none⟩ = some (.slice Al 128 dl) ∧ W.cell? ⟨bh, k * 3, none⟩ = some (.int .i64 (y.s : Int)) ∧ W.cell? ⟨bh, k * 3 + 1, none⟩ = some (.int .i64 (y.g : Int)) ∧ W.cell? ⟨bh, k * 3 + 2, none⟩ = some (.slice Ah 128 dh))) := Lib.hid (fun W hW => ⟨(hW.cell (p := ⟨bl, k * 3, none⟩) hbl).trans k0, (hW.cell (p := ⟨bl, k * 3 + 1, none⟩) hbl).trans k1, (hW.cell (p := ⟨bl, k * 3 + 2, none⟩) hbl).trans k2, (hW.cell (p := ⟨bh, k * 3, none⟩) hbh).trans m0, (hW.cell (p := ⟨bh, k * 3 + 1, none⟩) hbh).trans m1', (hW.cell (p := ⟨bh, k * 3 + 2, none⟩) hbh).trans m2⟩)
                    have b0w : Below wr.heap.size wr wr.drew := below_drewN 1 wr
                    have HSM : Hid (∀ W, Below wr.heap.size wr W → Calls Try.prog 53 #[.agg #[.int .i64 (y.s : Int), .int .i64 (y.g : Int), .slice Al 128 dl], .agg #[.int .i64 (y.s : Int), .int .i64 (y.g : Int), .slice Ah 128 dh]] W fun e w' => e = .returned (.bool true) ∧ Below W.heap.size W w') := Lib.hid (fun W hW => isameV (v := iv (y.s : Int) (y.g : Int) Al 128 dl) (v' := iv (y.s : Int) (y.g : Int) Ah 128 dh) (x := y) (y := y) ⟨Al, dl, rfl, hdl.below hW⟩ ⟨Ah, dh, rfl, hdh.below hW⟩ hok.2.2.2 hok.2.2.2 true ⟨fun _ => It.Alike.refl y, fun _ => rfl⟩)
                    clear he0 hok hy k0 k1 k2 m0 m1' m2 hdl hdh hbl hbh
                    go_wp2_with fail
                    go_region_held (fun W => W.cell? ⟨bl, k * 3, none⟩ = some (.int .i64 (y.s : Int)) ∧ W.cell? ⟨bl, k * 3 + 1, none⟩ = some (.int .i64 (y.g : Int)) ∧ W.cell? ⟨bl, k * 3 + 2, none⟩ = some (.slice Al 128 dl) ∧ W.cell? ⟨bh, k * 3, none⟩ = some (.int .i64 (y.s : Int)) ∧ W.cell? ⟨bh, k * 3 + 1, none⟩ = some (.int .i64 (y.g : Int)) ∧ W.cell? ⟨bh, k * 3 + 2, none⟩ = some (.slice Ah 128 dh))
                      (first | (with_reducible assumption) | (with_reducible exact HC.out _ b0w) | (with_reducible exact HC.out _ hbW))
                      (first
                        | (go_at_call 53; (with_reducible refine (HSM.out _ b0w).mono ?_); rintro e w9 ⟨rfl, hb9⟩; (try dsimp only); have hbW := b0w.trans (hb9.mono b0w.size); clear hb9)
                        | fail)
                    all_goals
                      have HBE := Lib.hid (HK.out.trans (hbW.mono HK.out.size))
                      go_wp2_with fail
                      go_roundg (16 - (k + 1))
                      case measure => omega
                      case rel => exact ⟨k + 1, by go_num, by omega, rfl, HBE⟩
                  · obtain rfl : k = 16 := by omega
                    go_wp2_with fail
                    go_ret
                    exact ⟨rfl, HW8.out.trans (HK.out.mono HW8.out.size)⟩
end Go.Proofs.Ytjbicpekpgaokaa
