import Derived.Test.YtjgbfghkiahfaaaGreatDoorV15
namespace Go.Proofs.YtjgbfghkiahfaaaGreatDoor
open Go.RowKit Go.Sort
set_option maxRecDepth 100000
set_option maxHeartbeats 2000000

theorem infoSlot : (Tryz.prog.info? 79).map (fun i => (i.zero, i.size, i.bytes)) = some (some (.agg #[.int .i64 0, .int .i64 0, .int .i64 0, .slice none 0 0]), 4, 48) := by kernel_rfl
/-- 'make([]slot, 16)'. -/
theorem makeS : ∃ zs : Array Value, (∀ W : World, Sem.run Tryz.prog (Instr.makeSlice 76 (.int .i64 16) (.int .i64 16)) W = .ok (.slice (some ⟨W.heap.size, 0, none⟩) 16 16) (W.alloc (.cells zs 79))) ∧
    ∀ W : World, SR (W.alloc (.cells zs 79)) W.heap.size 16 (fun _ => Sx.z) := by
  obtain ⟨i0, hi0, hz0, hz1, hz2⟩ := info_parts infoSlot
  refine ⟨madeCells (Value.agg #[.int .i64 0, .int .i64 0, .int .i64 0, .slice none 0 0]).cells (16 * i0.size), fun W => ?_, fun W => ⟨_, alloc_block W _, ?_, fun i hi => ?_⟩⟩
  · have h := run_make W 76 79 i0 _ Tryz.underlying76 hi0 hz0 .i64 .i64 16 16 (by omega) (by omega) (by rw [hz2]; omega) (by omega)
    simpa using h
  · rw [size_madeCells, hz1]; omega
  · have key : ∀ k j, k = i * 4 + j → j < 4 → (madeCells (Value.agg #[.int .i64 0, .int .i64 0, .int .i64 0, .slice none 0 0]).cells (16 * i0.size))[k]? = some ((#[.int .i64 0, .int .i64 0, .int .i64 0, .slice none 0 0] : Array Value)[j]!) := by
      intro k j hk hj
      have e : k % 4 = j := by omega
      rw [hz1]
      have hk2 : k < 16 * 4 := by omega
      simp [madeCells, Value.cells, hk2, e]
    exact ⟨key _ 0 rfl (by omega), key _ 1 rfl (by omega), key _ 2 rfl (by omega), key _ 3 rfl (by omega)⟩
theorem cell_put4 {w : World} {b g k : Nat} {x : Value} (h : w.cell? ⟨g, k, none⟩ = some x) (hne : g ≠ b) (k1 k2 k3 k4 : Nat) (v1 v2 v3 v4 : Value) :
    ((((w.setCell ⟨b, k1, none⟩ v1).setCell ⟨b, k2, none⟩ v2).setCell ⟨b, k3, none⟩ v3).setCell ⟨b, k4, none⟩ v4).cell? ⟨g, k, none⟩ = some x :=
  (World.cell?_of_block (w := w) ((set_other hne _ _).trans ((set_other hne _ _).trans ((set_other hne _ _).trans (set_other hne _ _))))).trans h
/-- What the ring's blocks say. -/
def RingOn (d : Disk) (R : Nat → Option (Nat × It)) : Prop := ∀ k, k < 16 → (R k = none ∧ ∀ j, j < 160 → d.now (80 + k) j = 0) ∨ ∃ no x, R k = some (no, x) ∧ x.Ok ∧ 1 ≤ no ∧ no < 281474976710656 ∧ ∀ j, j < 160 → d.now (80 + k) j = itS no x j
def numOf : Option (Nat × It) → Nat
  | none => 0
  | some (n, _) => n
def lastOf (R : Nat → Option (Nat × It)) : Nat → Nat
  | 0 => 0
  | k + 1 => max (lastOf R k) (numOf (R k))
def SaysR (x : Sx) (o : Option (Nat × It)) : Prop := x.no = numOf o ∧ ∀ n y, o = some (n, y) → x.it = y
def IOpenRet (p : Nat) (S : List Nat) (d : Disk) (nw : Nat) (R : Nat → Option (Nat × It)) (w : World) (e : Ending) (w' : World) : Prop :=
  ∃ r sb X, e = .returned (.tuple #[.pointer (some ⟨r, 0, none⟩), .int .i64 0]) ∧ Rg w' r p sb (lastOf R 16) S d nw X ∧ (∀ k, k < 16 → SaysR (X k) (R k)) ∧ Below w.heap.size w w' ∧ w.heap.size ≤ r ∧ w.heap.size ≤ sb
theorem lastOf_lt {d : Disk} {R : Nat → Option (Nat × It)} (h : RingOn d R) : ∀ k, k ≤ 16 → lastOf R k < 281474976710656
  | 0, _ => by show 0 < _; omega
  | k + 1, hk => by
    have := lastOf_lt h k (by omega)
    have h2 : numOf (R k) < 281474976710656 := by
      rcases h k (by omega) with ⟨e, _⟩ | ⟨no, x, e, _, _, h3, _⟩
      · rw [e]; show 0 < _; omega
      · rw [e]; exact h3
    show max _ _ < _
    omega
/-- The loop's state. -/
def OSt (w : World) (r p sb : Nat) (S : List Nat) (d : Disk) (nw : Nat) (R : Nat → Option (Nat × It)) (k : Nat) (v : World) : Prop :=
  ∃ X, Rg v r p sb (lastOf R k) S d nw X ∧ (∀ i, i < k → SaysR (X i) (R i)) ∧ Below w.heap.size w v
theorem OSt.below {w : World} {r p sb : Nat} {S : List Nat} {d : Disk} {nw : Nat} {R : Nat → Option (Nat × It)} {k : Nat} {v v' : World} (h : OSt w r p sb S d nw R k v) (b : Below v.heap.size v v') : OSt w r p sb S d nw R k v' := by
  obtain ⟨X, h1, h2, h3⟩ := h
  exact ⟨X, h1.below b, h2, h3.trans (b.mono h3.size)⟩
theorem iopen {w : World} {p : Nat} {S : List Nat} {d : Disk} {nw : Nat} {R : Nat → Option (Nat × It)} (h : Plt w p S 96 d nw) (hR : RingOn d R) :
    Calls Tryz.prog 65 #[.pointer (some ⟨p, 0, none⟩)] w (IOpenRet p S d nw R w) := by
  obtain ⟨zs, hz, hsr⟩ := makeS
  have HBK := Lib.hid (dblocks h)
  have HRR := Lib.hid hR
  have HLL := Lib.hid (lastOf_lt hR)
  obtain ⟨H, hH⟩ : ∃ H, w.heap.size = H := ⟨_, rfl⟩
  have HHE := Lib.hid hH
  obtain ⟨w1, hw1⟩ : ∃ w1, (w.alloc (.cells zs 79)).alloc (.cells #[.pointer (some ⟨p, 0, none⟩), .slice (some ⟨H, 0, none⟩) 16 16, .int .i64 0] 96) = w1 := ⟨_, rfl⟩
  have HW1 := Lib.hid hw1
  have hb1 : Below w.heap.size w w1 := by rw [← hw1]; exact ((Below.refl _ _).alloc (Nat.le_refl _) _).alloc (by simp) _
  have hrb : RB w1 (H + 1) p H 0 := by
    rw [← hw1]
    have e : (w.alloc (.cells zs 79)).heap.size = H + 1 := by simp [hH]
    rw [← e]
    exact alloc_block _ _
  have hs1 : SR w1 H 16 (fun _ => Sx.z) := by
    rw [← hw1, ← hH]
    exact (hsr w).below ((Below.refl _ _).alloc (Nat.le_refl _) _)
  have HO1 : Hid (OSt w (H + 1) p H S d nw R 0 w1) := Lib.hid ⟨_, ⟨hrb, hs1, fun _ _ => SxOk.z, h.below hb1⟩, fun i hi => by omega, hb1⟩
  have c1 := hrb.c1
  clear h hR hw1 hb1 hrb hs1 hsr hH
  go_enter Tryz.func65, Tryz.ntmps65
  go_wp2_with fail
  refine HBK.out.mono ?_
  rintro e w' ⟨rfl, hw⟩
  obtain rfl := hw.symm
  go_upto_region 4 with fail
  rw [HHE.out, HW1.out]
  go_wp2_with fail
  clear c1 hz
  go_loopg [5, 6, 7, 24] 16 (fun q s5 s6 s7 s24 v => ∃ i : Nat, s24 = .int .i64 (i : Int) ∧ i ≤ 16 ∧ q = 16 - i ∧ Hid (OSt w (H + 1) p H S d nw R i v))
  case atStart => exact ⟨0, rfl, by omega, rfl, HO1⟩
  case round =>
    obtain ⟨i, rfl, hi, rfl, HO⟩ := hrel
    clear HO1
    by_cases hlt : i < 16
    · have hl : (i : Int) < 16 := by omega
      have hl0 : (0 : Int) ≤ (i : Int) := by omega
      obtain ⟨X, hrg, hsay, hbl⟩ := HO.out
      obtain ⟨K80, hK80⟩ : ∃ K80, 80 + i = K80 := ⟨_, rfl⟩
      have HK80 := Lib.hid hK80
      have e80 : (80 : Int) + (i : Int) = (K80 : Int) := by omega
      have HRG := Lib.hid hrg
      have HSY := Lib.hid hsay
      have HB := Lib.hid hbl
      have HRD := Lib.hid (dread K80 hrg.plt (by omega))
      clear hrg hsay hbl hK80 HO
      go_wp2_with fail
      refine HRD.out.mono ?_
      rintro e w2 ⟨gb, cb, rfl, kb, hb2, _, hcb⟩
      try dsimp only
      have HRG2 := Lib.hid (HRG.out.below hb2)
      have HKB := Lib.hid kb
      have HB2 : Hid (Below w.heap.size w w2) := Lib.hid (HB.out.trans (hb2.mono HB.out.size))
      have HREAD : Hid (∃ x : Sx, SaysR x (R i) ∧ ∀ W, Below w2.heap.size w2 W → Calls Tryz.prog 85 #[.slice (some ⟨gb, 0, none⟩) 160 cb] W fun e w' => ∃ A c, e = .returned (sv (x.no : Int) (x.s : Int) (x.g : Int) A (if x.no = 0 then 0 else 128) c) ∧ (x.no ≠ 0 → DatI w' A x.D ∧ x.it.Ok) ∧ Below W.heap.size W w') := Lib.hid (by
        rcases HRR.out i hlt with ⟨e, h0⟩ | ⟨no, y, e, hok, h1, h2, hF⟩
        · refine ⟨Sx.z, by rw [e]; exact ⟨rfl, fun n y h => by cases h⟩, fun W hW => (iread_no gb 0 cb (d.now K80) W (kb.below hW).rd hcb (fun j hj => by rw [← HK80.out, h0 j hj]; omega) (by rw [← HK80.out, h0 0 (by omega)])).mono ?_⟩
          rintro e w' ⟨rfl, hb⟩
          exact ⟨none, 0, rfl, fun h => absurd rfl h, hb⟩
        · refine ⟨⟨no, y.s, y.g, none, 0, 0, y.D⟩, by rw [e]; exact ⟨rfl, fun n y' h => by cases h; rfl⟩, fun W hW => (iread_yes no y gb 0 cb (d.now K80) W (kb.below hW).rd hcb hok h1 h2 (fun j hj => by rw [← HK80.out]; exact hF j hj)).mono ?_⟩
          rintro e w' ⟨A, c, rfl, hd, hb, _⟩
          refine ⟨A, c, ?_, fun _ => ⟨hd, hok⟩, hb⟩
          rw [if_neg (by show ¬ no = 0; omega)])
      obtain ⟨x0, hx0, hread⟩ := HREAD.out
      have HX0 := Lib.hid hx0
      have HRE := Lib.hid hread
      have hb0 : Below w2.heap.size w2 w2.drew := below_drewN 1 w2
      have HS : Hid (∀ W, Below w2.heap.size w2 W → W.cell? ⟨H + 1, 1, none⟩ = some (.slice (some ⟨H, 0, none⟩) 16 16)) := Lib.hid (fun W hW => (HRG2.out.rb.below hW).c1)
      obtain ⟨nn, hnn⟩ : ∃ nn, (if x0.no = 0 then 0 else 128) = nn := ⟨_, rfl⟩
      rw [hnn] at HRE
      have HNN := Lib.hid hnn
      unfold sv at HRE
      clear kb hb2 hcb HRD HRG HKB HB HREAD hread hx0 hnn
      go_upto_region 8 with fail
      go_cut [] from 34 to 41 (fun wx => ∃ x : Sx, Hid (SaysR x (R i) ∧ Rg wx (H + 1) p H (lastOf R i) S d nw (updS X i x) ∧ Below w.heap.size w wx))
      case first =>
        go_wp2_with fail
        go_region_held (fun W => W.cell? ⟨H + 1, 1, none⟩ = some (.slice (some ⟨H, 0, none⟩) 16 16))
          (first | (with_reducible assumption) | (with_reducible exact HS.out _ hb0) | (with_reducible exact HS.out _ hbW) | (with_reducible exact cell_put4 (HS.out _ hbW) (by omega) _ _ _ _ _ _ _ _))
          (first
            | (go_at_call 85; (with_reducible refine (HRE.out _ hb0).mono ?_); rintro e w3 ⟨A3, c3, rfl, hd3, hb3⟩; (try dsimp only); have hbW := hb0.trans (hb3.mono hb0.size); have HD3 := Lib.hid hd3; obtain ⟨y0, y1, y2, y3⟩ := (HRG2.out.sr.below hbW).cell hlt; have yf := (HRG2.out.sr.below hbW).f; clear hd3 hb3)
            | fail)
        all_goals
          obtain ⟨w4, hw4⟩ : ∃ w4, (((w3.setCell ⟨H, i * 4, none⟩ (.int .i64 (x0.no : Int))).setCell ⟨H, i * 4 + 1, none⟩ (.int .i64 (x0.s : Int))).setCell ⟨H, i * 4 + 2, none⟩ (.int .i64 (x0.g : Int))).setCell ⟨H, i * 4 + 3, none⟩ (.slice A3 nn c3) = w4 := ⟨_, rfl⟩
          have HRG3 := Lib.hid (HRG2.out.below hbW)
          have HT4 : Hid (Turn [H] w3 w4) := Lib.hid (by rw [← hw4]; exact (Turn.refl _ _).put4 (by simp) _ _ _ _ _ _ _ _)
          have HU4 : Hid (∀ (g : Nat) (cs : Array Value), w3.heap[g]? = some (Obj.cells cs 5 (0, 0)) → w4.heap[g]? = w3.heap[g]?) := Lib.hid (fun g cs hg => HT4.out.block g (heap_lt hg) (by
            rw [List.mem_singleton]
            rintro rfl
            obtain ⟨cs', hc'⟩ := HRG3.out.sr.type
            rw [hg] at hc'
            cases hc'))
          have HSR4 : Hid (SR w4 H 16 (updS X i ⟨x0.no, x0.s, x0.g, A3, nn, c3, x0.D⟩)) := Lib.hid (by rw [← hw4]; exact HRG3.out.sr.put hlt ⟨x0.no, x0.s, x0.g, A3, nn, c3, x0.D⟩)
          have HR4 : Hid (Rg w4 (H + 1) p H (lastOf R i) S d nw (updS X i ⟨x0.no, x0.s, x0.g, A3, nn, c3, x0.D⟩)) := Lib.hid ⟨HRG3.out.rb.keep (HT4.out.block _ HRG3.out.rb.lt (by simp)), HSR4.out, fun j hj => by
            unfold updS
            split
            · intro hno
              obtain ⟨a, b⟩ := HD3.out hno
              exact ⟨by rw [← HNN.out, if_neg hno], a.keep HU4.out, b⟩
            · exact (HRG3.out.ok j hj).keep HU4.out, HRG3.out.plt.same ⟨HU4.out, fun k hk => HT4.out.block k (HRG3.out.plt.lt k hk) (by
              rw [List.mem_singleton]
              rintro rfl
              exact HRG3.out.sS hk)⟩⟩
          have HB4 : Hid (Below w.heap.size w w4) := Lib.hid (by
            rw [← hw4]
            have h3 := HB2.out.trans (hbW.mono HB2.out.size)
            have hh : w.heap.size ≤ H := Nat.le_of_eq HHE.out
            exact (((h3.setCell (p := ⟨H, i * 4, none⟩) hh _).setCell (p := ⟨H, i * 4 + 1, none⟩) hh _).setCell (p := ⟨H, i * 4 + 2, none⟩) hh _).setCell (p := ⟨H, i * 4 + 3, none⟩) hh _)
          go_wp2_with fail
          rw [hw4]
          go_meet
          exact ⟨⟨x0.no, x0.s, x0.g, A3, nn, c3, x0.D⟩, Lib.hid ⟨HX0.out, HR4.out, HB4.out⟩⟩
      case rest =>
        obtain ⟨x, HC⟩ := hcut
        have HRG4 := Lib.hid HC.out.2.1
        have HB4 := Lib.hid HC.out.2.2
        have HSX := Lib.hid HC.out.1
        have HLE : Hid (lastOf R (i + 1) = max (lastOf R i) x.no) := Lib.hid (by rw [HC.out.1.1]; rfl)
        have hb1 := HLL.out i (by omega)
        have hb2 := HLL.out (i + 1) (by omega)
        clear HC HRG2 HB2 HX0 HRE HS HNN
        obtain ⟨L, hL⟩ : ∃ L, lastOf R i = L := ⟨_, rfl⟩
        rw [hL] at HRG4 HLE hb1
        have c1 := HRG4.out.rb.c1
        have c2 := HRG4.out.rb.c2
        have cf := HRG4.out.rb.f
        obtain ⟨y0, _, _, _⟩ := HRG4.out.sr.cell hlt
        rw [show updS X i x i = x by unfold updS; rw [if_pos rfl]] at y0
        obtain ⟨L2, hL2⟩ : ∃ L2, max L x.no = L2 := ⟨_, rfl⟩
        rw [hL2] at HLE
        have HL2 := Lib.hid hL2
        have HEND : Hid (∀ W, Below wc.heap.size wc W → OSt w (H + 1) p H S d nw R (i + 1) (W.setCell ⟨H + 1, 2, none⟩ (.int .i64 (L2 : Int)))) := Lib.hid (fun W hW => by
          have g := HRG4.out.below hW
          have ht : Turn [H + 1] W (W.setCell ⟨H + 1, 2, none⟩ (.int .i64 (L2 : Int))) := Turn.set _ _ _ _ (by simp)
          have hu : ∀ (g' : Nat) (cs : Array Value), W.heap[g']? = some (Obj.cells cs 5 (0, 0)) → (W.setCell ⟨H + 1, 2, none⟩ (.int .i64 (L2 : Int))).heap[g']? = W.heap[g']? := fun g' cs hg => ht.block g' (heap_lt hg) (by
            rw [List.mem_singleton]
            rintro rfl
            have := g.rb
            unfold RB at this
            rw [hg] at this
            cases this)
          refine ⟨updS X i x, ⟨by rw [HLE.out]; exact g.rb.put L2, g.sr.keep (set_other (by omega) 2 _), fun j hj => (g.ok j hj).keep hu, g.plt.same ⟨hu, fun k hk => ht.block k (g.plt.lt k hk) (by
            rw [List.mem_singleton]
            rintro rfl
            exact g.rS hk)⟩⟩, fun j hj => ?_, (HB4.out.trans (hW.mono HB4.out.size)).setCell (p := ⟨H + 1, 2, none⟩) (by have := HHE.out; show w.heap.size ≤ H + 1; omega) _⟩
          by_cases e : j = i
          · subst e
            rw [show updS X j x j = x by unfold updS; rw [if_pos rfl]]
            exact HSX.out
          · rw [show updS X i x j = X j by unfold updS; rw [if_neg e]]
            exact HSY.out j (by omega))
        clear hL hL2 HLE
        by_cases hmx : L < x.no
        · obtain rfl : x.no = L2 := by have := HL2.out; omega
          have hmi : (L : Int) < (x.no : Int) := by omega
          have hmi2 : ¬ (x.no : Int) < (L : Int) := by omega
          clear hmx
          go_upto_region 9 with fail
          go_wp2_with fail
          go_region
          all_goals
            have HE2 := Lib.hid ((HEND.out wc (Below.refl _ _)).below (below_drewN 1 _))
            clear c1 c2 cf y0
            go_wp2_with fail
            go_roundg (16 - (i + 1))
            case measure => omega
            case rel => exact ⟨i + 1, by go_num, by omega, rfl, HE2⟩
        · obtain rfl : L = L2 := by have := HL2.out; omega
          have hmi : ¬ (L : Int) < (x.no : Int) := by omega
          have hmi2 : (x.no : Int) ≤ (L : Int) := by omega
          clear hmx
          go_upto_region 9 with fail
          go_wp2_with fail
          go_region
          all_goals
            have HE2 := Lib.hid ((HEND.out wc (Below.refl _ _)).below (below_drewN 1 _))
            clear c1 c2 cf y0
            go_wp2_with fail
            go_roundg (16 - (i + 1))
            case measure => omega
            case rel => exact ⟨i + 1, by go_num, by omega, rfl, HE2⟩
    · obtain rfl : i = 16 := by omega
      obtain ⟨X, hrg, hsay, hbl⟩ := HO.out
      have HR := Lib.hid hrg
      have HSY := Lib.hid hsay
      have HB := Lib.hid hbl
      clear hrg hsay hbl
      go_wp2_with fail
      go_ret2
      exact ⟨H + 1, H, X, rfl, HR.out, HSY.out, HB.out, by rw [HHE.out]; omega, by rw [HHE.out]; omega⟩
end Go.Proofs.YtjgbfghkiahfaaaGreatDoor
