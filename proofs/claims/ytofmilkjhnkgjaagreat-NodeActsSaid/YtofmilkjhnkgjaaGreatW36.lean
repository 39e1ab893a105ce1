import Derived.Test.YtofmilkjhnkgjaaGreatW35
import Derived.StillTailTactics
namespace Go.Proofs.YtofmilkjhnkgjaaGreat
open Go.RowKit Go.Sort
set_option maxRecDepth 100000
set_option maxHeartbeats 2000000

/-! OpenRing. -/
theorem zRing_at (p : Nat) : ∀ i, i < 16 → ((Tryz.zeroCells100.setIfInBounds 0 (.pointer (some ⟨p, 0, none⟩))).setIfInBounds 65 (.int .i64 1))[1 + i * 4]? = some (.int .i64 0) ∧ ((Tryz.zeroCells100.setIfInBounds 0 (.pointer (some ⟨p, 0, none⟩))).setIfInBounds 65 (.int .i64 1))[1 + i * 4 + 1]? = some (.int .i64 0) ∧ ((Tryz.zeroCells100.setIfInBounds 0 (.pointer (some ⟨p, 0, none⟩))).setIfInBounds 65 (.int .i64 1))[1 + i * 4 + 2]? = some (.int .i64 0) ∧ ((Tryz.zeroCells100.setIfInBounds 0 (.pointer (some ⟨p, 0, none⟩))).setIfInBounds 65 (.int .i64 1))[1 + i * 4 + 3]? = some (.slice none 0 0) := by
  intro i hi
  match i, hi with
  | 0, _ => exact ⟨by kernel_rfl, by kernel_rfl, by kernel_rfl, by kernel_rfl⟩
  | 1, _ => exact ⟨by kernel_rfl, by kernel_rfl, by kernel_rfl, by kernel_rfl⟩
  | 2, _ => exact ⟨by kernel_rfl, by kernel_rfl, by kernel_rfl, by kernel_rfl⟩
  | 3, _ => exact ⟨by kernel_rfl, by kernel_rfl, by kernel_rfl, by kernel_rfl⟩
  | 4, _ => exact ⟨by kernel_rfl, by kernel_rfl, by kernel_rfl, by kernel_rfl⟩
  | 5, _ => exact ⟨by kernel_rfl, by kernel_rfl, by kernel_rfl, by kernel_rfl⟩
  | 6, _ => exact ⟨by kernel_rfl, by kernel_rfl, by kernel_rfl, by kernel_rfl⟩
  | 7, _ => exact ⟨by kernel_rfl, by kernel_rfl, by kernel_rfl, by kernel_rfl⟩
  | 8, _ => exact ⟨by kernel_rfl, by kernel_rfl, by kernel_rfl, by kernel_rfl⟩
  | 9, _ => exact ⟨by kernel_rfl, by kernel_rfl, by kernel_rfl, by kernel_rfl⟩
  | 10, _ => exact ⟨by kernel_rfl, by kernel_rfl, by kernel_rfl, by kernel_rfl⟩
  | 11, _ => exact ⟨by kernel_rfl, by kernel_rfl, by kernel_rfl, by kernel_rfl⟩
  | 12, _ => exact ⟨by kernel_rfl, by kernel_rfl, by kernel_rfl, by kernel_rfl⟩
  | 13, _ => exact ⟨by kernel_rfl, by kernel_rfl, by kernel_rfl, by kernel_rfl⟩
  | 14, _ => exact ⟨by kernel_rfl, by kernel_rfl, by kernel_rfl, by kernel_rfl⟩
  | 15, _ => exact ⟨by kernel_rfl, by kernel_rfl, by kernel_rfl, by kernel_rfl⟩
  | k + 16, h => exact absurd h (by omega)
theorem RRg.new (w : World) (p : Nat) : RRg (w.alloc (.cells ((Tryz.zeroCells100.setIfInBounds 0 (.pointer (some ⟨p, 0, none⟩))).setIfInBounds 65 (.int .i64 1)) 100)) w.heap.size p 1 (fun _ => Sx.z) :=
  ⟨_, alloc_block w _, by kernel_rfl, by kernel_rfl, by kernel_rfl, fun i hi => zRing_at p i hi⟩
def ROSt (w : World) (b p : Nat) (S : List Nat) (d : Disk) (nw : Nat) (R : Nat → Option Nt) (k : Nat) (v : World) : Prop :=
  ∃ X, RRg v b p (lastOf R k + 1) X ∧ (∀ i, i < 16 → SxOk v (X i)) ∧ (∀ i, i < k → SaysR (X i) (R i)) ∧ (∀ i, k ≤ i → (X i).no = 0) ∧ RPlt v p S 96 d nw ∧ Below w.heap.size w v
def ROpenRet (w : World) (p : Nat) (S : List Nat) (d : Disk) (nw : Nat) (R : Nat → Option Nt) (e : Ending) (w' : World) : Prop :=
  ∃ b X, e = .returned (.pointer (some ⟨b, 0, none⟩)) ∧ RRg w' b p (lastOf R 16 + 1) X ∧ (∀ i, i < 16 → SxOk w' (X i)) ∧ (∀ i, i < 16 → SaysR (X i) (R i)) ∧ RPlt w' p S 96 d nw ∧ Below w.heap.size w w' ∧ w.heap.size ≤ b
theorem ropen {w : World} {p : Nat} {S : List Nat} {d : Disk} {nw : Nat} {R : Nat → Option Nt} (h : RPlt w p S 96 d nw) (hR : RingOn d R) (hbd : Bd d) (hnw : nw ≤ 1000000000) :
    Calls Tryz.prog 25 #[.pointer (some ⟨p, 0, none⟩)] w (ROpenRet w p S d nw R) := by
  have HP := Lib.hid h
  have HR := Lib.hid hR
  have HBD := Lib.hid hbd
  have HLT := Lib.hid (lastOf_lt hR)
  obtain ⟨w1, hw1⟩ : ∃ w1, w.alloc (.cells ((Tryz.zeroCells100.setIfInBounds 0 (.pointer (some ⟨p, 0, none⟩))).setIfInBounds 65 (.int .i64 1)) 100) = w1 := ⟨_, rfl⟩
  have HW1 := Lib.hid hw1
  obtain ⟨b, hb⟩ : ∃ b, w.heap.size = b := ⟨_, rfl⟩
  have HBE := Lib.hid hb
  have HV0 : Hid (ROSt w b p S d nw R 0 w1) := Lib.hid ⟨fun _ => Sx.z, by rw [← hw1, ← hb]; exact RRg.new w p, fun i _ => SxOk.z, fun i hi => absurd hi (by omega), fun i _ => rfl, by rw [← hw1]; exact h.below ((Below.refl _ _).alloc (Nat.le_refl _) _), by rw [← hw1]; exact (Below.refl _ _).alloc (Nat.le_refl _) _⟩
  clear h hR hbd hw1 hb
  go_enter Tryz.func25, Tryz.ntmps25
  go_upto_region 2 with fail
  rw [HW1.out, HBE.out]
  go_wp2_with fail
  go_loopg [4] 16 (fun q s4 v => ∃ k : Nat, s4 = .int .i64 (k : Int) ∧ k ≤ 16 ∧ q = 16 - k ∧ Hid (ROSt w b p S d nw R k v))
  case atStart => exact ⟨0, rfl, by omega, rfl, HV0⟩
  case round =>
    obtain ⟨k, rfl, hk, rfl, HV⟩ := hrel
    clear HV0
    by_cases hlt : k < 16
    · obtain ⟨X, hx, hok, hsay, hz, hp, hbl⟩ := HV.out
      have hl : (k : Int) < 16 := by omega
      have hwk : IntKind.i64.wrap ((k : Int) + 1) = ((k + 1 : Nat) : Int) := by rw [IntWalk.i64_in _ (by omega)]; omega
      obtain ⟨at_, hat⟩ : ∃ at_, 80 + k = at_ := ⟨_, rfl⟩
      have eat : (80 : Int) + (k : Int) = (at_ : Int) := by omega
      have HRD := Lib.hid (rread at_ hp (by omega) hnw)
      have HFB : Hid (∀ j, j < 160 → d.now at_ j < 256) := Lib.hid (HBD.out at_)
      have hcase := HR.out k hlt
      rw [hat] at hcase
      obtain ⟨F, hF⟩ : ∃ F, d.now at_ = F := ⟨_, rfl⟩
      rw [hF] at HRD HFB hcase
      obtain ⟨cc, w2, hc2, hcv, hr2, hb2⟩ := conv_bs wr F HFB.out
      have HRD2 := Lib.hid hr2
      have HX2 := Lib.hid (hx.below hb2)
      have HOK2 : Hid (∀ i, i < 16 → SxOk w2 (X i)) := Lib.hid (fun i hi => (hok i hi).below hb2)
      have HSAY := Lib.hid hsay
      have HZ := Lib.hid hz
      have HP2 := Lib.hid (hp.below hb2)
      have HBL2 : Hid (Below w.heap.size w w2) := Lib.hid (hbl.trans (hb2.mono hbl.size))
      generalize bstr F = sF at *
      obtain ⟨gF, hgF⟩ : ∃ gF, wr.heap.size = gF := ⟨_, rfl⟩
      rw [hgF] at hcv HRD2
      clear hat hF hr2 hb2 hgF hx hok hsay hz hp hbl HV
      rcases hcase with ⟨hRk, hF0⟩ | ⟨no, y, hRk, hy, hn1, hn2, hFy⟩
      · have HRI := Lib.hid (rreadI_no gF 0 cc F w2 HRD2.out hc2 HFB.out (hF0 0 (by omega)))
        have HRK := Lib.hid hRk
        unfold iv at HRI
        clear hRk hF0
        go_wp2_with fail
        refine HRD.out.mono ?_
        rintro e w' ⟨rfl, hw⟩
        obtain rfl := hw.symm
        go_wp2_with fail
        refine HRI.out.mono ?_
        rintro e w3 ⟨rfl, b3⟩
        try dsimp only
        have HB4 : Hid (∀ o, Below w2.heap.size w2 (w3.alloc o)) := Lib.hid (fun o => b3.alloc b3.size o)
        clear b3
        go_wp2_with fail
        go_roundg (16 - (k + 1))
        case measure => omega
        case rel =>
          refine ⟨k + 1, rfl, by omega, rfl, Lib.hid ⟨X, ?_, fun i hi => (HOK2.out i hi).below (HB4.out _), fun i hi => ?_, fun i hi => HZ.out i (by omega), HP2.out.below (HB4.out _), HBL2.out.trans ((HB4.out _).mono HBL2.out.size)⟩⟩
          · have e : lastOf R (k + 1) = lastOf R k := by
              show max (lastOf R k) (numOf (R k)) = _
              rw [HRK.out]
              exact Nat.max_eq_left (Nat.zero_le _)
            rw [e]
            exact HX2.out.below (HB4.out _)
          · by_cases ei : i = k
            · subst ei
              rw [HRK.out]
              exact ⟨HZ.out i (Nat.le_refl _), fun n y e => by cases e⟩
            · exact HSAY.out i (by omega)
      · have HRI := Lib.hid (rreadI_yes no y gF 0 cc F w2 HRD2.out hc2 hy hn2 hFy)
        have HRK := Lib.hid hRk
        have HY := Lib.hid hy
        have hn1' : (1 : Int) ≤ (no : Int) := by omega
        have hll := HLT.out k (by omega)
        unfold iv at HRI
        clear hRk hy hFy
        go_wp2_with fail
        refine HRD.out.mono ?_
        rintro e w' ⟨rfl, hw⟩
        obtain rfl := hw.symm
        go_wp2_with fail
        refine HRI.out.mono ?_
        rintro e w3 ⟨A3, c3, rfl, d3, b3⟩
        try dsimp only
        obtain ⟨w4, hw4⟩ : ∃ w4, w3.alloc (.cells #[.int .i64 (y.s : Int), .int .i64 (y.g : Int), .slice A3 128 c3] 78) = w4 := ⟨_, rfl⟩
        have HW4 := Lib.hid hw4
        have b4 : Below w3.heap.size w3 w4 := by rw [← hw4]; exact (Below.refl _ _).alloc (Nat.le_refl _) _
        obtain ⟨xb, hxb⟩ : ∃ xb, w3.heap.size = xb := ⟨_, rfl⟩
        have HXB := Lib.hid hxb
        have HI4 : Hid (IV w4 xb (y.s : Int) (y.g : Int) A3 128 c3) := Lib.hid (by rw [← hw4]; exact IV.of_new hxb)
        have HB4 : Hid (Below w2.heap.size w2 w4) := Lib.hid (b3.trans (b4.mono b3.size))
        have HD4 := Lib.hid (d3.below b4)
        have HX4 := Lib.hid (HX2.out.below HB4.out)
        have HOK4 : Hid (∀ i, i < 16 → SxOk w4 (X i)) := Lib.hid (fun i hi => (HOK2.out i hi).below HB4.out)
        have HP4 := Lib.hid (HP2.out.below HB4.out)
        have HBL4 : Hid (Below w.heap.size w w4) := Lib.hid (HBL2.out.trans (HB4.out.mono HBL2.out.size))
        have hbx : ¬ xb = b := by
          intro e
          obtain ⟨cs, hc⟩ := HX4.out.type
          have := HI4.out
          unfold IV at this
          rw [e, hc] at this
          cases this
        clear hw4 b3 b4 hxb d3 HX2 HOK2 HP2 HBL2 HRI HRD2
        go_upto_region 6 with fail
        rw [HW4.out, HXB.out]
        have i0 := HI4.out.c0
        have i1 := HI4.out.c1
        have i2 := HI4.out.c2
        obtain ⟨x0, x1, x2, x3⟩ := HX4.out.cell hlt
        have xf := HX4.out.f
        obtain ⟨w5, hw5⟩ : ∃ w5, ((((w4.setCell ⟨b, 1 + k * 4, none⟩ (.int .i64 (no : Int))).setCell ⟨b, 1 + k * 4 + 1, none⟩ (.int .i64 (y.s : Int))).setCell ⟨b, 1 + k * 4 + 2, none⟩ (.int .i64 (y.g : Int))).setCell ⟨b, 1 + k * 4 + 3, none⟩ (.slice A3 128 c3)).drew = w5 := ⟨_, rfl⟩
        have HW5 := Lib.hid hw5
        have HX5 : Hid (RRg w5 b p (lastOf R k + 1) (updS X k ⟨no, y.s, y.g, A3, 128, c3, y.D⟩)) := Lib.hid (by rw [← hw5]; exact HX4.out.put hlt ⟨no, y.s, y.g, A3, 128, c3, y.D⟩)
        have HT5 : Hid (Turn [b] w4 w5) := Lib.hid (by rw [← hw5]; exact ((Turn.refl [b] w4).put4 (by simp) _ _ _ _ _ _ _ _).trans (Turn.drew [b] _))
        clear hw5
        go_upto_region 7 with fail
        go_still_tail 8, (by kernel_rfl)
        change wpList _ _ _ _ _ w4.drew
        go_upto_region 8 with fail
        rw [HW5.out]
        have HU : Hid (∀ (g : Nat) (cs : Array Value), w4.heap[g]? = some (Obj.cells cs 5 (0, 0)) → w5.heap[g]? = w4.heap[g]?) := Lib.hid (fun g cs hg => HT5.out.block g (heap_lt hg) (by
          rw [List.mem_singleton]
          rintro rfl
          obtain ⟨cs', hc⟩ := HX4.out.type
          rw [hg] at hc
          cases hc))
        have HD5 := Lib.hid (HD4.out.keep HU.out)
        have HP5 : Hid (RPlt w5 p S 96 d nw) := Lib.hid (HP4.out.keep (fun j hj => HT5.out.block j (HP4.out.lt j hj) (by
          rw [List.mem_singleton]
          rintro rfl
          obtain ⟨cs', hc⟩ := HX4.out.type
          exact HP4.out.notMem hc (by decide) (by decide) (by decide) hj)))
        have HBB : Hid (w.heap.size ≤ b) := Lib.hid (Nat.le_of_eq HBE.out)
        have HBL5 : Hid (Below w.heap.size w w5) := Lib.hid (Below.of_turn HBL4.out HT5.out (fun j hj => by rw [List.mem_singleton] at hj; have := HBB.out; omega) HBL4.out.size)
        have n0 := HX5.out.cn
        have nf := HX5.out.f
        obtain ⟨ml, hml⟩ : ∃ ml, max (lastOf R k + 1) (no + 1) = ml := ⟨_, rfl⟩
        have hwm : IntKind.i64.wrap ((no : Int) + 1) = ((no + 1 : Nat) : Int) := by rw [IntWalk.i64_in _ (by omega)]; omega
        have hmx : max (((lastOf R k + 1 : Nat)) : Int) ((no + 1 : Nat) : Int) = (ml : Int) := by omega
        have hml2 : lastOf R (k + 1) + 1 = ml := by
          show max (lastOf R k) (numOf (R k)) + 1 = ml
          rw [HRK.out, ← hml]
          show max (lastOf R k) no + 1 = _
          omega
        have HML := Lib.hid hml
        have HML2 := Lib.hid hml2
        obtain ⟨lk, hlk⟩ : ∃ lk, lastOf R k + 1 = lk := ⟨_, rfl⟩
        obtain ⟨no1, hno1⟩ : ∃ no1, no + 1 = no1 := ⟨_, rfl⟩
        rw [hlk] at n0 hmx
        rw [hno1] at hwm hmx
        clear hml hml2 i0 i1 i2 x0 x1 x2 x3 xf
        have HREL : Hid (∀ v : Nat, lastOf R (k + 1) + 1 = v → ROSt w b p S d nw R (k + 1) (w5.setCell ⟨b, 65, none⟩ (.int .i64 (v : Int)))) := Lib.hid (fun v hv => by
          obtain ⟨cs', hc⟩ := HX5.out.type
          have hu : ∀ (g : Nat) (cs : Array Value), w5.heap[g]? = some (Obj.cells cs 5 (0, 0)) → (w5.setCell ⟨b, 65, none⟩ (.int .i64 (v : Int))).heap[g]? = w5.heap[g]? := fun g cs hg => set_other (by
            rintro rfl
            rw [hg] at hc
            cases hc) _ _
          refine ⟨_, by rw [hv]; exact HX5.out.next_ v, fun i hi => ?_, fun i hi => ?_, fun i hi => ?_, HP5.out.keep (fun j hj => set_other (by
            rintro rfl
            exact HP5.out.notMem hc (by decide) (by decide) (by decide) hj) _ _), HBL5.out.setCell (p := ⟨b, 65, none⟩) HBB.out _⟩
          · unfold updS
            by_cases ei : i = k
            · rw [if_pos ei]
              exact fun _ => ⟨rfl, HD5.out.keep hu, HY.out⟩
            · rw [if_neg ei]
              exact (HOK4.out i hi).keep (fun g cs hg => (hu g cs ((HU.out g cs hg).trans hg)).trans (HU.out g cs hg))
          · unfold updS
            by_cases ei : i = k
            · rw [if_pos ei, ei, HRK.out]
              exact ⟨rfl, fun n z e => by cases e; rfl⟩
            · rw [if_neg ei]
              exact HSAY.out i (by omega)
          · unfold updS
            rw [if_neg (by omega)]
            exact HZ.out i (by omega))
        clear hlk hno1
        rcases Nat.lt_or_ge lk no1 with hc | hc
        · have hci : (lk : Int) < (no1 : Int) := by omega
          have hv : Hid (lastOf R (k + 1) + 1 = no1) := Lib.hid (by rw [HML2.out]; omega)
          clear hmx
          go_wp2_with fail
          go_roundg (16 - (k + 1))
          case measure => omega
          case rel => exact ⟨k + 1, rfl, by omega, rfl, Lib.hid (HREL.out _ hv.out)⟩
        · have hci : ¬ (lk : Int) < (no1 : Int) := by omega
          have hv : Hid (lastOf R (k + 1) + 1 = lk) := Lib.hid (by rw [HML2.out]; omega)
          clear hmx
          go_wp2_with fail
          go_roundg (16 - (k + 1))
          case measure => omega
          case rel => exact ⟨k + 1, rfl, by omega, rfl, Lib.hid (HREL.out _ hv.out)⟩
    · obtain rfl : k = 16 := by omega
      obtain ⟨X, hx, hok, hsay, hz, hp, hbl⟩ := HV.out
      have HX := Lib.hid hx
      have HOK := Lib.hid hok
      have HSAY := Lib.hid hsay
      have HPP := Lib.hid hp
      have HBL := Lib.hid hbl
      clear hx hok hsay hz hp hbl HV
      go_wp2_with fail
      go_ret
      exact ⟨b, X, rfl, HX.out, HOK.out, HSAY.out, HPP.out, HBL.out, Nat.le_of_eq HBE.out⟩
end Go.Proofs.YtofmilkjhnkgjaaGreat
namespace Go.Proofs.YtofmilkjhnkgjaaGreat
open Go.RowKit Go.Sort
set_option maxRecDepth 100000
set_option maxHeartbeats 2000000

/-! Release. -/
def RRelRet2 (b p next : Nat) (X : Nat → Sx) (w : World) (e : Ending) (w' : World) : Prop := ∃ k : Int, e = .returned (.int .i64 k) ∧ RRg w' b p next X ∧ Turn [b] w w'
theorem rrelease {w : World} {b p next : Nat} {X : Nat → Sx} (s g : Int) (h : RRg w b p next X) :
    Calls Tryz.prog 48 #[.pointer (some ⟨b, 0, none⟩), .int .i64 s, .int .i64 g] w (RRelRet2 b p next (relX s g 16 X) w) := by
  have HV0 : Hid (RRg w b p next (relX s g 0 X) ∧ Turn [b] w w) := Lib.hid ⟨by
    have e : relX s g 0 X = X := by funext i; unfold relX; rw [if_neg (by omega)]
    rw [e]; exact h, Turn.refl _ _⟩
  clear h
  go_enter Tryz.func48, Tryz.ntmps48
  go_wp2_with fail
  go_loopg [7, 8] 16 (fun q s7 s8 v => ∃ i n : Nat, s8 = .int .i64 (i : Int) ∧ i ≤ 16 ∧ q = 16 - i ∧ s7 = .int .i64 (n : Int) ∧ n ≤ i ∧ Hid (RRg v b p next (relX s g i X) ∧ Turn [b] w v))
  case atStart => exact ⟨0, 0, rfl, by omega, rfl, rfl, by omega, HV0⟩
  case round =>
    obtain ⟨i, n, rfl, hi, rfl, rfl, hn, HB⟩ := hrel
    clear HV0
    by_cases hlt : i < 16
    · have hl : (i : Int) < 16 := by omega
      have hwi : IntKind.i64.wrap ((i : Int) + 1) = ((i + 1 : Nat) : Int) := by rw [IntWalk.i64_in _ (by omega)]; omega
      have hwn : IntKind.i64.wrap ((n : Int) + 1) = ((n + 1 : Nat) : Int) := by rw [IntWalk.i64_in _ (by omega)]; omega
      obtain ⟨a0, a1, a2, a3⟩ := HB.out.1.cell hlt
      rw [relX_at] at a0 a1 a2 a3
      have f0 := HB.out.1.f
      have HXH := Lib.hid (fun h => relX_succ_hit (s := s) (g := g) (k := i) (X := X) h)
      have HXM := Lib.hid (fun h => relX_succ_miss (s := s) (g := g) (k := i) (X := X) h)
      obtain ⟨x, hx⟩ : ∃ x, X i = x := ⟨_, rfl⟩
      rw [hx] at HXH HXM a0 a1 a2 a3
      clear hx
      by_cases h0 : x.no = 0
      · have e0 : ¬ (0 : Int) < (x.no : Int) := by omega
        have e0' : decide ((0 : Int) < (x.no : Int)) = false := decide_eq_false e0
        have e0n : decide (0 < x.no) = false := decide_eq_false (by omega)
        have hno : ¬ (x.no ≠ 0 ∧ (x.s : Int) = s ∧ (x.g : Int) = g) := fun h => h.1 h0
        have HXN := Lib.hid (HXM.out hno)
        clear h0 hno
        go_wp2_with fail
        go_roundg (16 - (i + 1))
        case measure => omega
        case rel => exact ⟨i + 1, n, rfl, by omega, rfl, rfl, by omega, Lib.hid (by rw [← HXN.out]; exact HB.out)⟩
      · have e0 : (0 : Int) < (x.no : Int) := by omega
        have e0' : decide ((0 : Int) < (x.no : Int)) = true := decide_eq_true e0
        have e0n : decide (0 < x.no) = true := decide_eq_true (by omega)
        by_cases h1 : (x.s : Int) = s
        · have e1 : ((x.s : Int) == s) = true := beq_iff_eq.2 h1
          by_cases h2 : (x.g : Int) = g
          · have e2 : ((x.g : Int) == g) = true := beq_iff_eq.2 h2
            have HXN := Lib.hid (HXH.out ⟨h0, h1, h2⟩)
            clear h0 h1 h2
            have HB3 : Hid (RRg ((((wr.setCell ⟨b, 1 + i * 4, none⟩ (.int .i64 0)).setCell ⟨b, 1 + i * 4 + 1, none⟩ (.int .i64 0)).setCell ⟨b, 1 + i * 4 + 2, none⟩ (.int .i64 0)).setCell ⟨b, 1 + i * 4 + 3, none⟩ (.slice none 0 0)) b p next (relX s g (i + 1) X) ∧ Turn [b] w ((((wr.setCell ⟨b, 1 + i * 4, none⟩ (.int .i64 0)).setCell ⟨b, 1 + i * 4 + 1, none⟩ (.int .i64 0)).setCell ⟨b, 1 + i * 4 + 2, none⟩ (.int .i64 0)).setCell ⟨b, 1 + i * 4 + 3, none⟩ (.slice none 0 0))) := Lib.hid (by
              rw [← HXN.out]
              exact ⟨HB.out.1.put hlt Sx.z, HB.out.2.put4 (by simp) _ _ _ _ _ _ _ _⟩)
            go_wp2_with fail
            go_roundg (16 - (i + 1))
            case measure => omega
            case rel => exact ⟨i + 1, n + 1, rfl, by omega, rfl, rfl, by omega, HB3⟩
          · have e2 : ((x.g : Int) == g) = false := beq_eq_false_iff_ne.2 h2
            have hno : ¬ (x.no ≠ 0 ∧ (x.s : Int) = s ∧ (x.g : Int) = g) := fun h => h2 h.2.2
            have HXN := Lib.hid (HXM.out hno)
            clear h0 h1 h2 hno
            go_wp2_with fail
            go_roundg (16 - (i + 1))
            case measure => omega
            case rel => exact ⟨i + 1, n, rfl, by omega, rfl, rfl, by omega, Lib.hid (by rw [← HXN.out]; exact HB.out)⟩
        · have e1 : ((x.s : Int) == s) = false := beq_eq_false_iff_ne.2 h1
          have hno : ¬ (x.no ≠ 0 ∧ (x.s : Int) = s ∧ (x.g : Int) = g) := fun h => h1 h.2.1
          have HXN := Lib.hid (HXM.out hno)
          clear h0 h1 hno
          go_wp2_with fail
          go_roundg (16 - (i + 1))
          case measure => omega
          case rel => exact ⟨i + 1, n, rfl, by omega, rfl, rfl, by omega, Lib.hid (by rw [← HXN.out]; exact HB.out)⟩
    · obtain rfl : i = 16 := by omega
      go_wp2_with fail
      go_ret
      exact ⟨_, rfl, HB.out.1, HB.out.2⟩
end Go.Proofs.YtofmilkjhnkgjaaGreat
