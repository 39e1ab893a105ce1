import Derived.Test.YtofmilkjhnkgjaaGreatW36
namespace Go.Proofs.YtofmilkjhnkgjaaGreat
open Go.RowKit Go.Sort
set_option maxRecDepth 100000
set_option maxHeartbeats 4000000

/-! Log. -/
structure RgR (w : World) (b p last : Nat) (S : List Nat) (d : Disk) (nw : Nat) (X : Nat → Sx) : Prop where
  rg : RRg w b p (last + 1) X
  ok : ∀ k, k < 16 → SxOk w (X k)
  plt : RPlt w p S 96 d nw
section
variable {w w' : World} {b p last nw : Nat} {S : List Nat} {d : Disk} {X : Nat → Sx}
theorem RgR.below (h : RgR w b p last S d nw X) (e : Below w.heap.size w w') : RgR w' b p last S d nw X := ⟨h.rg.below e, fun k hk => (h.ok k hk).below e, h.plt.below e⟩
theorem RgR.bS (h : RgR w b p last S d nw X) : b ∉ S := by
  obtain ⟨cs, hc⟩ := h.rg.type
  exact h.plt.notMem hc (by decide) (by decide) (by decide)
theorem RgR.far (h : RgR w b p last S d nw X) {k : Nat} {cs : Array Value} {t : TypeId} {fr : Nat × Nat} (hk : w.heap[k]? = some (.cells cs t fr)) (h1 : t ≠ 56) (h2 : t ≠ 9) (h3 : t ≠ 91) (h4 : t ≠ 100) : k ∉ b :: S := by
  intro hm
  rw [List.mem_cons] at hm
  rcases hm with rfl | hm
  · obtain ⟨cs', hc⟩ := h.rg.type
    rw [hk] at hc
    cases hc
    exact h4 rfl
  · exact h.plt.notMem hk h1 h2 h3 hm
end
theorem RgR.keep {w w' : World} {b p last nw : Nat} {S : List Nat} {d : Disk} {X : Nat → Sx} (h : RgR w b p last S d nw X) (hk : ∀ k ∈ b :: S, w'.heap[k]? = w.heap[k]?) (hb : ∀ (g : Nat) (cs : Array Value), w.heap[g]? = some (Obj.cells cs 5 (0, 0)) → w'.heap[g]? = w.heap[g]?) : RgR w' b p last S d nw X :=
  ⟨h.rg.keep (hk b (by simp)), fun k hk' => (h.ok k hk').keep hb, h.plt.keep (fun k hk' => hk k (by simp [hk']))⟩
theorem RgR.set {w : World} {b p last nw q k : Nat} {S : List Nat} {d : Disk} {X : Nat → Sx} {cs : Array Value} {t : TypeId} {fr : Nat × Nat} {v : Value} (h : RgR w b p last S d nw X) (hq : w.heap[q]? = some (.cells cs t fr)) (h1 : t ≠ 56) (h2 : t ≠ 9) (h3 : t ≠ 91) (h4 : t ≠ 100) (h5 : t ≠ 5) : RgR (w.setCell ⟨q, k, none⟩ v) b p last S d nw X :=
  h.keep (fun j hj => set_other (by rintro rfl; exact h.far hq h1 h2 h3 h4 hj) _ _) (fun g cs' hg => set_other (by
    rintro rfl
    rw [hq] at hg
    cases hg
    exact h5 rfl) _ _)
theorem turn_newR {S : List Nat} {w w' : World} {b k : Nat} {v : Value} (t : Turn S w w') (hb : w.heap.size ≤ b) : Turn S w (w'.setCell ⟨b, k, none⟩ v) :=
  ⟨t.os, t.tape, t.output, by simpa using t.size, fun j hj hn => (set_other (by omega) _ _).trans (t.block j hj hn)⟩
theorem clone_end {wr we w5 : World} {E : Nat} {v' : Value} {D : Nat → Nat} (hE : wr.heap.size = E) (hbe : Below wr.heap.size wr we) (own : w5.ownsRow E 5 1 v' (0 + 128) (rowL (0 + 128) (fun j => if j < 0 then (fun _ => 0) j else D (j - 0)))) (gr : we.grownBy w5 (Value.slice (some ⟨E, 0, none⟩) 0 0).ownBlock) (hne : v' ≠ .slice none 0 0) :
    ∃ gb cp, v' = .slice (some ⟨gb, 0, none⟩) 128 cp ∧ Below wr.heap.size wr w5 ∧ Blk8 w5 gb 128 D ∧ E ≤ gb := by
  subst hE
  rw [Nat.zero_add] at own
  obtain ⟨gb, cp, rfl, hg, hgl, hcp⟩ := own_some own hne
  exact ⟨gb, cp, rfl, Below.grown hbe gr hbe.size (fun k hk => by cases hk; exact Nat.le_refl _), (own_blk own).congr (fun j _ => by simp), hg⟩
theorem rlog_arg {w : World} {b : Nat} (s g : Int) (A : Option Addr) (n c : Nat) (hno : ¬ OkJ s g n) :
    Calls Tryz.prog 45 #[.pointer (some ⟨b, 0, none⟩), iv s g A n c] w fun e w' => e = .returned (.int .i64 1) ∧ Below w.heap.size w w' := by
  obtain ⟨w1, hw1⟩ : ∃ w1, w.alloc (.cells #[.int .i64 s, .int .i64 g, .slice A n c] 78) = w1 := ⟨_, rfl⟩
  have HW1 := Lib.hid hw1
  obtain ⟨H, hH⟩ : ∃ H, w.heap.size = H := ⟨_, rfl⟩
  have HH := Lib.hid hH
  have HB1 : Hid (Below H w w1) := Lib.hid (by rw [← hw1, ← hH]; exact (Below.refl _ _).alloc (Nat.le_refl _) _)
  have HI1 : Hid (IV w1 H s g A n c) := Lib.hid (by rw [← hw1]; exact IV.of_new hH)
  have HR := Lib.hid (rrightI s g A n c w1 false ⟨fun e => (by cases e), fun e => absurd e hno⟩)
  have i0 := HI1.out.c0
  have i1 := HI1.out.c1
  have i2 := HI1.out.c2
  clear hw1 hH hno
  unfold iv at HR ⊢
  go_enter Tryz.func45, Tryz.ntmps45
  go_upto_region 1 with fail
  rw [HW1.out, HH.out]
  go_wp2_with fail
  refine HR.out.mono ?_
  rintro e w2 ⟨rfl, hb2⟩
  try dsimp only
  have HB2 : Hid (Below H w w2) := Lib.hid (HB1.out.trans (hb2.mono (Nat.le_of_lt HI1.out.lt)))
  clear hb2
  go_wp2_with fail
  go_ret
  exact ⟨rfl, by rw [HH.out]; exact HB2.out⟩
/-- Where the loop stands. -/
def Scan (X : Nat → Sx) (y : It) (n : Nat) (at_ : Int) : Prop :=
  (∀ j, n ≤ j → j < 16 → ¬ ((X j).no ≠ 0 ∧ (X j).it.Alike y)) ∧ ((at_ = -1 ∧ ∀ j, n ≤ j → j < 16 → (X j).no ≠ 0) ∨ ∃ a : Nat, at_ = (a : Int) ∧ n ≤ a ∧ a < 16 ∧ (X a).no = 0 ∧ ∀ j, n ≤ j → j < a → (X j).no ≠ 0)
theorem Scan.free {X : Nat → Sx} {y : It} {k : Nat} {at_ : Int} (h : Scan X y (k + 1) at_) (hk : k < 16) (h0 : (X k).no = 0) : Scan X y k (k : Int) := ⟨fun j hj hj2 e => by
  by_cases ej : j = k
  · subst ej; exact e.1 h0
  · exact h.1 j (by omega) hj2 e, Or.inr ⟨k, rfl, Nat.le_refl _, hk, h0, fun j hj hj2 => by omega⟩⟩
theorem Scan.live {X : Nat → Sx} {y : It} {k : Nat} {at_ : Int} (h : Scan X y (k + 1) at_) (h0 : (X k).no ≠ 0) (ha : ¬ (X k).it.Alike y) : Scan X y k at_ := ⟨fun j hj hj2 e => by
  by_cases ej : j = k
  · subst ej; exact ha e.2
  · exact h.1 j (by omega) hj2 e, by
  rcases h.2 with ⟨e, hh⟩ | ⟨a, e, h1, h2, h3, h4⟩
  · exact Or.inl ⟨e, fun j hj hj2 => by
      by_cases ej : j = k
      · subst ej; exact h0
      · exact hh j (by omega) hj2⟩
  · exact Or.inr ⟨a, e, by omega, h2, h3, fun j hj hj2 => by
      by_cases ej : j = k
      · subst ej; exact h0
      · exact h4 j (by omega) hj2⟩⟩
theorem Scan.lo {X : Nat → Sx} {y : It} {n : Nat} {at_ : Int} (h : Scan X y n at_) : -1 ≤ at_ ∧ at_ ≤ 16 := by
  rcases h.2 with ⟨e, _⟩ | ⟨a, e, _, h2, _⟩ <;> omega
theorem rlog {w : World} {b p last nw : Nat} {S : List Nat} {d : Disk} {X : Nat → Sx} (h : RgR w b p last S d nw X) (y : It) (A : Option Addr) (c : Nat) (hy : y.Ok) (hd : DatI w A y.D) (hw : nw ≤ 1000000000) (hl : last ≤ 1000000000) (Q : Ending → World → Prop)
    (hsame : (∃ k, k < 16 ∧ (X k).no ≠ 0 ∧ (X k).it.Alike y) → ∀ w', Below w.heap.size w w' → Q (.returned (.int .i64 0)) w')
    (hfull : (∀ k, k < 16 → ¬ ((X k).no ≠ 0 ∧ (X k).it.Alike y)) → (∀ k, k < 16 → (X k).no ≠ 0) → ∀ w', Below w.heap.size w w' → Q (.returned (.int .i64 6)) w')
    (hput : (∀ k, k < 16 → ¬ ((X k).no ≠ 0 ∧ (X k).it.Alike y)) → ∀ k, k < 16 → (X k).no = 0 → (∀ j, j < k → (X j).no ≠ 0) → ∀ w' S' A' c', RgR w' b p (last + 1) S' (d.write (80 + k) (itS (last + 1) y)) (nw + 1) (updS X k ⟨last + 1, y.s, y.g, A', 128, c', y.D⟩) → Turn (b :: S) w w' → (∀ j ∈ S', j ∈ S ∨ w.heap.size ≤ j) → Q (.returned (.int .i64 0)) w') :
    Calls Tryz.prog 45 #[.pointer (some ⟨b, 0, none⟩), iv (y.s : Int) (y.g : Int) A 128 c] w Q := by
  have HSAME := Lib.hid hsame
  have HFULL := Lib.hid hfull
  have HPUT := Lib.hid hput
  have HY := Lib.hid hy
  obtain ⟨w1, hw1⟩ : ∃ w1, w.alloc (.cells #[.int .i64 (y.s : Int), .int .i64 (y.g : Int), .slice A 128 c] 78) = w1 := ⟨_, rfl⟩
  have HW1 := Lib.hid hw1
  obtain ⟨H, hH⟩ : ∃ H, w.heap.size = H := ⟨_, rfl⟩
  have HH := Lib.hid hH
  have HB1 : Hid (Below H w w1) := Lib.hid (by rw [← hw1, ← hH]; exact (Below.refl _ _).alloc (Nat.le_refl _) _)
  have HI1 : Hid (IV w1 H (y.s : Int) (y.g : Int) A 128 c) := Lib.hid (by rw [← hw1]; exact IV.of_new hH)
  have HR1 := Lib.hid (h.below (by rw [hH]; exact HB1.out))
  have HD1 := Lib.hid (hd.below (by rw [hH]; exact HB1.out))
  have HR := Lib.hid (rrightI (y.s : Int) (y.g : Int) A 128 c w1 true ⟨fun _ => ⟨by omega, by have := hy.1; omega, by have := hy.2.1; omega, by have := hy.2.2.1; omega, rfl⟩, fun _ => rfl⟩)
  have i0 := HI1.out.c0
  have i1 := HI1.out.c1
  have i2 := HI1.out.c2
  clear hw1 hH h hd hy hsame hfull hput
  unfold iv at HR ⊢
  go_enter Tryz.func45, Tryz.ntmps45
  go_upto_region 1 with fail
  rw [HW1.out, HH.out]
  go_wp2_with fail
  refine HR.out.mono ?_
  rintro e w2 ⟨rfl, hb2⟩
  try dsimp only
  have HB2 : Hid (Below H w w2) := Lib.hid (HB1.out.trans (hb2.mono (Nat.le_of_lt HI1.out.lt)))
  have HI2 := Lib.hid (HI1.out.below hb2)
  have HR2 := Lib.hid (HR1.out.below hb2)
  have HD2 := Lib.hid (HD1.out.below hb2)
  clear hb2 i0 i1 i2 HR HR1 HD1 HI1 HB1
  go_wp2_with fail
  go_loopg [5, 6] 17 (fun q s5 s6 v => ∃ (n : Nat) (at_ kd : Int), s5 = .int .i64 at_ ∧ s6 = .int .i64 kd ∧ Hid (kd = (n : Int) - 1) ∧ n ≤ 16 ∧ q = n + 1 ∧ Hid (Scan X y n at_) ∧ Hid (Below w2.heap.size w2 v))
  case atStart => exact ⟨16, -1, 15, rfl, rfl, Lib.hid rfl, Nat.le_refl _, rfl, Lib.hid ⟨fun j hj hj2 => by omega, Or.inl ⟨rfl, fun j hj hj2 => by omega⟩⟩, Lib.hid (Below.refl _ _)⟩
  case round =>
    obtain ⟨n, at_, kd, rfl, rfl, HKD, hn, rfl, HSC, HBV⟩ := hrel
    have HIr := Lib.hid (HI2.out.below HBV.out)
    have HRr := Lib.hid (HR2.out.below HBV.out)
    have HDr := Lib.hid (HD2.out.below HBV.out)
    have HBr : Hid (Below H w wr) := Lib.hid (HB2.out.trans (HBV.out.mono (by rw [← HH.out]; exact HB2.out.size)))
    rcases n with _ | k
    · have hkd : kd = -1 := HKD.out
      subst hkd
      have hbH : Hid (w.heap.size ≤ wr.heap.size) := Lib.hid HBr.out.size
      rcases HSC.out.2 with ⟨hat, hfl⟩ | ⟨a, hat, _, ha16, ha0, haf⟩
      · subst hat
        have HQ := Lib.hid (HFULL.out (fun j hj => HSC.out.1 j (Nat.zero_le _) hj) (fun j hj => hfl j (Nat.zero_le _) hj))
        clear hfl
        go_wp2_with fail
        exact HQ.out _ (by rw [HH.out]; exact HBr.out)
      · subst hat
        have HNA : Hid (∀ k, k < 16 → ¬ ((X k).no ≠ 0 ∧ (X k).it.Alike y)) := Lib.hid (fun j hj => HSC.out.1 j (Nat.zero_le _) hj)
        have HA0 := Lib.hid ha0
        have HAF : Hid (∀ j, j < a → (X j).no ≠ 0) := Lib.hid (fun j hj => haf j (Nat.zero_le _) hj)
        have ha1 : ¬ (a : Int) < 0 := by omega
        have ha2 : (a : Int) < 16 := by omega
        have ha3 : (0 : Int) ≤ (a : Int) := by omega
        obtain ⟨l1, hl1⟩ : ∃ l1, last + 1 = l1 := ⟨_, rfl⟩
        have HL1 := Lib.hid hl1
        have hwl : IntKind.i64.wrap ((l1 : Int) + 1) = ((l1 + 1 : Nat) : Int) := by rw [IntWalk.i64_in _ (by omega)]; omega
        have cn := HRr.out.rg.cn
        rw [hl1] at cn
        have hbig : ¬ (281474976710655 : Int) < (l1 : Int) := by omega
        have hbig2 : decide ((281474976710655 : Int) < (l1 : Int)) = false := decide_eq_false hbig
        have hbig3 : decide (281474976710655 < l1) = false := decide_eq_false (by omega)
        have i0 := HIr.out.c0
        have i1 := HIr.out.c1
        have i2 := HIr.out.c2
        have ifz := HIr.out.f
        obtain ⟨we, hwe⟩ : ∃ we, wr.alloc (.cells #[] 5) = we := ⟨_, rfl⟩
        have HWE := Lib.hid hwe
        obtain ⟨E, hE⟩ : ∃ E, wr.heap.size = E := ⟨_, rfl⟩
        have HEE := Lib.hid hE
        have HBE : Hid (Below wr.heap.size wr we) := Lib.hid (by rw [← hwe]; exact (Below.refl _ _).alloc (Nat.le_refl _) _)
        have HOE : Hid (we.ownsRow E 5 1 (.slice (some ⟨E, 0, none⟩) 0 0) 0 (rowL 0 (fun _ => 0))) := Lib.hid (by rw [← hwe, ← hE]; exact own_empty (t := 5) (base := wr.heap.size) (alloc_block wr (.cells #[] 5)) (Nat.le_refl _))
        have HZE : Hid (E ≤ we.heap.size) := Lib.hid (by rw [← hE]; exact HBE.out.size)
        have HDe := Lib.hid (HDr.out.below HBE.out)
        have HIe := Lib.hid (HIr.out.below HBE.out)
        have HRe := Lib.hid (HRr.out.below HBE.out)
        clear hl1 hwe hE ha0 haf
        go_upto_region 13 with fail
        clear cn
        have j2 := HIe.out.c2
        have jf := HIe.out.f
        have HHE : Hid (H < E) := Lib.hid (by rw [← HEE.out]; exact HIr.out.lt)
        clear i0 i1 i2
        have i2 := HIr.out.c2
        have hHE : ¬ H = E := by have := HHE.out; omega
        have hHlt : H < wr.heap.size := HIr.out.lt
        go_wp2_with (at_builtin; rw [HWE.out, HEE.out]; refine append_rd _ rfl (.tmp 41) (.tmp 43) 35 rfl Tryz.underlying35 E (.slice (some ⟨E, 0, none⟩) 0 0) 0 (fun _ => 0) rfl HOE.out A 128 c y.D rfl HDe.out.rd (by omega) HZE.out ?_; intro v' w5 own gr _ hne; obtain ⟨gb, cp, rfl, hb5, hk5, hge⟩ := clone_end HEE.out HBE.out own gr (hne (by simp)); have HB5 := Lib.hid hb5; have HI5 := Lib.hid (HIr.out.below hb5); have HR5 := Lib.hid (HRr.out.below hb5); have HO5 := Lib.hid hk5; have HGE := Lib.hid hge; have k2 := HI5.out.c2; have kf := HI5.out.f; clear own gr hne hb5 hk5 hge)
        obtain ⟨y6, hy6⟩ : ∃ y6, w5.setCell ⟨H, 2, none⟩ (.slice (some ⟨gb, 0, none⟩) 128 cp) = y6 := ⟨_, rfl⟩
        have HY6 := Lib.hid hy6
        have HI6 : Hid (IV y6 H (y.s : Int) (y.g : Int) (some ⟨gb, 0, none⟩) 128 cp) := Lib.hid (by rw [← hy6]; exact HI5.out.put_d)
        have HK6 : Hid (Blk8 y6 gb 128 y.D) := Lib.hid (by rw [← hy6]; exact HO5.out.farI HI5.out (by decide))
        have HR6 : Hid (RgR y6 b p last S d nw X) := Lib.hid (by rw [← hy6]; exact HR5.out.set HI5.out (by decide) (by decide) (by decide) (by decide) (by decide))
        have HT6 : Hid (Turn (b :: S) w y6) := Lib.hid (by rw [← hy6]; exact turn_newR ((Turn.of (by rw [HH.out]; exact HBr.out)).trans (Turn.of HB5.out)) (Nat.le_of_eq HH.out))
        have HZ6 : Hid (w.heap.size ≤ y6.heap.size) := Lib.hid HT6.out.size
        rw [hy6]
        clear hy6 k2 kf HI5 HR5 HO5 HB5 i2 ifz j2 jf HIe HRe HDe HOE HBE HWE hbig hbig2 hbig3
        obtain ⟨K80, hK80⟩ : ∃ K80, 80 + a = K80 := ⟨_, rfl⟩
        have HK80 := Lib.hid hK80
        have e80 : (80 : Int) + (a : Int) = (K80 : Int) := by omega
        have hw80 : IntKind.i64.wrap (K80 : Int) = (K80 : Int) := IntWalk.i64_in _ (by omega)
        have BD : Hid (Below y6.heap.size y6 y6.drew) := Lib.hid (below_drewN 1 y6)
        have HLY : Hid (∀ W, Below y6.heap.size y6 W → Calls Tryz.prog 81 #[.int .i64 (l1 : Int), .agg #[.int .i64 (y.s : Int), .int .i64 (y.g : Int), .slice (some ⟨gb, 0, none⟩) 128 cp]] W (RILay l1 y W)) := Lib.hid (fun W hW => rlayI l1 y (some ⟨gb, 0, none⟩) cp W HY.out (HK6.out.below hW).rd)
        have hK96 : K80 < 96 := by omega
        have HWR : Hid (∀ W g cap, Below y6.heap.size y6 W → Blk8 W g 160 (itS l1 y) → Calls Tryz.prog 43 #[.pointer (some ⟨p, 0, none⟩), .int .i64 (K80 : Int), .slice (some ⟨g, 0, none⟩) 160 cap] W (RWriteRet p S 96 d K80 (itS l1 y) nw W)) := Lib.hid (fun W g cap hW hb => rwrite K80 (some ⟨g, 0, none⟩) cap (itS l1 y) (HR6.out.below hW).plt hK96 hb.rd hw)
        have HKS : Hid (∀ W, Below y6.heap.size y6 W → W.cell? ⟨b, 0, none⟩ = some (.pointer (some ⟨p, 0, none⟩)) ∧ W.cell? ⟨b, 65, none⟩ = some (.int .i64 (l1 : Int)) ∧ W.cell? ⟨H, 0, none⟩ = some (.int .i64 (y.s : Int)) ∧ W.cell? ⟨H, 1, none⟩ = some (.int .i64 (y.g : Int)) ∧ W.cell? ⟨H, 2, none⟩ = some (.slice (some ⟨gb, 0, none⟩) 128 cp)) := Lib.hid (fun W hW => ⟨(HR6.out.below hW).rg.c0, (by have := (HR6.out.below hW).rg.cn; rw [HL1.out] at this; exact this), (HI6.out.below hW).c0, (HI6.out.below hW).c1, (HI6.out.below hW).c2⟩)
        clear hK80
        go_upto_region 14 with fail
        go_region_held (fun W => W.cell? ⟨b, 0, none⟩ = some (.pointer (some ⟨p, 0, none⟩)) ∧ W.cell? ⟨b, 65, none⟩ = some (.int .i64 (l1 : Int)) ∧ W.cell? ⟨H, 0, none⟩ = some (.int .i64 (y.s : Int)) ∧ W.cell? ⟨H, 1, none⟩ = some (.int .i64 (y.g : Int)) ∧ W.cell? ⟨H, 2, none⟩ = some (.slice (some ⟨gb, 0, none⟩) 128 cp))
          (first | (with_reducible assumption) | (with_reducible exact HKS.out _ BD.out) | (with_reducible exact HKS.out _ hbW) | (with_reducible exact HK8.out))
          (first
            | (go_at_call 81; (with_reducible refine (HLY.out _ BD.out).mono ?_); rintro e w7 ⟨g7, c7, rfl, k7, hb7, _, _⟩; (try dsimp only); have hbW := BD.out.trans (hb7.mono BD.out.size); have K7 := Lib.hid k7; clear k7 hb7)
            | (go_at_call 43; (with_reducible refine (HWR.out _ g7 c7 hbW K7.out).mono ?_); rintro e w8 ⟨S', rfl, hp8, ht8⟩; (try dsimp only); have HB7 := Lib.hid hbW; have HP8 := Lib.hid hp8; have HT8 := Lib.hid ht8; have HR7 := HR6.out.below hbW; have HI7 := HI6.out.below hbW; have HI8 := Lib.hid (HI7.keep (ht8.turn.block _ HI7.lt (HR7.plt.notMem HI7 (by decide) (by decide) (by decide)))); have HG8 := Lib.hid (HR7.rg.keep (ht8.turn.block _ HR7.rg.lt HR7.bS)); have HK8 : Hid (w8.cell? ⟨b, 0, none⟩ = some (.pointer (some ⟨p, 0, none⟩)) ∧ w8.cell? ⟨b, 65, none⟩ = some (.int .i64 (l1 : Int)) ∧ w8.cell? ⟨H, 0, none⟩ = some (.int .i64 (y.s : Int)) ∧ w8.cell? ⟨H, 1, none⟩ = some (.int .i64 (y.g : Int)) ∧ w8.cell? ⟨H, 2, none⟩ = some (.slice (some ⟨gb, 0, none⟩) 128 cp)) := Lib.hid ⟨HG8.out.c0, (by have := HG8.out.cn; rw [HL1.out] at this; exact this), HI8.out.c0, HI8.out.c1, HI8.out.c2⟩; clear hp8 ht8 hbW HR7 HI7)
            | fail)
        have HG8b := HG8
        obtain ⟨x0, x1, x2, x3⟩ := HG8.out.cell ha16
        have xf := HG8.out.f
        have i0 := HI8.out.c0
        have i1 := HI8.out.c1
        have i2 := HI8.out.c2
        have cn := HK8.out.2.1
        obtain ⟨w9, hw9⟩ : ∃ w9, ((((w8.setCell ⟨b, 1 + a * 4, none⟩ (.int .i64 (l1 : Int))).setCell ⟨b, 1 + a * 4 + 1, none⟩ (.int .i64 (y.s : Int))).setCell ⟨b, 1 + a * 4 + 2, none⟩ (.int .i64 (y.g : Int))).setCell ⟨b, 1 + a * 4 + 3, none⟩ (.slice (some ⟨gb, 0, none⟩) 128 cp)).drew = w9 := ⟨_, rfl⟩
        have HW9 := Lib.hid hw9
        have HX9 : Hid (RRg w9 b p (last + 1) (updS X a ⟨l1, y.s, y.g, some ⟨gb, 0, none⟩, 128, cp, y.D⟩)) := Lib.hid (by rw [← hw9]; exact HG8.out.put ha16 ⟨l1, y.s, y.g, some ⟨gb, 0, none⟩, 128, cp, y.D⟩)
        have HT9 : Hid (Turn [b] w8 w9) := Lib.hid (by rw [← hw9]; exact ((Turn.refl [b] w8).put4 (by simp) _ _ _ _ _ _ _ _).trans (Turn.drew [b] _))
        clear hw9
        go_upto_region 15 with fail
        go_still_tail 11, (by kernel_rfl)
        change wpList _ _ _ _ _ w8.drew
        go_upto_region 16 with fail
        rw [HW9.out]
        have n0 := HX9.out.cn
        have nf := HX9.out.f
        rw [HL1.out] at n0
        clear x0 x1 x2 x3 xf i0 i1 i2 cn
        obtain ⟨l2, hl2⟩ : ∃ l2, l1 + 1 = l2 := ⟨_, rfl⟩
        rw [hl2] at hwl
        have HL2 := Lib.hid hl2
        clear hl2
        have HFIN : Hid (Q (.returned (.int .i64 0)) (w9.setCell ⟨b, 65, none⟩ (.int .i64 (l2 : Int)))) := Lib.hid (by
          obtain ⟨cs', hc9⟩ := HX9.out.type
          have hu9 : ∀ (g : Nat) (cs : Array Value), w9.heap[g]? = some (Obj.cells cs 5 (0, 0)) → (w9.setCell ⟨b, 65, none⟩ (.int .i64 (l2 : Int))).heap[g]? = w9.heap[g]? := fun g cs hg => set_other (by
            rintro rfl
            rw [hg] at hc9
            cases hc9) _ _
          obtain ⟨cs8, hc8⟩ := HG8.out.type
          have hu8 : ∀ (g : Nat) (cs : Array Value), w8.heap[g]? = some (Obj.cells cs 5 (0, 0)) → w9.heap[g]? = w8.heap[g]? := fun g cs hg => HT9.out.block g (heap_lt hg) (by
            rw [List.mem_singleton]
            rintro rfl
            rw [hg] at hc8
            cases hc8)
          have hR7 := HR6.out.below HB7.out
          have hu7 : ∀ (g : Nat) (cs : Array Value), w7.heap[g]? = some (Obj.cells cs 5 (0, 0)) → w8.heap[g]? = w7.heap[g]? := fun g cs hg => HT8.out.turn.block g (heap_lt hg) (hR7.plt.notMem hg (by decide) (by decide) (by decide))
          have hall : ∀ (g : Nat) (cs : Array Value), w7.heap[g]? = some (Obj.cells cs 5 (0, 0)) → (w9.setCell ⟨b, 65, none⟩ (.int .i64 (l2 : Int))).heap[g]? = w7.heap[g]? := fun g cs hg => by
            have h8 := hu7 g cs hg
            have h9 := hu8 g cs (h8.trans hg)
            exact ((hu9 g cs (h9.trans (h8.trans hg))).trans h9).trans h8
          have hp9 : RPlt (w9.setCell ⟨b, 65, none⟩ (.int .i64 (l2 : Int))) p S' 96 (d.write (80 + a) (itS (last + 1) y)) (nw + 1) := by
            rw [HK80.out, HL1.out]
            refine HP8.out.keep (fun j hj => ?_)
            have hjb : j ≠ b := by
              rintro rfl
              exact HP8.out.notMem hc8 (by decide) (by decide) (by decide) hj
            exact (set_other hjb _ _).trans (HT9.out.block j (HP8.out.lt j hj) (by rw [List.mem_singleton]; exact hjb))
          have hkb : Blk8 w7 gb 128 y.D := HK6.out.below HB7.out
          have ht7 : Turn (b :: S) w w7 := HT6.out.trans (Turn.of HB7.out)
          have ht8 : Turn (b :: S) w w8 := ht7.trans (HT8.out.turn.mono (fun k hk => by simp [hk]))
          have ht9 : Turn (b :: S) w w9 := ht8.trans (HT9.out.mono (fun k hk => by rw [List.mem_singleton] at hk; simp [hk]))
          have hl12 : l1 = last + 1 := HL1.out.symm
          refine HPUT.out HNA.out a ha16 HA0.out HAF.out _ S' (some ⟨gb, 0, none⟩) cp ⟨?_, fun k hk => ?_, hp9⟩ (ht9.trans (Turn.set (b :: S) w9 ⟨b, 65, none⟩ _ (by simp))) (fun j hj => (HT8.out.blocks j hj).imp (fun h => h) (fun h => Nat.le_trans ht7.size h))
          · have e : last + 1 + 1 = l2 := by rw [HL1.out]; exact HL2.out
            rw [e, ← hl12]
            exact HX9.out.next_ l2
          · unfold updS
            by_cases ek : k = a
            · rw [if_pos ek]
              exact fun _ => ⟨rfl, (DatI.blk hkb).keep hall, HY.out⟩
            · rw [if_neg ek]
              exact (hR7.ok k hk).keep hall)
        clear HNA HA0 HAF
        go_wp2_with fail
        exact HFIN.out
    · obtain rfl : kd = (k : Int) := by rw [HKD.out]; omega
      have hk0 : (0 : Int) ≤ (k : Int) := by omega
      have hk16 : (k : Int) < 16 := by omega
      have hkn : k < 16 := by omega
      have hwk : IntKind.i64.wrap ((k : Int) - 1) = (k : Int) - 1 := IntWalk.i64_in _ (by omega)
      obtain ⟨lo, hi2⟩ := HSC.out.lo
      obtain ⟨a0, a1, a2, a3⟩ := HRr.out.rg.cell hkn
      obtain ⟨x, hx⟩ : ∃ x, X k = x := ⟨_, rfl⟩
      have HX := Lib.hid hx
      rw [hx] at a0 a1 a2 a3
      clear hx HKD
      by_cases h0 : x.no = 0
      · have e0 : ((x.no : Int) == 0) = true := beq_iff_eq.2 (by omega)
        have e0n : (x.no == 0) = true := beq_iff_eq.2 h0
        have HS2 := Lib.hid (HSC.out.free hkn (by rw [HX.out]; exact h0))
        clear h0
        go_wp2_with fail
        go_roundg (k + 1)
        case measure => omega
        case rel => exact ⟨k, (k : Int), (k : Int) - 1, rfl, rfl, Lib.hid rfl, by omega, rfl, HS2, HBV⟩
      · have e0 : ((x.no : Int) == 0) = false := beq_eq_false_iff_ne.2 (by omega)
        have e0n : (x.no == 0) = false := beq_eq_false_iff_ne.2 h0
        have hokx := HRr.out.ok k hkn
        rw [HX.out] at hokx
        obtain ⟨hn128, hdx, hxok⟩ := hokx h0
        rw [hn128] at a3
        have HDX := Lib.hid hdx
        have HXO : Hid (∀ j, j < 128 → x.D j < 256) := Lib.hid hxok.2.2.2
        have HYO : Hid (∀ j, j < 128 → y.D j < 256) := Lib.hid HY.out.2.2.2
        have HN0 := Lib.hid h0
        have i0 := HIr.out.c0
        have i1 := HIr.out.c1
        have i2 := HIr.out.c2
        have BD : Hid (Below wr.heap.size wr wr.drew) := Lib.hid (below_drewN 1 wr)
        have HKS : Hid (∀ W, Below wr.heap.size wr W → W.cell? ⟨b, 1 + k * 4 + 1, none⟩ = some (.int .i64 (x.s : Int)) ∧ W.cell? ⟨b, 1 + k * 4 + 2, none⟩ = some (.int .i64 (x.g : Int)) ∧ W.cell? ⟨b, 1 + k * 4 + 3, none⟩ = some (.slice x.A 128 x.c) ∧ W.cell? ⟨H, 0, none⟩ = some (.int .i64 (y.s : Int)) ∧ W.cell? ⟨H, 1, none⟩ = some (.int .i64 (y.g : Int)) ∧ W.cell? ⟨H, 2, none⟩ = some (.slice A 128 c)) := Lib.hid (fun W hW => by
          have hb := HRr.out.rg.lt
          have hh := HIr.out.lt
          exact ⟨(hW.cell (p := ⟨b, 1 + k * 4 + 1, none⟩) hb).trans a1, (hW.cell (p := ⟨b, 1 + k * 4 + 2, none⟩) hb).trans a2, (hW.cell (p := ⟨b, 1 + k * 4 + 3, none⟩) hb).trans a3, (hW.cell (p := ⟨H, 0, none⟩) hh).trans i0, (hW.cell (p := ⟨H, 1, none⟩) hh).trans i1, (hW.cell (p := ⟨H, 2, none⟩) hh).trans i2⟩)
        obtain ⟨t, ht⟩ : ∃ t : Bool, t = true ↔ x.it.Alike y := ⟨sameB x.it y, sameB_iff x.it y⟩
        have HTT := Lib.hid (fun e : t = true => ht.1 e)
        have HTF : Hid (t = false → ¬ x.it.Alike y) := Lib.hid (fun e h => by
          rw [ht.2 h] at e
          cases e)
        have HSM := Lib.hid (rsameIV (w := wr.drew) (v := iv (x.s : Int) (x.g : Int) x.A 128 x.c) (v' := iv (y.s : Int) (y.g : Int) A 128 c) (x := x.it) (y := y) ⟨x.A, x.c, rfl, HDX.out.below BD.out⟩ ⟨A, c, rfl, HDr.out.below BD.out⟩ HXO.out HYO.out t ht)
        unfold iv at HSM
        clear ht hn128 hdx hxok h0 hokx
        go_upto_region 9 with fail
        go_region_held (fun W => W.cell? ⟨b, 1 + k * 4 + 1, none⟩ = some (.int .i64 (x.s : Int)) ∧ W.cell? ⟨b, 1 + k * 4 + 2, none⟩ = some (.int .i64 (x.g : Int)) ∧ W.cell? ⟨b, 1 + k * 4 + 3, none⟩ = some (.slice x.A 128 x.c) ∧ W.cell? ⟨H, 0, none⟩ = some (.int .i64 (y.s : Int)) ∧ W.cell? ⟨H, 1, none⟩ = some (.int .i64 (y.g : Int)) ∧ W.cell? ⟨H, 2, none⟩ = some (.slice A 128 c))
          (first | (with_reducible assumption) | (with_reducible exact HKS.out _ BD.out) | (with_reducible exact HKS.out _ hbW))
          (first
            | (go_at_call 56; (with_reducible refine HSM.out.mono ?_); rintro e w5 ⟨rfl, hb5⟩; (try dsimp only); have hbW := BD.out.trans (hb5.mono BD.out.size); clear hb5)
            | fail)
        have HBW := Lib.hid hbW
        clear hbW
        cases t with
        | true =>
          have HQ := Lib.hid (HSAME.out ⟨k, hkn, by rw [HX.out]; exact HN0.out, by rw [HX.out]; exact HTT.out rfl⟩)
          go_wp2_with fail
          exact HQ.out _ (by rw [HH.out]; exact HBr.out.trans (HBW.out.mono (by rw [← HH.out]; exact HBr.out.size)))
        | false =>
          have HS2 := Lib.hid (HSC.out.live (by rw [HX.out]; exact HN0.out) (by rw [HX.out]; exact HTF.out rfl))
          have HB3 : Hid (Below w2.heap.size w2 w5) := Lib.hid (HBV.out.trans (HBW.out.mono HBV.out.size))
          go_wp2_with fail
          go_roundg (k + 1)
          case measure => omega
          case rel => exact ⟨k, at_, (k : Int) - 1, rfl, rfl, Lib.hid rfl, by omega, rfl, HS2, HB3⟩
end Go.Proofs.YtofmilkjhnkgjaaGreat
