import Derived.Test.YtofmilkjhnkgjaaGreatW33
import Derived.Deep.RegionHeldLaw
namespace Go.Proofs.YtofmilkjhnkgjaaGreat
open Go.RowKit Go.Sort
set_option maxRecDepth 100000
set_option maxHeartbeats 4000000

theorem results_tct {fn : Func} {a p u : Tmp} {ty : TypeId} (h : fn.results = #[.tmp a, .cell p ty, .tmp u]) (tmps : Array Value) (P : Program) (w : World) :
    (results fn tmps).run P w =
      ((asAddr (tmps.getD p undef)).run P w).andThen fun ad w₁ => ((loadVar ty ad).run P w₁).andThen fun v w₂ => .ok (.tuple #[tmps.getD a undef, v, tmps.getD u undef]) w₂ := by
  simp only [results, h]
  simp [Sem.run_bind, Result.andThen]
/-- ReadIntent of a block that none was laid in. -/
theorem rreadI_no (g q cap : Nat) (F : Nat → Nat) (w : World) (h : Rd w (some ⟨g, q, none⟩) 160 F) (hc : 160 ≤ cap) (hF : ∀ j, j < 160 → F j < 256) (h0 : F 0 = 0) :
    Calls Tryz.prog 52 #[.slice (some ⟨g, q, none⟩) 160 cap] w fun e w' => e = .returned (.tuple #[.int .i64 0, iv 0 0 none 0 0, .bool false]) ∧ Below w.heap.size w w' := by
  obtain ⟨w0, hw0⟩ : ∃ w0, w.alloc (.cells #[.int .i64 0, .int .i64 0, .slice none 0 0] 78) = w0 := ⟨_, rfl⟩
  have HW0 := Lib.hid hw0
  obtain ⟨H, hH⟩ : ∃ H, w.heap.size = H := ⟨_, rfl⟩
  have HH := Lib.hid hH
  have HB0 : Hid (Below H w w0) := Lib.hid (by rw [← hw0, ← hH]; exact (Below.refl _ _).alloc (Nat.le_refl _) _)
  have HR0 : Hid (Rd w0 (some ⟨g, q, none⟩) 160 F) := Lib.hid (h.keep (by rw [hH]; exact HB0.out))
  have HK0 : Hid (IV w0 H 0 0 none 0 0) := Lib.hid (by rw [← hw0]; exact IV.of_new hH)
  have HL0 : Hid (H ≤ w0.heap.size) := Lib.hid (Nat.le_of_lt HK0.out.lt)
  obtain ⟨ec, hec, HMO⟩ : ∃ ec : Int, (ec = 2 ∨ ec = 3) ∧ Hid (Calls Tryz.prog 83 #[.slice (some ⟨g, q, none⟩) 160 cap] w0 fun e w' => e = .returned (.tuple #[.int .i64 0, .slice none 0 0, .int .i64 ec]) ∧ Below w0.heap.size w0 w') := by
    by_cases hmk : num4 F 156 = sumF F 156
    · exact ⟨2, Or.inl rfl, Lib.hid (ropen_all g q cap F w0 _ HR0.out hc hF (fun n => absurd hmk n) (fun _ _ w' b => ⟨rfl, b⟩) (fun _ a => absurd a.1 (by omega)))⟩
    · exact ⟨3, Or.inr rfl, Lib.hid (ropen_all g q cap F w0 _ HR0.out hc hF (fun _ w' b => ⟨rfl, b⟩) (fun n => absurd n hmk) (fun n => absurd n hmk))⟩
  have e1 : (ec != 0) = true := by rw [bne_iff_ne]; omega
  clear hw0 h hF hec h0
  unfold iv
  go_enter Tryz.func52, Tryz.ntmps52
  go_wp2_with fail
  rw [HW0.out]
  refine HMO.out.mono ?_
  rintro e w1 ⟨rfl, hb1⟩
  try dsimp only
  have HB1 : Hid (Below H w w1) := Lib.hid (HB0.out.trans (hb1.mono HL0.out))
  have HK1 := Lib.hid (HK0.out.below hb1)
  have c0 := HK1.out.c0
  have c1 := HK1.out.c1
  have c2 := HK1.out.c2
  have f0 := HK1.out.f
  clear hb1
  go_wp2_with fail
  refine bodyPost_ret (v := .tuple #[.int .i64 0, iv 0 0 none 0 0, .bool false]) ?_ rfl ?_
  · rw [results_tct rfl]
    simp [HK1.out.put.load, Result.andThen, asAddr]
  exact ⟨rfl, by rw [hH]; exact below_put3 HB1.out (Nat.le_refl _) _ _ _⟩
/-- ReadIntent of an intent's block. -/
def RIRead (no : Nat) (x : It) (w : World) (e : Ending) (w' : World) : Prop := ∃ A c, e = .returned (.tuple #[.int .i64 (no : Int), iv (x.s : Int) (x.g : Int) A 128 c, .bool true]) ∧ DatI w' A x.D ∧ Below w.heap.size w w'
theorem rreadI_yes (no : Nat) (x : It) (g q cap : Nat) (F : Nat → Nat) (w : World) (h : Rd w (some ⟨g, q, none⟩) 160 F) (hc : 160 ≤ cap) (hx : x.Ok) (hn2 : no < 281474976710656) (hF : ∀ j, j < 160 → F j = itS no x j) :
    Calls Tryz.prog 52 #[.slice (some ⟨g, q, none⟩) 160 cap] w (RIRead no x w) := by
  obtain ⟨r1, r2, r3, r4, r5, r6, r7, r8⟩ := itS_read hx hn2 hF
  have hFb : ∀ j, j < 160 → F j < 256 := fun j hj => by rw [hF j hj]; exact itS_lt hx j
  have HF := Lib.hid hFb
  obtain ⟨w0, hw0⟩ : ∃ w0, w.alloc (.cells #[.int .i64 0, .int .i64 0, .slice none 0 0] 78) = w0 := ⟨_, rfl⟩
  have HW0 := Lib.hid hw0
  obtain ⟨H, hH⟩ : ∃ H, w.heap.size = H := ⟨_, rfl⟩
  have HH := Lib.hid hH
  have HB0 : Hid (Below H w w0) := Lib.hid (by rw [← hw0, ← hH]; exact (Below.refl _ _).alloc (Nat.le_refl _) _)
  have HR0 : Hid (Rd w0 (some ⟨g, q, none⟩) 160 F) := Lib.hid (h.keep (by rw [hH]; exact HB0.out))
  have HK0 : Hid (IV w0 H 0 0 none 0 0) := Lib.hid (by rw [← hw0]; exact IV.of_new hH)
  have HL0 : Hid (H < w0.heap.size) := Lib.hid HK0.out.lt
  have HMO : Hid (Calls Tryz.prog 83 #[.slice (some ⟨g, q, none⟩) 160 cap] w0 (OpenRet F w0)) := Lib.hid (ropen_all g q cap F w0 _ HR0.out hc hFb (fun a => absurd r2 a) (fun _ a => absurd r1 a) (fun _ _ e w' b => b))
  have HR3 := Lib.hid r3
  have HR4 := Lib.hid r4
  have HR5 := Lib.hid r5
  have HR6 := Lib.hid r6
  have HR7 := Lib.hid r7
  have HR8 := Lib.hid r8
  have HX := Lib.hid hx
  clear hw0 h hF r1 r2 r3 r4 r5 r6 r7 r8 hx hn2 hFb
  unfold RIRead iv
  go_enter Tryz.func52, Tryz.ntmps52
  go_wp2_with fail
  rw [HW0.out]
  refine HMO.out.mono ?_
  rintro e w1 ⟨b, cb, rfl, hr1, hb1, hcb⟩
  try dsimp only
  rw [HR3.out, HR4.out, show ((2 : Nat) : Int) = 2 from rfl]
  rw [HR4.out] at hr1 hcb
  have HB1 : Hid (Below H w w1) := Lib.hid (HB0.out.trans (hb1.mono (Nat.le_of_lt HL0.out)))
  have HK1 := Lib.hid (HK0.out.below hb1)
  have HRr := Lib.hid hr1.rd
  obtain ⟨base, hbase⟩ : ∃ base, w1.heap.size = base := ⟨_, rfl⟩
  have HBS := Lib.hid hbase
  have BD : Hid (Below base w1 w1.drew) := Lib.hid (by rw [← hbase]; exact below_drewN 1 w1)
  have BA : Hid (∀ o, Below base w1 (w1.alloc o).drew) := Lib.hid (fun o => by rw [← hbase]; exact ((Below.refl _ _).alloc (Nat.le_refl _) o).drew)
  have HSX : Hid (∀ W, Below base w1 W → W.cell? ⟨b, 6, none⟩ = some (.int .u8 (x.s : Int))) := Lib.hid (fun W hW => by
    have h1 := HRr.out.keep (by rw [hbase]; exact hW)
    have h2 := h1.some_ (k := 6) (by omega)
    rw [Nat.zero_add] at h2
    rw [h2, show F (3 + 6) = x.s from HR6.out])
  have NF : Hid (∀ W, Below base w1 W → Calls Tryz.prog 84 #[.slice (some ⟨b, 7, none⟩) 6 (cb - 7)] W fun e w' => e = .returned (.int .i64 (x.g : Int)) ∧ w' = W) := Lib.hid (fun W hW => (rfrom (some ⟨b, 7, none⟩) 6 (cb - 7) (fun j => F (3 + (7 + j))) W (by have := (HRr.out.cut (k := 7) (m := 6) (by omega)).keep (by rw [hbase]; exact hW); rwa [Nat.zero_add] at this) (fun j hj => HF.out _ (by omega)) (by omega)).mono (by rintro e w' ⟨rfl, rfl⟩; exact ⟨by rw [HR7.out], rfl⟩))
  have N0 : Hid (∀ W, Below base w1 W → Calls Tryz.prog 84 #[.slice (some ⟨b, 0, none⟩) 6 cb] W fun e w' => e = .returned (.int .i64 (no : Int)) ∧ w' = W) := Lib.hid (fun W hW => (rfrom (some ⟨b, 0, none⟩) 6 cb (fun k => F (3 + k)) W ((HRr.out.less (by omega)).keep (by rw [hbase]; exact hW)) (fun j hj => HF.out _ (by omega)) (by omega)).mono (by rintro e w' ⟨rfl, rfl⟩; exact ⟨by rw [HR5.out], rfl⟩))
  have d13 : (13 : Int) ≤ (cb : Int) := by omega
  have d141 : (141 : Int) ≤ (cb : Int) := by omega
  have n7 : ¬ cb = 7 := by omega
  have n13 : ¬ cb = 13 := by omega
  have n6 : (6 : Int) < 141 := by omega
  have s40 : x.s < 40 := HX.out.1
  have ws : IntKind.i64.wrap (x.s : Int) = (x.s : Int) := IntWalk.i64_in _ (by omega)
  have hbl : base ≤ w1.heap.size := Nat.le_of_eq hbase.symm
  have BA2 : Hid (∀ o o', Below base w1 ((w1.alloc o).alloc o').drew) := Lib.hid (fun o o' => by rw [← hbase]; exact (((Below.refl _ _).alloc (Nat.le_refl _) o).alloc (by simp) o').drew)
  have BAI : Hid (∀ o, Below base w1 (w1.alloc o)) := Lib.hid (fun o => by rw [← hbase]; exact (Below.refl _ _).alloc (Nat.le_refl _) o)
  have HR13 : Hid (∀ W, Below base w1 W → Rd W (some ⟨b, 13, none⟩) 128 x.D) := Lib.hid (fun W hW => by
    have h1 := (HRr.out.cut (k := 13) (m := 128) (by omega)).keep (by rw [hbase]; exact hW)
    rw [Nat.zero_add] at h1
    intro hn
    obtain ⟨g0, o0, e0, f0⟩ := h1 hn
    refine ⟨g0, o0, e0, fun j hj => ?_⟩
    rw [f0 j hj]
    show some (Value.int IntKind.u8 (F (3 + (13 + j)) : Nat)) = _
    rw [show F (3 + (13 + j)) = x.D j by rw [← HR8.out j hj, show 3 + (13 + j) = 16 + j by omega]])
  have HEa : Hid (((w1.alloc (.cells #[.int .i64 0, .int .i64 0, .slice none 0 0] 78)).alloc (.cells #[] 5)).drew.ownsRow base 5 1 (.slice (some ⟨w1.heap.size + 1, 0, none⟩) 0 0) 0 (rowL 0 (fun _ => 0))) := Lib.hid (own_empty (by
    have e : (w1.alloc (.cells #[.int .i64 0, .int .i64 0, .slice none 0 0] 78)).heap.size = w1.heap.size + 1 := by simp
    rw [← e]
    exact alloc_block _ _) (by omega))
  have HEb : Hid (((w1.alloc (.cells #[] 5)).alloc (.cells #[.int .i64 0, .int .i64 0, .slice none 0 0] 78)).drew.ownsRow base 5 1 (.slice (some ⟨w1.heap.size, 0, none⟩) 0 0) 0 (rowL 0 (fun _ => 0))) := Lib.hid (own_empty ((((Below.refl _ _).alloc (Nat.le_refl _) _ : Below (w1.alloc (.cells #[] 5)).heap.size (w1.alloc (.cells #[] 5)) _).block w1.heap.size (by simp)).trans (alloc_block w1 _)) (by omega))
  have HEc : Hid ((w1.alloc (.cells #[] 5)).drew.ownsRow base 5 1 (.slice (some ⟨w1.heap.size, 0, none⟩) 0 0) 0 (rowL 0 (fun _ => 0))) := Lib.hid (own_empty (alloc_block w1 _) (by omega))
  have HIa : Hid (IV ((w1.alloc (.cells #[.int .i64 0, .int .i64 0, .slice none 0 0] 78)).alloc (.cells #[] 5)).drew w1.heap.size 0 0 none 0 0) := Lib.hid ((IV.new w1 0 0 none 0 0).below ((Below.refl _ _).alloc (Nat.le_refl _) _).drew)
  have HIb : Hid (IV ((w1.alloc (.cells #[] 5)).alloc (.cells #[.int .i64 0, .int .i64 0, .slice none 0 0] 78)).drew (w1.heap.size + 1) 0 0 none 0 0) := Lib.hid (IV.of_new (by simp))
  have HFIN : Hid (∀ W k A c, IV W k 0 0 none 0 0 → DatI W A x.D → Below base w1 W → base ≤ k → IV (((W.setCell ⟨k, 0, none⟩ (.int .i64 (x.s : Int))).setCell ⟨k, 1, none⟩ (.int .i64 (x.g : Int))).setCell ⟨k, 2, none⟩ (.slice A 128 c)) k (x.s : Int) (x.g : Int) A 128 c ∧ DatI (((W.setCell ⟨k, 0, none⟩ (.int .i64 (x.s : Int))).setCell ⟨k, 1, none⟩ (.int .i64 (x.g : Int))).setCell ⟨k, 2, none⟩ (.slice A 128 c)) A x.D ∧ Below base w1 (((W.setCell ⟨k, 0, none⟩ (.int .i64 (x.s : Int))).setCell ⟨k, 1, none⟩ (.int .i64 (x.g : Int))).setCell ⟨k, 2, none⟩ (.slice A 128 c))) := Lib.hid (fun W k A c hI hD hB hk => ⟨hI.put, hD.far3 hI, below_put3 hB hk _ _ _⟩)
  clear hb1 hr1 hbase
  go_upto_region 4 with fail
  go_cut [8] from 27 to 38 (fun s8 wx => ∃ k A c, s8 = .pointer (some ⟨k, 0, none⟩) ∧ base ≤ k ∧ Hid (IV wx k (x.s : Int) (x.g : Int) A 128 c ∧ DatI wx A x.D ∧ Below base w1 wx))
  case first =>
    go_wp2_with fail
    go_region_held_law (fun W => W.cell? ⟨b, 6, none⟩ = some (.int .u8 (x.s : Int)))
      (first | (with_reducible assumption) | (with_reducible exact HSX.out _ BD.out) | (with_reducible exact HSX.out _ (BA.out _)) | (with_reducible exact HSX.out _ (BA2.out _ _)) | (with_reducible exact HSX.out _ HB3.out) | (with_reducible exact HSX.out _ (HB3.out.alloc hz3 _)) | exact HSX.out _ (HFIN.out _ _ _ _ HK3.out HD3.out HB3.out (by omega)).2.2 | exact HSX.out _ (HFIN.out _ _ _ _ (IV.new _ _ _ _ _ _) (HD3.out.below ((Below.refl _ _).alloc (Nat.le_refl _) _)) (HB3.out.alloc hz3 _) hz3).2.2)
      (first
        | (refine step_append_rd _ rfl (.tmp 34) (.tmp 36) 35 rfl Tryz.underlying35 base (.slice (some ⟨w1.heap.size + 1, 0, none⟩) 0 0) 0 (fun _ => 0) rfl HEa.out (some ⟨b, 13, none⟩) 128 (cb - 13) x.D rfl (HR13.out _ (BA2.out _ _)) (by omega) (Nat.le_trans hbl (BA2.out _ _).size) ?_; intro v3 w3 own3 gr3 _ hne3; rw [Nat.zero_add] at own3; have HB3 : Hid (Below base w1 w3) := Lib.hid (Below.grown (BA2.out _ _) gr3 (Nat.le_trans hbl (BA2.out _ _).size) (fun k hk => by have hk2 : w1.heap.size + 1 = k := Option.some.inj hk; omega)); obtain ⟨g3, c3, hv3, _, _, _⟩ := own_some own3 (hne3 (by simp)); subst hv3; have HD3 : Hid (DatI w3 (some ⟨g3, 0, none⟩) x.D) := Lib.hid (DatI.blk (own_blk (own_congr own3 (fun j hj => if_neg (Nat.not_lt_zero j))))); have HK3 : Hid (IV w3 w1.heap.size 0 0 none 0 0) := Lib.hid (HIa.out.keep (gr3.block _ HIa.out.lt (by simp [Value.ownBlock]))); have y0 := HK3.out.c0; have y1 := HK3.out.c1; have y2 := HK3.out.c2; have yf := HK3.out.f; have hz3 : base ≤ w3.heap.size := Nat.le_trans hbl HB3.out.size; clear own3 gr3 hne3)
        | (refine step_append_rd _ rfl (.tmp 34) (.tmp 36) 35 rfl Tryz.underlying35 base (.slice (some ⟨w1.heap.size, 0, none⟩) 0 0) 0 (fun _ => 0) rfl HEb.out (some ⟨b, 13, none⟩) 128 (cb - 13) x.D rfl (HR13.out _ (BA2.out _ _)) (by omega) (Nat.le_trans hbl (BA2.out _ _).size) ?_; intro v3 w3 own3 gr3 _ hne3; rw [Nat.zero_add] at own3; have HB3 : Hid (Below base w1 w3) := Lib.hid (Below.grown (BA2.out _ _) gr3 (Nat.le_trans hbl (BA2.out _ _).size) (fun k hk => by cases hk; omega)); obtain ⟨g3, c3, hv3, _, _, _⟩ := own_some own3 (hne3 (by simp)); subst hv3; have HD3 : Hid (DatI w3 (some ⟨g3, 0, none⟩) x.D) := Lib.hid (DatI.blk (own_blk (own_congr own3 (fun j hj => if_neg (Nat.not_lt_zero j))))); have HK3 : Hid (IV w3 (w1.heap.size + 1) 0 0 none 0 0) := Lib.hid (HIb.out.keep (gr3.block _ HIb.out.lt (by simp [Value.ownBlock]))); have y0 := HK3.out.c0; have y1 := HK3.out.c1; have y2 := HK3.out.c2; have yf := HK3.out.f; have hz3 : base ≤ w3.heap.size := Nat.le_trans hbl HB3.out.size; clear own3 gr3 hne3)
        | (refine step_append_rd _ rfl (.tmp 34) (.tmp 36) 35 rfl Tryz.underlying35 base (.slice (some ⟨w1.heap.size, 0, none⟩) 0 0) 0 (fun _ => 0) rfl HEc.out (some ⟨b, 13, none⟩) 128 (cb - 13) x.D rfl (HR13.out _ (BA.out _)) (by omega) (Nat.le_trans hbl (BA.out _).size) ?_; intro v3 w3 own3 gr3 _ hne3; rw [Nat.zero_add] at own3; have HB3 : Hid (Below base w1 w3) := Lib.hid (Below.grown (BA.out _) gr3 (Nat.le_trans hbl (BA.out _).size) (fun k hk => by cases hk; omega)); obtain ⟨g3, c3, hv3, _, _, _⟩ := own_some own3 (hne3 (by simp)); subst hv3; have HD3 : Hid (DatI w3 (some ⟨g3, 0, none⟩) x.D) := Lib.hid (DatI.blk (own_blk (own_congr own3 (fun j hj => if_neg (Nat.not_lt_zero j))))); have hz3 : base ≤ w3.heap.size := Nat.le_trans hbl HB3.out.size; have y0 := (IV.new w3 0 0 none 0 0).c0; have y1 := (IV.new w3 0 0 none 0 0).c1; have y2 := (IV.new w3 0 0 none 0 0).c2; have yf := (IV.new w3 0 0 none 0 0).f; clear own3 gr3 hne3)
        | (go_simp; go_at_call 84; (with_reducible refine (NF.out _ (by first | exact BD.out | exact BA.out _ | exact BA2.out _ _ | exact HB3.out | exact HB3.out.alloc hz3 _)).mono ?_); rintro e wn ⟨rfl, hw⟩; obtain rfl := hw.symm; (try dsimp only))
        | fail)
    all_goals
      go_wp2_with fail
      go_meet
      first
        | exact ⟨_, _, _, rfl, hz3, Lib.hid ⟨IV.new _ _ _ _ _ _, HD3.out.below ((Below.refl _ _).alloc (Nat.le_refl _) _), HB3.out.alloc hz3 _⟩⟩
        | exact ⟨_, _, _, rfl, by omega, Lib.hid (HFIN.out _ _ _ _ HK3.out HD3.out HB3.out (by omega))⟩
        | exact ⟨_, _, _, rfl, hz3, Lib.hid (HFIN.out _ _ _ _ (IV.new _ _ _ _ _ _) (HD3.out.below ((Below.refl _ _).alloc (Nat.le_refl _) _)) (HB3.out.alloc hz3 _) hz3)⟩
  case rest =>
    obtain ⟨k, A, c, rfl, hk, HC⟩ := hcut
    have HI := Lib.hid HC.out.1
    have HD := Lib.hid HC.out.2.1
    have HBw := Lib.hid HC.out.2.2
    have HZw : Hid (base ≤ wc.heap.size) := Lib.hid (Nat.le_trans hbl HBw.out.size)
    have hHb : H < base := by have h1 := HK1.out.lt; rw [HBS.out] at h1; exact h1
    have HBB : Hid (∀ W, Below wc.heap.size wc W → Below base w1 W) := Lib.hid (fun W hW => HBw.out.trans (hW.mono HZw.out))
    have HKH : Hid (∀ W, Below wc.heap.size wc W → IV W H 0 0 none 0 0) := Lib.hid (fun W hW => HK1.out.below (by rw [HBS.out]; exact HBB.out W hW))
    have HSY : Hid (∀ W, Below wc.heap.size wc W → W.cell? ⟨k, 0, none⟩ = some (.int .i64 (x.s : Int)) ∧ W.cell? ⟨k, 1, none⟩ = some (.int .i64 (x.g : Int)) ∧ W.cell? ⟨k, 2, none⟩ = some (.slice A 128 c)) := Lib.hid (fun W hW => ⟨(HI.out.below hW).c0, (HI.out.below hW).c1, (HI.out.below hW).c2⟩)
    have HST : Hid (∀ W v0 v1 v2, Below wc.heap.size wc W → (((W.setCell ⟨H, 0, none⟩ v0).setCell ⟨H, 1, none⟩ v1).setCell ⟨H, 2, none⟩ v2).cell? ⟨k, 0, none⟩ = some (.int .i64 (x.s : Int)) ∧ (((W.setCell ⟨H, 0, none⟩ v0).setCell ⟨H, 1, none⟩ v1).setCell ⟨H, 2, none⟩ v2).cell? ⟨k, 1, none⟩ = some (.int .i64 (x.g : Int)) ∧ (((W.setCell ⟨H, 0, none⟩ v0).setCell ⟨H, 1, none⟩ v1).setCell ⟨H, 2, none⟩ v2).cell? ⟨k, 2, none⟩ = some (.slice A 128 c)) := Lib.hid (fun W v0 v1 v2 hW => by
      have hne : k ≠ H := by omega
      have e := (HI.out.below hW).keep ((set_other hne 2 v2).trans ((set_other hne 1 v1).trans (set_other hne 0 v0)))
      exact ⟨e.c0, e.c1, e.c2⟩)
    have HRT : Hid (∀ W, Calls Tryz.prog 80 #[iv (x.s : Int) (x.g : Int) A 128 c] W fun e w' => e = .returned (.bool true) ∧ Below W.heap.size W w') := Lib.hid (fun W => rrightI (x.s : Int) (x.g : Int) A 128 c W true ⟨fun _ => ⟨by omega, by omega, by have := HX.out.2.1; omega, by have := HX.out.2.2.1; omega, rfl⟩, fun _ => rfl⟩)
    have hbW : Below wc.heap.size wc wc.drew := below_drewN 1 wc
    have z0 := (HKH.out _ hbW).c0
    have z1 := (HKH.out _ hbW).c1
    have z2 := (HKH.out _ hbW).c2
    have zf := (HKH.out _ hbW).f
    unfold iv at HRT
    clear HC HEa HEb HEc HIa HIb HFIN HR13 NF BA BA2 BAI
    go_upto_region 5 with fail
    go_wp2_with fail
    go_region_held (fun W => W.cell? ⟨k, 0, none⟩ = some (.int .i64 (x.s : Int)) ∧ W.cell? ⟨k, 1, none⟩ = some (.int .i64 (x.g : Int)) ∧ W.cell? ⟨k, 2, none⟩ = some (.slice A 128 c))
      (first | (with_reducible assumption) | (exact HSY.out _ hbW) | (exact HST.out _ _ _ _ hbW))
      (first
        | (go_at_call 84; (with_reducible refine (N0.out _ (HBB.out _ hbW)).mono ?_); rintro e wn ⟨rfl, hw⟩; obtain rfl := hw.symm; (try dsimp only))
        | (go_at_call 80; (with_reducible refine (HRT.out _).mono ?_); rintro e wn ⟨rfl, hb⟩; (try dsimp only); have hbW2 := hbW.trans (hb.mono hbW.size); clear z0 z1 z2 zf hb hbW; have hbW := hbW2; clear hbW2; have z0 := (HKH.out _ hbW).c0; have z1 := (HKH.out _ hbW).c1; have z2 := (HKH.out _ hbW).c2; have zf := (HKH.out _ hbW).f)
        | fail)
    all_goals
      go_wp2_with fail
      refine bodyPost_ret (v := .tuple #[.int .i64 (no : Int), iv (x.s : Int) (x.g : Int) A 128 c, .bool true]) ?_ rfl ?_
      · rw [results_tct rfl]
        simp [(HKH.out _ hbW).put.load, Result.andThen, asAddr]
      have hbase := HBS.out
      exact ⟨A, c, rfl, (HD.out.below hbW).far3 (HKH.out _ hbW), by rw [HH.out]; exact below_put3 (HB1.out.trans ((HBB.out _ hbW).mono (by omega))) (Nat.le_refl _) _ _ _⟩
end Go.Proofs.YtofmilkjhnkgjaaGreat
