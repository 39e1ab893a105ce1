import Derived.Test.YtofmilkjhnkgjaaGreatW05
import Derived.Test.YtofmilkjhnkgjaaGreatW29
import Derived.Test.YtofmilkjhnkgjaaGreatW07
namespace Go.Proofs.YtofmilkjhnkgjaaGreat
open Go.RowKit Go.Sort
set_option maxRecDepth 100000
set_option maxHeartbeats 1000000

/-- corbelref3.Sum. -/
theorem rsum (A : Option Addr) (n cap : Nat) (F : Nat → Nat) (w : World) (h : Rd w A n F) (hF : ∀ j, j < n → F j < 256) (hn : n ≤ 9223372036854775807) :
    Calls Tryz.prog 98 #[.slice A n cap] w fun e w' => e = .returned (.int .i64 (sumF F n : Nat)) ∧ ∃ k, w' = w.drewN k := by
  have HR := Lib.hid h
  have HF := Lib.hid hF
  clear h hF
  go_enter Tryz.func98, Tryz.ntmps98
  go_wp2_with fail
  go_loopg [3, 4] n (fun q s3 s4 v => ∃ k d : Nat, s3 = .int .i64 (sumF F k : Nat) ∧ s4 = .int .i64 (k : Int) ∧ k ≤ n ∧ q = n - k ∧ v = w.drewN d)
  case atStart => exact ⟨0, 0, by rw [sumF_zero]; rfl, rfl, by omega, rfl, rfl⟩
  case round =>
    obtain ⟨k, d, rfl, rfl, hk, rfl, rfl⟩ := hrel
    have hs := sumF_lt F k
    by_cases hlt : k < n
    · have hl : (k : Int) < (n : Int) := by omega
      have hl0 : (0 : Int) ≤ (k : Int) := by omega
      obtain ⟨g, q, rfl, hg, c1⟩ := HR.out.at hlt
      have HS := Lib.hid (sumF_succ F k)
      have hx := HF.out k hlt
      have hsq := sq_lt hx
      generalize sumF F k = s at *
      generalize F k = x at *
      have e1 : ((x : Int) * (x : Int)) = ((x * x : Nat) : Int) := by push_cast; rfl
      have HE := Lib.hid e1
      have b1 : (x : Int) * (x : Int) ≤ 65025 := by rw [e1]; omega
      have b2 : 0 ≤ (x : Int) * (x : Int) := by rw [e1]; omega
      clear e1
      go_wp2_with fail
      go_big_quiet (fail)
      go_wp2_with fail
      go_roundg (n - (k + 1))
      case measure => omega
      case rel => exact ⟨k + 1, d + nq, by rw [HS.out, HE.out]; congr 1, by go_num, by omega, rfl, by first | rfl | rw [World.drewN_drewN]⟩
    · obtain rfl : k = n := by omega
      go_wp2_with fail
      go_ret
      exact ⟨rfl, d, rfl⟩

/-- corbelref3.Seal. -/
theorem own_ge8 {w : World} {B g n cap : Nat} {xs : List Value} (h : w.ownsRow B 5 1 (.slice (some ⟨g, 0, none⟩) n cap) n xs) : B ≤ g := by
  obtain ⟨g', cap', e, h1, _⟩ := own_some h (by simp)
  cases e
  exact h1
def RSealRetB (kind n : Nat) (B : Nat → Nat) (w : World) (e : Ending) (w' : World) : Prop :=
  ∃ g cap, e = .returned (.tuple #[.slice (some ⟨g, 0, none⟩) 160 cap, .bool true]) ∧ Blk8 w' g 160 (sealF kind n B) ∧ Below w.heap.size w w' ∧ 160 ≤ cap ∧ w.heap.size ≤ g
def RSealRet (kind n : Nat) (B : Nat → Nat) (w : World) (e : Ending) (w' : World) : Prop :=
  ∃ g cap, e = .returned (.tuple #[.slice (some ⟨g, 0, none⟩) 160 cap, .bool true]) ∧ Rd w' (some ⟨g, 0, none⟩) 160 (sealF kind n B) ∧ Below w.heap.size w w' ∧ 160 ≤ cap
theorem head_cat (kind n : Nat) (B : Nat → Nat) (X : Nat → Nat) (h0 : X 0 = kind) (h1 : X 1 = byteAt n 2 0) (h2 : X 2 = byteAt n 2 1) : ∀ j, j < 3 + n → (if j < 3 then X j else B (j - 3)) = headF kind n B j := by
  intro j hj
  unfold headF
  by_cases e0 : j = 0
  · subst e0; rw [if_pos (by omega), if_pos rfl, h0]
  · rw [if_neg e0]
    by_cases e1 : j = 1
    · subst e1; rw [if_pos (by omega), if_pos rfl, h1]
    · rw [if_neg e1]
      by_cases e2 : j = 2
      · subst e2; rw [if_pos (by omega), if_pos rfl, h2]
      · rw [if_neg e2, if_neg (by omega), if_pos hj]
theorem head_zero {kind n : Nat} (B : Nat → Nat) {m : Nat} (hm : 3 + n ≤ m) : headF kind n B m = 0 := by
  unfold headF
  rw [if_neg (by omega), if_neg (by omega), if_neg (by omega), if_neg (by omega)]
theorem byte4_lit (S : Nat) (h : S < 4294967291) : (#[.int .u8 ((S : Int) / 16777216), .int .u8 ((S : Int) / 65536 % 256), .int .u8 ((S : Int) / 256 % 256), .int .u8 ((S : Int) % 256)] : Array Value).toList = rowL 4 (byteAt S 4) := by
  show _ = [Value.int .u8 ((byteAt S 4 0 : Nat) : Int), Value.int .u8 ((byteAt S 4 1 : Nat) : Int), Value.int .u8 ((byteAt S 4 2 : Nat) : Int), Value.int .u8 ((byteAt S 4 3 : Nat) : Int)]
  have e0 : byteAt S 4 0 = S / 16777216 := by unfold byteAt; show S / 16777216 % 256 = _; omega
  have e1 : byteAt S 4 1 = S / 65536 % 256 := by unfold byteAt; rfl
  have e2 : byteAt S 4 2 = S / 256 % 256 := by unfold byteAt; rfl
  have e3 : byteAt S 4 3 = S % 256 := by unfold byteAt; show S / 1 % 256 = _; omega
  rw [e0, e1, e2, e3]
  rfl
theorem rsealB (kind n cap : Nat) (A : Option Addr) (B : Nat → Nat) (w : World) (hk1 : 1 ≤ kind) (hk2 : kind < 256) (hn : n ≤ 153) (h : Rd w A n B) (hB : ∀ j, j < n → B j < 256) :
    Calls Tryz.prog 78 #[.int .i64 (kind : Int), .slice A n cap] w (RSealRetB kind n B w) := by
  have HR := Lib.hid h
  have HB := Lib.hid hB
  have t1 : ¬ (kind : Int) < 1 := by omega
  have t2 : ¬ (255 : Int) < (kind : Int) := by omega
  have t3 : ¬ (153 : Int) < (n : Int) := by omega
  clear h hB
  go_enter Tryz.func78, Tryz.ntmps78
  have hLit : (#[.int .u8 (kind : Int), .int .u8 ((n : Int) / 256), .int .u8 (n : Int)] : Array Value).toList = rowL 3 (fun j => if j = 0 then kind else if j = 1 then n / 256 else n) := by
    show _ = [Value.int .u8 _, Value.int .u8 _, Value.int .u8 _]
    rfl
  have HO0 : Hid ((w.alloc (.cells #[.int .u8 (kind : Int), .int .u8 ((n : Int) / 256), .int .u8 (n : Int)] 5)).ownsRow w.heap.size 5 1 (.slice (some ⟨w.heap.size, 0, none⟩) 3 3) 3 (rowL 3 (fun j => if j = 0 then kind else if j = 1 then n / 256 else n))) := Lib.hid (own_of_block (alloc_block w _) (Nat.le_refl _) (by omega) hLit)
  have HB0 : Hid (Below w.heap.size w (w.alloc (.cells #[.int .u8 (kind : Int), .int .u8 ((n : Int) / 256), .int .u8 (n : Int)] 5))) := Lib.hid ((Below.refl _ _).alloc (Nat.le_refl _) _)
  clear hLit
  go_wp2_with (at_builtin; refine append_rd _ rfl (.tmp 28) (.tmp 29) 35 rfl Tryz.underlying35 w.heap.size (.slice (some ⟨w.heap.size, 0, none⟩) 3 3) 3 _ rfl HO0.out A n cap B rfl (HR.out.keep HB0.out) (by omega) HB0.out.size ?_; intro v1 w1 own gr _ hne; have HO1 : Hid (w1.ownsRow w.heap.size 5 1 v1 (3 + n) (rowL (3 + n) (headF kind n B))) := Lib.hid (own_congr own (head_cat kind n B _ rfl (by show n / 256 = _; unfold byteAt; show _ = n / 256 % 256; omega) (by show n = _; unfold byteAt; show _ = n / 1 % 256; omega))); have HB1 : Hid (Below w.heap.size w w1) := Lib.hid (Below.grown HB0.out gr HB0.out.size (fun k hk => by cases hk; exact Nat.le_refl _)); obtain ⟨g1, c1, hv, _⟩ := own_some own (hne (by simp)); have HV1 := Lib.hid hv; clear own gr hne hv)
  obtain rfl := HV1.out
  clear HO0 HB0 HV1
  obtain ⟨H, hH⟩ : ∃ H, w.heap.size = H := ⟨_, rfl⟩
  rw [hH] at HO1 HB1
  have HH := Lib.hid hH
  clear hH
  go_loopg [6] (156 - (3 + n)) (fun q s6 v => ∃ m g c : Nat, s6 = .slice (some ⟨g, 0, none⟩) m c ∧ 3 + n ≤ m ∧ m ≤ 156 ∧ q = 156 - m ∧ Hid (v.ownsRow H 5 1 (.slice (some ⟨g, 0, none⟩) m c) m (rowL m (headF kind n B)) ∧ Below H w v))
  case atStart => exact ⟨_, _, _, rfl, by omega, by omega, rfl, Lib.hid ⟨HO1.out, HB1.out⟩⟩
  case round =>
    obtain ⟨m, g, c, rfl, hm1, hm2, rfl, HV⟩ := hrel
    clear HO1 HB1
    by_cases hlt : m < 156
    · have hl : (m : Int) < 156 := by omega
      have HZ := Lib.hid (head_zero (kind := kind) B hm1)
      have HSZ : Hid (H ≤ wr.heap.size) := Lib.hid (by rw [← HH.out]; exact HV.out.2.size)
      have HB0 : Hid (Below wr.heap.size wr (wr.alloc (.cells #[.int .u8 0] 5))) := Lib.hid ((Below.refl _ _).alloc (Nat.le_refl _) _)
      have HR0 : Hid (Rd (wr.alloc (.cells #[.int .u8 0] 5)) (some ⟨wr.heap.size, 0, none⟩) 1 (fun _ => 0)) := Lib.hid (lit_rd (by omega) rfl)
      have HO0 := Lib.hid (own_keep HV.out.1 HB0.out)
      go_wp2_with (at_builtin; refine append_rd _ rfl (.tmp 34) (.tmp 35) 35 rfl Tryz.underlying35 H (.slice (some ⟨g, 0, none⟩) m c) m _ rfl HO0.out (some ⟨wr.heap.size, 0, none⟩) 1 1 (fun _ => 0) rfl HR0.out (by omega) (Nat.le_trans HSZ.out HB0.out.size) ?_; intro v1 w1 own gr _ hne; have HO2 : Hid (w1.ownsRow H 5 1 v1 (m + 1) (rowL (m + 1) (headF kind n B))) := Lib.hid (own_congr own (fun j hj => by
        by_cases e : j < m
        · rw [if_pos e]
        · obtain rfl : j = m := by omega
          rw [if_neg e, HZ.out])); have HB2 : Hid (Below H w w1) := Lib.hid (Below.grown (HV.out.2.trans (HB0.out.mono HSZ.out)) gr (Nat.le_trans HSZ.out HB0.out.size) (fun k hk => (HO0.out.lt k hk).1)); obtain ⟨g1, c1, hv, _⟩ := own_some own (hne (by simp)); have HV1 := Lib.hid hv; clear own gr hne hv)
      obtain rfl := HV1.out
      go_roundg (156 - (m + 1))
      case measure => omega
      case rel => exact ⟨m + 1, g1, c1, rfl, by omega, by omega, rfl, Lib.hid ⟨HO2.out, HB2.out⟩⟩
    · obtain rfl : m = 156 := by omega
      have hge : ¬ ((156 : Nat) : Int) < 156 := by omega
      have HRD := Lib.hid (own_rd HV.out.1)
      have HSM := Lib.hid (rsum (some ⟨g, 0, none⟩) 156 c (headF kind n B) wr HRD.out (fun j _ => headF_lt hk2 HB.out j) (by omega))
      have hls := sumF_lt (headF kind n B) 156
      obtain ⟨S, hS⟩ : ∃ S, sumF (headF kind n B) 156 = S := ⟨_, rfl⟩
      have HS := Lib.hid hS
      rw [hS] at HSM hls
      clear hS
      go_wp2_with fail
      refine HSM.out.mono ?_
      rintro e w2 ⟨rfl, d, rfl⟩
      try dsimp only
      have HL4 : Hid ((#[.int .u8 ((S : Int) / 16777216), .int .u8 ((S : Int) / 65536 % 256), .int .u8 ((S : Int) / 256 % 256), .int .u8 ((S : Int) % 256)] : Array Value).toList = rowL 4 (byteAt S 4)) := Lib.hid (byte4_lit S hls)
      have HB0 : Hid (Below (wr.drewN d).heap.size (wr.drewN d) ((wr.drewN d).alloc (.cells #[.int .u8 ((S : Int) / 16777216), .int .u8 ((S : Int) / 65536 % 256), .int .u8 ((S : Int) / 256 % 256), .int .u8 ((S : Int) % 256)] 5))) := Lib.hid ((Below.refl _ _).alloc (Nat.le_refl _) _)
      have HRB : Hid (Rd ((wr.drewN d).alloc (.cells #[.int .u8 ((S : Int) / 16777216), .int .u8 ((S : Int) / 65536 % 256), .int .u8 ((S : Int) / 256 % 256), .int .u8 ((S : Int) % 256)] 5)) (some ⟨(wr.drewN d).heap.size, 0, none⟩) 4 (byteAt S 4)) := Lib.hid (lit_rd (by omega) HL4.out)
      have HO0 := Lib.hid (own_keep (w := wr.drewN d) HV.out.1 HB0.out)
      have HSZ : Hid (H ≤ (wr.drewN d).heap.size) := Lib.hid (by rw [← HH.out]; exact HV.out.2.size)
      have HBV : Hid (Below H w (wr.drewN d)) := Lib.hid (HV.out.2.trans ((below_drewN d wr).mono HSZ.out))
      go_wp2_with (at_builtin; refine append_rd _ rfl (.tmp 39) (.tmp 51) 35 rfl Tryz.underlying35 H (.slice (some ⟨g, 0, none⟩) 156 c) 156 _ rfl HO0.out (some ⟨(wr.drewN d).heap.size, 0, none⟩) 4 4 (byteAt S 4) rfl HRB.out (by omega) (Nat.le_trans HSZ.out HB0.out.size) ?_; intro v1 w1 own gr _ hne; have HO2 : Hid (w1.ownsRow H 5 1 v1 160 (rowL 160 (sealF kind n B))) := Lib.hid (own_congr own (fun j hj => by
        unfold sealF
        by_cases e : j < 156
        · rw [if_pos e, if_pos e]
        · rw [if_neg e, if_neg e, HS.out])); have HB2 : Hid (Below H w w1) := Lib.hid (Below.grown (HBV.out.trans (HB0.out.mono HSZ.out)) gr (Nat.le_trans HSZ.out HB0.out.size) (fun k hk => (HO0.out.lt k hk).1)); obtain ⟨g1, c1, hv, _⟩ := own_some own (hne (by simp)); have HV1 := Lib.hid hv; clear own gr hne hv)
      obtain rfl := HV1.out
      go_ret2
      exact ⟨_, _, rfl, own_blk HO2.out, by rw [HH.out]; exact HB2.out, own_cap HO2.out, by rw [HH.out]; exact own_ge8 HO2.out⟩
theorem rseal (kind n cap : Nat) (A : Option Addr) (B : Nat → Nat) (w : World) (hk1 : 1 ≤ kind) (hk2 : kind < 256) (hn : n ≤ 153) (h : Rd w A n B) (hB : ∀ j, j < n → B j < 256) :
    Calls Tryz.prog 78 #[.int .i64 (kind : Int), .slice A n cap] w (RSealRet kind n B w) := by
  refine (rsealB kind n cap A B w hk1 hk2 hn h hB).mono ?_
  rintro e w' ⟨g, c, rfl, h1, h2, h3, _⟩
  exact ⟨g, c, rfl, h1.rd, h2, h3⟩
theorem rseal_no (kind : Int) (n cap : Nat) (A : Option Addr) (w : World) (hn : n ≤ 9223372036854775807) (h : ¬ (1 ≤ kind ∧ kind < 256 ∧ n ≤ 153)) :
    Calls Tryz.prog 78 #[.int .i64 kind, .slice A n cap] w fun e w' => e = .returned (.tuple #[.slice none 0 0, .bool false]) ∧ w' = w := by
  by_cases h1 : kind < 1
  · clear h
    go_enter Tryz.func78, Tryz.ntmps78
    go_wp2_with fail
    go_ret2
    exact ⟨rfl, rfl⟩
  · by_cases h2 : 255 < kind
    · clear h
      go_enter Tryz.func78, Tryz.ntmps78
      go_wp2_with fail
      go_ret2
      exact ⟨rfl, rfl⟩
    · have h3 : (153 : Int) < (n : Int) := by omega
      clear h
      go_enter Tryz.func78, Tryz.ntmps78
      go_wp2_with fail
      go_ret2
      exact ⟨rfl, rfl⟩
end Go.Proofs.YtofmilkjhnkgjaaGreat
namespace Go.Proofs.YtofmilkjhnkgjaaGreat
open Go.RowKit Go.Sort
set_option maxRecDepth 100000
set_option maxHeartbeats 2000000

/-- append of bytes to a row of one's own, as a step of a region. -/
theorem step_append_rd (w : World) {ops : Array Oper} {o : Oper} {a : Act} {K : Act → World → Prop} {Q : Exit → Act → World → Prop} {E : Prop} (hgd : o.guard = none) (s x : Operand) (t : TypeId)
    (ho : o.op = .call { callee := .builtin .append, args := #[s, x], argTypes := #[t, t] }) (ht : Tryz.prog.underlying t = some (.slice 5))
    (base : Nat) (v : Value) (n : Nat) (F : Nat → Nat) (hs : a.eval s = v) (hown : w.ownsRow base 5 1 v n (rowL n F)) (A : Option Addr) (m c : Nat) (G : Nat → Nat) (hx : a.eval x = .slice A m c) (hr : Rd w A m G)
    (hbytes : n + m ≤ 140737488355328) (hbase : base ≤ w.heap.size)
    (h : ∀ v' w', w'.ownsRow base 5 1 v' (n + m) (rowL (n + m) (fun j => if j < n then F j else G (j - n))) → w.grownBy w' v.ownBlock → (v'.ownBlock = v.ownBlock ∨ v'.ownBlock = some w.heap.size) → (v ≠ .slice none 0 0 → v' ≠ .slice none 0 0) →
      K (a.put o.dst v') w') : if Region.wanted o (yielded ops a.tmps) = true then Oper.wp Tryz.prog o a w K Q else E := by
  have hw : Region.wanted o (yielded ops a.tmps) = true := by simp [Region.wanted, hgd]
  rw [if_pos hw]
  obtain ⟨v', w', hrun, h2, h3, h4, h5⟩ := run_append_rd w base t o.type ht v n F hown A m c G hr hbytes hbase
  unfold Oper.wp
  simp [execOp, ho, resolve, invoke, builtin, hs, hx, hrun, Result.andThen]
  exact h v' w' h2 h3 h4 h5
theorem rbigB {B : Nat} {w0 : World} (x m : Nat) (s : Int) (hs : s = (m : Int)) (w : World) (h1 : 1 ≤ m) (hm : m ≤ 7) (hB : Below B w0 w) (hl : B ≤ w.heap.size) : Calls Tryz.prog 99 #[.int .i64 (x : Int), .int .i64 s] w fun e w' => ∃ g cap, e = .returned (.slice (some ⟨g, 0, none⟩) m cap) ∧ w'.ownsRow B 5 1 (.slice (some ⟨g, 0, none⟩) m cap) m (rowL m (byteAt x m)) ∧ Below B w0 w' ∧ Below w.heap.size w w' ∧ B ≤ w'.heap.size :=
  (rbig x m s hs w h1 hm).mono (by
    rintro e w' ⟨g, cap, rfl, ho, hb, _, _, _⟩
    refine ⟨g, cap, rfl, ⟨ho.1, ?_⟩, hB.trans (hb.mono hl), hb, Nat.le_trans hl hb.size⟩
    rcases ho.2 with h0 | ⟨g', cap', cur, e1, hg, r⟩
    · exact Or.inl h0
    · exact Or.inr ⟨g', cap', cur, e1, Nat.le_trans hl hg, r⟩)
/-- pieceBytes. -/
theorem rbytes40 (p : Pc) (A : Option Addr) (cap : Nat) (w : World) (hp : p.Ok) (h : Rd w A 32 p.D) :
    Calls Tryz.prog 79 #[pv (p.s : Int) (p.g : Int) (p.i : Int) A 32 cap] w (FewRet 40 (pcF p) w) := by
  obtain ⟨w1, hw1⟩ : ∃ w1, w.alloc (.cells #[.int .i64 (p.s : Int), .int .i64 (p.g : Int), .int .i64 (p.i : Int), .slice A 32 cap] 74) = w1 := ⟨_, rfl⟩
  obtain ⟨H, hH⟩ : ∃ H, w.heap.size = H := ⟨_, rfl⟩
  have HH := Lib.hid hH
  have HW1 := Lib.hid hw1
  have HK1 : Hid (PV w1 H (p.s : Int) (p.g : Int) (p.i : Int) A 32 cap) := Lib.hid (by rw [← hw1, ← hH]; exact PV.new w _ _ _ _ _ _)
  have hb1 : Below H w w1 := by rw [← hw1, ← hH]; exact (Below.refl _ _).alloc (Nat.le_refl _) _
  have HB1 := Lib.hid hb1
  have HR1 : Hid (Rd w1 A 32 p.D) := Lib.hid (h.keep (by rw [hH]; exact hb1))
  have HF : Hid (∀ j, j < 40 → pcF p j = if j < 1 + 6 + 1 then (if j < 1 + 6 then (if j < 1 then byteAt p.s 1 j else byteAt p.g 6 (j - 1)) else p.i) else p.D (j - (1 + 6 + 1))) := Lib.hid (by
    obtain ⟨o1, o2, o3, o4, o5⟩ := hp
    intro j hj
    unfold pcF
    by_cases e0 : j = 0
    · subst e0; rw [if_pos rfl, if_pos (by omega), if_pos (by omega), if_pos (by omega)]; exact (byte1 p.s (by omega)).symm
    · rw [if_neg e0]
      by_cases e1 : j < 7
      · rw [if_pos e1, if_pos (by omega), if_pos (by omega), if_neg (by omega)]
      · rw [if_neg e1]
        by_cases e2 : j = 7
        · subst e2; rw [if_pos rfl, if_pos (by omega), if_neg (by omega)]
        · rw [if_neg e2, if_neg (by omega)])
  have hi6 : p.i < 6 := hp.2.2.2.1
  obtain ⟨base, hbase⟩ : ∃ base, w1.heap.size = base := ⟨_, rfl⟩
  have HBS := Lib.hid hbase
  have HHB : Hid (H < base) := Lib.hid (by rw [← hbase]; exact HK1.out.lt)
  have BD : Hid (Below base w1 w1.drew) := Lib.hid (by rw [← hbase]; exact below_drewN 1 w1)
  have BZ : Hid (base ≤ w1.drew.heap.size) := Lib.hid (by rw [← hbase]; exact Nat.le_refl _)
  clear hw1 hH hb1 h hp hbase
  have c0 : w1.drew.cell? ⟨H, 0, none⟩ = some (.int .i64 (p.s : Int)) := HK1.out.c0
  have c1 : w1.drew.cell? ⟨H, 1, none⟩ = some (.int .i64 (p.g : Int)) := HK1.out.c1
  unfold pv
  go_enter Tryz.func79, Tryz.ntmps79
  go_wp2_with fail
  rw [HW1.out, HH.out]
  go_region_law (first
    | (refine step_append_rd _ rfl (.tmp 6) (.tmp 9) 35 rfl Tryz.underlying35 base (.slice (some ⟨g2, 0, none⟩) 1 k2) 1 (byteAt p.s 1) rfl HO3'.out (some ⟨g3, 0, none⟩) 6 k3 (byteAt p.g 6) rfl (own_rd HO3.out) (by omega) HZ3.out ?_; intro v4 w4 own4 gr4 _ hne4; have HO4 := Lib.hid own4; have HB4 : Hid (Below base w1 w4) := Lib.hid (Below.grown HB3.out gr4 HZ3.out (fun k hk => by cases hk; exact HG2.out)); have HZ4 : Hid (base ≤ w4.heap.size) := Lib.hid (Nat.le_trans HZ3.out gr4.size); have HN4 : Hid (v4 ≠ .slice none 0 0) := Lib.hid (hne4 (by simp)); clear own4 gr4 hne4)
    | (go_simp; go_at_call 99; (with_reducible refine (rbigB p.s 1 1 rfl _ (by omega) (by omega) BD.out BZ.out).mono ?_); rintro e w2 ⟨g2, k2, rfl, ho2, hb2, hh2, hz2⟩; (try dsimp only); have HO2 := Lib.hid ho2; have HB2 := Lib.hid hb2; have HZ2 := Lib.hid hz2; have d1 := ((HK1.out.below (by rw [HBS.out]; exact hb2)).c1); clear ho2 hb2 hh2 hz2)
    | (go_simp; go_at_call 99; (with_reducible refine (rbigB p.g 6 6 rfl _ (by omega) (by omega) HB2.out HZ2.out).mono ?_); rintro e w3 ⟨g3, k3, rfl, ho3, hb3, hh3, hz3⟩; (try dsimp only); have HO3 := Lib.hid ho3; have HB3 := Lib.hid hb3; have HZ3 := Lib.hid hz3; have HO3' := Lib.hid (own_keep HO2.out hh3); have HG2 : Hid (base ≤ g2) := Lib.hid (own_ge' HO2.out g2 rfl); clear ho3 hb3 hh3 hz3))
  all_goals
    have HK4 : Hid (PV w4 H (p.s : Int) (p.g : Int) (p.i : Int) A 32 cap) := Lib.hid (HK1.out.below (by rw [HBS.out]; exact HB4.out))
    have e2 := HK4.out.c2
    have hL : Hid (Below w4.heap.size w4 (w4.alloc (.cells #[.int .u8 (p.i : Int)] 5))) := Lib.hid ((Below.refl _ _).alloc (Nat.le_refl _) _)
    have HRL : Hid (Rd (w4.alloc (.cells #[.int .u8 (p.i : Int)] 5)) (some ⟨w4.heap.size, 0, none⟩) 1 (fun _ => p.i)) := Lib.hid (lit_rd (by omega) rfl)
    have HOL := Lib.hid (own_keep HO4.out hL.out)
    have HBL : Hid (Below base w1 (w4.alloc (.cells #[.int .u8 (p.i : Int)] 5))) := Lib.hid (HB4.out.trans (hL.out.mono HZ4.out))
    have HZL : Hid (base ≤ (w4.alloc (.cells #[.int .u8 (p.i : Int)] 5)).heap.size) := Lib.hid (Nat.le_trans HZ4.out hL.out.size)
    have em : (p.i : Int) % 256 = (p.i : Int) := by omega
    clear hL
    go_wp2_with (first
      | (at_builtin; refine append_rd _ rfl (.tmp 11) (.tmp 15) 35 rfl Tryz.underlying35 base v4 (1 + 6) _ rfl HOL.out (some ⟨w4.heap.size, 0, none⟩) 1 1 (fun _ => p.i) rfl HRL.out (by omega) HZL.out ?_; intro v5 w5 own5 gr5 _ hne5; have HO5 := Lib.hid own5; have HB5 : Hid (Below base w1 w5) := Lib.hid (Below.grown HBL.out gr5 HZL.out (own_ge' HOL.out)); have HZ5 : Hid (base ≤ w5.heap.size) := Lib.hid (Nat.le_trans HZL.out gr5.size); have HN5 := Lib.hid (hne5 HN4.out); have e3 := (HK1.out.below (by rw [HBS.out]; exact HB5.out)).c3; have HR5 : Hid (Rd w5 A 32 p.D) := Lib.hid (HR1.out.keep (by rw [HBS.out]; exact HB5.out)); clear own5 gr5 hne5)
      | (at_builtin; refine append_rd _ rfl (.tmp 17) (.tmp 19) 35 rfl Tryz.underlying35 base v5 (1 + 6 + 1) _ rfl HO5.out A 32 cap p.D rfl HR5.out (by omega) HZ5.out ?_; intro v6 w6 own6 gr6 _ hne6; have HO6 := Lib.hid own6; have HB6 : Hid (Below base w1 w6) := Lib.hid (Below.grown HB5.out gr6 HZ5.out (own_ge' HO5.out)); have HN6 := Lib.hid (hne6 HN5.out); clear own6 gr6 hne6))
    go_ret
    obtain ⟨g, c, rfl, hg, hgl, hcc⟩ := own_some HO6.out HN6.out
    refine ⟨g, c, rfl, ⟨by rw [rowL_len], ?_⟩, by rw [HH.out]; exact HB1.out.trans (HB6.out.mono (Nat.le_of_lt HHB.out)), by rw [HH.out]; exact Nat.le_trans (Nat.le_of_lt HHB.out) hg, hgl, hcc⟩
    have ho := (own_congr HO6.out (fun j hj => (HF.out j hj).symm)).2
    rcases ho with h0 | ⟨g', cap', cur, e1, hg', r⟩
    · exact Or.inl h0
    · exact Or.inr ⟨g', cap', cur, e1, by rw [HH.out]; exact Nat.le_trans (Nat.le_of_lt HHB.out) hg', r⟩
/-- corbelref7.LayPiece of a piece that may be. -/
def RLayRetB (p : Pc) (w : World) (e : Ending) (w' : World) : Prop := ∃ g cap, e = .returned (.tuple #[.slice (some ⟨g, 0, none⟩) 160 cap, .bool true]) ∧ Blk8 w' g 160 (pcS p) ∧ Below w.heap.size w w' ∧ 160 ≤ cap ∧ w.heap.size ≤ g
def RLayRet (p : Pc) (w : World) (e : Ending) (w' : World) : Prop := ∃ g cap, e = .returned (.tuple #[.slice (some ⟨g, 0, none⟩) 160 cap, .bool true]) ∧ Rd w' (some ⟨g, 0, none⟩) 160 (pcS p) ∧ Below w.heap.size w w' ∧ 160 ≤ cap
theorem rlayB (p : Pc) (A : Option Addr) (cap : Nat) (w : World) (hp : p.Ok) (h : Rd w A 32 p.D) :
    Calls Tryz.prog 42 #[pv (p.s : Int) (p.g : Int) (p.i : Int) A 32 cap] w (RLayRetB p w) := by
  obtain ⟨w1, hw1⟩ : ∃ w1, w.alloc (.cells #[.int .i64 (p.s : Int), .int .i64 (p.g : Int), .int .i64 (p.i : Int), .slice A 32 cap] 74) = w1 := ⟨_, rfl⟩
  obtain ⟨H, hH⟩ : ∃ H, w.heap.size = H := ⟨_, rfl⟩
  have HH := Lib.hid hH
  have HW1 := Lib.hid hw1
  have HK1 : Hid (PV w1 H (p.s : Int) (p.g : Int) (p.i : Int) A 32 cap) := Lib.hid (by rw [← hw1, ← hH]; exact PV.new w _ _ _ _ _ _)
  have hb1 : Below H w w1 := by rw [← hw1, ← hH]; exact (Below.refl _ _).alloc (Nat.le_refl _) _
  have HB1 := Lib.hid hb1
  have HR1 : Hid (Rd w1 A 32 p.D) := Lib.hid (h.keep (by rw [hH]; exact hb1))
  have HLT := Lib.hid (pcF_lt hp)
  have HP := Lib.hid hp
  obtain ⟨o1, o2, o3, o4, o5⟩ := hp
  have HRT := Lib.hid (rright (p.s : Int) (p.g : Int) (p.i : Int) A 32 cap w1 true ⟨fun _ => ⟨by omega, by omega, by omega, by omega, by omega, by omega, rfl⟩, fun _ => rfl⟩)
  have c0 := HK1.out.c0
  have c1 := HK1.out.c1
  have c2 := HK1.out.c2
  have c3 := HK1.out.c3
  have HZ1 : Hid (H ≤ w1.heap.size) := Lib.hid (Nat.le_of_lt HK1.out.lt)
  clear hw1 hH hb1 h o5
  unfold pv at HRT ⊢
  go_enter Tryz.func42, Tryz.ntmps42
  go_wp2_with fail
  rw [HW1.out, HH.out]
  refine HRT.out.mono ?_
  rintro e w2 ⟨rfl, hb2⟩
  try dsimp only
  have HK2 := Lib.hid (HK1.out.below hb2)
  have HB2 : Hid (Below H w w2) := Lib.hid (HB1.out.trans (hb2.mono HZ1.out))
  have HZ2 : Hid (H ≤ w2.heap.size) := Lib.hid (Nat.le_trans HZ1.out hb2.size)
  have HPB := Lib.hid (rbytes40 p A cap w2 HP.out (HR1.out.keep hb2))
  unfold pv at HPB
  clear c0 c1 c2 c3 hb2
  have c0 := HK2.out.c0
  have c1 := HK2.out.c1
  have c2 := HK2.out.c2
  have c3 := HK2.out.c3
  go_wp2_with fail
  refine HPB.out.mono ?_
  rintro e w3 ⟨g3, k3, rfl, ho3, hb3, _, _, _⟩
  try dsimp only
  have HB3 : Hid (Below H w w3) := Lib.hid (HB2.out.trans (hb3.mono HZ2.out))
  have HZ3 : Hid (H ≤ w3.heap.size) := Lib.hid (Nat.le_trans HZ2.out hb3.size)
  have HSE := Lib.hid (rsealB 1 40 k3 (some ⟨g3, 0, none⟩) (pcF p) w3 (by omega) (by omega) (by omega) (own_rd ho3) HLT.out)
  clear c0 c1 c2 c3 hb3 ho3
  go_wp2_with fail
  refine HSE.out.mono ?_
  rintro e w4 ⟨g4, k4, rfl, hr4, hb4, hc4, hg4⟩
  try dsimp only
  have HR4 := Lib.hid hr4
  have HB4 : Hid (Below H w w4) := Lib.hid (HB3.out.trans (hb4.mono HZ3.out))
  clear hr4 hb4
  go_wp2_with fail
  go_ret2
  exact ⟨g4, k4, rfl, by unfold pcS; exact HR4.out, by rw [HH.out]; exact HB4.out, hc4, by rw [HH.out]; exact Nat.le_trans HZ3.out hg4⟩
theorem rlay (p : Pc) (A : Option Addr) (cap : Nat) (w : World) (hp : p.Ok) (h : Rd w A 32 p.D) :
    Calls Tryz.prog 42 #[pv (p.s : Int) (p.g : Int) (p.i : Int) A 32 cap] w (RLayRet p w) := by
  refine (rlayB p A cap w hp h).mono ?_
  rintro e w' ⟨g, c, rfl, h1, h2, h3, _⟩
  exact ⟨g, c, rfl, h1.rd, h2, h3⟩
theorem rlay_no (s g i : Int) (A : Option Addr) (n cap : Nat) (w : World) (h : ¬ OkI s g i n) :
    Calls Tryz.prog 42 #[pv s g i A n cap] w fun e w' => e = .returned (.tuple #[.slice none 0 0, .bool false]) ∧ Below w.heap.size w w' := by
  obtain ⟨w1, hw1⟩ : ∃ w1, w.alloc (.cells #[.int .i64 s, .int .i64 g, .int .i64 i, .slice A n cap] 74) = w1 := ⟨_, rfl⟩
  have HW1 := Lib.hid hw1
  have HK1 : Hid (PV w1 w.heap.size s g i A n cap) := Lib.hid (by rw [← hw1]; exact PV.new w _ _ _ _ _ _)
  have HB1 : Hid (Below w.heap.size w w1) := Lib.hid (by rw [← hw1]; exact (Below.refl _ _).alloc (Nat.le_refl _) _)
  have HRT := Lib.hid (rright s g i A n cap w1 false ⟨fun e => (by cases e), fun e => absurd e h⟩)
  have c0 := HK1.out.c0
  have c1 := HK1.out.c1
  have c2 := HK1.out.c2
  have c3 := HK1.out.c3
  clear hw1 h
  unfold pv at HRT ⊢
  go_enter Tryz.func42, Tryz.ntmps42
  go_wp2_with fail
  rw [HW1.out]
  refine HRT.out.mono ?_
  rintro e w2 ⟨rfl, hb2⟩
  try dsimp only
  have HB2 : Hid (Below w.heap.size w w2) := Lib.hid (HB1.out.trans (hb2.mono HB1.out.size))
  clear c0 c1 c2 c3 hb2
  go_wp2_with fail
  go_ret2
  exact ⟨rfl, HB2.out⟩
end Go.Proofs.YtofmilkjhnkgjaaGreat
