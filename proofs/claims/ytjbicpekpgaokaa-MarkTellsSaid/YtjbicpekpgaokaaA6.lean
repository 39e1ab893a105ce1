import Derived.Test.YtjbicpekpgaokaaA5
namespace Go.Proofs.Ytjbicpekpgaokaa
open Go.RowKit Go.Sort
set_option maxRecDepth 100000
set_option maxHeartbeats 1000000

/-- corbelref3.Sum. -/
theorem rsum (A : Option Addr) (n cap : Nat) (F : Nat → Nat) (w : World) (h : Rd w A n F) (hF : ∀ j, j < n → F j < 256) (hn : n ≤ 9223372036854775807) :
    Calls Try.prog 18 #[.slice A n cap] w fun e w' => e = .returned (.int .i64 (sumF F n : Nat)) ∧ ∃ k, w' = w.drewN k := by
  have HR := Lib.hid h
  have HF := Lib.hid hF
  clear h hF
  go_enter Try.func18, Try.ntmps18
  go_wp2_with fail
  go_loopg [3, 4] n (fun q s3 s4 v => ∃ k d : Nat, s3 = .int .i64 (sumF F k : Nat) ∧ s4 = .int .i64 (k : Int) ∧ k ≤ n ∧ q = n - k ∧ v = w.drewN d)
  case atStart => exact ⟨0, 0, by rw [sumF_zero]; rfl, rfl, by omega, rfl, rfl⟩
  case round =>
    obtain ⟨k, d, rfl, rfl, hk, rfl, rfl⟩ := hrel
    have hs := sumF_lt F k
    by_cases hlt : k < n
    · have hl : (k : Int) < (n : Int) := by omega
      have hl0 : (0 : Int) ≤ (k : Int) := by omega
      obtain ⟨g, q, rfl, hg, c1⟩ := HR.out.at hlt
      have HS := Lib.hid (sumF_succ F k)
      have hx := HF.out k hlt
      have hsq := sq_lt hx
      generalize sumF F k = s at *
      generalize F k = x at *
      have e1 : ((x : Int) * (x : Int)) = ((x * x : Nat) : Int) := by push_cast; rfl
      have HE := Lib.hid e1
      have b1 : (x : Int) * (x : Int) ≤ 65025 := by rw [e1]; omega
      have b2 : 0 ≤ (x : Int) * (x : Int) := by rw [e1]; omega
      clear e1
      go_wp2_with fail
      go_big_quiet (fail)
      go_wp2_with fail
      go_roundg (n - (k + 1))
      case measure => omega
      case rel => exact ⟨k + 1, d + nq, by rw [HS.out, HE.out]; congr 1, by go_num, by omega, rfl, by first | rfl | rw [World.drewN_drewN]⟩
    · obtain rfl : k = n := by omega
      go_wp2_with fail
      go_ret
      exact ⟨rfl, d, rfl⟩

/-- corbelref3.Seal. -/
theorem own_ge8 {w : World} {B g n cap : Nat} {xs : List Value} (h : w.ownsRow B 5 1 (.slice (some ⟨g, 0, none⟩) n cap) n xs) : B ≤ g := by
  obtain ⟨g', cap', e, h1, _⟩ := own_some h (by simp)
  cases e
  exact h1
def RSealRetB (kind n : Nat) (B : Nat → Nat) (w : World) (e : Ending) (w' : World) : Prop :=
  ∃ g cap, e = .returned (.tuple #[.slice (some ⟨g, 0, none⟩) 160 cap, .bool true]) ∧ Blk8 w' g 160 (sealF kind n B) ∧ Below w.heap.size w w' ∧ 160 ≤ cap ∧ w.heap.size ≤ g
def RSealRet (kind n : Nat) (B : Nat → Nat) (w : World) (e : Ending) (w' : World) : Prop :=
  ∃ g cap, e = .returned (.tuple #[.slice (some ⟨g, 0, none⟩) 160 cap, .bool true]) ∧ Rd w' (some ⟨g, 0, none⟩) 160 (sealF kind n B) ∧ Below w.heap.size w w' ∧ 160 ≤ cap
theorem head_cat (kind n : Nat) (B : Nat → Nat) (X : Nat → Nat) (h0 : X 0 = kind) (h1 : X 1 = byteAt n 2 0) (h2 : X 2 = byteAt n 2 1) : ∀ j, j < 3 + n → (if j < 3 then X j else B (j - 3)) = headF kind n B j := by
  intro j hj
  unfold headF
  by_cases e0 : j = 0
  · subst e0; rw [if_pos (by omega), if_pos rfl, h0]
  · rw [if_neg e0]
    by_cases e1 : j = 1
    · subst e1; rw [if_pos (by omega), if_pos rfl, h1]
    · rw [if_neg e1]
      by_cases e2 : j = 2
      · subst e2; rw [if_pos (by omega), if_pos rfl, h2]
      · rw [if_neg e2, if_neg (by omega), if_pos hj]
theorem head_zero {kind n : Nat} (B : Nat → Nat) {m : Nat} (hm : 3 + n ≤ m) : headF kind n B m = 0 := by
  unfold headF
  rw [if_neg (by omega), if_neg (by omega), if_neg (by omega), if_neg (by omega)]
theorem byte4_lit (S : Nat) (h : S < 4294967291) : (#[.int .u8 ((S : Int) / 16777216), .int .u8 ((S : Int) / 65536 % 256), .int .u8 ((S : Int) / 256 % 256), .int .u8 ((S : Int) % 256)] : Array Value).toList = rowL 4 (byteAt S 4) := by
  show _ = [Value.int .u8 ((byteAt S 4 0 : Nat) : Int), Value.int .u8 ((byteAt S 4 1 : Nat) : Int), Value.int .u8 ((byteAt S 4 2 : Nat) : Int), Value.int .u8 ((byteAt S 4 3 : Nat) : Int)]
  have e0 : byteAt S 4 0 = S / 16777216 := by unfold byteAt; show S / 16777216 % 256 = _; omega
  have e1 : byteAt S 4 1 = S / 65536 % 256 := by unfold byteAt; rfl
  have e2 : byteAt S 4 2 = S / 256 % 256 := by unfold byteAt; rfl
  have e3 : byteAt S 4 3 = S % 256 := by unfold byteAt; show S / 1 % 256 = _; omega
  rw [e0, e1, e2, e3]
  rfl
theorem rsealB (kind n cap : Nat) (A : Option Addr) (B : Nat → Nat) (w : World) (hk1 : 1 ≤ kind) (hk2 : kind < 256) (hn : n ≤ 153) (h : Rd w A n B) (hB : ∀ j, j < n → B j < 256) :
    Calls Try.prog 16 #[.int .i64 (kind : Int), .slice A n cap] w (RSealRetB kind n B w) := by
  have HR := Lib.hid h
  have HB := Lib.hid hB
  have t1 : ¬ (kind : Int) < 1 := by omega
  have t2 : ¬ (255 : Int) < (kind : Int) := by omega
  have t3 : ¬ (153 : Int) < (n : Int) := by omega
  clear h hB
  go_enter Try.func16, Try.ntmps16
  have hLit : (#[.int .u8 (kind : Int), .int .u8 ((n : Int) / 256), .int .u8 (n : Int)] : Array Value).toList = rowL 3 (fun j => if j = 0 then kind else if j = 1 then n / 256 else n) := by
    show _ = [Value.int .u8 _, Value.int .u8 _, Value.int .u8 _]
    rfl
  have HO0 : Hid ((w.alloc (.cells #[.int .u8 (kind : Int), .int .u8 ((n : Int) / 256), .int .u8 (n : Int)] 5)).ownsRow w.heap.size 5 1 (.slice (some ⟨w.heap.size, 0, none⟩) 3 3) 3 (rowL 3 (fun j => if j = 0 then kind else if j = 1 then n / 256 else n))) := Lib.hid (own_of_block (alloc_block w _) (Nat.le_refl _) (by omega) hLit)
  have HB0 : Hid (Below w.heap.size w (w.alloc (.cells #[.int .u8 (kind : Int), .int .u8 ((n : Int) / 256), .int .u8 (n : Int)] 5))) := Lib.hid ((Below.refl _ _).alloc (Nat.le_refl _) _)
  clear hLit
  go_wp2_with (at_builtin; refine append_rd _ rfl (.tmp 28) (.tmp 29) 22 rfl Try.underlying22 w.heap.size (.slice (some ⟨w.heap.size, 0, none⟩) 3 3) 3 _ rfl HO0.out A n cap B rfl (HR.out.keep HB0.out) (by omega) HB0.out.size ?_; intro v1 w1 own gr _ hne; have HO1 : Hid (w1.ownsRow w.heap.size 5 1 v1 (3 + n) (rowL (3 + n) (headF kind n B))) := Lib.hid (own_congr own (head_cat kind n B _ rfl (by show n / 256 = _; unfold byteAt; show _ = n / 256 % 256; omega) (by show n = _; unfold byteAt; show _ = n / 1 % 256; omega))); have HB1 : Hid (Below w.heap.size w w1) := Lib.hid (Below.grown HB0.out gr HB0.out.size (fun k hk => by cases hk; exact Nat.le_refl _)); obtain ⟨g1, c1, hv, _⟩ := own_some own (hne (by simp)); have HV1 := Lib.hid hv; clear own gr hne hv)
  obtain rfl := HV1.out
  clear HO0 HB0 HV1
  obtain ⟨H, hH⟩ : ∃ H, w.heap.size = H := ⟨_, rfl⟩
  rw [hH] at HO1 HB1
  have HH := Lib.hid hH
  clear hH
  go_loopg [6] (156 - (3 + n)) (fun q s6 v => ∃ m g c : Nat, s6 = .slice (some ⟨g, 0, none⟩) m c ∧ 3 + n ≤ m ∧ m ≤ 156 ∧ q = 156 - m ∧ Hid (v.ownsRow H 5 1 (.slice (some ⟨g, 0, none⟩) m c) m (rowL m (headF kind n B)) ∧ Below H w v))
  case atStart => exact ⟨_, _, _, rfl, by omega, by omega, rfl, Lib.hid ⟨HO1.out, HB1.out⟩⟩
  case round =>
    obtain ⟨m, g, c, rfl, hm1, hm2, rfl, HV⟩ := hrel
    clear HO1 HB1
    by_cases hlt : m < 156
    · have hl : (m : Int) < 156 := by omega
      have HZ := Lib.hid (head_zero (kind := kind) B hm1)
      have HSZ : Hid (H ≤ wr.heap.size) := Lib.hid (by rw [← HH.out]; exact HV.out.2.size)
      have HB0 : Hid (Below wr.heap.size wr (wr.alloc (.cells #[.int .u8 0] 5))) := Lib.hid ((Below.refl _ _).alloc (Nat.le_refl _) _)
      have HR0 : Hid (Rd (wr.alloc (.cells #[.int .u8 0] 5)) (some ⟨wr.heap.size, 0, none⟩) 1 (fun _ => 0)) := Lib.hid (lit_rd (by omega) rfl)
      have HO0 := Lib.hid (own_keep HV.out.1 HB0.out)
      go_wp2_with (at_builtin; refine append_rd _ rfl (.tmp 34) (.tmp 35) 22 rfl Try.underlying22 H (.slice (some ⟨g, 0, none⟩) m c) m _ rfl HO0.out (some ⟨wr.heap.size, 0, none⟩) 1 1 (fun _ => 0) rfl HR0.out (by omega) (Nat.le_trans HSZ.out HB0.out.size) ?_; intro v1 w1 own gr _ hne; have HO2 : Hid (w1.ownsRow H 5 1 v1 (m + 1) (rowL (m + 1) (headF kind n B))) := Lib.hid (own_congr own (fun j hj => by
        by_cases e : j < m
        · rw [if_pos e]
        · obtain rfl : j = m := by omega
          rw [if_neg e, HZ.out])); have HB2 : Hid (Below H w w1) := Lib.hid (Below.grown (HV.out.2.trans (HB0.out.mono HSZ.out)) gr (Nat.le_trans HSZ.out HB0.out.size) (fun k hk => (HO0.out.lt k hk).1)); obtain ⟨g1, c1, hv, _⟩ := own_some own (hne (by simp)); have HV1 := Lib.hid hv; clear own gr hne hv)
      obtain rfl := HV1.out
      go_roundg (156 - (m + 1))
      case measure => omega
      case rel => exact ⟨m + 1, g1, c1, rfl, by omega, by omega, rfl, Lib.hid ⟨HO2.out, HB2.out⟩⟩
    · obtain rfl : m = 156 := by omega
      have hge : ¬ ((156 : Nat) : Int) < 156 := by omega
      have HRD := Lib.hid (own_rd HV.out.1)
      have HSM := Lib.hid (rsum (some ⟨g, 0, none⟩) 156 c (headF kind n B) wr HRD.out (fun j _ => headF_lt hk2 HB.out j) (by omega))
      have hls := sumF_lt (headF kind n B) 156
      obtain ⟨S, hS⟩ : ∃ S, sumF (headF kind n B) 156 = S := ⟨_, rfl⟩
      have HS := Lib.hid hS
      rw [hS] at HSM hls
      clear hS
      go_wp2_with fail
      refine HSM.out.mono ?_
      rintro e w2 ⟨rfl, d, rfl⟩
      try dsimp only
      have HL4 : Hid ((#[.int .u8 ((S : Int) / 16777216), .int .u8 ((S : Int) / 65536 % 256), .int .u8 ((S : Int) / 256 % 256), .int .u8 ((S : Int) % 256)] : Array Value).toList = rowL 4 (byteAt S 4)) := Lib.hid (byte4_lit S hls)
      have HB0 : Hid (Below (wr.drewN d).heap.size (wr.drewN d) ((wr.drewN d).alloc (.cells #[.int .u8 ((S : Int) / 16777216), .int .u8 ((S : Int) / 65536 % 256), .int .u8 ((S : Int) / 256 % 256), .int .u8 ((S : Int) % 256)] 5))) := Lib.hid ((Below.refl _ _).alloc (Nat.le_refl _) _)
      have HRB : Hid (Rd ((wr.drewN d).alloc (.cells #[.int .u8 ((S : Int) / 16777216), .int .u8 ((S : Int) / 65536 % 256), .int .u8 ((S : Int) / 256 % 256), .int .u8 ((S : Int) % 256)] 5)) (some ⟨(wr.drewN d).heap.size, 0, none⟩) 4 (byteAt S 4)) := Lib.hid (lit_rd (by omega) HL4.out)
      have HO0 := Lib.hid (own_keep (w := wr.drewN d) HV.out.1 HB0.out)
      have HSZ : Hid (H ≤ (wr.drewN d).heap.size) := Lib.hid (by rw [← HH.out]; exact HV.out.2.size)
      have HBV : Hid (Below H w (wr.drewN d)) := Lib.hid (HV.out.2.trans ((below_drewN d wr).mono HSZ.out))
      go_wp2_with (at_builtin; refine append_rd _ rfl (.tmp 39) (.tmp 51) 22 rfl Try.underlying22 H (.slice (some ⟨g, 0, none⟩) 156 c) 156 _ rfl HO0.out (some ⟨(wr.drewN d).heap.size, 0, none⟩) 4 4 (byteAt S 4) rfl HRB.out (by omega) (Nat.le_trans HSZ.out HB0.out.size) ?_; intro v1 w1 own gr _ hne; have HO2 : Hid (w1.ownsRow H 5 1 v1 160 (rowL 160 (sealF kind n B))) := Lib.hid (own_congr own (fun j hj => by
        unfold sealF
        by_cases e : j < 156
        · rw [if_pos e, if_pos e]
        · rw [if_neg e, if_neg e, HS.out])); have HB2 : Hid (Below H w w1) := Lib.hid (Below.grown (HBV.out.trans (HB0.out.mono HSZ.out)) gr (Nat.le_trans HSZ.out HB0.out.size) (fun k hk => (HO0.out.lt k hk).1)); obtain ⟨g1, c1, hv, _⟩ := own_some own (hne (by simp)); have HV1 := Lib.hid hv; clear own gr hne hv)
      obtain rfl := HV1.out
      go_ret2
      exact ⟨_, _, rfl, own_blk HO2.out, by rw [HH.out]; exact HB2.out, own_cap HO2.out, by rw [HH.out]; exact own_ge8 HO2.out⟩
theorem rseal (kind n cap : Nat) (A : Option Addr) (B : Nat → Nat) (w : World) (hk1 : 1 ≤ kind) (hk2 : kind < 256) (hn : n ≤ 153) (h : Rd w A n B) (hB : ∀ j, j < n → B j < 256) :
    Calls Try.prog 16 #[.int .i64 (kind : Int), .slice A n cap] w (RSealRet kind n B w) := by
  refine (rsealB kind n cap A B w hk1 hk2 hn h hB).mono ?_
  rintro e w' ⟨g, c, rfl, h1, h2, h3, _⟩
  exact ⟨g, c, rfl, h1.rd, h2, h3⟩
theorem rseal_no (kind : Int) (n cap : Nat) (A : Option Addr) (w : World) (hn : n ≤ 9223372036854775807) (h : ¬ (1 ≤ kind ∧ kind < 256 ∧ n ≤ 153)) :
    Calls Try.prog 16 #[.int .i64 kind, .slice A n cap] w fun e w' => e = .returned (.tuple #[.slice none 0 0, .bool false]) ∧ w' = w := by
  by_cases h1 : kind < 1
  · clear h
    go_enter Try.func16, Try.ntmps16
    go_wp2_with fail
    go_ret2
    exact ⟨rfl, rfl⟩
  · by_cases h2 : 255 < kind
    · clear h
      go_enter Try.func16, Try.ntmps16
      go_wp2_with fail
      go_ret2
      exact ⟨rfl, rfl⟩
    · have h3 : (153 : Int) < (n : Int) := by omega
      clear h
      go_enter Try.func16, Try.ntmps16
      go_wp2_with fail
      go_ret2
      exact ⟨rfl, rfl⟩
end Go.Proofs.Ytjbicpekpgaokaa
