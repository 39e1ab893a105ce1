import Derived.Test.YtofmilkjhnkgjaaGreatW27
import Derived.Test.YtofmilkjhnkgjaaGreatW46
namespace Go.Proofs.YtofmilkjhnkgjaaGreat
open Go.RowKit Go.Sort
set_option maxRecDepth 100000
set_option maxHeartbeats 1000000

theorem rwipe {w : World} {r : Nat} {S : List Nat} {N : Nat} {d : Disk} {nw : Nat} (h : RPlt w r S N d nw) :
    Calls Tryz.prog 30 #[.pointer (some ⟨r, 0, none⟩)] w (RRet r S N Disk.blank nw w) := by
  obtain ⟨zs, z0, z1, z2⟩ := make8s 160 (by omega)
  have z3 : ∀ W : World, Sem.run Tryz.prog (Instr.makeSlice 35 (.int .i64 160) (.int .i64 160)) W = .ok (.slice (some ⟨W.heap.size, 0, none⟩) 160 160) (W.alloc (.cells zs 5)) := z2
  have HZ : Hid (∀ W : World, Blk8 (W.alloc (.cells zs 5)) W.heap.size 160 (fun _ => 0)) := Lib.hid (fun W => Blk8.new z0 z1)
  obtain ⟨dv, pv, h, rfl⟩ := h
  have hN := h.n2
  have HP := Lib.hid h
  clear h z0 z1 z2
  go_enter Tryz.func30, Tryz.ntmps30
  go_wp2_with fail
  go_loopg [2] N (fun q s2 v => ∃ i : Nat, s2 = .int .i64 (i : Int) ∧ i ≤ N ∧ q = N - i ∧ Hid (∃ dv' D, RPltV v r N dv' pv ⟨D, d.pend⟩ nw ∧ (∀ k, k < i → D k = fun _ => 0) ∧ Turn [r] w v ∧ ∀ j ∈ pb dv', j ∈ pb dv ∨ w.heap.size ≤ j))
  case atStart => exact ⟨0, rfl, by omega, rfl, Lib.hid ⟨dv, d.done, HP.out, fun k hk => absurd hk (Nat.not_lt_zero _), Turn.refl _ _, fun _ h => Or.inl h⟩⟩
  case round =>
    obtain ⟨i, rfl, hi, rfl, HS⟩ := hrel
    obtain ⟨dv', D, hv, hD, ht, hs⟩ := HS.out
    have HV := Lib.hid hv
    have HD := Lib.hid hD
    have HT := Lib.hid ht
    have HSS := Lib.hid hs
    clear HS hv hD ht hs
    generalize wr = v at *
    obtain ⟨g, cap, rfl, _⟩ := HV.out.slice
    have c1 := HV.out.c0
    by_cases hlt : i < N
    · have t1 : (i : Int) < (N : Int) := by omega
      have v1 : Sem.run Tryz.prog (convert 35 9 (.slice (some ⟨v.heap.size, 0, none⟩) 160 160)) (v.alloc (.cells zs 5)) = .ok (.string (bstr (fun _ => 0))) (v.alloc (.cells zs 5)) := conv_rd (HZ.out v).rd
      have HR := Lib.hid (rset i (fun _ => 0) (HV.out.keep (w' := v.alloc (.cells zs 5)) (fun k hk => alloc_old _ _ (by obtain ⟨cs, t, hc, _⟩ := HV.out.type hk; exact heap_lt hc))) hlt)
      go_wp2_with fail
      refine HR.out.mono ?_
      rintro e w4 ⟨dv4, rfl, v4, t4, s4⟩
      try dsimp only
      have HV4 := Lib.hid v4
      have HT4 := Lib.hid ((HT.out.trans (Turn.alloc _ _ _)).trans t4)
      have HS4 : Hid (∀ j ∈ pb dv4, j ∈ pb dv ∨ w.heap.size ≤ j) := Lib.hid (fun j hj => Or.inr (by have := s4 j hj; have := HT.out.size; simp at *; omega))
      clear v4 t4 s4
      go_wp2_with fail
      go_roundg (N - (i + 1))
      case measure => omega
      case rel => exact ⟨i + 1, by go_num, by omega, rfl, Lib.hid ⟨dv4, _, HV4.out, fun k hk => by
        simp only [upd]
        by_cases e : k = i
        · rw [if_pos e]
        · rw [if_neg e]; exact HD.out k (by omega), HT4.out, HS4.out⟩⟩
    · obtain rfl : i = N := by omega
      have t1 : ¬ (i : Int) < (i : Int) := by omega
      have f1 := HV.out.f 1
      have c2 := HV.out.c1
      have HE := Lib.hid (rret (d := Disk.blank) (dv := dv) (HV.out.congr HD.out) HT.out HSS.out rfl)
      clear hlt
      go_wp2_with fail
      go_end0
      exact HE.out
end Go.Proofs.YtofmilkjhnkgjaaGreat
namespace Go.Proofs.YtofmilkjhnkgjaaGreat
open Go.RowKit Go.Sort
set_option maxRecDepth 100000
set_option maxHeartbeats 2000000

/-! The reference's node begins, falls, is lost. -/
theorem ns_startR {w2 : World} {n b p boot nw : Nat} {S : List Nat} {t : Td} {X : Nat → Sx} {v1 : Value} (h2 : w2.heap[n]? = some (.cells #[.pointer (some ⟨p, 0, none⟩), v1, .int .i64 (boot : Int)] 50 (0, 0))) (hr : RgR w2 b p (lastOf (ringOf t) 16) S t.disk nw X) (hs : ∀ k, k < 16 → SaysR (X k) (ringOf t k)) :
    NdR ((w2.setCell ⟨n, 1, none⟩ (.pointer (some ⟨b, 0, none⟩))).setCell ⟨n, 2, none⟩ (.int .i64 ((boot + 1 : Nat) : Int))) n b p S (Ns.start t boot nw) := by
  have k1 : (w2.setCell ⟨n, 1, none⟩ (.pointer (some ⟨b, 0, none⟩))).heap[n]? = some (.cells #[.pointer (some ⟨p, 0, none⟩), .pointer (some ⟨b, 0, none⟩), .int .i64 (boot : Int)] 50 (0, 0)) := set_block h2 1 _
  have k2 : NdRB ((w2.setCell ⟨n, 1, none⟩ (.pointer (some ⟨b, 0, none⟩))).setCell ⟨n, 2, none⟩ (.int .i64 ((boot + 1 : Nat) : Int))) n p b (boot + 1) := set_block k1 2 _
  have g1 := hr.set (k := 1) (v := .pointer (some ⟨b, 0, none⟩)) h2 (by decide) (by decide) (by decide) (by decide) (by decide)
  have g2 := g1.set (k := 2) (v := .int .i64 ((boot + 1 : Nat) : Int)) k1 (by decide) (by decide) (by decide) (by decide) (by decide)
  exact ⟨k2, X, g2, hs⟩
def FallRetR (n p : Nat) (S : List Nat) (x : Ns) (w : World) (e : Ending) (w' : World) : Prop :=
  ∃ b S', e = .returned (.tuple #[]) ∧ NdR w' n b p S' x ∧ Turn (n :: S) w w' ∧ w.heap.size ≤ b ∧ ∀ j ∈ S', j ∈ S ∨ w.heap.size ≤ j
theorem rncrashN {w : World} {n b p : Nat} {S : List Nat} {a : Ns} (h : NdR w n b p S a) (ho : a.Ok) (A : Option Addr) (xs : List Int) (c : Nat) (hxs : Nums w A xs) (hlen : xs.length ≤ 9223372036854775807) (hA : 0 < xs.length → ∀ g o, A = some ⟨g, o, none⟩ → g ∉ [p]) (hw : a.nw ≤ 1000000000) (hl : a.last ≤ 1000000000) (hb : a.boot ≤ 1000000000) :
    Calls Tryz.prog 9 #[.pointer (some ⟨n, 0, none⟩), .slice A xs.length c] w (FallRetR n p S (a.crash xs) w) := by
  have HC := Lib.hid (rcrashN A xs c h.plt hxs hlen hA hw)
  have HN := Lib.hid h
  have n0 := h.nb.c0
  have HTD := Lib.hid (And.intro (ho.td.crash (keepF xs)) hl)
  have HW := Lib.hid hw
  have HB := Lib.hid hb
  obtain ⟨m, hm⟩ : ∃ m, xs.length = m := ⟨_, rfl⟩
  rw [hm] at HC ⊢
  clear ho hxs hlen hA hl hm
  clear h hw hb
  go_enter Tryz.func9, Tryz.ntmps9
  go_wp2_with fail
  refine HC.out.mono ?_
  rintro e w2 ⟨S', rfl, hp2, ht2⟩
  try dsimp only
  have hnb := HN.out.nb.keep (ht2.turn.block n HN.out.nb.lt (fun hm => HN.out.nS (by simp [hm])))
  rw [← disk_crash] at hp2
  have HOP := Lib.hid (ropen hp2 (HTD.out.1.ringOn HTD.out.2) HTD.out.1.bd HW.out)
  have HNB := Lib.hid hnb
  have c0 := hnb.c0
  have HT2 := Lib.hid ht2
  clear hnb hp2 ht2 HC n0
  go_wp2_with fail
  refine HOP.out.mono ?_
  rintro e w3 ⟨r, X, rfl, hr1, hr2, hr3, hr4, hb3, hr5⟩
  try dsimp only
  have h3 := (HNB.out.below hb3)
  have H3 := Lib.hid h3
  have HR := Lib.hid (RgR.mk hr1 hr2 hr4)
  have HS := Lib.hid hr3
  have HB3 := Lib.hid hb3
  have HR5 := Lib.hid hr5
  have d0 := h3.c0
  have d1 := h3.c1
  have d2 := h3.c2
  have df := h3.f
  have hwp : IntKind.i64.wrap ((a.boot : Int) + 1) = ((a.boot + 1 : Nat) : Int) := by rw [IntWalk.i64_in _ (by have := HB.out; omega)]; omega
  obtain ⟨b1, hb1⟩ : ∃ b1, a.boot + 1 = b1 := ⟨_, rfl⟩
  rw [hb1] at hwp
  have HB1 := Lib.hid hb1
  clear hb1 h3 hr1 hr2 hr3 hr4 hr5 hb3 HOP c0
  go_wp2_with fail
  go_end0
  have hbb := HB1.out
  subst hbb
  have g := ns_startR (t := a.t.crash (keepF xs)) H3.out HR.out HS.out
  have hs := HT2.out.turn.size
  exact ⟨r, S', rfl, g, ((HT2.out.turn.mono (fun k hk => by simp [hk])).trans (Turn.of HB3.out)).trans ((Turn.set (n :: S) w3 ⟨n, 1, none⟩ _ (by simp)).trans (Turn.set (n :: S) _ ⟨n, 2, none⟩ _ (by simp))), Nat.le_trans hs HR5.out, HT2.out.blocks⟩
theorem rnlose {w : World} {n b p : Nat} {S : List Nat} {a : Ns} (h : NdR w n b p S a) (hw : a.nw ≤ 1000000000) (hb : a.boot ≤ 1000000000) :
    Calls Tryz.prog 11 #[.pointer (some ⟨n, 0, none⟩)] w (FallRetR n p S a.lose w) := by
  have HC := Lib.hid (rwipe h.plt)
  have HN := Lib.hid h
  have n0 := h.nb.c0
  have HTD := Lib.hid (And.intro (Td.Ok.blank 0) (Nat.zero_le 1000000000))
  have HW := Lib.hid hw
  have HB := Lib.hid hb
  clear h hw hb
  go_enter Tryz.func11, Tryz.ntmps11
  go_wp2_with fail
  refine HC.out.mono ?_
  rintro e w2 ⟨S', rfl, hp2, ht2⟩
  try dsimp only
  have hnb := HN.out.nb.keep (ht2.turn.block n HN.out.nb.lt (fun hm => HN.out.nS (by simp [hm])))
  rw [← disk_blank] at hp2
  have HOP := Lib.hid (ropen hp2 (HTD.out.1.ringOn HTD.out.2) HTD.out.1.bd HW.out)
  have HNB := Lib.hid hnb
  have c0 := hnb.c0
  have HT2 := Lib.hid ht2
  clear hnb hp2 ht2 HC n0
  go_wp2_with fail
  refine HOP.out.mono ?_
  rintro e w3 ⟨r, X, rfl, hr1, hr2, hr3, hr4, hb3, hr5⟩
  try dsimp only
  have h3 := (HNB.out.below hb3)
  have H3 := Lib.hid h3
  have HR := Lib.hid (RgR.mk hr1 hr2 hr4)
  have HS := Lib.hid hr3
  have HB3 := Lib.hid hb3
  have HR5 := Lib.hid hr5
  have d0 := h3.c0
  have d1 := h3.c1
  have d2 := h3.c2
  have df := h3.f
  have hwp : IntKind.i64.wrap ((a.boot : Int) + 1) = ((a.boot + 1 : Nat) : Int) := by rw [IntWalk.i64_in _ (by have := HB.out; omega)]; omega
  obtain ⟨b1, hb1⟩ : ∃ b1, a.boot + 1 = b1 := ⟨_, rfl⟩
  rw [hb1] at hwp
  have HB1 := Lib.hid hb1
  clear hb1 h3 hr1 hr2 hr3 hr4 hr5 hb3 HOP c0
  go_wp2_with fail
  go_end0
  have hbb := HB1.out
  subst hbb
  have g := ns_startR (t := Td.blank) H3.out HR.out HS.out
  have hs := HT2.out.turn.size
  exact ⟨r, S', rfl, g, ((HT2.out.turn.mono (fun k hk => by simp [hk])).trans (Turn.of HB3.out)).trans ((Turn.set (n :: S) w3 ⟨n, 1, none⟩ _ (by simp)).trans (Turn.set (n :: S) _ ⟨n, 2, none⟩ _ (by simp))), Nat.le_trans hs HR5.out, HT2.out.blocks⟩
def NewRetR (w : World) (e : Ending) (w' : World) : Prop := ∃ n b p S, e = .returned (.pointer (some ⟨n, 0, none⟩)) ∧ NdR w' n b p S Ns.new ∧ Below w.heap.size w w' ∧ ∀ k ∈ n :: b :: p :: S, w.heap.size ≤ k
theorem rnnew (w : World) : Calls Tryz.prog 6 #[] w (NewRetR w) := by
  have HN := Lib.hid (rnew w 96 (by omega) (by omega))
  go_enter Tryz.func6, Tryz.ntmps6
  go_wp2_with fail
  refine HN.out.mono ?_
  rintro e w1 ⟨p, S, rfl, hp1, hb1, hS1⟩
  try dsimp only
  have hpS : p ∈ S := by
    obtain ⟨_, _, _, e⟩ := hp1
    rw [e]
    simp
  have HPS := Lib.hid hpS
  rw [← disk_blank] at hp1
  have HOP := Lib.hid (ropen hp1 ((Td.Ok.blank 0).ringOn (Nat.zero_le _)) (Td.Ok.blank 0).bd (Nat.zero_le _))
  have HB1 := Lib.hid hb1
  have HS1 := Lib.hid hS1
  clear hp1 hb1 hS1 hpS HN
  go_wp2_with fail
  refine HOP.out.mono ?_
  rintro e w3 ⟨r, X, rfl, hr1, hr2, hr3, hr4, hb3, hr5⟩
  try dsimp only
  have HR := Lib.hid (RgR.mk hr1 hr2 hr4)
  have HS := Lib.hid hr3
  have HB3 := Lib.hid hb3
  have HR5 := Lib.hid hr5
  clear hr1 hr2 hr3 hr4 hr5 hb3 HOP
  go_wp2_with fail
  go_ret
  have hb4 : Below w3.heap.size w3 (w3.alloc (.cells #[.pointer (some ⟨p, 0, none⟩), .pointer (some ⟨r, 0, none⟩), .int .i64 1] 50)) := (Below.refl _ _).alloc (Nat.le_refl _) _
  have h4 : NdRB (w3.alloc (.cells #[.pointer (some ⟨p, 0, none⟩), .pointer (some ⟨r, 0, none⟩), .int .i64 1] 50)) w3.heap.size p r 1 := alloc_block w3 _
  have s1 := HB1.out.size
  have s3 := HB3.out.size
  have hR := HR5.out
  refine ⟨_, r, p, S, rfl, ⟨h4, X, HR.out.below hb4, HS.out⟩, HB1.out.trans ((HB3.out.trans (hb4.mono s3)).mono s1), fun k hk => ?_⟩
  simp only [List.mem_cons] at hk
  rcases hk with rfl | rfl | rfl | hk
  · omega
  · omega
  · exact HS1.out _ HPS.out
  · exact HS1.out _ hk
end Go.Proofs.YtofmilkjhnkgjaaGreat
