import Derived.Test.YtobkmohoepgfmaaGreatDoorV44
import Derived.Test.YtobkmohoepgfmaaGreatDoorV47
import Derived.Deep.MidRow
import Derived.Test.YtobkmohoepgfmaaGreatDoorV43
namespace Go.Proofs.YtobkmohoepgfmaaGreatDoor
open Go.RowKit Go.Sort
set_option maxRecDepth 100000
set_option maxHeartbeats 8000000

theorem o_clone0 (w : World) : Calls Tryz.prog 59 #[.slice none 0 0] w fun e w' => e = .returned (.slice none 0 0) ∧ w' = w := by
 have q : ∀ w : World, (binOp .eql 30 (.slice none 0 0) (.slice none 0 0)).run Tryz.prog w = .ok (.bool true) w := fun w => by kernel_rfl
 go_enter Tryz.func59, Tryz.ntmps59
 go_wp2
 go_ret
 exact ⟨rfl, rfl⟩
theorem iinsert1 (A : Option Addr) (n c : Nat) (f : Value) (w : World) (hn : n ≤ 1) :
  Calls Tryz.prog 121 #[.slice A n c, .int .i64 0, .int .i64 (n : Int), f] w fun e w' => e = .returned (.tuple #[]) ∧ w' = w := by
 have h1 : ¬ (1 : Int) < (n : Int) := by omega
 go_enter Tryz.func121, Tryz.ntmps121
 go_wp2_with fail
 refine wp_loop_rounds 1 ?_
 rw [rounds_succ]
 go_wp2_with fail
 go_end0
 exact ⟨rfl, rfl⟩
theorem ipdq (A : Option Addr) (n c : Nat) (l : Int) (f : Value) (w : World) (Q : Ending → World → Prop) (hn : n ≤ 12)
  (h : Calls Tryz.prog 121 #[.slice A n c, .int .i64 0, .int .i64 (n : Int), f] w fun e w' => e = .returned (.tuple #[]) ∧ Q (.returned (.tuple #[])) w') :
  Calls Tryz.prog 90 #[.slice A n c, .int .i64 0, .int .i64 (n : Int), .int .i64 l, f] w Q := by
 have HC := Lib.hid h
 have h12 : (n : Int) ≤ 12 := by omega
 clear h
 go_enter Tryz.func90, Tryz.ntmps90
 go_wp2_with fail
 refine wp_loop_rounds 1 ?_
 rw [rounds_succ]
 go_wp2_with fail
 refine HC.out.mono ?_
 rintro e w2 ⟨rfl, hq⟩
 try dsimp only
 have HQ := Lib.hid hq
 clear hq
 go_wp2_with fail
 go_end0
 exact HQ.out
theorem isort (A : Option Addr) (n c : Nat) (f : Value) (w : World) (Q : Ending → World → Prop) (hn : n < 3)
  (h : Calls Tryz.prog 121 #[.slice A n c, .int .i64 0, .int .i64 (n : Int), f] w fun e w' => e = .returned (.tuple #[]) ∧ Q (.returned (.tuple #[])) w') :
  Calls Tryz.prog 60 #[.slice A n c, f] w Q := by
 have HL := Lib.hid (blen n hn w)
 have HC := Lib.hid (ipdq A n c (n : Int) f w (fun e w' => e = .returned (.tuple #[]) ∧ Q (.returned (.tuple #[])) w') (by omega) (h.mono (by rintro e w' ⟨rfl, hq⟩; exact ⟨rfl, rfl, hq⟩)))
 clear h
 go_enter Tryz.func60, Tryz.ntmps60
 go_wp2_with fail
 refine HL.out.mono ?_
 rintro e w' ⟨rfl, hw⟩
 obtain rfl := hw.symm
 go_wp2_with fail
 refine HC.out.mono ?_
 rintro e w2 ⟨rfl, hq⟩
 try dsimp only
 have HQ := Lib.hid hq
 clear hq
 go_wp2_with fail
 go_end0
 exact HQ.out
theorem o_sort0 (fv : Value) (w : World) : Calls Tryz.prog 60 #[.slice none 0 0, fv] w fun e w' => e = .returned (.tuple #[]) ∧ w' = w :=
 isort none 0 0 fv w _ (by omega) ((iinsert1 none 0 0 fv w (by omega)).mono (by rintro e w' ⟨rfl, rfl⟩; exact ⟨rfl, rfl, rfl⟩))
theorem o_all0 {w : World} {hb : Nat} {x : Value} (h : w.heap[hb]? = some (.cells #[.slice none 0 0, x] 127 (0, 0))) : Calls Tryz.prog 33 #[.pointer (some ⟨hb, 0, none⟩)] w fun e w' => e = .returned (.slice none 0 0) ∧ w' = w := by
 have x0 : w.cell? ⟨hb, 0, none⟩ = some (.slice none 0 0) := cell_of_block h
 clear h
 go_enter Tryz.func33, Tryz.ntmps33
 go_wp2_with fail
 refine (o_clone0 w).mono ?_
 rintro e w1 ⟨rfl, rfl⟩
 go_wp2_with fail
 refine (o_sort0 _ _).mono ?_
 rintro e w2 ⟨rfl, rfl⟩
 go_wp2_with fail
 go_ret
 exact ⟨rfl, rfl⟩

theorem heap_notW : ¬ WiT 127 := notWi (by decide) (by decide) (by decide) (by decide) (by decide) (by decide) (by decide)
theorem missN_w (e : Ep) (k : Nat) : (missN e (k + 1)).1 = (lackF { e with w := (missN e k).1 } k).1 := rfl
theorem missN_pre {e : Ep} : ∀ {k j : Nat}, j ≤ k → (missN e k).2 = [] → (missN e j).2 = []
 | 0, j, h, h0 => by obtain rfl : j = 0 := by omega
           exact h0
 | k + 1, j, h, h0 => by
  have h1 : (missN e k).2 = [] := by
   have : (missN e k).2 ++ _ = [] := h0
   exact (List.append_eq_nil_iff.1 this).1
  by_cases e1 : j = k + 1
  ·subst e1; exact h0
  ·exact missN_pre (by omega) h1
theorem missN_step {e : Ep} {k : Nat} (h : (missN e (k + 1)).2 = []) : (lackF { e with w := (missN e k).1 } k).2 = 0 ∧ (e.pend k).isSome = false ∧ e.doubt k = false := by
 have h1 : (missN e k).2 ++ (if 0 < (lackF { e with w := (missN e k).1 } k).2 ∨ (e.pend k).isSome = true ∨ e.doubt k = true then [(k, (lackF { e with w := (missN e k).1 } k).2)] else []) = [] := h
 have h2 := (List.append_eq_nil_iff.1 h1).2
 by_cases hc : 0 < (lackF { e with w := (missN e k).1 } k).2 ∨ (e.pend k).isSome = true ∨ e.doubt k = true
 ·rw [if_pos hc] at h2; cases h2
 ·refine ⟨by omega, ?_, ?_⟩
  ·cases hq : (e.pend k).isSome
   ·rfl
   ·exact absurd (Or.inr (Or.inl hq)) hc
  ·cases hq : e.doubt k
   ·rfl
   ·exact absurd (Or.inr (Or.inr hq)) hc
theorem lackF_fit {e : Ep} {m st : Nat} (h : e.w.Fit m) : (lackF e st).1.Fit (m + 18) := by
 unfold lackF
 split
 ·exact h.mono (by omega)
 ·exact (lackN_fit h 6).mono (by omega)
theorem missN_fit {e : Ep} {m : Nat} (h : e.w.Fit m) : ∀ k, (missN e k).1.Fit (m + 18 * k)
 | 0 => h
 | k + 1 => by
  rw [missN_w]
  have ih := missN_fit h k
  exact (lackF_fit (e := { e with w := (missN e k).1 }) (st := k) ih).mono (by omega)
theorem kn_index (cs : Array Value) {k : Nat} (hk : k < 40) (w : World) : Sem.run Tryz.prog (Instr.index 69 (.agg cs) (.int .i64 (k : Int))) w = .ok (.agg (cs.extract (k * 4) (k * 4 + 4))) w := by
 have h1 : (0 : Int) ≤ (k : Int) ∧ (k : Int) < 40 := by omega
 have h3 : (sizeOf 67).run Tryz.prog w = .ok 4 w := by kernel_rfl
 simp [Instr.index, go_sem, h1, part, h3]
 intro h
 exfalso
 omega
theorem kn_arr (g c : Nat) (e : Ep) (B : Nat → Value) {k : Nat} (hk : k < 40) : (((List.range 160).map (fun j => carF g c e B (j + 1))).toArray).extract (k * 4) (k * 4 + 4) = #[.int .i64 (e.gen k : Int), .int .i64 (e.next k : Int), .bool (e.doubt k), B k] := by
 apply Array.ext
 ·simp
  omega
 ·intro i h1 h2
  have hi : i < 4 := by simpa using h2
  rw [Array.getElem_extract]
  simp only [List.getElem_toArray, List.getElem_map, List.getElem_range]
  match i, hi with
  | 0, _ => rw [show k * 4 + 0 + 1 = 1 + 4 * k by omega, carF_g _ _ _ _ hk]; rfl
  | 1, _ => rw [show k * 4 + 1 + 1 = 2 + 4 * k by omega, carF_n _ _ _ _ hk]; rfl
  | 2, _ => rw [show k * 4 + 2 + 1 = 3 + 4 * k by omega, carF_d _ _ _ _ hk]; rfl
  | 3, _ => rw [show k * 4 + 3 + 1 = 4 + 4 * k by omega, carF_b _ _ _ _ hk]; rfl
theorem kn_all {w0 v : World} {g cb : Nat} {nd : ND} {e : Ep} {A C c f o cap : Nat} {B : Nat → Value} (h : CM w0 v g cb nd e A C c f o cap B) : ∃ L : List Value, v.rangeAt cb 1 L ∧ (Tryz.prog.info? 69).map (·.size) = some L.length ∧
  ∀ k : Nat, k < 40 → ∀ w, Sem.run Tryz.prog (Instr.index 69 (.agg L.toArray) (.int .i64 (k : Int))) w = .ok (.agg #[.int .i64 (e.gen k : Int), .int .i64 (e.next k : Int), .bool (e.doubt k), B k]) w := by
 refine ⟨(List.range 160).map (fun j => carF g c e B (j + 1)), fun j x hj => ?_, ?_, fun k hk w => ?_⟩
 ·obtain ⟨j', hj', rfl⟩ := Option.map_eq_some_iff.1 ((List.getElem?_map ..).symm.trans hj)
  obtain ⟨hl, he⟩ := List.getElem?_eq_some_iff.1 hj'
  simp at hl he
  subst he
  rw [Nat.add_comm 1 j]
  exact h.blk.cell (j := j + 1) (by omega)
 ·rw [List.length_map, List.length_range]
  kernel_rfl
 ·rw [kn_index _ hk w, kn_arr g c e B hk]
section
variable {w0 v : World} {g p lim : Nat} {nd : ND} {e : Ep}
theorem o_missing0 (h : LE w0 v g nd p lim e) {m : Nat} (hf : e.w.Fit m) (hm : m ≤ 900000000) (hno : (missN e 40).2 = []) :
  Calls Tryz.prog 7 #[.pointer (some ⟨p, 0, none⟩)] v fun en w' => en = .returned (.tuple #[.slice none 0 0, .nilIface]) ∧ Below w0.heap.size w0 w' ∧ KeepW v w' := by
 obtain ⟨cb, A, C, c, f, o, cap, B, hw, hc, hep, hpl, hbl, hlv, hw0⟩ := h
 have q1 := we_neqNil
 have q2 := we_neqNilNil
 have x0 := hep.c0
 have HN := Lib.hid (Pk.new8 v)
 have HW := Lib.hid hw
 have HM := Lib.hid hc
 have HF := Lib.hid hf
 have HNO := Lib.hid hno
 have HEP : Hid (EPt v p cb) := Lib.hid hep
 clear hw hc hep hf hno
 go_enter Tryz.func7, Tryz.ntmps7
 go_wp2_with fail
 refine HN.out.mono ?_
 rintro en w1 ⟨rfl, hh, b1⟩
 try dsimp only
 obtain ⟨hb, hhb⟩ : ∃ hb, v.heap.size = hb := ⟨_, rfl⟩
 rw [hhb] at hh ⊢
 have hb1 : w1.heap[hb]? = some (.cells #[.slice none 0 0, .map none] 127 (0, 0)) := by
  rcases hh with ⟨h, _, _⟩ | ⟨g, mb, cap, l, R, _, _, _, hF⟩
  ·exact h
  ·simp at hF
 have HB1 := Lib.hid hb1
 have HKV1 : Hid (KeepW v w1) := Lib.hid (KeepW.of b1)
 have HW1 := Lib.hid (HW.out.below b1)
 have HM1 := Lib.hid (HM.out.below b1)
 have y0 : w1.cell? ⟨p, 0, none⟩ = some (.pointer (some ⟨cb, 0, none⟩)) := (b1.cell (p := ⟨p, 0, none⟩) (heap_lt HEP.out)).trans HEP.out.c0
 have HP1 : Hid (EPt w1 p cb) := Lib.hid ((b1.block p (heap_lt HEP.out)).trans HEP.out)
 clear hh b1 hb1 x0 HN hhb HW HM HEP
 obtain ⟨L, hr, hinf, hix⟩ := kn_all HM1.out
 have HR := Lib.hid hr
 have HINF := Lib.hid hinf
 have HIX := Lib.hid hix
 have HBL : Hid (∀ k : Nat, k < 40 → ∃ P l kk, B k = .slice P l kk ∧ decide (0 < l) = (e.pend k).isSome) := Lib.hid (fun k hk => HM1.out.bl hk)
 clear hix hr hinf
 go_wp2_with (show wpList _ _ _ ((Oper.mk (some 25) _ _ _ _ _) :: _) _ _; refine wpList_load_mid rfl 69 (.tmp 24) rfl cb 1 rfl L _ HR.out Tryz.underlying69 rfl HINF.out ?_)
 clear y0
 go_loopg [26] 40 (fun q s26 wr => ∃ k : Nat, s26 = .int .i64 (k : Int) ∧ k ≤ 40 ∧ q = 40 - k ∧ Hid (WL w0 wr g nd (missN e k).1 ∧ KeepW w1 wr))
 case atStart => exact ⟨0, rfl, by omega, rfl, Lib.hid ⟨HW1.out, KeepW.refl _⟩⟩
 case round =>
  obtain ⟨k, rfl, hk, rfl, HS⟩ := hrel
  obtain ⟨wo, rfl⟩ : ∃ wo : World, wo = wr := ⟨wr, rfl⟩
  by_cases hlt : k < 40
  ·have t1 : (k : Int) < 40 := by omega
   obtain ⟨n1, n2, n3⟩ := missN_step (missN_pre (j := k + 1) (by omega) HNO.out)
   obtain ⟨P, l, kk, hB, hl⟩ := HBL.out k hlt
   rw [n2] at hl
   have hix := HIX.out k hlt
   rw [hB, n3] at hix
   obtain ⟨gk, hgk⟩ : ∃ gk, e.gen k = gk := ⟨_, rfl⟩
   obtain ⟨nk, hnk⟩ : ∃ nk, e.next k = nk := ⟨_, rfl⟩
   rw [hgk, hnk] at hix
   obtain ⟨w5, hw5⟩ : ∃ w5, wo.alloc (.cells #[.int .i64 (gk : Int), .int .i64 (nk : Int), .bool false, .slice P l kk] 67) = w5 := ⟨_, rfl⟩
   have B5 : Below wo.heap.size wo w5 := by rw [← hw5]; exact (Below.refl _ _).alloc (Nat.le_refl _) _
   obtain ⟨q5, hq5⟩ : ∃ q5, wo.heap.size = q5 := ⟨_, rfl⟩
   have hb5 : KV w5 q5 (gk : Int) (nk : Int) false (.slice P l kk) := by rw [← hw5, ← hq5]; exact KV.of_new rfl
   have hK5 : KeepW w1 w5 := HS.out.2.trans (KeepW.of B5)
   have hM5 : CM w0 w5 g cb nd { e with w := (missN e k).1 } A C c f o cap B := (HM1.out.keep (e' := { e with w := (missN e k).1 }) HW1.out HS.out.1 (KeepF.of HS.out.2) rfl rfl rfl rfl).below B5
   have HLK := Lib.hid (o_lacking (e := { e with w := (missN e k).1 }) (HS.out.1.below B5) hM5 (missN_fit HF.out k) (by omega) hlt)
   obtain ⟨sk, hsk⟩ : ∃ sk, (lackF { e with w := (missN e k).1 } k).1 = sk := ⟨_, rfl⟩
   obtain ⟨sz, hsz⟩ : ∃ sz, (lackF { e with w := (missN e k).1 } k).2 = sz := ⟨_, rfl⟩
   rw [hsz, hsk] at HLK
   rw [hsz] at n1
   have hng : ¬ (0 : Int) < (sz : Int) := by omega
   have HSK : Hid ((missN e (k + 1)).1 = sk) := Lib.hid hsk
   have y5 : w5.cell? ⟨p, 0, none⟩ = some (.pointer (some ⟨cb, 0, none⟩)) := EPt.c0 (v := w5) (p := p) (cb := cb) ((hK5.cells HP1.out eng_notW).trans HP1.out)
   have HKV := Lib.hid hb5
   have HK5 := Lib.hid hK5
   have HPN : Hid (∀ W, Calls Tryz.prog 31 #[.agg #[.int .i64 (gk : Int), .int .i64 (nk : Int), .bool false, .slice P l kk]] W fun en w' => en = .returned (.bool false) ∧ Below W.heap.size W w') := Lib.hid (fun W => by have := cy_pending (gk : Int) (nk : Int) false P l kk W; rw [hl] at this; exact this)
   have HV5 := Lib.hid hw5
   have HQ5 := Lib.hid hq5
   clear hw5 hq5 B5 hb5 hK5 hM5 n1 n2 n3 hB hl hgk hnk HS hsk hsz
   go_upto_region 7 with fail
   rw [HV5.out, HQ5.out]
   clear HV5 hix
   go_wp2_with fail
   refine HLK.out.mono ?_
   rintro en w6 ⟨rfl, W6, K6⟩
   try dsimp only
   have HW6 := Lib.hid W6
   have HK6 := Lib.hid (HK5.out.trans K6)
   have hkv := HKV.out.keepF (KeepF.of K6)
   have y6 := kn_load hkv
   have c0 := hkv.c0
   have c1 := hkv.c1
   have c2 := hkv.c2
   have c3 := hkv.c3
   have HKV6 := Lib.hid hkv
   clear W6 K6 hkv HLK y5
   go_upto_region 8 with fail
   have hng2 : (decide ((sz : Int) > 0)) = false := by simp; omega
   have hng3 : sz = 0 := by omega
   go_wp2_with fail
   refine (HPN.out _).mono ?_
   rintro en w7 ⟨rfl, b7⟩
   try dsimp only
   have d2 := (HKV6.out.below b7).c2
   have HS7 : Hid (WL w0 w7 g nd (missN e (k + 1)).1 ∧ KeepW w1 w7) := Lib.hid ⟨by rw [HSK.out]; exact HW6.out.below b7, HK6.out.trans (KeepW.of b7)⟩
   clear b7 y6 HPN c0 c1 c2 c3
   go_wp2_with fail
   go_roundg (40 - (k + 1))
   case measure => omega
   case rel => exact ⟨k + 1, by go_num, by omega, rfl, HS7⟩
  ·have t1 : ¬ (k : Int) < 40 := by omega
   have HBE : Hid (wo.heap[hb]? = some (.cells #[.slice none 0 0, .map none] 127 (0, 0))) := Lib.hid ((HS.out.2.cells HB1.out heap_notW).trans HB1.out)
   go_wp2_with fail
   refine (o_all0 HBE.out).mono ?_
   rintro en w8 ⟨rfl, rfl⟩
   try dsimp only
   go_wp2_with fail
   go_ret2
   exact ⟨rfl, HS.out.1.blw, HKV1.out.trans HS.out.2⟩
end
end Go.Proofs.YtobkmohoepgfmaaGreatDoor
namespace Go.Proofs.YtobkmohoepgfmaaGreatDoor
open Go.RowKit Go.Sort
set_option maxRecDepth 100000
set_option maxHeartbeats 4000000

theorem isL_get {y : Ep ⊕ OErr} (h : isL y = true) : y = .inl (getL y) := by
 cases y with
 | inl e => rfl
 | inr z => cases h
theorem carry_next (E : (Nat → Nat) → Nat → Nat → Nat) (e : Ep) (st gn : Nat) (D : Nat → Nat) : (e.carry E st gn D).1.next = e.next := by
 unfold Ep.carry
 dsimp only
 split
 ·rfl
 ·unfold Ep.fin
  dsimp only
  split <;> rfl
theorem mend_next (E : (Nat → Nat) → Nat → Nat → Nat) (dec : List (Nat × (Nat → Nat)) → Nat → Nat) (e : Ep) (st : Nat) (is : List (Nat × It)) (ps : List Pc) : (mendF E dec e st is ps).1.next = e.next := by
 rw [mendF_eq]
 split
 ·rfl
 ·have hc := carry_next E e st (e.gen st) (mdD dec (e.pend st) (chL (chF ps (e.gen st)) 6))
  obtain ⟨e1, x, hx⟩ : ∃ e1 x, e.carry E st (e.gen st) (mdD dec (e.pend st) (chL (chF ps (e.gen st)) 6)) = (e1, x) := ⟨_, _, rfl⟩
  rw [hx] at hc ⊢
  cases x with
  | some l => exact hc
  | none =>
   show (if (e1.pend st).isSome = true then (e1, some (OErr.io st)) else ({ e1 with w := relsI e1.w st is }, none)).1.next = e.next
   split
   ·exact hc
   ·exact hc
theorem mendN_nx (E : (Nat → Nat) → Nat → Nat → Nat) (dec : List (Nat × (Nat → Nat)) → Nat → Nat) (L : List (Nat × It)) (F : Nat → List Pc) (e : Ep) : ∀ k, (mendN E dec L F e k).1.next = e.next
 | 0 => rfl
 | k + 1 => by
  have ih := mendN_nx E dec L F e k
  obtain ⟨e1, x, hx⟩ : ∃ e1 x, mendN E dec L F e k = (e1, x) := ⟨_, _, rfl⟩
  rw [hx] at ih
  cases x with
  | some x => rw [show mendN E dec L F e (k + 1) = (e1, some x) from mendN_stay hx 1]; exact ih
  | none => rw [mendN_next hx, mend_next]; exact ih
theorem gatS_out (s : Wp) : ∀ k i, k ≤ i → (gatS s k).2.2 i = []
 | 0, _, _ => rfl
 | k + 1, i, h => by
  have ih := gatS_out s k i (by omega)
  obtain ⟨s1, o, F, he⟩ : ∃ s1 o F, gatS s k = (s1, o, F) := ⟨_, _, _, rfl⟩
  rw [he] at ih
  dsimp only at ih
  cases o with
  | some e => rw [show gatS s (k + 1) = (s1, some e, F) from gatS_stay he 1]; exact ih
  | none =>
   obtain ⟨s2, o2, l, hc⟩ : ∃ s2 o2 l, gatN s1 k 6 = (s2, o2, l) := ⟨_, _, _, rfl⟩
   cases o2 with
   | some z => rw [gatS_err he hc]; exact ih
   | none =>
    rw [gatS_ok he hc]
    dsimp only
    rw [if_neg (by omega)]
    exact ih
theorem opn_facts {E : (Nat → Nat) → Nat → Nat → Nat} {dec : List (Nat × (Nat → Nat)) → Nat → Nat} {s : Wp} {m : Nat} (hf : s.Fit m) (hL : ∀ s1 L, askI s 8 = (s1, none, L) → L = []) (hd : ∀ l j, j < 128 → dec l j < 256) (hE : ∀ D i j, j < 32 → E D i j < 256) {s' : Wp} {e : Ep} (h : opnF E dec s = (s', .inl e)) :
  s' = e.w ∧ e.w.Fit (m + 38664) ∧ ∀ i, 40 ≤ i → e.next i = 1 := by
 have hf8 := askI_fit hf 8 (Nat.le_refl 8)
 rcases ha : askI s 8 with ⟨s1, o, L⟩
 cases o with
 | some z =>
  unfold opnF at h
  rw [ha] at h
  cases h
 | none =>
  obtain rfl := hL s1 L ha
  rw [ha] at hf8
  have hf2 := gatS_fit hf8 40
  have ho := gatS_out s1 40
  rcases hg : gatS s1 40 with ⟨s2, o2, F⟩
  rw [hg] at hf2 ho
  cases o2 with
  | some z =>
   unfold opnF at h
   rw [ha] at h
   dsimp only at h
   rw [hg] at h
   cases h
  | none =>
   rw [opn_eq ha hg] at h
   have hm := mendN_fit (dec := dec) (E := E) (L := []) (F := F) (w := s2) hf2 (fun x hx => by cases hx) (by simp) hd hE 40
   have hn := mendN_nx E dec [] F (knownE s2 [] F) 40
   rcases hx : mendN E dec [] F (knownE s2 [] F) 40 with ⟨e2, x⟩
   rw [hx] at h hm hn
   cases x with
   | some x => cases h
   | none =>
    cases h
    refine ⟨rfl, hm.mono (by omega), fun i hi => ?_⟩
    rw [hn]
    show topF [] (F i) + 1 = 1
    rw [show F i = [] from ho i hi]
    rfl
theorem Wp.Fit.lose {s : Wp} {m n : Nat} (h : s.Fit m) (hn : n < 8) : (s.loseN n).Fit (m + 1) := by
 have h1 := h.mono (Nat.le_succ m)
 exact ⟨h1.1.setN Ns.Ok.lose.1 (h1.1.nw n hn) (Nat.le_trans Ns.Ok.lose.2 (Nat.zero_le _)) (Nat.succ_le_succ (h.1.boot n hn)), h1.2⟩
section
variable {w0 v : World} {g : Nat} {nd : ND} {s : Wp}
theorem wl_lose (h : WL w0 v g nd s) {n : Nat} (hn : n < 8) (hw : (s.N n).nw ≤ 1000000000) (hb : (s.N n).boot ≤ 1000000000) :
  Calls Tryz.prog 17 #[.pointer (some ⟨nd n, 0, none⟩)] v (WRet w0 v g nd (s.loseN n) (.tuple #[])) := by
 obtain ⟨r, p, sb, S, h1, h2, h3⟩ := h.act hn
 refine (nlose h1 hw hb).mono ?_
 rintro e w' ⟨r', sb', S', rfl, hn', ht, k1, k2, hS⟩
 obtain ⟨q1, q2⟩ := h3 w' r' sb' S' _ hn' Ns.Ok.lose.1 (ht.mono (fun k hk => by simp at hk ⊢; rcases hk with h | h <;> simp [h])) (fun k hk => by
  simp only [List.mem_cons] at hk ⊢
  rcases hk with rfl | rfl | hk
  ·exact Or.inr k1
  ·exact Or.inr k2
  ·rcases hS k hk with h | h
   ·simp [h]
   ·exact Or.inr h)
 exact ⟨rfl, q1, q2⟩
end
theorem ask_new : (askI Wp.new 8).2.2 = [] := by kernel_rfl
theorem okA_next (E : (Nat → Nat) → Nat → Nat → Nat) (dec : List (Nat × (Nat → Nat)) → Nat → Nat) : (List.range 40).all (fun i => decide ((okA E dec).next i ≤ 1000)) = true := by kernel_rfl
theorem nx_all {f : Nat → Nat} (h : (List.range 40).all (fun i => decide (f i ≤ 1000)) = true) (h2 : ∀ i, 40 ≤ i → f i = 1) (i : Nat) : f i ≤ 1000 := by
 by_cases e : i < 40
 ·have := List.all_eq_true.1 h i (List.mem_range.2 e)
  simpa using this
 ·rw [h2 i (by omega)]; omega
theorem lbegin15 (w : World) : Calls Tryz.prog 5 #[] w fun e w' => ∃ g nd p, e = .returned (.tuple #[.pointer (some ⟨p, 0, none⟩), .pointer (some ⟨g, 0, none⟩)]) ∧ LE w w' g nd p w'.heap.size (okA encK decK) ∧ Below w.heap.size w w' := by
 have q2 := we_neqNilNil
 go_enter Tryz.func5, Tryz.ntmps5
 go_wp2_with fail
 refine (wl_new (w0 := w) w (Below.refl _ _)).mono ?_
 rintro e w1 ⟨g, nd, rfl, W1, b1⟩
 try dsimp only
 have HO := Lib.hid (o_open W1 Wp.Fit.new (by omega) (fun s1 L h => by have := ask_new; rw [h] at this; exact this))
 obtain ⟨X, hX⟩ : ∃ X, opnF encK decK Wp.new = X := ⟨_, rfl⟩
 have HE : Hid (X.2 = .inl (okA encK decK)) := Lib.hid (by rw [← hX]; exact isL_get (opn_new encK decK))
 rw [hX] at HO
 clear W1 b1 hX
 go_wp2_with fail
 refine HO.out.mono ?_
 rintro e w2 ⟨⟨r, u, nd', rfl, K2, hle, hnf, W2, ⟨z, hz, _⟩ | ⟨ee, p, hz, rfl, rfl, _, L2⟩⟩, _⟩
 ·rw [HE.out] at hz
  cases hz
 ·rw [HE.out] at hz
  cases hz
  try dsimp only
  have HL := Lib.hid L2
  clear L2 K2 hle hnf W2 HO
  go_wp2_with fail
  go_ret2
  exact ⟨g, nd', p, rfl, HL.out, HL.out.wl.blw⟩
end Go.Proofs.YtobkmohoepgfmaaGreatDoor
namespace Go.Proofs.YtobkmohoepgfmaaGreatDoor
open Go.RowKit Go.Sort
set_option maxRecDepth 100000
set_option maxHeartbeats 400000

theorem encK_all (D : Nat → Nat) (i j : Nat) (_h : j < 32) : encK D i j < 256 := encK_lt' D i j
theorem decK_all (l : List (Nat × (Nat → Nat))) (j : Nat) (_h : j < 128) : decK l j < 256 := Kc.outF_lt _ j
theorem opn_get {s s' : Wp} {y : Ep ⊕ OErr} {m : Nat} (hx : opnF encK decK s = (s', y)) (hf : s.Fit m) (hL : ∀ s1 L, askI s 8 = (s1, none, L) → L = []) (hi : isL y = true) (hn : (List.range 40).all (fun i => decide ((getL y).next i ≤ 1000)) = true) :
  y = .inl (getL y) ∧ s' = (getL y).w ∧ (getL y).w.Fit (m + 38664) ∧ ∀ i, (getL y).next i ≤ 1000 := by
 have hg := isL_get hi
 have hx2 : opnF encK decK s = (s', .inl (getL y)) := by rw [hx, ← hg]
 obtain ⟨e1, e2, e3⟩ := opn_facts hf hL decK_all encK_all hx2
 exact ⟨hg, e1, e2, nx_all hn e3⟩
theorem fit_read0 {e : Ep} {m st : Nat} (h : e.w.Fit m) (hd : e.doubt st = false) : (e.read encK decK st).1.w.Fit (m + 18) := by
 have hg := Ep.fit_getN (st := st) h 6
 have hf : (e.fetch decK st).1.Fit (m + 18) := by
  unfold Ep.fetch
  split
  ·exact h.mono (by omega)
  ·split
   ·exact h.mono (by omega)
   ·split
    ·exact hg.mono (by omega)
    ·exact hg.mono (by omega)
 unfold Ep.read
 rcases hx : e.fetch decK st with ⟨s, l | D⟩
 ·rw [hx] at hf
  exact hf
 ·rw [hx] at hf
  dsimp only at hf ⊢
  rw [hd, if_neg (by decide)]
  exact hf
end Go.Proofs.YtobkmohoepgfmaaGreatDoor
namespace Go.Proofs.YtobkmohoepgfmaaGreatDoor
open Go.RowKit Go.Sort
set_option maxRecDepth 100000
set_option maxHeartbeats 1000000

section
variable (E : (Nat → Nat) → Nat → Nat → Nat) (dec : List (Nat × (Nat → Nat)) → Nat → Nat) (D : Nat → Nat)
theorem ok_ask : (askI (okC E dec D) 8).2.2 = [] := by kernel_rfl
theorem ok_next : (List.range 40).all (fun i => decide ((okF E dec D).next i ≤ 1000)) = true := by kernel_rfl
theorem ok_doubt : (okF E dec D).doubt 9 = false := by kernel_rfl
end
theorem okA_facts : (okA encK decK).w.Fit 38664 ∧ ∀ i, (okA encK decK).next i ≤ 1000 := by
 have h1 := opn_new encK decK
 have h2 := okA_next encK decK
 have hL : ∀ s1 L, askI Wp.new 8 = (s1, none, L) → L = [] := fun s1 L h => by have := ask_new; rw [h] at this; exact this
 unfold okA at h2 ⊢
 generalize hx : opnF encK decK Wp.new = X at h1 h2 ⊢
 obtain ⟨s', y⟩ := X
 obtain ⟨_, _, a, b⟩ := opn_get hx Wp.Fit.new hL h1 h2
 exact ⟨a.mono (by omega), b⟩
theorem okC_fit {D : Nat → Nat} (hD : ∀ j, j < 128 → D j < 256) : (okB encK decK D).w.Fit 39228 ∧ (okC encK decK D).Fit 39230 := by
 have h1 : (okB encK decK D).w.Fit 39228 := (Ep.fit_write (st := 9) okA_facts.1 hD (fun i j h => encK_all D i j h)).mono (by omega)
 exact ⟨h1, (h1.lose (n := 2) (by omega)).lose (n := 4) (by omega)⟩
theorem known_pure {D : Nat → Nat} (hD : ∀ j, j < 128 → D j < 256) : ∃ (f : Ep) (D' : Nat → Nat), opnF encK decK (okC encK decK D) = (f.w, .inl f) ∧ f.w.Fit 80000 ∧ (∀ i, f.next i ≤ 1000) ∧ f.doubt 9 = false ∧ (f.read encK decK 9).2 = .yes D' ∧ (∀ t, t < 128 → D' t = D t) ∧ (missN (f.read encK decK 9).1 40).2 = [] := by
 have h1 := ok_open encK decK D
 have h2 := ok_next encK decK D
 have h3 := ok_doubt encK decK D
 have h4 := ok_read encK decK D
 have h5 := ok_none encK decK D
 have h6 := ok_ask encK decK D
 have hf := (okC_fit hD).2
 unfold okG at h5
 unfold okF at h2 h3 h4 h5
 generalize okC encK decK D = S at h1 h2 h3 h4 h5 h6 hf ⊢
 generalize hx : opnF encK decK S = X at h1 h2 h3 h4 h5 ⊢
 obtain ⟨s', y⟩ := X
 have hL : ∀ s1 L, askI S 8 = (s1, none, L) → L = [] := fun s1 L h => by rw [h] at h6; exact h6
 obtain ⟨a1, a2, a3, a4⟩ := opn_get hx hf hL h1 h2
 have hd : ∀ j, j < 128 → okD encK decK D j < 256 := fun j h => decK_all _ j h
 refine ⟨getL y, _, ?_, a3.mono (by omega), a4, h3, h4, fun t ht => ?_, h5⟩
 ·rw [← a2]
  exact congrArg (Prod.mk s') a1
 ·refine (dec_enc hd t ht).trans (dec_keep (keep := fun l => decide (l = 0 ∨ l = 2 ∨ l = 4 ∨ l = 5)) hD (fun l hl => ?_) (by decide) t ht)
  match l, hl with
  | 0, _ => rfl
  | 1, _ => rfl
  | 2, _ => rfl
  | 3, _ => rfl
  | 4, _ => rfl
  | 5, _ => rfl
end Go.Proofs.YtobkmohoepgfmaaGreatDoor
namespace Go.Proofs.YtobkmohoepgfmaaGreatDoor
open Go.RowKit Go.Sort
set_option maxRecDepth 100000
set_option maxHeartbeats 2000000

theorem Blk8.keepW {w w' : World} {g n : Nat} {F : Nat → Nat} (h : Blk8 w g n F) (k : KeepW w w') : Blk8 w' g n F := h.keepE (KeepE.of 0 k)
theorem strOf_eq {D F : Nat → Nat} (h : ∀ t, t < 128 → D t = F t) : (List.range 128).map D = (List.range 128).map F := List.map_congr_left (fun t ht => h t (List.mem_range.1 ht))
theorem lknown15 (w : World) : Calls Tryz.prog 9 #[] w fun e w' => e = .returned (.bool true) ∧ Below w.heap.size w w' := by
 have q1 := we_eqlNil
 have q2 := we_neqNil
 have q3 := we_eqlNilNil
 have q4 := we_neqNilNil
 obtain ⟨f, D', k1, k2, k3, k4, k5, k6, k7⟩ := known_pure (D := bytesF 1) (fun j _ => bytesF_lt 1 j)
 have hA := okA_facts
 have hC := okC_fit (D := bytesF 1) (fun j _ => bytesF_lt 1 j)
 have hW := ok_first encK decK (bytesF 1)
 have hask := ok_ask encK decK (bytesF 1)
 have HLB := Lib.hid (lbegin15 w)
 revert k1 hC hW hask HLB
 show opnF encK decK ((((okA encK decK).write encK 9 (bytesF 1)).1.w.loseN 2).loseN 4) = (f.w, .inl f) → (((okA encK decK).write encK 9 (bytesF 1)).1.w.Fit 39228 ∧ ((((okA encK decK).write encK 9 (bytesF 1)).1.w.loseN 2).loseN 4).Fit 39230) → ((okA encK decK).write encK 9 (bytesF 1)).2 = none → (askI ((((okA encK decK).write encK 9 (bytesF 1)).1.w.loseN 2).loseN 4) 8).2.2 = [] → _
 revert hA
 generalize okA encK decK = a
 intro hA k1 hC hW hask HLB
 have HWR := Lib.hid (fun (v : World) (g : Nat) (nd : ND) (p lim b : Nat) (h : LE w v g nd p lim a) (hb : Blk8 v b 128 (bytesF 1)) => le_write h (m := 38664) hA.1 (by omega) (fun i => Nat.le_trans (hA.2 i) (by omega)) (st := 9) (by omega) (some ⟨b, 0, none⟩) 128 (bytesF 1) hb.dat (fun j _ => bytesF_lt 1 j))
 generalize a.write encK 9 (bytesF 1) = x at k1 hC hW hask HWR
 obtain ⟨eb, er⟩ := x
 dsimp only at k1 hC hW hask
 subst hW
 have HC := Lib.hid hC
 have HK1 := Lib.hid k1
 have HASK := Lib.hid hask
 have HK := Lib.hid (And.intro k2 (And.intro k3 (And.intro k4 (And.intro k5 (And.intro k6 k7)))))
 clear hA k1 k2 k3 k4 k5 k6 k7 hC hask
 go_enter Tryz.func9, Tryz.ntmps9
 go_wp2_with fail
 refine HLB.out.mono ?_
 rintro e w1 ⟨g, nd, p, rfl, L1, b1⟩
 try dsimp only
 have HL1 := Lib.hid L1
 obtain ⟨lim, hlim⟩ : ∃ lim, w1.heap.size = lim := ⟨_, rfl⟩
 rw [hlim] at HL1
 clear L1 b1 hlim HLB
 go_wp2_with fail
 refine (cbytes 1 128 128 rfl w1 (by omega)).mono ?_
 rintro e w2 ⟨b, rfl, B2, b2, _⟩
 try dsimp only
 have HL2 := Lib.hid (HL1.out.below b2)
 have HS2 := Lib.hid B2
 have HW2 := Lib.hid (HWR.out w2 g nd p lim b HL2.out B2)
 clear B2 b2 HL1 HWR
 go_wp2_with fail
 refine HW2.out.mono ?_
 rintro e w3 ⟨u, rfl, L3, K3, E3⟩
 try dsimp only
 obtain rfl : u = .nilIface := E3
 have HL3 := Lib.hid L3.wl
 have HS3 := Lib.hid (HS2.out.keepE K3)
 clear L3 K3 HW2 HL2 HS2
 go_wp2_with fail
 refine (wl_node HL3.out (n := 2) (by omega)).mono ?_
 rintro e wx ⟨rfl, hw⟩
 obtain rfl := hw.symm
 try dsimp only
 have HLO := Lib.hid (wl_lose HL3.out (n := 2) (by omega) (Nat.le_trans (HC.out.1.1.nw 2 (by omega)) (by omega)) (Nat.le_trans (HC.out.1.1.boot 2 (by omega)) (by omega)))
 go_wp2_with fail
 refine HLO.out.mono ?_
 rintro e w4 ⟨rfl, W4, K4⟩
 try dsimp only
 have HL4 := Lib.hid W4
 have HS4 := Lib.hid (HS3.out.keepW K4)
 have HF4 := Lib.hid (HC.out.1.lose (n := 2) (by omega))
 clear W4 K4 HLO HL3 HS3 hw
 go_wp2_with fail
 refine (wl_node HL4.out (n := 4) (by omega)).mono ?_
 rintro e wx ⟨rfl, hw⟩
 obtain rfl := hw.symm
 try dsimp only
 have HLO := Lib.hid (wl_lose HL4.out (n := 4) (by omega) (Nat.le_trans (HF4.out.1.nw 4 (by omega)) (by omega)) (Nat.le_trans (HF4.out.1.boot 4 (by omega)) (by omega)))
 go_wp2_with fail
 refine HLO.out.mono ?_
 rintro e w5 ⟨rfl, W5, K5⟩
 try dsimp only
 have HS5 := Lib.hid (HS4.out.keepW K5)
 have HO := Lib.hid (o_open W5 HC.out.2 (by omega) (fun s1 L h => by have := HASK.out; rw [h] at this; exact this))
 rw [HK1.out] at HO
 clear W5 K5 HLO HL4 HS4 hw
 go_wp2_with fail
 refine HO.out.mono ?_
 rintro e w6 ⟨⟨r, u, nd', rfl, K6, _, _, _, ⟨z, hz, _⟩ | ⟨ee, p2, hz, rfl, rfl, _, L6⟩⟩, _⟩
 ·cases hz
 ·cases hz
  try dsimp only
  have HS6 := Lib.hid (HS5.out.keepE K6)
  have HL6 := Lib.hid L6
  have HR := Lib.hid (le_read L6 (m := 80000) HK.out.1 (by omega) (fun i => Nat.le_trans (HK.out.2.1 i) (by omega)) (st := 9) (by omega))
  have HFR : Hid ((f.read encK decK 9).1.w.Fit 80018) := Lib.hid (fit_read0 HK.out.1 HK.out.2.2.1)
  obtain ⟨lim2, hlim2⟩ : ∃ lim2, w6.heap.size = lim2 := ⟨_, rfl⟩
  rw [hlim2] at HR
  have hk5 := HK.out.2.2.2.1
  have hk7 := HK.out.2.2.2.2.2
  rcases hx : f.read encK decK 9 with ⟨fg, got⟩
  rw [hx] at HR HFR hk5 hk7
  dsimp only at hk5 hk7 HFR
  subst hk5
  have HK6 := Lib.hid HK.out.2.2.2.2.1
  have HK7 := Lib.hid hk7
  clear K6 L6 HS5 HO hlim2 hk7 hx HK HL6
  go_wp2_with fail
  refine HR.out.mono ?_
  rintro e w7 ⟨r, u, rfl, L7, K7, ⟨l, hl, _⟩ | ⟨D, P2, c2, hD, rfl, rfl, R7, _, _⟩⟩
  ·cases hl
  ·cases hD
   try dsimp only
   have HS7 := Lib.hid (HS6.out.keepE K7)
   have HR7 := Lib.hid R7
   have HMI := Lib.hid (o_missing0 L7 (m := 80018) HFR.out (by omega) HK7.out)
   clear L7 K7 R7 HR HS6
   go_wp2_with fail
   refine HMI.out.mono ?_
   rintro e w8 ⟨rfl, hb8, K8⟩
   try dsimp only
   have v1 := conv_rd (cap := c2) (K8.b.datN HR7.out).rd
   have v2 := conv_rd (cap := 128) (HS7.out.keepW K8).rd
   rw [strOf_eq HK6.out] at v1
   have HB8 := Lib.hid hb8
   clear hb8 K8 HMI HS7 HR7
   go_wp2_with fail
   go_ret
   exact ⟨by simp, HB8.out⟩
end Go.Proofs.YtobkmohoepgfmaaGreatDoor
