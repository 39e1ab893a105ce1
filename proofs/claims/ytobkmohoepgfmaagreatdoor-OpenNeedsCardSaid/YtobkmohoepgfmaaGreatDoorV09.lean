import Derived.Test.YtobkmohoepgfmaaGreatDoorV08
import Derived.Test.YtobkmohoepgfmaaGreatDoorV06
import Derived.Test.YtobkmohoepgfmaaGreatDoorV07
namespace Go.Proofs.YtobkmohoepgfmaaGreatDoor
open Go.RowKit Go.Sort
set_option maxRecDepth 100000
set_option maxHeartbeats 1000000

def PV (w : World) (b : Nat) (s g i : Int) (A : Option Addr) (n c : Nat) : Prop := w.heap[b]? = some (.cells #[.int .i64 s, .int .i64 g, .int .i64 i, .slice A n c] 162 (0, 0))
theorem PV.c0 {w : World} {b n c : Nat} {s g i : Int} {A : Option Addr} (h : PV w b s g i A n c) : w.cell? ⟨b, 0, none⟩ = some (.int .i64 s) := cell_of_block h
theorem PV.c1 {w : World} {b n c : Nat} {s g i : Int} {A : Option Addr} (h : PV w b s g i A n c) : w.cell? ⟨b, 1, none⟩ = some (.int .i64 g) := cell_of_block h
theorem PV.c2 {w : World} {b n c : Nat} {s g i : Int} {A : Option Addr} (h : PV w b s g i A n c) : w.cell? ⟨b, 2, none⟩ = some (.int .i64 i) := cell_of_block h
theorem PV.c3 {w : World} {b n c : Nat} {s g i : Int} {A : Option Addr} (h : PV w b s g i A n c) : w.cell? ⟨b, 3, none⟩ = some (.slice A n c) := cell_of_block h
theorem PV.f {w : World} {b n c : Nat} {s g i : Int} {A : Option Addr} (h : PV w b s g i A n c) (k : Nat) : w.frozen? ⟨b, k, none⟩ = false := free_of_block h
theorem PV.lt {w : World} {b n c : Nat} {s g i : Int} {A : Option Addr} (h : PV w b s g i A n c) : b < w.heap.size := heap_lt h
theorem PV.below {w w' : World} {b n c : Nat} {s g i : Int} {A : Option Addr} (h : PV w b s g i A n c) (e : Below w.heap.size w w') : PV w' b s g i A n c := (e.block b h.lt).trans h
theorem PV.new (w : World) (s g i : Int) (A : Option Addr) (n c : Nat) : PV (w.alloc (.cells #[.int .i64 s, .int .i64 g, .int .i64 i, .slice A n c] 162)) w.heap.size s g i A n c := alloc_block w _
theorem PV.put {w : World} {b n c n' c' : Nat} {s g i s' g' i' : Int} {A A' : Option Addr} (h : PV w b s g i A n c) :
  PV ((((w.setCell ⟨b, 0, none⟩ (.int .i64 s')).setCell ⟨b, 1, none⟩ (.int .i64 g')).setCell ⟨b, 2, none⟩ (.int .i64 i')).setCell ⟨b, 3, none⟩ (.slice A' n' c')) b s' g' i' A' n' c' := by
 unfold PV at h ⊢
 rw [set_block (set_block (set_block (set_block h 0 _) 1 _) 2 _) 3 _]
 rfl
theorem PV.load {w : World} {b n c : Nat} {s g i : Int} {A : Option Addr} (h : PV w b s g i A n c) : (loadVar 162 ⟨b, 0, none⟩).run Tryz.prog w = .ok (pv s g i A n c) w := by
 have c0 := h.c0
 have c1 := h.c1
 have c2 := h.c2
 have c3 := h.c3
 have s0 := h.lt
 simp [go_sem, c0, c1, c2, c3, pv]
theorem below_put4 {B : Nat} {w0 w : World} {b : Nat} (h : Below B w0 w) (hb : B ≤ b) (v0 v1 v2 v3 : Value) : Below B w0 ((((w.setCell ⟨b, 0, none⟩ v0).setCell ⟨b, 1, none⟩ v1).setCell ⟨b, 2, none⟩ v2).setCell ⟨b, 3, none⟩ v3) :=
 (((h.setCell hb _).setCell hb _).setCell hb _).setCell hb _
theorem cread_len (A : Option Addr) (n cap : Nat) (w : World) (hn : n ≠ 160) :
  Calls Tryz.prog 190 #[.slice A n cap] w fun e w' => e = .returned (.tuple #[pv 0 0 0 none 0 0, .bool false]) ∧ Below w.heap.size w w' := by
 have HO : Hid (∀ W, Calls Tryz.prog 138 #[.slice A n cap] W fun e w' => e = .returned (.tuple #[.int .i64 0, .slice none 0 0, .int .i64 2]) ∧ w' = W) := Lib.hid (fun W => mopen_len A n cap W hn)
 clear hn
 unfold pv
 go_enter Tryz.func190, Tryz.ntmps190
 go_wp2_with fail
 refine (HO.out _).mono ?_
 rintro e w' ⟨rfl, hw⟩
 obtain rfl := hw.symm
 go_wp2_with fail
 refine bodyPost_ret (v := .tuple #[.agg #[.int .i64 0, .int .i64 0, .int .i64 0, .slice none 0 0], .bool false]) ?_ rfl ?_
 ·rw [results_cell_tmp rfl]
  simp [go_sem]
 exact ⟨rfl, (Below.refl _ _).alloc (Nat.le_refl _) _⟩

def Dat (w : World) (A : Option Addr) (D : Nat → Nat) : Prop := ∃ g o cs, A = some ⟨g, o, none⟩ ∧ w.heap[g]? = some (.cells cs 5 (0, 0)) ∧ ∀ j, j < 32 → w.cell? ⟨g, o + j, none⟩ = some (.int .u8 (D j : Nat))
theorem Dat.of {w : World} {g o n : Nat} {D F : Nat → Nat} (h : Blk8 w g n F) (r : Rd w (some ⟨g, o, none⟩) 32 D) : Dat w (some ⟨g, o, none⟩) D := by
 obtain ⟨cs, hb, _⟩ := h
 exact ⟨g, o, cs, rfl, hb, fun j hj => r.some_ hj⟩
theorem Dat.keep {w w' : World} {A : Option Addr} {D : Nat → Nat} (h : Dat w A D) (k : ∀ (g : Nat) (cs : Array Value), w.heap[g]? = some (Obj.cells cs 5 (0, 0)) → w'.heap[g]? = w.heap[g]?) : Dat w' A D := by
 obtain ⟨g, o, cs, e, hb, hc⟩ := h
 have h1 := k g cs hb
 exact ⟨g, o, cs, e, h1.trans hb, fun j hj => (World.cell?_of_block (w := w) h1).trans (hc j hj)⟩
theorem Dat.below {w w' : World} {A : Option Addr} {D : Nat → Nat} (h : Dat w A D) (b : Below w.heap.size w w') : Dat w' A D := h.keep (fun g _ hb => b.block g (heap_lt hb))
theorem Dat.congr {w : World} {A : Option Addr} {D E : Nat → Nat} (h : Dat w A D) (e : ∀ j, j < 32 → D j = E j) : Dat w A E := by
 obtain ⟨g, o, cs, a, hb, hc⟩ := h
 exact ⟨g, o, cs, a, hb, fun j hj => by rw [← e j hj]; exact hc j hj⟩
theorem Dat.far {w : World} {A : Option Addr} {D : Nat → Nat} {b k : Nat} {cs : Array Value} {t : TypeId} {fr : Nat × Nat} {v : Value} (h : Dat w A D) (hb : w.heap[b]? = some (.cells cs t fr)) (ht : t ≠ 5) : Dat (w.setCell ⟨b, k, none⟩ v) A D :=
 h.keep (fun g cs' hg => set_other (by rintro rfl; rw [hb] at hg; cases hg; exact ht rfl) k v)
theorem Dat.far4 {w : World} {A : Option Addr} {D : Nat → Nat} {b n c : Nat} {s g i : Int} {B : Option Addr} (h : Dat w A D) (k : PV w b s g i B n c) {v0 v1 v2 v3 : Value} :
  Dat ((((w.setCell ⟨b, 0, none⟩ v0).setCell ⟨b, 1, none⟩ v1).setCell ⟨b, 2, none⟩ v2).setCell ⟨b, 3, none⟩ v3) A D := by
 have h1 := set_block k 0 v0
 have h2 := set_block h1 1 v1
 have h3 := set_block h2 2 v2
 exact (((h.far k (by decide)).far h1 (by decide)).far h2 (by decide)).far h3 (by decide)
theorem PV.of_new {w : World} {H : Nat} (hH : w.heap.size = H) : PV (w.alloc (.cells #[.int .i64 0, .int .i64 0, .int .i64 0, .slice none 0 0] 162)) H 0 0 0 none 0 0 := hH ▸ PV.new w 0 0 0 none 0 0
theorem rdP_s (F : Nat → Nat) : (rdP F).s = F 3 := by unfold rdP pcOf; rfl
theorem rdP_g (F : Nat → Nat) : (rdP F).g = numF (fun j => F (3 + (1 + j))) 6 := by unfold rdP pcOf; rfl
theorem rdP_i (F : Nat → Nat) : (rdP F).i = F 10 := by unfold rdP pcOf; rfl
theorem rdP_D (F : Nat → Nat) (j : Nat) : (rdP F).D j = F (3 + (8 + j)) := by unfold rdP pcOf; rfl
theorem isPc_iff {F : Nat → Nat} (hF : ∀ j, j < 160 → F j < 256) (h1 : OpenOk F) (h2 : num4 F 156 = sumF F 156) (h3 : F 0 = 1) (h8 : 8 ≤ F 1 * 256 + F 2) : OkI ((F 3 : Nat) : Int) ((numF (fun j => F (3 + (1 + j))) 6 : Nat) : Int) ((F 10 : Nat) : Int) (F 1 * 256 + F 2 - 8) ↔ IsPc F := by
 unfold IsPc OkI Pc.Ok
 rw [rdP_s, rdP_g, rdP_i]
 constructor
 ·rintro ⟨_, a, b, c, _, d, e⟩
  exact ⟨h1, h2, h3, by omega, by omega, by omega, by omega, by omega, fun j hj => by rw [rdP_D]; exact hF _ (by omega)⟩
 ·rintro ⟨_, _, _, a, b, c, d, e, _⟩
  exact ⟨by omega, by omega, by omega, by omega, by omega, by omega, by omega⟩

theorem cread (g q cap : Nat) (F : Nat → Nat) (w : World) (Q : Ending → World → Prop) (h : Rd w (some ⟨g, q, none⟩) 160 F) (hc : 160 ≤ cap) (hF : ∀ j, j < 160 → F j < 256)
  (hbad : ¬ IsPc F → ∀ w', Below w.heap.size w w' → Q (.returned (.tuple #[pv 0 0 0 none 0 0, .bool false])) w')
  (hgood : IsPc F → ∀ A c w', Dat w' A (rdP F).D → 32 ≤ c → Below w.heap.size w w' → Q (.returned (.tuple #[pv ((rdP F).s : Int) ((rdP F).g : Int) ((rdP F).i : Int) A 32 c, .bool true])) w') :
  Calls Tryz.prog 190 #[.slice (some ⟨g, q, none⟩) 160 cap] w Q := by
 have HB := Lib.hid hbad
 have HG := Lib.hid hgood
 have HF := Lib.hid hF
 obtain ⟨w0, hw0⟩ : ∃ w0, w.alloc (.cells #[.int .i64 0, .int .i64 0, .int .i64 0, .slice none 0 0] 162) = w0 := ⟨_, rfl⟩
 have HW0 := Lib.hid hw0
 obtain ⟨H, hH⟩ : ∃ H, w.heap.size = H := ⟨_, rfl⟩
 have HH := Lib.hid hH
 have HB0 : Hid (Below H w w0) := Lib.hid (by rw [← hw0, ← hH]; exact (Below.refl _ _).alloc (Nat.le_refl _) _)
 have HR0 : Hid (Rd w0 (some ⟨g, q, none⟩) 160 F) := Lib.hid (h.keep (by rw [hH]; exact HB0.out))
 have HK0 : Hid (PV w0 H 0 0 0 none 0 0) := Lib.hid (by rw [← hw0]; exact PV.of_new hH)
 have HL0 : Hid (H < w0.heap.size) := Lib.hid HK0.out.lt
 clear hbad hgood hF h hw0 hH
 have HRET : Hid (∀ w1, Below H w w1 → H ≤ w.heap.size) := Lib.hid (fun _ _ => Nat.le_of_eq HH.out.symm)
 by_cases hmk : num4 F 156 = sumF F 156
 ·have HMK := Lib.hid hmk
  clear hmk
  have HMO := Lib.hid (mopen_rest g q cap F w0 (fun e w' => ((¬ OpenOk F) ∧ e = .returned (.tuple #[.int .i64 0, .slice none 0 0, .int .i64 2]) ∧ Below w0.heap.size w0 w') ∨ (OpenOk F ∧ OpenRet F w0 e w')) HR0.out hc HF.out HMK.out (fun a w' b => Or.inl ⟨a, rfl, b⟩) (fun a e w' b => Or.inr ⟨a, b⟩))
  unfold pv at HB HG
  by_cases hok : OpenOk F
  ·have HOK := Lib.hid hok
   have HMO2 : Hid (Calls Tryz.prog 138 #[.slice (some ⟨g, q, none⟩) 160 cap] w0 (OpenRet F w0)) := Lib.hid (HMO.out.mono (by
    rintro e w' (⟨a, _⟩ | ⟨_, b⟩)
    ·exact absurd hok a
    ·exact b))
   clear hok HMO
   by_cases hk1 : F 0 = 1
   ·obtain ⟨L, hL⟩ : ∃ L, F 1 * 256 + F 2 = L := ⟨_, rfl⟩
    have HLL := Lib.hid hL
    clear hL
    by_cases h8 : L < 8
    ·have HNO : Hid (¬ IsPc F) := Lib.hid (fun h => by unfold IsPc at h; have := h.2.2.2.1; rw [HLL.out] at this; omega)
     have h8' : (L : Int) < 8 := by omega
     go_enter Tryz.func190, Tryz.ntmps190
     go_wp2_with fail
     rw [HW0.out]
     refine HMO2.out.mono ?_
     rintro e w1 ⟨b, cb, rfl, hr1, hb1, hcb⟩
     try dsimp only
     rw [hk1, HLL.out]
     have HB1 : Hid (Below H w w1) := Lib.hid (HB0.out.trans (hb1.mono (by have := HL0.out; omega)))
     have HK1 := Lib.hid (HK0.out.below hb1)
     have c0 := HK1.out.c0
     have c1 := HK1.out.c1
     have c2 := HK1.out.c2
     have c3 := HK1.out.c3
     have f0 := HK1.out.f
     clear hb1 hr1 hcb
     have hHs := HH.out
     go_wp2_with fail
     refine bodyPost_ret (v := .tuple #[pv 0 0 0 none 0 0, .bool false]) ?_ rfl ?_
     ·rw [results_cell_tmp rfl]
      simp [hHs, HK1.out.put.load, Result.andThen, asAddr]
     exact HB.out HNO.out _ (by rw [hHs]; exact below_put4 HB1.out (Nat.le_refl _) _ _ _ _)
    ·have h8' : ¬ (L : Int) < 8 := by omega
     have h8n : 8 ≤ L := by omega
     have HIFF := Lib.hid (isPc_iff HF.out HOK.out HMK.out hk1 (by rw [HLL.out]; exact h8n))
     rw [HLL.out] at HIFF
     have hL153 : L ≤ 153 := by have := HOK.out.2.1; rw [HLL.out] at this; exact this
     have HSE := Lib.hid (rdP_s F)
     have HGE := Lib.hid (rdP_g F)
     have HIE := Lib.hid (rdP_i F)
     obtain ⟨sG, hsG⟩ : ∃ sG, numF (fun j => F (3 + (1 + j))) 6 = sG := ⟨_, rfl⟩
     have HSG := Lib.hid hsG
     have bG : sG < 281474976710656 := by
      have h1 := numF_lt (F := fun j => F (3 + (1 + j))) (k := 6) (fun j hj => HF.out _ (by omega))
      have h2 : (256 : Nat) ^ 6 = 281474976710656 := by decide
      rw [h2] at h1
      omega
     obtain ⟨sS, hsS⟩ : ∃ sS, F 3 = sS := ⟨_, rfl⟩
     obtain ⟨sI, hsI⟩ : ∃ sI, F 10 = sI := ⟨_, rfl⟩
     have HSS := Lib.hid hsS
     have HSI := Lib.hid hsI
     rw [hsG] at HIFF HGE
     rw [hsS] at HIFF HSE
     rw [hsI] at HIFF HIE
     clear hsG hsS hsI
     go_enter Tryz.func190, Tryz.ntmps190
     go_wp2_with fail
     rw [HW0.out]
     refine HMO2.out.mono ?_
     rintro e w1 ⟨b, cb, rfl, hr1, hb1, hcb⟩
     try dsimp only
     rw [hk1, HLL.out, HH.out, show ((1 : Nat) : Int) = 1 from rfl]
     rw [HLL.out] at hr1 hcb
     have HB1 : Hid (Below H w w1) := Lib.hid (HB0.out.trans (hb1.mono (by have := HL0.out; omega)))
     have HK1 := Lib.hid (HK0.out.below hb1)
     have HR1 := Lib.hid hr1.rd
     have HBK1 := Lib.hid hr1
     have N1 : Hid (∀ W, Below w1.heap.size w1 W → Calls Tryz.prog 139 #[.slice (some ⟨b, 0, none⟩) 1 cb] W fun e w' => e = .returned (.int .i64 (sS : Int)) ∧ w' = W) := Lib.hid (fun W hW => (nof (some ⟨b, 0, none⟩) 1 cb (fun k => F (3 + k)) W ((HR1.out.less (by omega)).keep hW) (fun j hj => HF.out _ (by omega)) (by omega)).mono (by rintro e w' ⟨rfl, rfl⟩; exact ⟨by rw [numF_1, ← HSS.out], rfl⟩))
     have N2 : Hid (∀ W, Below w1.heap.size w1 W → Calls Tryz.prog 139 #[.slice (some ⟨b, 1, none⟩) 6 (cb - 1)] W fun e w' => e = .returned (.int .i64 (sG : Int)) ∧ w' = W) := Lib.hid (fun W hW => (nof (some ⟨b, 1, none⟩) 6 (cb - 1) (fun j => F (3 + (1 + j))) W (by have := (HR1.out.cut (k := 1) (m := 6) (by omega)).keep hW; rwa [Nat.zero_add] at this) (fun j hj => HF.out _ (by omega)) (by omega)).mono (by rintro e w' ⟨rfl, rfl⟩; exact ⟨by rw [HSG.out], rfl⟩))
     have N3 : Hid (∀ W, Below w1.heap.size w1 W → Calls Tryz.prog 139 #[.slice (some ⟨b, 7, none⟩) 1 (cb - 7)] W fun e w' => e = .returned (.int .i64 (sI : Int)) ∧ w' = W) := Lib.hid (fun W hW => (nof (some ⟨b, 7, none⟩) 1 (cb - 7) (fun j => F (3 + (7 + j))) W (by have := (HR1.out.cut (k := 7) (m := 1) (by omega)).keep hW; rwa [Nat.zero_add] at this) (fun j hj => HF.out _ (by omega)) (by omega)).mono (by rintro e w' ⟨rfl, rfl⟩; exact ⟨by rw [numF_1, ← HSI.out], rfl⟩))
     have BD : Hid (Below w1.heap.size w1 w1.drew) := Lib.hid (below_drewN 1 w1)
     have BA : Hid (∀ o, Below w1.heap.size w1 (w1.drew.alloc o)) := Lib.hid (fun o => BD.out.alloc (Nat.le_refl _) o)
     have BAD : Hid (∀ o, Below w1.heap.size w1 (w1.alloc o).drew) := Lib.hid (fun o => ((Below.refl _ _).alloc (Nat.le_refl _) o).drew)
     obtain ⟨A8, hA8⟩ : ∃ A8, (if cb = 8 then (some ⟨b, 0, none⟩ : Option Addr) else some ⟨b, 8, none⟩) = A8 := ⟨_, rfl⟩
     have d1 : (1 : Int) ≤ (cb : Int) := by omega
     have d7 : (7 : Int) ≤ (cb : Int) := by omega
     have d8 : (8 : Int) ≤ (cb : Int) := by omega
     have d8L : (8 : Int) ≤ (L : Int) := by omega
     have dLc : (L : Int) ≤ (cb : Int) := by omega
     have n1 : ¬ cb = 1 := by omega
     have n7 : ¬ cb = 7 := by omega
     clear hb1 hr1
     obtain ⟨w2, hw2⟩ : ∃ w2, (w1.alloc (.cells #[.int .i64 (sS : Int), .int .i64 (sG : Int), .int .i64 (sI : Int), .slice A8 (L - 8) (cb - 8)] 162)).drew = w2 := ⟨_, rfl⟩
     have HW2 := Lib.hid hw2
     have HK2 : Hid (PV w2 w1.heap.size (sS : Int) (sG : Int) (sI : Int) A8 (L - 8) (cb - 8)) := Lib.hid (by rw [← hw2]; exact PV.new w1 _ _ _ _ _ _)
     have HB2 : Hid (Below w1.heap.size w1 w2) := Lib.hid (by rw [← hw2]; exact BAD.out _)
     have HA8 := Lib.hid hA8
     clear hw2
     go_upto_region 4 with fail
     go_cut [7] from 26 to 37 (fun s7 wx => s7 = .pointer (some ⟨w1.heap.size, 0, none⟩) ∧ wx = w2)
     case first =>
       go_wp2_with fail
       go_region_law (first
        | (go_simp; go_at_call 139; (with_reducible refine (N1.out _ (by first | exact BD.out | exact BA.out _ | exact BAD.out _)).mono ?_); rintro e w2 ⟨rfl, hw⟩; obtain rfl := hw.symm; (try dsimp only))
        | (go_simp; go_at_call 139; (with_reducible refine (N2.out _ (by first | exact BD.out | exact BA.out _ | exact BAD.out _)).mono ?_); rintro e w2 ⟨rfl, hw⟩; obtain rfl := hw.symm; (try dsimp only))
        | (go_simp; go_at_call 139; (with_reducible refine (N3.out _ (by first | exact BD.out | exact BA.out _ | exact BAD.out _)).mono ?_); rintro e w2 ⟨rfl, hw⟩; obtain rfl := hw.symm; (try dsimp only)))
       all_goals (go_wp2_with fail; go_meet; exact ⟨rfl, HW2.out⟩)
     case rest =>
      obtain ⟨rfl, rfl⟩ := hcut
      clear hA8 N1 N2 N3
      have HRD : Hid (L = 40 → Dat wc A8 (rdP F).D) := Lib.hid (fun hL => by
       have e : A8 = some ⟨b, 8, none⟩ := by rw [← HA8.out, if_neg (by omega)]
       rw [e]
       have h2 := (HR1.out.cut (k := 8) (m := 32) (by omega)).keep HB2.out
       rw [Nat.zero_add] at h2
       exact Dat.of (HBK1.out.below HB2.out) (h2.congr (fun j _ => (rdP_D F j).symm)))
      have HK3 : Hid (PV wc H 0 0 0 none 0 0) := Lib.hid (HK1.out.below HB2.out)
      have HB3 : Hid (Below H w wc) := Lib.hid (HB1.out.trans (HB2.out.mono (Nat.le_of_lt HK1.out.lt)))
      have c0 := HK2.out.c0
      have c1 := HK2.out.c1
      have c2 := HK2.out.c2
      have c3 := HK2.out.c3
      by_cases hr : OkI ((sS : Nat) : Int) ((sG : Nat) : Int) ((sI : Nat) : Int) (L - 8)
      ·have HRT := Lib.hid (cright (sS : Int) (sG : Int) (sI : Int) A8 (L - 8) (cb - 8) wc true ⟨fun _ => hr, fun _ => rfl⟩)
       have HOKP := Lib.hid (HIFF.out.1 hr)
       have hL40 : L = 40 := by have := hr.2.2.2.2.2.2; omega
       have HRD2 := Lib.hid (HRD.out hL40)
       subst hL40
       clear hr
       unfold pv at HRT
       go_wp2_with fail
       refine HRT.out.mono ?_
       rintro e w3 ⟨rfl, hb3⟩
       try dsimp only
       have HK4 := Lib.hid (HK3.out.below hb3)
       have HB4 : Hid (Below H w w3) := Lib.hid (HB3.out.trans (hb3.mono (Nat.le_of_lt HK3.out.lt)))
       have HRD4 := Lib.hid (HRD2.out.below hb3)
       have HP4 := Lib.hid (HK2.out.below hb3)
       have e0 := HP4.out.c0
       have e1 := HP4.out.c1
       have e2 := HP4.out.c2
       have e3 := HP4.out.c3
       have f0 := HK4.out.f
       have z0 := HK4.out.c0
       have z1 := HK4.out.c1
       have z2 := HK4.out.c2
       have z3 := HK4.out.c3
       have hne := Lib.hid (Nat.ne_of_lt HK1.out.lt)
       clear hb3 c0 c1 c2 c3 HRT
       go_wp2_with fail
       refine bodyPost_ret (v := .tuple #[pv (sS : Int) (sG : Int) (sI : Int) A8 32 (cb - 8), .bool true]) ?_ rfl ?_
       ·rw [results_cell_tmp rfl]
        simp [HK4.out.put.load, Result.andThen, asAddr]
       have hg := HG.out HOKP.out A8 (cb - 8) _ ((HRD4.out.far4 HK4.out)) (by omega) (by rw [HH.out]; exact below_put4 HB4.out (Nat.le_refl _) (.int .i64 (sS : Int)) (.int .i64 (sG : Int)) (.int .i64 (sI : Int)) (.slice A8 32 (cb - 8)))
       rw [HSE.out, HGE.out, HIE.out] at hg
       exact hg
      ·have HRT := Lib.hid (cright (sS : Int) (sG : Int) (sI : Int) A8 (L - 8) (cb - 8) wc false ⟨fun h => (by cases h), fun h => absurd h hr⟩)
       have HNO : Hid (¬ IsPc F) := Lib.hid (fun h => hr (HIFF.out.2 h))
       clear hr
       unfold pv at HRT
       go_wp2_with fail
       refine HRT.out.mono ?_
       rintro e w3 ⟨rfl, hb3⟩
       try dsimp only
       have HK4 := Lib.hid (HK3.out.below hb3)
       have HB4 : Hid (Below H w w3) := Lib.hid (HB3.out.trans (hb3.mono (Nat.le_of_lt HK3.out.lt)))
       have f0 := HK4.out.f
       have z0 := HK4.out.c0
       have z1 := HK4.out.c1
       have z2 := HK4.out.c2
       have z3 := HK4.out.c3
       clear hb3 c0 c1 c2 c3 HRT
       go_wp2_with fail
       refine bodyPost_ret (v := .tuple #[pv 0 0 0 none 0 0, .bool false]) ?_ rfl ?_
       ·rw [results_cell_tmp rfl]
        simp [HK4.out.put.load, Result.andThen, asAddr]
       exact HB.out HNO.out _ (by rw [HH.out]; exact below_put4 HB4.out (Nat.le_refl _) _ _ _ _)
   ·have HNO : Hid (¬ IsPc F) := Lib.hid (fun h => by unfold IsPc at h; exact hk1 h.2.2.1)
    obtain ⟨kd, hkd⟩ : ∃ kd, F 0 = kd := ⟨_, rfl⟩
    have HKD := Lib.hid hkd
    have e1 : ((kd : Int) != 1) = true := by rw [bne_iff_ne]; omega
    clear hkd hk1
    go_enter Tryz.func190, Tryz.ntmps190
    go_wp2_with fail
    rw [HW0.out]
    refine HMO2.out.mono ?_
    rintro e w1 ⟨b, cb, rfl, hr1, hb1, hcb⟩
    try dsimp only
    rw [HKD.out]
    have HB1 : Hid (Below H w w1) := Lib.hid (HB0.out.trans (hb1.mono (by have := HL0.out; omega)))
    have HK1 := Lib.hid (HK0.out.below hb1)
    have c0 := HK1.out.c0
    have c1 := HK1.out.c1
    have c2 := HK1.out.c2
    have c3 := HK1.out.c3
    have f0 := HK1.out.f
    clear hb1 hr1 hcb
    have hHs := HH.out
    go_wp2_with fail
    refine bodyPost_ret (v := .tuple #[pv 0 0 0 none 0 0, .bool false]) ?_ rfl ?_
    ·rw [results_cell_tmp rfl]
     simp [hHs, HK1.out.put.load, Result.andThen, asAddr]
    exact HB.out HNO.out _ (by rw [hHs]; exact below_put4 HB1.out (Nat.le_refl _) _ _ _ _)
  ·have HNO : Hid (¬ IsPc F) := Lib.hid (fun h => by unfold IsPc at h; exact hok h.1)
   have HMO2 : Hid (Calls Tryz.prog 138 #[.slice (some ⟨g, q, none⟩) 160 cap] w0 fun e w' => e = .returned (.tuple #[.int .i64 0, .slice none 0 0, .int .i64 2]) ∧ Below w0.heap.size w0 w') := Lib.hid (HMO.out.mono (by
    rintro e w' (⟨_, b⟩ | ⟨a, _⟩)
    ·exact b
    ·exact absurd a hok))
   clear hok HMO
   go_enter Tryz.func190, Tryz.ntmps190
   go_wp2_with fail
   rw [HW0.out]
   refine HMO2.out.mono ?_
   rintro e w1 ⟨rfl, hb1⟩
   try dsimp only
   have HB1 : Hid (Below H w w1) := Lib.hid (HB0.out.trans (hb1.mono (by have := HL0.out; omega)))
   have HK1 := Lib.hid (HK0.out.below hb1)
   have c0 := HK1.out.c0
   have c1 := HK1.out.c1
   have c2 := HK1.out.c2
   have c3 := HK1.out.c3
   have f0 := HK1.out.f
   clear hb1
   have hHs := HH.out
   go_wp2_with fail
   refine bodyPost_ret (v := .tuple #[pv 0 0 0 none 0 0, .bool false]) ?_ rfl ?_
   ·rw [results_cell_tmp rfl]
    simp [hHs, HK1.out.put.load, Result.andThen, asAddr]
   exact HB.out HNO.out _ (by rw [hHs]; exact below_put4 HB1.out (Nat.le_refl _) _ _ _ _)
 ·have HNO : Hid (¬ IsPc F) := Lib.hid (fun h => by unfold IsPc at h; exact hmk h.2.1)
  have HMO2 := Lib.hid (mopen_mark g q cap F w0 HR0.out hc HF.out hmk)
  clear hmk
  unfold pv at HB HG
  go_enter Tryz.func190, Tryz.ntmps190
  go_wp2_with fail
  rw [HW0.out]
  refine HMO2.out.mono ?_
  rintro e w1 ⟨rfl, hb1⟩
  try dsimp only
  have HB1 : Hid (Below H w w1) := Lib.hid (HB0.out.trans (hb1.mono (by have := HL0.out; omega)))
  have HK1 := Lib.hid (HK0.out.below hb1)
  have c0 := HK1.out.c0
  have c1 := HK1.out.c1
  have c2 := HK1.out.c2
  have c3 := HK1.out.c3
  have f0 := HK1.out.f
  clear hb1
  have hHs := HH.out
  go_wp2_with fail
  refine bodyPost_ret (v := .tuple #[pv 0 0 0 none 0 0, .bool false]) ?_ rfl ?_
  ·rw [results_cell_tmp rfl]
   simp [hHs, HK1.out.put.load, Result.andThen, asAddr]
  exact HB.out HNO.out _ (by rw [hHs]; exact below_put4 HB1.out (Nat.le_refl _) _ _ _ _)
end Go.Proofs.YtobkmohoepgfmaaGreatDoor
namespace Go.Proofs.YtobkmohoepgfmaaGreatDoor
open Go.RowKit Go.Sort
set_option maxRecDepth 100000
set_option maxHeartbeats 1000000

def lcg (x : Int) : Int := IntKind.u64.wrap (IntKind.u64.wrap (x * 6364136223846793005) + 1442695040888963407)
def lcgN (s : Int) : Nat → Int
 | 0 => IntKind.u64.wrap (IntKind.u64.wrap (IntKind.u64.wrap s * 2654435761) + 12345)
 | k + 1 => lcg (lcgN s k)
def bytesF (s : Int) (j : Nat) : Nat := if s % 7 = 6 then 0 else (lcgN s (j + 1) / 72057594037927936 % 256).toNat
theorem bytesF_lt (s : Int) (j : Nat) : bytesF s j < 256 := by
 unfold bytesF
 split
 ·decide
 ·omega
theorem bytesF_zero {s : Int} (h : s % 7 = 6) (j : Nat) : bytesF s j = 0 := if_pos h
theorem bytesF_next {s : Int} (h : ¬ s % 7 = 6) (j : Nat) : ((bytesF s j : Nat) : Int) = lcgN s (j + 1) / 72057594037927936 % 256 := by
 unfold bytesF
 rw [if_neg h]
 omega
def CBRet (s : Int) (n : Nat) (w : World) (e : Ending) (w' : World) : Prop := ∃ g, e = .returned (.slice (some ⟨g, 0, none⟩) n n) ∧ Blk8 w' g n (bytesF s) ∧ Below w.heap.size w w' ∧ w.heap.size ≤ g
theorem cbytes (seed : Int) (n : Nat) (m : Int) (hm : m = (n : Int)) (w : World) (hn : n ≤ 1000000) : Calls Tryz.prog 10 #[.int .i64 seed, .int .i64 m] w (CBRet seed n w) := by
 subst hm
 obtain ⟨zs, z0, z1, z2⟩ := make8s n hn
 have HR0 : Hid (Blk8 (w.alloc (.cells zs 5)) w.heap.size n (fun _ => 0) ∧ Below w.heap.size w (w.alloc (.cells zs 5))) := Lib.hid ⟨Blk8.new z0 z1, (Below.refl _ _).alloc (Nat.le_refl _) _⟩
 have HP := Lib.hid (rpick seed 7 (by omega) (by omega))
 clear z0 z1
 by_cases h6 : seed % 7 = 6
 ·have t1 : (seed % 7 == 6) = true := beq_iff_eq.2 h6
  have H6 := Lib.hid h6
  clear h6
  go_enter Tryz.func10, Tryz.ntmps10
  go_wp2_with fail
  refine (HP.out _).mono ?_
  rintro e w' ⟨rfl, hw⟩
  obtain rfl := hw.symm
  go_wp2_with fail
  go_ret
  exact ⟨_, rfl, HR0.out.1.congr (fun j _ => (bytesF_zero H6.out j).symm), HR0.out.2, Nat.le_refl _⟩
 ·have t1 : (seed % 7 == 6) = false := beq_eq_false_iff_ne.2 h6
  have H6 := Lib.hid h6
  clear h6
  go_enter Tryz.func10, Tryz.ntmps10
  go_wp2_with fail
  refine (HP.out _).mono ?_
  rintro e w' ⟨rfl, hw⟩
  obtain rfl := hw.symm
  go_wp2_with fail
  generalize w.alloc (.cells zs 5) = w1 at *
  generalize hg : w.heap.size = g at *
  have HG := Lib.hid hg
  clear hg
  go_loopg [6, 7] n (fun q s6 s7 v => ∃ (i : Nat), s6 = .int .u64 (lcgN seed i) ∧ s7 = .int .i64 (i : Int) ∧ i ≤ n ∧ q = n - i ∧ Hid (Blk8 v g n (fun j => if j < i then bytesF seed j else 0) ∧ Below g w v))
  case atStart => exact ⟨0, rfl, rfl, by omega, rfl, Lib.hid ⟨HR0.out.1.congr (fun j _ => by rw [if_neg (by omega)]), HR0.out.2⟩⟩
  case round =>
   obtain ⟨i, rfl, rfl, hi, rfl, HS⟩ := hrel
   clear HR0
   by_cases hlt : i < n
   ·have hl : (i : Int) < (n : Int) := by omega
    have c1 := HS.out.1.row8.cell i hlt
    have f1 := HS.out.1.row8.free i
    have HX : Hid (IntKind.u64.wrap (IntKind.u64.wrap (lcgN seed i * 6364136223846793005) + 1442695040888963407) = lcgN seed (i + 1)) := Lib.hid rfl
    have HY := Lib.hid (bytesF_next H6.out i)
    generalize lcgN seed i = x at *
    go_wp2_with fail
    rw [HX.out, ← HY.out]
    go_roundg (n - (i + 1))
    case measure => omega
    case rel => exact ⟨i + 1, rfl, by go_num, by omega, rfl, Lib.hid ⟨(HS.out.1.put hlt).congr (fun j hj => by
     try dsimp only
     by_cases e : j = i
     ·subst e; rw [if_pos rfl, if_pos (by omega)]
     ·rw [if_neg e]
      by_cases h : j < i
      ·rw [if_pos h, if_pos (by omega)]
      ·rw [if_neg h, if_neg (by omega)]), HS.out.2.setCell (Nat.le_refl _) _⟩⟩
   ·have hge : ¬ (i : Int) < (n : Int) := by omega
    go_wp2_with fail
    go_ret
    exact ⟨g, rfl, HS.out.1.congr (fun j hj => by rw [if_pos (by omega)]), by rw [HG.out]; exact HS.out.2, by rw [HG.out]; exact Nat.le_refl _⟩
attribute [irreducible] bytesF lcgN lcg
end Go.Proofs.YtobkmohoepgfmaaGreatDoor
namespace Go.Proofs.YtobkmohoepgfmaaGreatDoor
open Go.RowKit Go.Sort
set_option maxRecDepth 100000
set_option maxHeartbeats 1000000

theorem results_cell1 {fn : Func} {p : Tmp} {ty : TypeId} (h : fn.results = #[.cell p ty]) (tmps : Array Value) (P : Program) (w : World) :
  (results fn tmps).run P w = ((asAddr (tmps.getD p undef)).run P w).andThen fun a w₁ => (loadVar ty a).run P w₁ := by
 simp only [results, h]
 simp [Sem.run_bind, Result.andThen]
end Go.Proofs.YtobkmohoepgfmaaGreatDoor
namespace Go.Proofs.YtobkmohoepgfmaaGreatDoor
open Go.RowKit Go.Sort
set_option maxRecDepth 100000
set_option maxHeartbeats 1000000
structure It where
 s : Nat
 g : Nat
 D : Nat → Nat
def It.Ok (x : It) : Prop := x.s < 40 ∧ 1 ≤ x.g ∧ x.g ≤ 1099511627776 ∧ ∀ j, j < 128 → x.D j < 256
def itF (no : Nat) (x : It) : Nat → Nat := fun j => if j < 6 then byteAt no 6 j else if j = 6 then x.s else if j < 13 then byteAt x.g 6 (j - 7) else x.D (j - 13)
theorem itF_lt {no : Nat} {x : It} (h : x.Ok) : ∀ j, j < 141 → itF no x j < 256 := by
 obtain ⟨h1, h2, h3, h4⟩ := h
 intro j hj
 unfold itF
 split
 ·exact byteAt_lt _ _ _
 ·split
  ·omega
  ·split
   ·exact byteAt_lt _ _ _
   ·exact h4 _ (by omega)
def itS (no : Nat) (x : It) : Nat → Nat := sealF 2 141 (itF no x)
theorem itS_lt {no : Nat} {x : It} (h : x.Ok) (j : Nat) : itS no x j < 256 := sealF_lt (by decide) (itF_lt h) j
theorem itS_read {no : Nat} {x : It} {F : Nat → Nat} (hx : x.Ok) (hno : no < 281474976710656) (hF : ∀ j, j < 160 → F j = itS no x j) :
  OpenOk F ∧ num4 F 156 = sumF F 156 ∧ F 0 = 2 ∧ F 1 * 256 + F 2 = 141 ∧ numF (fun j => F (3 + j)) 6 = no ∧ F 9 = x.s ∧ numF (fun j => F (3 + (7 + j))) 6 = x.g ∧ ∀ j, j < 128 → F (16 + j) = x.D j := by
 obtain ⟨h1, h2, h3, h4, h5⟩ := openOk_seal (kind := 2) (n := 141) (B := itF no x) (F := F) (by decide) (by decide) hF
 refine ⟨h1, h2, h3, h4, ?_, ?_, ?_, fun j hj => ?_⟩
 ·have e : numF (fun j => F (3 + j)) 6 = numF (byteAt no 6) 6 := by
   rw [numF_6, numF_6]
   simp only [h5 0 (by omega), h5 1 (by omega), h5 2 (by omega), h5 3 (by omega), h5 4 (by omega), h5 5 (by omega)]
   rfl
  rw [e]
  exact byte6 no hno
 ·exact h5 6 (by omega)
 ·have e : numF (fun j => F (3 + (7 + j))) 6 = numF (byteAt x.g 6) 6 := by
   rw [numF_6, numF_6]
   simp only [h5 (7 + 0) (by omega), h5 (7 + 1) (by omega), h5 (7 + 2) (by omega), h5 (7 + 3) (by omega), h5 (7 + 4) (by omega), h5 (7 + 5) (by omega)]
   rfl
  rw [e]
  exact byte6 x.g (by have := hx.2.2.1; omega)
 ·have := h5 (13 + j) (by omega)
  rw [show 3 + (13 + j) = 16 + j by omega] at this
  rw [this]
  unfold itF
  rw [if_neg (by omega), if_neg (by omega), if_neg (by omega), Nat.add_sub_cancel_left]
def It.Alike (x y : It) : Prop := x.s = y.s ∧ x.g = y.g ∧ ∀ j, j < 128 → x.D j = y.D j
attribute [irreducible] itF itS
abbrev iv (s g : Int) (A : Option Addr) (n c : Nat) : Value := .agg #[.int .i64 s, .int .i64 g, .slice A n c]
abbrev sv (no s g : Int) (A : Option Addr) (n c : Nat) : Value := .agg #[.int .i64 no, .int .i64 s, .int .i64 g, .slice A n c]
def OkJ (s g : Int) (n : Nat) : Prop := 0 ≤ s ∧ s < 40 ∧ 1 ≤ g ∧ g ≤ 1099511627776 ∧ n = 128
def IV (w : World) (b : Nat) (s g : Int) (A : Option Addr) (n c : Nat) : Prop := w.heap[b]? = some (.cells #[.int .i64 s, .int .i64 g, .slice A n c] 109 (0, 0))
section
variable {w w' : World} {b n c : Nat} {s g : Int} {A : Option Addr}
theorem IV.c0 (h : IV w b s g A n c) : w.cell? ⟨b, 0, none⟩ = some (.int .i64 s) := cell_of_block h
theorem IV.c1 (h : IV w b s g A n c) : w.cell? ⟨b, 1, none⟩ = some (.int .i64 g) := cell_of_block h
theorem IV.c2 (h : IV w b s g A n c) : w.cell? ⟨b, 2, none⟩ = some (.slice A n c) := cell_of_block h
theorem IV.f (h : IV w b s g A n c) (k : Nat) : w.frozen? ⟨b, k, none⟩ = false := free_of_block h
theorem IV.lt (h : IV w b s g A n c) : b < w.heap.size := heap_lt h
theorem IV.keep (h : IV w b s g A n c) (e : w'.heap[b]? = w.heap[b]?) : IV w' b s g A n c := e.trans h
theorem IV.below (h : IV w b s g A n c) (e : Below w.heap.size w w') : IV w' b s g A n c := (e.block b h.lt).trans h
theorem IV.new (w : World) (s g : Int) (A : Option Addr) (n c : Nat) : IV (w.alloc (.cells #[.int .i64 s, .int .i64 g, .slice A n c] 109)) w.heap.size s g A n c := alloc_block w _
theorem IV.of_new {H : Nat} (hH : w.heap.size = H) : IV (w.alloc (.cells #[.int .i64 s, .int .i64 g, .slice A n c] 109)) H s g A n c := hH ▸ IV.new w s g A n c
theorem IV.put (h : IV w b s g A n c) {s' g' : Int} {A' : Option Addr} {n' c' : Nat} : IV (((w.setCell ⟨b, 0, none⟩ (.int .i64 s')).setCell ⟨b, 1, none⟩ (.int .i64 g')).setCell ⟨b, 2, none⟩ (.slice A' n' c')) b s' g' A' n' c' := by
 unfold IV at h ⊢
 rw [set_block (set_block (set_block h 0 _) 1 _) 2 _]
 rfl
theorem IV.load (h : IV w b s g A n c) : (loadVar 109 ⟨b, 0, none⟩).run Tryz.prog w = .ok (iv s g A n c) w := by
 have c0 := h.c0
 have c1 := h.c1
 have c2 := h.c2
 have s0 := h.lt
 simp [go_sem, c0, c1, c2, iv]
end
theorem below_put3 {B : Nat} {w0 w : World} {b : Nat} (h : Below B w0 w) (hb : B ≤ b) (v0 v1 v2 : Value) : Below B w0 (((w.setCell ⟨b, 0, none⟩ v0).setCell ⟨b, 1, none⟩ v1).setCell ⟨b, 2, none⟩ v2) :=
 ((h.setCell hb _).setCell hb _).setCell hb _
def DatI (w : World) (A : Option Addr) (D : Nat → Nat) : Prop := ∃ g o cs, A = some ⟨g, o, none⟩ ∧ w.heap[g]? = some (.cells cs 5 (0, 0)) ∧ ∀ j, j < 128 → w.cell? ⟨g, o + j, none⟩ = some (.int .u8 (D j : Nat))
theorem DatI.of {w : World} {g o n : Nat} {D F : Nat → Nat} (h : Blk8 w g n F) (r : Rd w (some ⟨g, o, none⟩) 128 D) : DatI w (some ⟨g, o, none⟩) D := by
 obtain ⟨cs, hb, _⟩ := h
 exact ⟨g, o, cs, rfl, hb, fun j hj => r.some_ hj⟩
theorem DatI.blk {w : World} {g : Nat} {D : Nat → Nat} (h : Blk8 w g 128 D) : DatI w (some ⟨g, 0, none⟩) D := DatI.of h h.rd
theorem DatI.rd {w : World} {A : Option Addr} {D : Nat → Nat} (h : DatI w A D) : Rd w A 128 D := fun _ => by
 obtain ⟨g, o, cs, e, _, hc⟩ := h
 exact ⟨g, o, e, hc⟩
theorem DatI.keep {w w' : World} {A : Option Addr} {D : Nat → Nat} (h : DatI w A D) (k : ∀ (g : Nat) (cs : Array Value), w.heap[g]? = some (Obj.cells cs 5 (0, 0)) → w'.heap[g]? = w.heap[g]?) : DatI w' A D := by
 obtain ⟨g, o, cs, e, hb, hc⟩ := h
 have h1 := k g cs hb
 exact ⟨g, o, cs, e, h1.trans hb, fun j hj => (World.cell?_of_block (w := w) h1).trans (hc j hj)⟩
theorem DatI.below {w w' : World} {A : Option Addr} {D : Nat → Nat} (h : DatI w A D) (b : Below w.heap.size w w') : DatI w' A D := h.keep (fun g _ hb => b.block g (heap_lt hb))
theorem DatI.far {w : World} {A : Option Addr} {D : Nat → Nat} {b k : Nat} {cs : Array Value} {t : TypeId} {fr : Nat × Nat} {v : Value} (h : DatI w A D) (hb : w.heap[b]? = some (.cells cs t fr)) (ht : t ≠ 5) : DatI (w.setCell ⟨b, k, none⟩ v) A D :=
 h.keep (fun g cs' hg => set_other (by rintro rfl; rw [hb] at hg; cases hg; exact ht rfl) k v)
def ItV (w : World) (v : Value) (x : It) : Prop := ∃ A c, v = iv (x.s : Int) (x.g : Int) A 128 c ∧ DatI w A x.D
theorem Blk8.farI {w : World} {g n b k : Nat} {F : Nat → Nat} {cs : Array Value} {t : TypeId} {fr : Nat × Nat} {v : Value} (h : Blk8 w g n F) (hb : w.heap[b]? = some (.cells cs t fr)) (ht : t ≠ 5) : Blk8 (w.setCell ⟨b, k, none⟩ v) g n F :=
 h.keep (set_other (by rintro rfl; obtain ⟨cs', h1, _⟩ := h; rw [hb] at h1; cases h1; exact ht rfl) k v)
theorem Blk8.far3 {w : World} {q m : Nat} {D : Nat → Nat} {b n c : Nat} {s g : Int} {B : Option Addr} (h : Blk8 w q m D) (k : IV w b s g B n c) {v0 v1 v2 : Value} :
  Blk8 (((w.setCell ⟨b, 0, none⟩ v0).setCell ⟨b, 1, none⟩ v1).setCell ⟨b, 2, none⟩ v2) q m D := by
 have h1 := set_block k 0 v0
 have h2 := set_block h1 1 v1
 exact ((h.farI k (by decide)).farI h1 (by decide)).farI h2 (by decide)
theorem iright (s g : Int) (A : Option Addr) (n cap : Nat) (w : World) (t : Bool) (ht : t = true ↔ OkJ s g n) :
  Calls Tryz.prog 140 #[iv s g A n cap] w fun e w' => e = .returned (.bool t) ∧ Below w.heap.size w w' := by
 have HB : Hid (Below w.heap.size w (w.alloc (.cells #[.int .i64 s, .int .i64 g, .slice A n cap] 109))) := Lib.hid ((Below.refl _ _).alloc (Nat.le_refl _) _)
 unfold OkJ at ht
 unfold iv
 have walk : True := trivial
 by_cases h0 : 0 ≤ s
 ·have p0 := h0
  by_cases h1 : s < 40
  ·have p1 := h1
   by_cases h2 : 1 ≤ g
   ·have p2 := h2
    by_cases h3 : g ≤ 1099511627776
    ·have p3 := h3
     by_cases h4 : (n : Int) = 128
     ·have p5 : ((n : Int) == 128) = true := beq_iff_eq.2 h4
      obtain rfl : t = true := ht.2 (by refine ⟨h0, h1, h2, h3, by omega⟩)
      clear ht h0 h1 h2 h3 h4
      go_enter Tryz.func140, Tryz.ntmps140
      go_wp2_with fail
      go_ret
      exact ⟨rfl, HB.out⟩
     ·obtain rfl : t = false := not_true ht (fun h => by omega)
      have p5 : ((n : Int) == 128) = false := beq_eq_false_iff_ne.2 h4
      clear ht h0 h1 h2 h3 h4
      go_enter Tryz.func140, Tryz.ntmps140
      go_wp2_with fail
      go_ret
      exact ⟨rfl, HB.out⟩
    ·obtain rfl : t = false := not_true ht (fun h => by omega)
     clear ht h0 h1 h2
     go_enter Tryz.func140, Tryz.ntmps140
     go_wp2_with fail
     go_ret
     exact ⟨rfl, HB.out⟩
   ·obtain rfl : t = false := not_true ht (fun h => by omega)
    clear ht h0 h1
    go_enter Tryz.func140, Tryz.ntmps140
    go_wp2_with fail
    go_ret
    exact ⟨rfl, HB.out⟩
  ·obtain rfl : t = false := not_true ht (fun h => by omega)
   clear ht h0
   go_enter Tryz.func140, Tryz.ntmps140
   go_wp2_with fail
   go_ret
   exact ⟨rfl, HB.out⟩
 ·obtain rfl : t = false := not_true ht (fun h => by omega)
  clear ht 
  go_enter Tryz.func140, Tryz.ntmps140
  go_wp2_with fail
  go_ret
  exact ⟨rfl, HB.out⟩
theorem isame (s g s' g' : Int) (A A' : Option Addr) (n c n' c' : Nat) (D D' : Nat → Nat) (w : World) (h1 : Rd w A n D) (h2 : Rd w A' n' D') (b1 : ∀ j, j < n → D j < 256) (b2 : ∀ j, j < n' → D' j < 256)
  (t : Bool) (ht : t = true ↔ s = s' ∧ g = g' ∧ n = n' ∧ ∀ j, j < n → D j = D' j) :
  Calls Tryz.prog 196 #[iv s g A n c, iv s' g' A' n' c'] w fun e w' => e = .returned (.bool t) ∧ Below w.heap.size w w' := by
 have HT := Lib.hid ht
 obtain ⟨w1, hw1⟩ : ∃ w1, (w.alloc (.cells #[.int .i64 s, .int .i64 g, .slice A n c] 109)).alloc (.cells #[.int .i64 s', .int .i64 g', .slice A' n' c'] 109) = w1 := ⟨_, rfl⟩
 have HB1 : Hid (Below w.heap.size w w1) := Lib.hid (by rw [← hw1]; exact ((Below.refl _ _).alloc (Nat.le_refl _) _).alloc (by simp) _)
 have HW1 := Lib.hid hw1
 have HE := Lib.hid (fun t' ht' => bequal A A' n n' c c' D D' w1 (h1.keep HB1.out) (h2.keep HB1.out) b1 b2 t' ht')
 clear ht h1 h2 b1 b2 hw1
 unfold iv
 by_cases hs : s = s'
 ·have e1 : (s == s') = true := beq_iff_eq.2 hs
  have HS := Lib.hid hs
  clear hs
  by_cases hg : g = g'
  ·have e2 : (g == g') = true := beq_iff_eq.2 hg
   have HG := Lib.hid hg
   clear hg
   have HE2 := Lib.hid (HE.out t ⟨fun h => (HT.out.1 h).2.2, fun h => HT.out.2 ⟨HS.out, HG.out, h⟩⟩)
   go_enter Tryz.func196, Tryz.ntmps196
   go_wp2_with fail
   rw [HW1.out]
   refine HE2.out.mono ?_
   rintro e w' ⟨rfl, hw⟩
   obtain rfl := hw.symm
   go_wp2_with fail
   go_ret
   exact ⟨rfl, HB1.out⟩
  ·have e2 : (g == g') = false := beq_eq_false_iff_ne.2 hg
   obtain rfl : t = false := not_true HT.out (fun h => hg h.2.1)
   clear hg
   go_enter Tryz.func196, Tryz.ntmps196
   go_wp2_with fail
   go_ret
   rw [HW1.out]
   exact ⟨rfl, HB1.out⟩
 ·have e1 : (s == s') = false := beq_eq_false_iff_ne.2 hs
  obtain rfl : t = false := not_true HT.out (fun h => hs h.1)
  clear hs
  go_enter Tryz.func196, Tryz.ntmps196
  go_wp2_with fail
  go_ret
  rw [HW1.out]
  exact ⟨rfl, HB1.out⟩
theorem isameV {w : World} {v v' : Value} {x y : It} (h : ItV w v x) (h' : ItV w v' y) (hx : ∀ j, j < 128 → x.D j < 256) (hy : ∀ j, j < 128 → y.D j < 256) (t : Bool) (ht : t = true ↔ x.Alike y) :
  Calls Tryz.prog 196 #[v, v'] w fun e w' => e = .returned (.bool t) ∧ Below w.heap.size w w' := by
 obtain ⟨A, c, rfl, d⟩ := h
 obtain ⟨A', c', rfl, d'⟩ := h'
 refine isame _ _ _ _ A A' 128 c 128 c' x.D y.D w d.rd d'.rd hx hy t ⟨fun h => ?_, fun h => ht.2 ⟨by omega, by omega, h.2.2.2⟩⟩
 obtain ⟨a, b, e⟩ := ht.1 h
 exact ⟨by omega, by omega, rfl, e⟩
def IClone (s g : Int) (D : Nat → Nat) (w : World) (e : Ending) (w' : World) : Prop := ∃ b c, e = .returned (iv s g (some ⟨b, 0, none⟩) 128 c) ∧ Blk8 w' b 128 D ∧ Below w.heap.size w w' ∧ w.heap.size ≤ b ∧ 128 ≤ c
theorem iclone (s g : Int) (A : Option Addr) (c : Nat) (D : Nat → Nat) (w : World) (h : Rd w A 128 D) :
  Calls Tryz.prog 179 #[iv s g A 128 c] w (IClone s g D w) := by
 obtain ⟨g0, o0, rfl, _⟩ := h (by omega)
 obtain ⟨w1, hw1⟩ : ∃ w1, (w.alloc (.cells #[.int .i64 s, .int .i64 g, .slice (some ⟨g0, o0, none⟩) 128 c] 109)).alloc (.cells #[.int .i64 0, .int .i64 0, .slice none 0 0] 109) = w1 := ⟨_, rfl⟩
 have HW1 := Lib.hid hw1
 obtain ⟨H, hH⟩ : ∃ H, w.heap.size = H := ⟨_, rfl⟩
 have HH := Lib.hid hH
 have HB1 : Hid (Below H w w1) := Lib.hid (by rw [← hw1, ← hH]; exact ((Below.refl _ _).alloc (Nat.le_refl _) _).alloc (by simp) _)
 have HK1 : Hid (IV w1 H s g (some ⟨g0, o0, none⟩) 128 c) := Lib.hid (by rw [← hw1]; exact (IV.of_new hH).below ((Below.refl _ _).alloc (Nat.le_refl _) _))
 have HK2 : Hid (IV w1 (H + 1) 0 0 none 0 0) := Lib.hid (by rw [← hw1]; exact IV.of_new (by simp [hH]))
 have HC := Lib.hid (bclone ⟨g0, o0, none⟩ 128 c D w1 (h.keep (by rw [hH]; exact HB1.out)) (by omega))
 have HS1 : Hid (H + 1 < w1.heap.size) := Lib.hid HK2.out.lt
 have c2 := HK1.out.c2
 clear hw1 hH h
 unfold iv
 go_enter Tryz.func179, Tryz.ntmps179
 go_wp2_with fail
 rw [HW1.out, HH.out]
 refine HC.out.mono ?_
 rintro e w2 ⟨b, cap, rfl, ho, hb2, hl2, _, hcap⟩
 try dsimp only
 have HO2 := Lib.hid (own_blk ho)
 have HCAP := Lib.hid hcap
 have HB2 : Hid (Below H w w2) := Lib.hid (HB1.out.trans (hb2.mono (by have := HS1.out; omega)))
 have K1 := Lib.hid (HK1.out.below hb2)
 have K2 := Lib.hid (HK2.out.below hb2)
 have HL2 : Hid (H ≤ b) := Lib.hid (by have := HS1.out; omega)
 have d0 := K1.out.c0
 have d1 := K1.out.c1
 have d2 := K1.out.c2
 have df := K1.out.f
 have e0 := K2.out.c0
 have e1 := K2.out.c1
 have e2 := K2.out.c2
 have ef := K2.out.f
 clear ho hb2 hl2 hcap c2 HC
 have K3 : Hid (IV (w2.setCell ⟨H, 2, none⟩ (.slice (some ⟨b, 0, none⟩) 128 cap)) (H + 1) 0 0 none 0 0) := Lib.hid (K2.out.keep (set_other (by omega) 2 _))
 go_wp2_with fail
 refine bodyPost_ret (v := iv s g (some ⟨b, 0, none⟩) 128 cap) ?_ rfl ?_
 ·rw [results_cell1 rfl]
  simp [K3.out.put.load, Result.andThen, asAddr]
 refine ⟨b, cap, rfl, ?_, ?_, by rw [HH.out]; exact HL2.out, HCAP.out⟩
 ·exact (HO2.out.farI K1.out (by decide)).far3 K3.out
 ·rw [HH.out]; exact below_put3 (HB2.out.setCell (p := ⟨H, 2, none⟩) (Nat.le_refl _) _) (Nat.le_succ _) _ _ _
end Go.Proofs.YtobkmohoepgfmaaGreatDoor
