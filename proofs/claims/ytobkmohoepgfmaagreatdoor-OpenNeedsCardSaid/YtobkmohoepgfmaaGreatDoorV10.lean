import Derived.Test.YtobkmohoepgfmaaGreatDoorV09
namespace Go.Proofs.YtobkmohoepgfmaaGreatDoor
open Go.RowKit Go.Sort
set_option maxRecDepth 100000
set_option maxHeartbeats 1000000

def SV (w : World) (b : Nat) (no s g : Int) (A : Option Addr) (n c : Nat) : Prop := w.heap[b]? = some (.cells #[.int .i64 no, .int .i64 s, .int .i64 g, .slice A n c] 194 (0, 0))
section
variable {w w' : World} {b n c : Nat} {no s g : Int} {A : Option Addr}
theorem SV.c0 (h : SV w b no s g A n c) : w.cell? ⟨b, 0, none⟩ = some (.int .i64 no) := cell_of_block h
theorem SV.c1 (h : SV w b no s g A n c) : w.cell? ⟨b, 1, none⟩ = some (.int .i64 s) := cell_of_block h
theorem SV.c2 (h : SV w b no s g A n c) : w.cell? ⟨b, 2, none⟩ = some (.int .i64 g) := cell_of_block h
theorem SV.c3 (h : SV w b no s g A n c) : w.cell? ⟨b, 3, none⟩ = some (.slice A n c) := cell_of_block h
theorem SV.f (h : SV w b no s g A n c) (k : Nat) : w.frozen? ⟨b, k, none⟩ = false := free_of_block h
theorem SV.lt (h : SV w b no s g A n c) : b < w.heap.size := heap_lt h
theorem SV.keep (h : SV w b no s g A n c) (e : w'.heap[b]? = w.heap[b]?) : SV w' b no s g A n c := e.trans h
theorem SV.below (h : SV w b no s g A n c) (e : Below w.heap.size w w') : SV w' b no s g A n c := (e.block b h.lt).trans h
theorem SV.new (w : World) (no s g : Int) (A : Option Addr) (n c : Nat) : SV (w.alloc (.cells #[.int .i64 no, .int .i64 s, .int .i64 g, .slice A n c] 194)) w.heap.size no s g A n c := alloc_block w _
theorem SV.of_new {H : Nat} (hH : w.heap.size = H) : SV (w.alloc (.cells #[.int .i64 no, .int .i64 s, .int .i64 g, .slice A n c] 194)) H no s g A n c := hH ▸ SV.new w no s g A n c
theorem SV.put (h : SV w b no s g A n c) {no' s' g' : Int} {A' : Option Addr} {n' c' : Nat} :
  SV ((((w.setCell ⟨b, 0, none⟩ (.int .i64 no')).setCell ⟨b, 1, none⟩ (.int .i64 s')).setCell ⟨b, 2, none⟩ (.int .i64 g')).setCell ⟨b, 3, none⟩ (.slice A' n' c')) b no' s' g' A' n' c' := by
 unfold SV at h ⊢
 rw [set_block (set_block (set_block (set_block h 0 _) 1 _) 2 _) 3 _]
 rfl
theorem SV.load (h : SV w b no s g A n c) : (loadVar 194 ⟨b, 0, none⟩).run Tryz.prog w = .ok (sv no s g A n c) w := by
 have c0 := h.c0
 have c1 := h.c1
 have c2 := h.c2
 have c3 := h.c3
 have s0 := h.lt
 simp [go_sem, c0, c1, c2, c3, sv]
end
theorem below_putS {B : Nat} {w0 w : World} {b : Nat} (h : Below B w0 w) (hb : B ≤ b) (v0 v1 v2 v3 : Value) : Below B w0 ((((w.setCell ⟨b, 0, none⟩ v0).setCell ⟨b, 1, none⟩ v1).setCell ⟨b, 2, none⟩ v2).setCell ⟨b, 3, none⟩ v3) :=
 (((h.setCell hb _).setCell hb _).setCell hb _).setCell hb _
theorem DatI.far4 {w : World} {A : Option Addr} {D : Nat → Nat} {b n c : Nat} {no s g : Int} {B : Option Addr} (h : DatI w A D) (k : SV w b no s g B n c) {v0 v1 v2 v3 : Value} :
  DatI ((((w.setCell ⟨b, 0, none⟩ v0).setCell ⟨b, 1, none⟩ v1).setCell ⟨b, 2, none⟩ v2).setCell ⟨b, 3, none⟩ v3) A D := by
 have h1 := set_block k 0 v0
 have h2 := set_block h1 1 v1
 have h3 := set_block h2 2 v2
 exact (((h.far k (by decide)).far h1 (by decide)).far h2 (by decide)).far h3 (by decide)
theorem mseal2 (n cap : Nat) (A : Option Addr) (B : Nat → Nat) (w : World) (hn : n ≤ 153) (h : Rd w A n B) (hB : ∀ j, j < n → B j < 256) :
  Calls Tryz.prog 168 #[.int .i64 2, .slice A n cap] w (SealRet 2 n B w) := mseal 2 n cap A B w (by decide) (by decide) hn h hB
def ILayRet (no : Nat) (x : It) (w : World) (e : Ending) (w' : World) : Prop :=
 ∃ g, e = .returned (.tuple #[.slice (some ⟨g, 0, none⟩) 160 160, .int .i64 0]) ∧ Blk8 w' g 160 (itS no x) ∧ Below w.heap.size w w' ∧ w.heap.size ≤ g
theorem ilay (no : Nat) (x : It) (A : Option Addr) (cap : Nat) (w : World) (hx : x.Ok) (h : Rd w A 128 x.D) :
  Calls Tryz.prog 180 #[sv (no : Int) (x.s : Int) (x.g : Int) A 128 cap] w (ILayRet no x w) := by
 obtain ⟨w2, hw2⟩ : ∃ w2, w.alloc (.cells #[.int .i64 (no : Int), .int .i64 (x.s : Int), .int .i64 (x.g : Int), .slice A 128 cap] 194) = w2 := ⟨_, rfl⟩
 obtain ⟨H, hH⟩ : ∃ H, w.heap.size = H := ⟨_, rfl⟩
 have HK : Hid (SV w2 H (no : Int) (x.s : Int) (x.g : Int) A 128 cap) := Lib.hid (by rw [← hw2]; exact SV.of_new hH)
 have hb2H : Below H w w2 := by rw [← hw2, ← hH]; exact (Below.refl _ _).alloc (Nat.le_refl _) _
 have HLT := Lib.hid (itF_lt (no := no) hx)
 have HF : Hid (∀ j, j < 141 → itF no x j = if j < 6 then byteAt no 6 j else if j < 6 + 1 then byteAt x.s 1 (j - 6) else if j < 6 + 1 + 6 then byteAt x.g 6 (j - (6 + 1)) else x.D (j - (6 + 1 + 6))) := Lib.hid (by
  intro j hj
  have hs := hx.1
  unfold itF
  by_cases e0 : j < 6
  ·rw [if_pos e0, if_pos e0]
  ·rw [if_neg e0, if_neg e0]
   by_cases e1 : j = 6
   ·subst e1; rw [if_pos rfl, if_pos (by omega)]; exact (byte1 x.s (by omega)).symm
   ·rw [if_neg e1, if_neg (by omega : ¬ j < 6 + 1)])
 have HRD := Lib.hid h
 have HW := Lib.hid hw2
 have HH := Lib.hid hH
 have hs2 : H < w2.heap.size := HK.out.lt
 have HB2 : Hid (Below H w w2.drew) := Lib.hid hb2H.drew
 have HS : Hid (∀ W, Below w2.heap.size w2 W → W.cell? ⟨H, 0, none⟩ = some (.int .i64 (no : Int)) ∧ W.cell? ⟨H, 1, none⟩ = some (.int .i64 (x.s : Int)) ∧ W.cell? ⟨H, 2, none⟩ = some (.int .i64 (x.g : Int)) ∧ W.cell? ⟨H, 3, none⟩ = some (.slice A 128 cap)) := Lib.hid (fun W hW => by
  have hk3 := HK.out.below hW
  exact ⟨hk3.c0, hk3.c1, hk3.c2, hk3.c3⟩)
 have HRW : Hid (Rd w2.drew A 128 x.D) := Lib.hid (HRD.out.keep (by rw [HH.out]; exact HB2.out))
 have hb0 : Below w2.heap.size w2 w2.drew := below_drewN 1 w2
 have HS2 := Lib.hid hs2
 have hsz : Hid (H ≤ w2.drew.heap.size) := Lib.hid (Nat.le_of_lt HS2.out)
 clear hw2 hH hb2H h HK hs2
 unfold sv
 go_enter Tryz.func180, Tryz.ntmps180
 go_upto_region 1 with fail
 rw [HW.out, HH.out]
 go_wp2_with fail
 go_region_held (fun W => W.cell? ⟨H, 0, none⟩ = some (.int .i64 (no : Int)) ∧ W.cell? ⟨H, 1, none⟩ = some (.int .i64 (x.s : Int)) ∧ W.cell? ⟨H, 2, none⟩ = some (.int .i64 (x.g : Int)) ∧ W.cell? ⟨H, 3, none⟩ = some (.slice A 128 cap))
  (first | assumption | exact HS.out _ hb0 | exact HS.out _ hbW | exact HS.out _ (hbW.alloc (by have := hbW.size; omega) _))
  (first
   | (go_at_call 107; (with_reducible refine (nbytesB no 6 6 rfl _ (by omega) HB2.out hsz.out).mono ?_); rintro e w3 ⟨g3, rfl, k3, B3, b3, l3, z3⟩; (try dsimp only); have K3 := Lib.hid k3; have HB3 := Lib.hid B3; have hbW := hb0.trans (b3.mono hb0.size); have Hz := Lib.hid z3; have HR3 := Lib.hid (HRW.out.keep b3); clear k3 B3 b3 l3 z3)
   | (go_at_call 107; (with_reducible refine (nbytesB x.s 1 1 rfl _ (by omega) HB3.out Hz.out).mono ?_); rintro e w4 ⟨g4, rfl, k4, B4, b4, l4, z4⟩; (try dsimp only); have K4 := Lib.hid k4; have HB4 := Lib.hid B4; have hbW4 := hbW.trans (b4.mono hbW.size); have K34 := Lib.hid (K3.out.below b4); have Hz4 := Lib.hid z4; have HR4 := Lib.hid (HR3.out.keep b4); clear k4 B4 b4 l4 z4 hbW; have hbW := hbW4)
   | (go_at_call 107; (with_reducible refine (nbytesB x.g 6 6 rfl _ (by omega) HB4.out Hz4.out).mono ?_); rintro e w5 ⟨g5, rfl, k5, B5, b5, l5, z5⟩; (try dsimp only); have K5 := Lib.hid k5; have HB5 := Lib.hid B5; have hbW5 := hbW.trans (b5.mono hbW.size); have K35 := Lib.hid (K34.out.below b5); have K45 := Lib.hid (K4.out.below b5); have Hz5 := Lib.hid z5; have HR5 := Lib.hid (HR4.out.keep b5); clear k5 B5 b5 l5 z5 hbW; have hbW := hbW5)
   | (go_at_call 85; (with_reducible refine (mconcat4L w5 _ _ _ A 6 1 6 128 6 1 6 cap 141 _ _ _ x.D (itF no x) K35.out.rd K45.out.rd K5.out.rd HR5.out rfl (by omega) (by omega) HF.out).mono ?_); rintro e w6 ⟨g6, c6, rfl, r6, b6, _, _⟩; (try dsimp only); have HR6 := Lib.hid r6; have HB6 : Hid (Below H w w6) := Lib.hid (HB5.out.trans (b6.mono Hz5.out)); have hbW6 := hbW.trans (b6.mono hbW.size); clear r6 b6 hbW; have hbW := hbW6)
   | (go_at_call 168; (with_reducible refine (mseal2 141 c6 (some ⟨g6, 0, none⟩) (itF no x) w6 (by omega) HR6.out HLT.out).mono ?_); rintro e w7 ⟨g7, rfl, k7, b7, l7⟩; (try dsimp only); have K7 := Lib.hid k7; have Hz6 : Hid (H ≤ w6.heap.size) := Lib.hid (Nat.le_trans (Nat.le_of_lt HS2.out) hbW.size); have HB7 : Hid (Below H w w7) := Lib.hid (HB6.out.trans (b7.mono Hz6.out)); have HL7 : Hid (H ≤ g7) := Lib.hid (Nat.le_trans Hz6.out l7); have hbW7 := hbW.trans (b7.mono hbW.size); clear k7 b7 l7 hbW; have hbW := hbW7)
   | fail)
 go_wp2_with fail
 go_ret2
 exact ⟨g7, rfl, by unfold itS; exact K7.out, by rw [HH.out]; exact HB7.out, by rw [HH.out]; exact HL7.out⟩
theorem iread_no (g q cap : Nat) (F : Nat → Nat) (w : World) (h : Rd w (some ⟨g, q, none⟩) 160 F) (hc : 160 ≤ cap) (hF : ∀ j, j < 160 → F j < 256) (h0 : F 0 = 0) :
  Calls Tryz.prog 100 #[.slice (some ⟨g, q, none⟩) 160 cap] w fun e w' => e = .returned (sv 0 0 0 none 0 0) ∧ Below w.heap.size w w' := by
 obtain ⟨w0, hw0⟩ : ∃ w0, w.alloc (.cells #[.int .i64 0, .int .i64 0, .int .i64 0, .slice none 0 0] 194) = w0 := ⟨_, rfl⟩
 have HW0 := Lib.hid hw0
 obtain ⟨H, hH⟩ : ∃ H, w.heap.size = H := ⟨_, rfl⟩
 have HH := Lib.hid hH
 have HB0 : Hid (Below H w w0) := Lib.hid (by rw [← hw0, ← hH]; exact (Below.refl _ _).alloc (Nat.le_refl _) _)
 have HR0 : Hid (Rd w0 (some ⟨g, q, none⟩) 160 F) := Lib.hid (h.keep (by rw [hH]; exact HB0.out))
 have HK0 : Hid (SV w0 H 0 0 0 none 0 0) := Lib.hid (by rw [← hw0]; exact SV.of_new hH)
 have HL0 : Hid (H ≤ w0.heap.size) := Lib.hid (Nat.le_of_lt HK0.out.lt)
 obtain ⟨ec, hec, HMO⟩ : ∃ ec : Int, (ec = 2 ∨ ec = 3) ∧ Hid (Calls Tryz.prog 138 #[.slice (some ⟨g, q, none⟩) 160 cap] w0 fun e w' => e = .returned (.tuple #[.int .i64 0, .slice none 0 0, .int .i64 ec]) ∧ Below w0.heap.size w0 w') := by
  by_cases hmk : num4 F 156 = sumF F 156
  ·exact ⟨2, Or.inl rfl, Lib.hid (mopen_rest g q cap F w0 _ HR0.out hc hF hmk (fun _ w' b => ⟨rfl, b⟩) (fun a => absurd a.1 (by omega)))⟩
  ·exact ⟨3, Or.inr rfl, Lib.hid (mopen_mark g q cap F w0 HR0.out hc hF hmk)⟩
 have e1 : (ec != 0) = true := by rw [bne_iff_ne]; omega
 clear hw0 hH h hF hec h0
 unfold sv
 go_enter Tryz.func100, Tryz.ntmps100
 go_wp2_with fail
 rw [HW0.out, HH.out]
 refine HMO.out.mono ?_
 rintro e w1 ⟨rfl, hb1⟩
 try dsimp only
 have HB1 : Hid (Below H w w1) := Lib.hid (HB0.out.trans (hb1.mono HL0.out))
 have HK1 := Lib.hid (HK0.out.below hb1)
 have c0 := HK1.out.c0
 have c1 := HK1.out.c1
 have c2 := HK1.out.c2
 have c3 := HK1.out.c3
 have f0 := HK1.out.f
 clear hb1
 go_wp2_with fail
 refine bodyPost_ret (v := sv 0 0 0 none 0 0) ?_ rfl ?_
 ·rw [results_cell1 rfl]
  simp [HK1.out.put.load, Result.andThen, asAddr]
 exact ⟨rfl, by rw [HH.out]; exact below_putS HB1.out (Nat.le_refl _) _ _ _ _⟩
def IReadRet (no : Nat) (x : It) (w : World) (e : Ending) (w' : World) : Prop := ∃ A c, e = .returned (sv (no : Int) (x.s : Int) (x.g : Int) A 128 c) ∧ DatI w' A x.D ∧ Below w.heap.size w w' ∧ 128 ≤ c
theorem iread_yes (no : Nat) (x : It) (g q cap : Nat) (F : Nat → Nat) (w : World) (h : Rd w (some ⟨g, q, none⟩) 160 F) (hc : 160 ≤ cap) (hx : x.Ok) (hn1 : 1 ≤ no) (hn2 : no < 281474976710656) (hF : ∀ j, j < 160 → F j = itS no x j) :
  Calls Tryz.prog 100 #[.slice (some ⟨g, q, none⟩) 160 cap] w (IReadRet no x w) := by
 obtain ⟨r1, r2, r3, r4, r5, r6, r7, r8⟩ := itS_read hx hn2 hF
 have hFb : ∀ j, j < 160 → F j < 256 := fun j hj => by rw [hF j hj]; exact itS_lt hx j
 have HF := Lib.hid hFb
 obtain ⟨w0, hw0⟩ : ∃ w0, w.alloc (.cells #[.int .i64 0, .int .i64 0, .int .i64 0, .slice none 0 0] 194) = w0 := ⟨_, rfl⟩
 have HW0 := Lib.hid hw0
 obtain ⟨H, hH⟩ : ∃ H, w.heap.size = H := ⟨_, rfl⟩
 have HH := Lib.hid hH
 have HB0 : Hid (Below H w w0) := Lib.hid (by rw [← hw0, ← hH]; exact (Below.refl _ _).alloc (Nat.le_refl _) _)
 have HR0 : Hid (Rd w0 (some ⟨g, q, none⟩) 160 F) := Lib.hid (h.keep (by rw [hH]; exact HB0.out))
 have HK0 : Hid (SV w0 H 0 0 0 none 0 0) := Lib.hid (by rw [← hw0]; exact SV.of_new hH)
 have HL0 : Hid (H < w0.heap.size) := Lib.hid HK0.out.lt
 have HMO : Hid (Calls Tryz.prog 138 #[.slice (some ⟨g, q, none⟩) 160 cap] w0 (OpenRet F w0)) := Lib.hid (mopen_rest g q cap F w0 _ HR0.out hc hFb r2 (fun a => absurd r1 a) (fun _ e w' b => b))
 have HR3 := Lib.hid r3
 have HR4 := Lib.hid r4
 have HR5 := Lib.hid r5
 have HR6 := Lib.hid r6
 have HR7 := Lib.hid r7
 have HR8 := Lib.hid r8
 have HX := Lib.hid hx
 have t1 : ¬ (no : Int) < 1 := by omega
 clear hw0 hH h hF r1 r2 r3 r4 r5 r6 r7 r8 hx hn1 hn2 hFb
 unfold IReadRet sv
 go_enter Tryz.func100, Tryz.ntmps100
 go_wp2_with fail
 rw [HW0.out]
 refine HMO.out.mono ?_
 rintro e w1 ⟨b, cb, rfl, hr1, hb1, hcb⟩
 try dsimp only
 rw [HR3.out, HR4.out, HH.out, show ((2 : Nat) : Int) = 2 from rfl]
 rw [HR4.out] at hr1 hcb
 have HB1 : Hid (Below H w w1) := Lib.hid (HB0.out.trans (hb1.mono (Nat.le_of_lt HL0.out)))
 have HK1 := Lib.hid (HK0.out.below hb1)
 have HRr := Lib.hid hr1.rd
 have HBK1 := Lib.hid hr1
 have N1 : Hid (∀ W, Below w1.heap.size w1 W → Calls Tryz.prog 139 #[.slice (some ⟨b, 0, none⟩) 6 cb] W fun e w' => e = .returned (.int .i64 (no : Int)) ∧ w' = W) := Lib.hid (fun W hW => (nof (some ⟨b, 0, none⟩) 6 cb (fun k => F (3 + k)) W ((HRr.out.less (by omega)).keep hW) (fun j hj => HF.out _ (by omega)) (by omega)).mono (by rintro e w' ⟨rfl, rfl⟩; exact ⟨by rw [HR5.out], rfl⟩))
 have N2 : Hid (∀ W, Below w1.heap.size w1 W → Calls Tryz.prog 139 #[.slice (some ⟨b, 6, none⟩) 1 (cb - 6)] W fun e w' => e = .returned (.int .i64 (x.s : Int)) ∧ w' = W) := Lib.hid (fun W hW => (nof (some ⟨b, 6, none⟩) 1 (cb - 6) (fun j => F (3 + (6 + j))) W (by have := (HRr.out.cut (k := 6) (m := 1) (by omega)).keep hW; rwa [Nat.zero_add] at this) (fun j hj => HF.out _ (by omega)) (by omega)).mono (by rintro e w' ⟨rfl, rfl⟩; exact ⟨by rw [numF_1]; show _ = Ending.returned (.int .i64 (x.s : Int)); rw [← HR6.out], rfl⟩))
 have N3 : Hid (∀ W, Below w1.heap.size w1 W → Calls Tryz.prog 139 #[.slice (some ⟨b, 7, none⟩) 6 (cb - 7)] W fun e w' => e = .returned (.int .i64 (x.g : Int)) ∧ w' = W) := Lib.hid (fun W hW => (nof (some ⟨b, 7, none⟩) 6 (cb - 7) (fun j => F (3 + (7 + j))) W (by have := (HRr.out.cut (k := 7) (m := 6) (by omega)).keep hW; rwa [Nat.zero_add] at this) (fun j hj => HF.out _ (by omega)) (by omega)).mono (by rintro e w' ⟨rfl, rfl⟩; exact ⟨by rw [HR7.out], rfl⟩))
 have BD : Hid (Below w1.heap.size w1 w1.drew) := Lib.hid (below_drewN 1 w1)
 have BA : Hid (∀ o, Below w1.heap.size w1 (w1.drew.alloc o)) := Lib.hid (fun o => BD.out.alloc (Nat.le_refl _) o)
 have BAD : Hid (∀ o, Below w1.heap.size w1 (w1.alloc o).drew) := Lib.hid (fun o => ((Below.refl _ _).alloc (Nat.le_refl _) o).drew)
 have d6 : (6 : Int) ≤ (cb : Int) := by omega
 have d7 : (7 : Int) ≤ (cb : Int) := by omega
 have d13 : (13 : Int) ≤ (cb : Int) := by omega
 have dLc : (141 : Int) ≤ (cb : Int) := by omega
 have n6 : ¬ cb = 6 := by omega
 have n7 : ¬ cb = 7 := by omega
 have n13 : ¬ cb = 13 := by omega
 have hc2 : 128 ≤ cb - 13 := by omega
 clear hb1 hr1 hcb
 obtain ⟨w2, hw2⟩ : ∃ w2, (w1.alloc (.cells #[.int .i64 (no : Int), .int .i64 (x.s : Int), .int .i64 (x.g : Int), .slice (some ⟨b, 13, none⟩) 128 (cb - 13)] 194)).drew = w2 := ⟨_, rfl⟩
 have HW2 := Lib.hid hw2
 have HK2 : Hid (SV w2 w1.heap.size (no : Int) (x.s : Int) (x.g : Int) (some ⟨b, 13, none⟩) 128 (cb - 13)) := Lib.hid (by rw [← hw2]; exact SV.new w1 _ _ _ _ _ _)
 have HB2 : Hid (Below w1.heap.size w1 w2) := Lib.hid (by rw [← hw2]; exact BAD.out _)
 clear hw2
 go_upto_region 4 with fail
 go_cut [6] from 25 to 37 (fun s6 wx => s6 = .pointer (some ⟨w1.heap.size, 0, none⟩) ∧ wx = w2)
 case first =>
   go_wp2_with fail
   go_region_law (first
    | (go_simp; go_at_call 139; (with_reducible refine (N1.out _ (by first | exact BD.out | exact BA.out _ | exact BAD.out _)).mono ?_); rintro e w2 ⟨rfl, hw⟩; obtain rfl := hw.symm; (try dsimp only))
    | (go_simp; go_at_call 139; (with_reducible refine (N2.out _ (by first | exact BD.out | exact BA.out _ | exact BAD.out _)).mono ?_); rintro e w2 ⟨rfl, hw⟩; obtain rfl := hw.symm; (try dsimp only))
    | (go_simp; go_at_call 139; (with_reducible refine (N3.out _ (by first | exact BD.out | exact BA.out _ | exact BAD.out _)).mono ?_); rintro e w2 ⟨rfl, hw⟩; obtain rfl := hw.symm; (try dsimp only)))
   all_goals (go_wp2_with fail; go_meet; exact ⟨rfl, HW2.out⟩)
 case rest =>
  obtain ⟨rfl, rfl⟩ := hcut
  clear N1 N2 N3
  have HRD : Hid (DatI wc (some ⟨b, 13, none⟩) x.D) := Lib.hid (by
   have h2 := (HRr.out.cut (k := 13) (m := 128) (by omega)).keep HB2.out
   rw [Nat.zero_add] at h2
   exact DatI.of (HBK1.out.below HB2.out) (h2.congr (fun j hj => by show F (3 + (13 + j)) = _; rw [show 3 + (13 + j) = 16 + j by omega]; exact HR8.out j hj)))
  have HK3 : Hid (SV wc H 0 0 0 none 0 0) := Lib.hid (HK1.out.below HB2.out)
  have HB3 : Hid (Below H w wc) := Lib.hid (HB1.out.trans (HB2.out.mono (Nat.le_of_lt HK1.out.lt)))
  have c0 := HK2.out.c0
  have c1 := HK2.out.c1
  have c2 := HK2.out.c2
  have c3 := HK2.out.c3
  have HRT := Lib.hid (iright (x.s : Int) (x.g : Int) (some ⟨b, 13, none⟩) 128 (cb - 13) wc true ⟨fun _ => ⟨by omega, by have := HX.out.1; omega, by have := HX.out.2.1; omega, by have := HX.out.2.2.1; omega, rfl⟩, fun _ => rfl⟩)
  unfold iv at HRT
  go_wp2_with fail
  refine HRT.out.mono ?_
  rintro e w3 ⟨rfl, hb3⟩
  try dsimp only
  have HK4 := Lib.hid (HK3.out.below hb3)
  have HB4 : Hid (Below H w w3) := Lib.hid (HB3.out.trans (hb3.mono (Nat.le_of_lt HK3.out.lt)))
  have HRD4 := Lib.hid (HRD.out.below hb3)
  have HP4 := Lib.hid (HK2.out.below hb3)
  have e0 := HP4.out.c0
  have e1 := HP4.out.c1
  have e2 := HP4.out.c2
  have e3 := HP4.out.c3
  have f0 := HK4.out.f
  have z0 := HK4.out.c0
  have z1 := HK4.out.c1
  have z2 := HK4.out.c2
  have z3 := HK4.out.c3
  clear hb3 c0 c1 c2 c3 HRT
  go_wp2_with fail
  refine bodyPost_ret (v := sv (no : Int) (x.s : Int) (x.g : Int) (some ⟨b, 13, none⟩) 128 (cb - 13)) ?_ rfl ?_
  ·rw [results_cell1 rfl]
   simp [HK4.out.put.load, Result.andThen, asAddr]
  exact ⟨_, _, rfl, HRD4.out.far4 HK4.out, by rw [HH.out]; exact below_putS HB4.out (Nat.le_refl _) _ _ _ _, hc2⟩
end Go.Proofs.YtobkmohoepgfmaaGreatDoor
