import Derived.Test.YtobkmohoepgfmaaGreatDoorV27
import Derived.Laws.BytesArg
import Derived.Laws.Strings
import Derived.Test.YtobkmohoepgfmaaGreatDoorV30
import Derived.Test.YtobkmohoepgfmaaGreatDoorV28
import Derived.Test.YtobkmohoepgfmaaGreatDoorV29
import Derived.Test.YtobkmohoepgfmaaGreatDoorV25
import Derived.Test.YtobkmohoepgfmaaGreatDoorV24
import Derived.StillTailTactics
import Derived.Deep.RegionHeldLaw
import Derived.Deep.CutRange
namespace Go.Proofs.YtobkmohoepgfmaaGreatDoor.Kc
open Go.RowKit Go.Sort
set_option maxRecDepth 100000
set_option maxHeartbeats 1000000

def strOf (xs : List Nat) : ByteArray := strOfNums (xs.map Int.ofNat)

theorem strOf_list (xs : List Nat) : (strOf xs).toList = xs.map UInt8.ofNat := by
 unfold strOf
 rw [ByteArray.toList_eq, strOfNums_data, List.map_map]
 rfl
theorem strOf_inj : ∀ {xs ys : List Nat}, (∀ x ∈ xs, x < 256) → (∀ y ∈ ys, y < 256) → (strOf xs).toList = (strOf ys).toList → xs = ys := by
 intro xs ys hx hy h
 rw [strOf_list, strOf_list] at h
 induction xs generalizing ys with
 | nil => cases ys with
  | nil => rfl
  | cons y ys => cases h
 | cons x xs ih => cases ys with
  | nil => cases h
  | cons y ys =>
   rw [List.map_cons, List.map_cons, List.cons.injEq] at h
   have h1 := congrArg UInt8.toNat h.1
   rw [UInt8.toNat_ofNat', UInt8.toNat_ofNat'] at h1
   have a := hx x (List.mem_cons_self)
   have b := hy y (List.mem_cons_self)
   have e : x = y := by omega
   rw [e, ih (fun z hz => hx z (List.mem_cons_of_mem _ hz)) (fun z hz => hy z (List.mem_cons_of_mem _ hz)) h.2]

end Go.Proofs.YtobkmohoepgfmaaGreatDoor.Kc
namespace Go.Proofs.YtobkmohoepgfmaaGreatDoor.Kc
open Go.RowKit Go.Sort
set_option maxRecDepth 100000
set_option maxHeartbeats 1000000

end Go.Proofs.YtobkmohoepgfmaaGreatDoor.Kc
namespace Go.Proofs.YtobkmohoepgfmaaGreatDoor.Kc
open Go.RowKit Go.Sort
set_option maxRecDepth 100000
set_option maxHeartbeats 1000000

def EncRetT (w : World) (A : Mx) (n : Nat) (e : Ending) (w' : World) : Prop := ∃ b, e = .returned (.tuple #[.slice (some ⟨b, 0, none⟩) n n, .int .i64 0]) ∧ Own w' b n 32 (fun i => b + 1 + i) (fun _ => 32) A ∧ w.heap.size ≤ b ∧ Below w.heap.size w w' ∧ OwnTy w' b n
theorem parts_bd {S : Nat → Nat} (hb : ∀ j, j < 128 → S j < 256) : Bd 4 32 (parts S) := fun i hi j hj => hb _ (by omega)

theorem cencodeT (c f o cap0 h q cap : Nat) (S : Nat → Nat) (w : World) (hc : Cdr w c f o cap0) (hcap : 128 ≤ cap) (hS : ∀ j, j < 128 → w.cell? ⟨h, q + j, none⟩ = some (.int .u8 (S j : Nat))) (hb : ∀ j, j < 128 → S j < 256) :
  Calls Tryz.prog 94 #[.pointer (some ⟨c, 0, none⟩), .slice (some ⟨h, q, none⟩) 128 cap] w (EncRetT w (enc (parts S)) 6) := by
 have HC := Lib.hid hc
 have HS := Lib.hid hS
 have HB := Lib.hid hb
 have hh : h < w.heap.size := cell?_lt (hS 0 (by omega))
 have HM := Lib.hid (cmade c f o cap0 w hc)
 have HK := Lib.hid (mchunk h q cap w)
 clear hc hS hb
 go_enter Tryz.func94, Tryz.ntmps94
 go_wp2_with fail
 refine HM.out.mono ?_
 rintro e w' ⟨rfl, hw⟩
 obtain rfl := hw.symm
 go_wp2_with fail
 refine HK.out.mono ?_
 rintro e w1 ⟨rfl, hk1, hk2, b1⟩
 have HB1 := Lib.hid b1
 have HCO := Lib.hid (mcollect w.heap.size (w.heap.size + 1) h q cap hcap w1 hk1 hk2)
 clear hk1 hk2 b1
 go_wp2_with fail
 refine HCO.out.mono ?_
 rintro e w2 ⟨v, rfl, own, b2⟩
 have HO := Lib.hid own
 have HB2 : Hid (Below w.heap.size w w2) := Lib.hid (HB1.out.trans (b2.mono HB1.out.size))
 clear own b2
 obtain ⟨g, cg, rfl⟩ := own_succ HO.out
 have hc2 : Cdr w2.drew c f o cap0 := HC.out.keep HB2.out.drew
 have hc3 : Cdr w2 c f o cap0 := HC.out.keep HB2.out
 have p1 := hc3.ptr
 have p2 := hc3.rows
 have raw4 : RawIn w2.drew (some ⟨g, 0, none⟩) (rowsOf 4 32 (parts S)) := rawIn_of fun i hi => by
  refine ⟨h, q + 32 * i, 32, ?_, fun j hj => ?_⟩
  ·rw [← addr_add]
   exact HO.out.cells (g := g) rfl i _ (by simp [hi]; rfl)
  ·have := HS.out (i * 32 + j) (by omega)
   rw [show q + 32 * i + j = q + (i * 32 + j) by omega]
   exact (HB2.out.drew.cell (p := ⟨h, q + (i * 32 + j), none⟩) hh).trans this
 have hgr := rowsOf_facts (gr_bd 6 4) (by omega) (by omega) (by omega) (by omega)
 have hpt := rowsOf_facts (parts_bd HB.out) (by omega) (by omega) (by omega) (by omega)
 have mm4 := mmulT f (some ⟨o, 0, none⟩) (some ⟨g, 0, none⟩) (rowsOf 6 4 gr) (rowsOf 4 32 (parts S)) cap0 cg 32 w2.drew hc2.fld hc2.raw raw4 hgr.1 hpt.1 hgr.2.1 hpt.2.1 (fun i xs hx => by rw [rowsOf_len]; exact hgr.2.2 i xs hx) hpt.2.2
 rw [rowsOf_len, rowsOf_len] at mm4
 have HMM := Lib.hid mm4
 have HBD := Lib.hid (parts_bd HB.out)
 clear hgr hpt mm4 raw4 hc2 hc3
 go_wp2_with fail
 go_still_tail 9, (by kernel_rfl)
 change wpList _ _ _ _ _ w2.drew
 go_wp2_with fail
 refine HMM.out.mono ?_
 rintro e w5 ⟨rfl, o5, b5, t5⟩
 go_wp2_with fail
 go_ret2
 refine ⟨w2.drew.heap.size, rfl, o5.congr (mm_congr (rowsOf_ent gr) (rowsOf_ent (parts S))), HB2.out.size, HB2.out.drew.trans (b5.mono HB2.out.size), t5⟩

end Go.Proofs.YtobkmohoepgfmaaGreatDoor.Kc
namespace Go.Proofs.YtobkmohoepgfmaaGreatDoor
open Go.RowKit Go.Sort
set_option maxRecDepth 100000
set_option maxHeartbeats 2000000

def carF (g c : Nat) (e : Ep) (B : Nat → Value) (j : Nat) : Value :=
 if j = 0 then .pointer (some ⟨g, 0, none⟩) else if j = 161 then .pointer (some ⟨c, 0, none⟩) else
 if j % 4 = 1 then .int .i64 (e.gen (j / 4) : Int) else if j % 4 = 2 then .int .i64 (e.next (j / 4) : Int) else if j % 4 = 3 then .bool (e.doubt (j / 4)) else B (j / 4 - 1)
theorem carF_g (g c : Nat) (e : Ep) (B : Nat → Value) {i : Nat} (hi : i < 40) : carF g c e B (1 + 4 * i) = .int .i64 (e.gen i : Int) := by
 unfold carF
 rw [if_neg (by omega), if_neg (by omega), if_pos (by omega), show (1 + 4 * i) / 4 = i by omega]
theorem carF_n (g c : Nat) (e : Ep) (B : Nat → Value) {i : Nat} (_hi : i < 40) : carF g c e B (2 + 4 * i) = .int .i64 (e.next i : Int) := by
 unfold carF
 rw [if_neg (by omega), if_neg (by omega), if_neg (by omega), if_pos (by omega), show (2 + 4 * i) / 4 = i by omega]
theorem carF_d (g c : Nat) (e : Ep) (B : Nat → Value) {i : Nat} (_hi : i < 40) : carF g c e B (3 + 4 * i) = .bool (e.doubt i) := by
 unfold carF
 rw [if_neg (by omega), if_neg (by omega), if_neg (by omega), if_neg (by omega), if_pos (by omega), show (3 + 4 * i) / 4 = i by omega]
theorem carF_b (g c : Nat) (e : Ep) (B : Nat → Value) {i : Nat} (hi : i < 40) : carF g c e B (4 + 4 * i) = B i := by
 unfold carF
 rw [if_neg (by omega), if_neg (by omega), if_neg (by omega), if_neg (by omega), if_neg (by omega), show (4 + 4 * i) / 4 - 1 = i by omega]
theorem carF_split {j : Nat} (h : j < 162) : j = 0 ∨ j = 161 ∨ ∃ i, i < 40 ∧ (j = 1 + 4 * i ∨ j = 2 + 4 * i ∨ j = 3 + 4 * i ∨ j = 4 + 4 * i) := by
 by_cases h0 : j = 0
 ·exact Or.inl h0
 by_cases h1 : j = 161
 ·exact Or.inr (Or.inl h1)
 ·exact Or.inr (Or.inr ⟨(j - 1) / 4, by omega, by omega⟩)
theorem carF_ext {g c : Nat} {e : Ep} {B : Nat → Value} {f : Nat → Value} (h0 : f 0 = .pointer (some ⟨g, 0, none⟩)) (hc : f 161 = .pointer (some ⟨c, 0, none⟩)) (hg : ∀ i, i < 40 → f (1 + 4 * i) = .int .i64 (e.gen i : Int)) (hn : ∀ i, i < 40 → f (2 + 4 * i) = .int .i64 (e.next i : Int))
  (hd : ∀ i, i < 40 → f (3 + 4 * i) = .bool (e.doubt i)) (hb : ∀ i, i < 40 → f (4 + 4 * i) = B i) : ∀ j, j < 162 → f j = carF g c e B j := fun j hj => by
 rcases carF_split hj with rfl | rfl | ⟨i, hi, rfl | rfl | rfl | rfl⟩
 ·exact h0
 ·exact hc
 ·rw [hg i hi, carF_g _ _ _ _ hi]
 ·rw [hn i hi, carF_n _ _ _ _ hi]
 ·rw [hd i hi, carF_d _ _ _ _ hi]
 ·rw [hb i hi, carF_b _ _ _ _ hi]
theorem carF_congr {g c : Nat} {e e' : Ep} {B B' : Nat → Value} (hg : ∀ i, i < 40 → e.gen i = e'.gen i) (hn : ∀ i, i < 40 → e.next i = e'.next i) (hd : ∀ i, i < 40 → e.doubt i = e'.doubt i) (hb : ∀ i, i < 40 → B i = B' i) : ∀ j, j < 162 → carF g c e B j = carF g c e' B' j :=
 carF_ext rfl rfl (fun i hi => by rw [carF_g _ _ _ _ hi, hg i hi]) (fun i hi => by rw [carF_n _ _ _ _ hi, hn i hi]) (fun i hi => by rw [carF_d _ _ _ _ hi, hd i hi]) (fun i hi => by rw [carF_b _ _ _ _ hi, hb i hi])
def PB (w0 v : World) (e : Ep) (B : Nat → Value) : Prop := ∀ i, i < 40 → (e.pend i = none ∧ B i = .slice none 0 0) ∨ ∃ D b cap, e.pend i = some D ∧ B i = .slice (some ⟨b, 0, none⟩) 128 cap ∧ 128 ≤ cap ∧ w0.heap.size ≤ b ∧ Blk8 v b 128 D ∧ ∀ j, j < 128 → D j < 256
theorem PB.keep {w0 v v' : World} {e : Ep} {B : Nat → Value} (h : PB w0 v e B) (k : ∀ (b : Nat) (cs : Array Value), v.heap[b]? = some (.cells cs 5 (0, 0)) → v'.heap[b]? = v.heap[b]?) : PB w0 v' e B := fun i hi => by
 rcases h i hi with h1 | ⟨D, b, cap, h1, h2, h3, h4, h5, h6⟩
 ·exact Or.inl h1
 ·refine Or.inr ⟨D, b, cap, h1, h2, h3, h4, ?_, h6⟩
  obtain ⟨cs, hb, hs⟩ := h5
  exact ⟨cs, (k b cs hb).trans hb, hs⟩
def ND.add (nd : ND) (Y : Nat → Prop) (v : World) : ND := ⟨nd.f, fun k => nd.Z k ∨ Y k, fun k => v.heap[k]?, v.heap.size⟩
theorem WL.add {w0 v1 v : World} {g : Nat} {nd : ND} {s : Wp} (h1 : WL w0 v1 g nd s) (b : Below v1.heap.size v1 v) {Y : Nat → Prop} (hY : ∀ k, Y k → v1.heap.size ≤ k ∧ k < v.heap.size) : WL w0 v g (nd.add Y v) s := h1.protect b Y hY
theorem WL.sub {w0 v1 v w' : World} {g : Nat} {nd : ND} {s s' : Wp} {Y : Nat → Prop} (h1 : WL w0 v1 g nd s) (b : Below v1.heap.size v1 v) (h' : WL w0 w' g (nd.add Y v) s') : WL w0 w' g nd s' :=
 h'.loose nd rfl (Nat.le_trans (Nat.le_trans h1.zB b.size) h'.zB) (fun k hk => ⟨h1.zlt hk, Or.inl hk, by
  have e1 : w'.heap[k]? = v.heap[k]? := h'.zO (Or.inl hk)
  rw [e1, b.block k (Nat.lt_of_lt_of_le (h1.zlt hk) h1.zB)]
  exact (h1.zO hk).symm⟩)
theorem WL.stays {w0 v w' : World} {g : Nat} {nd : ND} {s' : Wp} {Y : Nat → Prop} (h' : WL w0 w' g (nd.add Y v) s') {k : Nat} (hk : Y k) : w'.heap[k]? = v.heap[k]? := h'.zO (Or.inr hk)
structure CM (w0 v : World) (g cb : Nat) (nd : ND) (e : Ep) (A C c f o cap : Nat) (B : Nat → Value) : Prop where
 blk : BlkT v 72 cb 162 (carF g c e B)
 pb : PB w0 v e B
 cdr : Kc.Cdr v c f o cap
 cin : Kc.CdrIn A C v c f o
 cC : C ≤ v.heap.size
 zA : ∀ k, A ≤ k → k < C → nd.Z k
 zc : ¬ nd.Z cb
 w0c : w0.heap.size ≤ cb
theorem carrier_notW : ¬ WiT 72 := notWi (by decide) (by decide) (by decide) (by decide) (by decide) (by decide) (by decide)
theorem u8_notW : ¬ WiT 5 := notWi (by decide) (by decide) (by decide) (by decide) (by decide) (by decide) (by decide)
section
variable {w0 v v' : World} {g cb : Nat} {nd : ND} {e e' : Ep} {A C c f o cap : Nat} {B : Nat → Value} {s : Wp}
theorem CM.lt (h : CM w0 v g cb nd e A C c f o cap B) : cb < v.heap.size := h.blk.lt
theorem CM.fr (h : CM w0 v g cb nd e A C c f o cap B) (k : Nat) : v.frozen? ⟨cb, k, none⟩ = false := h.blk.free k
theorem CM.c0 (h : CM w0 v g cb nd e A C c f o cap B) : v.cell? ⟨cb, 0, none⟩ = some (.pointer (some ⟨g, 0, none⟩)) := h.blk.cell (by omega)
theorem CM.cc (h : CM w0 v g cb nd e A C c f o cap B) : v.cell? ⟨cb, 161, none⟩ = some (.pointer (some ⟨c, 0, none⟩)) := h.blk.cell (by omega)
theorem CM.cg (h : CM w0 v g cb nd e A C c f o cap B) {i : Nat} (hi : i < 40) : v.cell? ⟨cb, 1 + 4 * i, none⟩ = some (.int .i64 (e.gen i : Int)) := (h.blk.cell (by omega)).trans (by rw [carF_g _ _ _ _ hi])
theorem CM.cn (h : CM w0 v g cb nd e A C c f o cap B) {i : Nat} (hi : i < 40) : v.cell? ⟨cb, 2 + 4 * i, none⟩ = some (.int .i64 (e.next i : Int)) := (h.blk.cell (by omega)).trans (by rw [carF_n _ _ _ _ hi])
theorem CM.cd (h : CM w0 v g cb nd e A C c f o cap B) {i : Nat} (hi : i < 40) : v.cell? ⟨cb, 3 + 4 * i, none⟩ = some (.bool (e.doubt i)) := (h.blk.cell (by omega)).trans (by rw [carF_d _ _ _ _ hi])
theorem CM.cy (h : CM w0 v g cb nd e A C c f o cap B) {i : Nat} (hi : i < 40) : v.cell? ⟨cb, 4 + 4 * i, none⟩ = some (B i) := (h.blk.cell (by omega)).trans (by rw [carF_b _ _ _ _ hi])
theorem CM.other (h : CM w0 v g cb nd e A C c f o cap B) {nd' : ND} (hz : ∀ k, nd.Z k → nd'.Z k) (hc : ¬ nd'.Z cb) : CM w0 v g cb nd' e A C c f o cap B :=
 ⟨h.blk, h.pb, h.cdr, h.cin, h.cC, fun k a b => hz k (h.zA k a b), hc, h.w0c⟩
theorem CM.keep (h : CM w0 v g cb nd e A C c f o cap B) (h1 : WL w0 v g nd s) {s' : Wp} (h2 : WL w0 v' g nd s') (k : KeepF v v') (hg : e'.gen = e.gen) (hn : e'.next = e.next) (hd : e'.doubt = e.doubt) (hp : e'.pend = e.pend) : CM w0 v' g cb nd e' A C c f o cap B := by
 obtain ⟨q1, q2, q3, q4, qC, q5, q6, q7⟩ := h
 obtain ⟨r1, r2⟩ := q3.keepA q4 k.1 (fun j h3 h4 => (h2.zO (q5 j h3 h4)).trans (h1.zO (q5 j h3 h4)).symm)
 refine ⟨?_, fun i hi => ?_, r1, r2, Nat.le_trans qC k.1, q5, q6, q7⟩
 ·obtain ⟨cs, hb, hs⟩ := q1
  have := BlkT.congr (w := v') (f' := carF g c e' B) ⟨cs, (k.cells hb carrier_notW (by decide)).trans hb, hs⟩ (carF_congr (fun i _ => by rw [hg]) (fun i _ => by rw [hn]) (fun i _ => by rw [hd]) (fun _ _ => rfl))
  exact this
 ·rw [hp]
  exact q2.keep (fun b cs hb => k.cells hb u8_notW (by decide)) i hi
theorem CM.below (h : CM w0 v g cb nd e A C c f o cap B) (b : Below v.heap.size v v') : CM w0 v' g cb nd e A C c f o cap B := by
 obtain ⟨q1, q2, q3, q4, qC, q5, q6, q7⟩ := h
 obtain ⟨r1, r2⟩ := q3.keepA q4 b.size (fun j h3 h4 => b.block j (by omega))
 exact ⟨q1.keep (b.block cb q1.lt), q2.keep (fun b' cs hb => b.block b' (heap_lt hb)), r1, r2, Nat.le_trans qC b.size, q5, q6, q7⟩
theorem CM.put (h : CM w0 v g cb nd e A C c f o cap B) {B' : Nat → Value} {q : Nat} {x : Value} (hq : q < 162) (hx : ∀ j, j < 162 → (if j = q then x else carF g c e B j) = carF g c e' B' j) (hp : PB w0 v e' B') : CM w0 (v.setCell ⟨cb, q, none⟩ x) g cb nd e' A C c f o cap B' := by
 obtain ⟨q1, q2, q3, q4, qC, q5, q6, q7⟩ := h
 obtain ⟨r1, r2⟩ := q3.keepA (w' := v.setCell ⟨cb, q, none⟩ x) q4 (by simp [World.setCell]) (fun j h3 h4 => set_other (fun e2 => by rw [e2] at h3 h4; exact q6 (q5 cb h3 h4)) _ _)
 refine ⟨(q1.put hq).congr hx, hp.keep (fun b' cs hb => set_other (fun e2 => ?_) _ _), r1, r2, Nat.le_trans qC (by simp [World.setCell]), q5, q6, q7⟩
 obtain ⟨cs', hc, _⟩ := q1
 rw [e2, hc] at hb
 injection hb with hb
 injection hb with _ hb
 exact absurd hb (by decide)
theorem WL.cput (h1 : WL w0 v g nd s) (h : CM w0 v g cb nd e A C c f o cap B) (q : Nat) (x : Value) : WL w0 (v.setCell ⟨cb, q, none⟩ x) g nd s := by
 obtain ⟨cs, hb, _⟩ := h.blk
 exact h1.setO hb carrier_notW (by decide) h.w0c h.zc q x
end
section
variable {w0 v v' : World} {g cb : Nat} {nd : ND} {e : Ep} {s : Wp}
end
end Go.Proofs.YtobkmohoepgfmaaGreatDoor
namespace Go.Proofs.YtobkmohoepgfmaaGreatDoor
open Go.RowKit Go.Sort
set_option maxRecDepth 100000
set_option maxHeartbeats 2000000

def CbP (v : World) (g cb : Nat) : Prop := v.cell? ⟨cb, 0, none⟩ = some (.pointer (some ⟨g, 0, none⟩)) ∧ ∃ cs, v.heap[cb]? = some (.cells cs 72 (0, 0))
theorem CbP.keepF {v v' : World} {g cb : Nat} (h : CbP v g cb) (k : KeepF v v') : CbP v' g cb := by
 obtain ⟨h1, cs, h2⟩ := h
 have e := k.cells h2 carrier_notW (by decide)
 exact ⟨(World.cell?_of_block (w := v) e).trans h1, cs, e.trans h2⟩
theorem CbP.keep {v v' : World} {g cb : Nat} (h : CbP v g cb) (k : KeepW v v') : CbP v' g cb := h.keepF (KeepF.of k)
theorem CbP.below {v v' : World} {g cb : Nat} (h : CbP v g cb) (b : Below v.heap.size v v') : CbP v' g cb := h.keep (KeepW.of b)
theorem CM.cbp {w0 v : World} {g cb : Nat} {nd : ND} {e : Ep} {A C c f o cap : Nat} {B : Nat → Value} (h : CM w0 v g cb nd e A C c f o cap B) : CbP v g cb := by
 obtain ⟨cs, hb, _⟩ := h.blk
 exact ⟨h.c0, cs, hb⟩
def HaveRet (w0 v : World) (g : Nat) (nd : ND) (n : Nat) (x : Wp × Nat) (en : Ending) (w' : World) : Prop :=
 ∃ u, en = .returned u ∧ WL w0 w' g nd x.1 ∧ KeepW v w' ∧ ((x.2 = 0 ∧ u = .nilIface) ∨ (x.2 ≠ 0 ∧ ∃ b, u = onv b ∧ OnE w' b (n : Int) (x.2 : Int)))
theorem Wp.call_err {s s1 : Wp} {n c : Nat} {q : Rq} (e : s.call n q = (s1, .err c)) : c ≠ 0 := Wp.tries_err n q 3 s e
section
variable {w0 v : World} {g cb : Nat} {nd : ND} {s : Wp}
def HadU (w : World) (n : Nat) (a : Ans) (k1 : Nat) (u : Value) : Prop := (∃ c b, a = .err c ∧ u = onv b ∧ OnE w b (n : Int) (c : Int)) ∨ ∃ y, a = .ok y ∧ u = .nilIface ∧ y.1.boot = k1
theorem HadU.keep {w w' : World} {n k1 : Nat} {a : Ans} {u : Value} (h : HadU w n a k1 u) (k : KeepW w w') : HadU w' n a k1 u := by
 rcases h with ⟨c, b, h1, h2, h3⟩ | h
 ·exact Or.inl ⟨c, b, h1, h2, k.on h3⟩
 ·exact Or.inr h
theorem HadU.set4 {w : World} {n k1 : Nat} {a : Ans} {u : Value} (h : HadU w n a k1 u) {P : Nat} {i j : Int} {x y : Value} (hr : RV w P i j x y) (x0 x1 x2 x3 : Value) : HadU (set4 w P x0 x1 x2 x3) n a k1 u := by
 rcases h with ⟨c, b, h1, h2, h3⟩ | h
 ·refine Or.inl ⟨c, b, h1, h2, h3.set4 (fun e => ?_) x0 x1 x2 x3⟩
  subst e
  have hr' : w.heap[b]? = _ := hr
  rw [show w.heap[b]? = _ from h3] at hr'
  injection hr' with hr'
  injection hr' with _ hr'
  exact absurd hr' (by decide)
 ·exact Or.inr h
def HadR (w0 v : World) (g : Nat) (nd : ND) (n : Nat) (s1 : Wp) (a : Ans) (P : Nat) (u : Value) (w : World) : Prop := ∃ (k0 k1 l0 l1 : Nat) (A1 : Option Addr) (c1 : Nat) (A2 : Option Addr) (c2 : Nat), RV w P (k0 : Int) (k1 : Int) (.slice A1 l0 c1) (.slice A2 l1 c2) ∧ WL w0 w g nd s1 ∧ KeepW v w ∧ HadU w n a k1 u
theorem rep_laid {w : World} {P k0 k1 : Nat} {A1 A2 : Value} (hP : w.heap.size = P) : ∃ w', w.alloc (.cells #[.int .i64 (k0 : Int), .int .i64 (k1 : Int), A1, A2] 103) = w' ∧ Below w.heap.size w w' ∧ RV w' P (k0 : Int) (k1 : Int) A1 A2 := ⟨_, rfl, (Below.refl _ _).alloc (Nat.le_refl _) _, RV.of_new hP⟩
theorem CallRet.rep {v w' : World} {n : Nat} {s1 : Wp} {a : Ans} {e : Ending} (h : CallRet w0 v g nd (n : Int) (s1, a) e w') :
  ∃ (k0 k1 l0 l1 : Nat) (A1 : Option Addr) (c1 : Nat) (A2 : Option Addr) (c2 : Nat) (u : Value), e = .returned (.tuple #[rpv (k0 : Int) (k1 : Int) (.slice A1 l0 c1) (.slice A2 l1 c2), u]) ∧ WL w0 w' g nd s1 ∧ KeepW v w' ∧ HadU w' n a k1 u := by
 obtain ⟨r, u, rfl, h1, h2, ⟨c', hc, rfl, b, rfl, hb, ho⟩ | ⟨y, hy, rfl, A, c, A', c', rfl, _⟩⟩ := h
 ·exact ⟨0, 0, 0, 0, none, 0, none, 0, _, rfl, h1, h2, Or.inl ⟨c', b, hc, rfl, ho⟩⟩
 ·exact ⟨y.2.code, y.1.boot, _, _, A, c, A', c', _, rfl, h1, h2, Or.inr ⟨y, hy, rfl, rfl⟩⟩
theorem HadR.a {w : World} {n k0 k1 l0 l1 c1 c2 : Nat} {A1 A2 : Option Addr} {a : Ans} {u : Value} (h : WL w0 w g nd s) (k : KeepW v w) (hu : HadU w n a k1 u) : HadR w0 v g nd n s a w.heap.size u (w.alloc (.cells #[.int .i64 (k0 : Int), .int .i64 (k1 : Int), .slice A1 l0 c1, .slice A2 l1 c2] 103)) :=
 have b : Below w.heap.size w (w.alloc (.cells #[.int .i64 (k0 : Int), .int .i64 (k1 : Int), .slice A1 l0 c1, .slice A2 l1 c2] 103)) := (Below.refl _ _).alloc (Nat.le_refl _) _
 ⟨k0, k1, l0, l1, A1, c1, A2, c2, RV.of_new rfl, h.below b, k.trans (KeepW.of b), hu.keep (KeepW.of b)⟩
theorem HadR.b {w : World} {P n k0 k1 l0 l1 c1 c2 : Nat} {A1 A2 : Option Addr} {a : Ans} {u : Value} {i j : Int} {x y : Value} (hr : RV w P i j x y) (h : WL w0 w g nd s) (k : KeepW v w) (hu : HadU w n a k1 u) (hN : w0.heap.size ≤ P ∧ nd.B ≤ P ∧ v.heap.size ≤ P) : HadR w0 v g nd n s a P u (set4 w P (.int .i64 (k0 : Int)) (.int .i64 (k1 : Int)) (.slice A1 l0 c1) (.slice A2 l1 c2)) :=
 ⟨k0, k1, l0, l1, A1, c1, A2, c2, hr.put4, h.set4 hr ⟨hN.1, hN.2.1⟩ _ _ _ _, k.set4 hN.2.2 _ _ _ _, hu.set4 hr _ _ _ _⟩
theorem cy_have (h : WL w0 v g nd s) (hb : CbP v g cb) {m : Nat} (hf : s.Fit m) (hm : m ≤ 999999900) {n : Nat} (hn : n < 8) (q : Rq) (A : Option Addr) (c : Nat) (hd : DatN v A q.n q.D) (hD : ∀ j, j < q.n → q.D j < 256) (hq : OkQ q.k q.s q.g q.i q.n) :
  Calls Tryz.prog 95 #[.pointer (some ⟨cb, 0, none⟩), .int .i64 (n : Int), rqv q.k q.s q.g q.i A q.n c] v (HaveRet w0 v g nd n (s.done n q)) := by
 have q1 := we_neqNil
 have q2 := we_neqNilNil
 obtain ⟨H, hH⟩ : ∃ H, v.heap.size = H := ⟨_, rfl⟩
 have HH := Lib.hid hH
 obtain ⟨v1, hv1⟩ : ∃ v1, v.alloc (.cells #[.int .i64 q.k, .int .i64 q.s, .int .i64 q.g, .int .i64 q.i, .slice A q.n c] 107) = v1 := ⟨_, rfl⟩
 have B0 : Below v.heap.size v v1 := by rw [← hv1]; exact (Below.refl _ _).alloc (Nat.le_refl _) _
 have B1 : Below v.heap.size v v1.drew := B0.drew
 have p1 : QV v1 H q.k q.s q.g q.i A q.n c := by rw [← hv1]; exact QV.of_new hH
 have y0 := p1.c0
 have y1 := p1.c1
 have y2 := p1.c2
 have y3 := p1.c3
 have y4 := p1.c4
 have c0 := (hb.below B0).1
 have HB := Lib.hid hb
 have KD : Hid (KeepW v1 v1.drew) := Lib.hid (KeepW.of (below_drewN 1 v1))
 have KA : Hid (∀ o, KeepW v1 (v1.alloc o).drew) := Lib.hid (fun o => KeepW.of ((Below.refl _ _).alloc (Nat.le_refl _) o).drew)
 have BB1 := Lib.hid B1
 have BB2 : Hid (Below v.heap.size v ((v1.alloc (.cells #[.int .i64 0, .int .i64 0, .slice none 0 0, .slice none 0 0] 103)).drew)) := Lib.hid (B0.alloc B0.size _).drew
 have HSK : Hid (∀ W, KeepW v1 W → W.cell? ⟨cb, 0, none⟩ = some (.pointer (some ⟨g, 0, none⟩)) ∧ W.cell? ⟨H, 0, none⟩ = some (.int .i64 q.k) ∧ W.cell? ⟨H, 1, none⟩ = some (.int .i64 q.s) ∧ W.cell? ⟨H, 2, none⟩ = some (.int .i64 q.g) ∧ W.cell? ⟨H, 3, none⟩ = some (.int .i64 q.i) ∧ W.cell? ⟨H, 4, none⟩ = some (.slice A q.n c)) := Lib.hid (fun W hW => by
  have r := hW.qv p1
  exact ⟨((hb.below B0).keep hW).1, r.c0, r.c1, r.c2, r.c3, r.c4⟩)
 have HK0 := Lib.hid (KeepW.of B0)
 have HN : Hid (w0.heap.size ≤ v1.heap.size ∧ nd.B ≤ v1.heap.size ∧ v.heap.size ≤ v1.heap.size) := Lib.hid ⟨Nat.le_trans h.blw.size B0.size, Nat.le_trans h.zB B0.size, B0.size⟩
 have HC := Lib.hid (fun W (hW : Below v.heap.size v W) => wl_call (h.below hW) hf.1 hf.2 (by omega) hn q A c (hd.below hW) hD hq)
 have HF1 := Lib.hid (hf.cal (q := q) hn hD)
 have HKB := Lib.hid (KeepW.of B1)
 have HV1 := Lib.hid hv1
 obtain ⟨x, hx⟩ : ∃ x, s.done n q = x := ⟨_, rfl⟩
 have HX := Lib.hid hx
 rw [hx]
 obtain ⟨s1, a, hc⟩ : ∃ s1 a, s.call n q = (s1, a) := ⟨_, _, rfl⟩
 rw [hc] at HC HF1
 have HCC := Lib.hid hc
 clear h hb hd hD hf hq hx hc hv1 B0 B1 p1 hH
 go_enter Tryz.func95, Tryz.ntmps95
 go_upto_region 1 with fail
 rw [HV1.out, HH.out]
 go_wp2_with fail
 go_cut [7, 8] from 10 to 19 (fun s7 s8 wx => ∃ P, s7 = .pointer (some ⟨P, 0, none⟩) ∧ Hid (HadR w0 v g nd n s1 a P s8 wx))
 case first =>
  go_region_held_law (fun W => W.cell? ⟨cb, 0, none⟩ = some (.pointer (some ⟨g, 0, none⟩)) ∧ W.cell? ⟨H, 0, none⟩ = some (.int .i64 q.k) ∧ W.cell? ⟨H, 1, none⟩ = some (.int .i64 q.s) ∧ W.cell? ⟨H, 2, none⟩ = some (.int .i64 q.g) ∧ W.cell? ⟨H, 3, none⟩ = some (.int .i64 q.i) ∧ W.cell? ⟨H, 4, none⟩ = some (.slice A q.n c))
   (first | (with_reducible assumption) | (with_reducible exact HSK.out _ KD.out) | (with_reducible exact HSK.out _ (KA.out _)) | (with_reducible exact HSK.out _ HK1.out) | (with_reducible exact HSK.out _ (HK1.out.trans (KeepW.of ((Below.refl _ _).alloc (Nat.le_refl _) _)))) | exact HSK.out _ (HK1.out.set4 hlt _ _ _ _) | exact HSK.out _ ((HK1.out.trans (KeepW.of ((Below.refl _ _).alloc (Nat.le_refl _) _))).set4 hlt _ _ _ _))
   (first
    | (go_simp; go_at_call 47; (with_reducible refine (HC.out v1.drew BB1.out).mono ?_); intro e w1 hr; obtain ⟨k0, k1, l0, l1, A1, c1, A2, c2, u, rfl, W1, K1, hu⟩ := hr.rep; (try dsimp only); have HW1 := Lib.hid W1; have HK1 : Hid (KeepW v1 w1) := Lib.hid (KD.out.trans K1); have hlt : v1.heap.size ≤ w1.heap.size := HK1.out.1; have HU1 := Lib.hid hu; clear W1 K1 hu hr)
    | (go_simp; go_at_call 47; (with_reducible refine (HC.out ((v1.alloc (.cells #[.int .i64 0, .int .i64 0, .slice none 0 0, .slice none 0 0] 103)).drew) BB2.out).mono ?_); intro e w1 hr; obtain ⟨k0, k1, l0, l1, A1, c1, A2, c2, u, rfl, W1, K1, hu⟩ := hr.rep; (try dsimp only); have HPZ : Hid (RV w1 v1.heap.size 0 0 (.slice none 0 0) (.slice none 0 0)) := Lib.hid (K1.rv (show RV ((v1.alloc (.cells #[.int .i64 0, .int .i64 0, .slice none 0 0, .slice none 0 0] 103)).drew) v1.heap.size 0 0 (.slice none 0 0) (.slice none 0 0) from (RV.of_new (w := v1) rfl).below (below_drewN 1 _))); have x0 := HPZ.out.c0; have x1 := HPZ.out.c1; have x2 := HPZ.out.c2; have x3 := HPZ.out.c3; have rf : ∀ k, w1.frozen? ⟨v1.heap.size, k, none⟩ = false := HPZ.out.f; have HW1 := Lib.hid W1; have HK1 : Hid (KeepW v1 w1) := Lib.hid ((KA.out _).trans K1); have hlt : v1.heap.size ≤ v1.heap.size := Nat.le_refl _; have HU1 := Lib.hid hu; clear W1 K1 hu hr)
    | fail)
  all_goals
   go_wp2_with fail
   go_meet
   first
    | (with_reducible exact ⟨_, rfl, Lib.hid (HadR.a HW1.out (HK0.out.trans HK1.out) HU1.out)⟩)
    | (with_reducible exact ⟨_, rfl, Lib.hid (HadR.b HPZ.out HW1.out (HK0.out.trans HK1.out) HU1.out HN.out)⟩)
 case rest =>
  obtain ⟨P, rfl, HR0⟩ := hcut
  obtain ⟨k0, k1, l0, l1, A1, c1, A2, c2, r1, r2, r3, r4⟩ := HR0.out
  have HR : Hid (RV wc P (k0 : Int) (k1 : Int) (.slice A1 l0 c1) (.slice A2 l1 c2) ∧ WL w0 wc g nd s1 ∧ KeepW v wc) := Lib.hid ⟨r1, r2, r3⟩
  have HR2 := Lib.hid HR.out.1
  have d0 := (HB.out.keep r3).1
  clear r1 r2 r3 HR0 y0 y1 y2 y3 y4 c0
  rcases r4 with ⟨c', b, rfl, rfl, ho⟩ | ⟨y, rfl, rfl, hy1⟩
  ·have HO := Lib.hid ho
   have HY : Hid (x = (s1, c')) := Lib.hid (by rw [← HX.out]; unfold Wp.done; rw [HCC.out])
   clear ho
   go_wp2_with fail
   go_ret
   rw [HY.out]
   exact ⟨_, rfl, HR.out.2.1, HR.out.2.2, Or.inr ⟨Wp.call_err HCC.out, b, rfl, HO.out⟩⟩
  ·have HBK := Lib.hid hy1
   have HC2 := Lib.hid (wl_call_flush HR.out.2.1 HF1.out.1 HF1.out.2 (by omega) hn)
   clear hy1
   obtain ⟨s2, a2, hc2⟩ : ∃ s2 a2, s1.call n qFlush = (s2, a2) := ⟨_, _, rfl⟩
   rw [hc2] at HC2
   have HCC2 := Lib.hid hc2
   clear hc2
   go_wp2_with fail
   refine HC2.out.mono ?_
   intro e w3 hr2
   obtain ⟨Q, hQ⟩ : ∃ Q, w3.heap.size = Q := ⟨_, rfl⟩
   have HQ := Lib.hid hQ
   cases a2 with
   | err c' =>
    obtain ⟨b, rfl, W3, K3, _, ho⟩ := hr2.err rfl
    try dsimp only
    obtain ⟨w4, hw4, B4, p4⟩ := rep_laid (k0 := 0) (k1 := 0) (A1 := .slice none 0 0) (A2 := .slice none 0 0) hQ
    have HV4 := Lib.hid hw4
    have HZ := Lib.hid (And.intro (W3.below B4) (HR.out.2.2.trans (K3.trans (KeepW.of B4))))
    have HY : Hid (x = (s2, 5)) := Lib.hid (by rw [← HX.out]; unfold Wp.done; rw [HCC.out]; dsimp only; rw [show s1.call n qFl = (s2, .err c') from HCC2.out])
    clear hr2 W3 K3 ho hw4 B4 p4 hQ
    go_upto_region 5 with fail
    rw [show w3.alloc (.cells #[.int .i64 0, .int .i64 0, .slice none 0 0, .slice none 0 0] 103) = w4 from HV4.out]
    go_wp2_with fail
    refine (we_atNode (n : Int) 5 _).mono ?_
    rintro e w5 ⟨b, rfl, hb, hb2, ho⟩
    try dsimp only
    have HE := Lib.hid (And.intro hb2 ho)
    clear hb hb2 ho
    go_wp2_with fail
    go_ret
    rw [HY.out]
    exact ⟨_, rfl, HZ.out.1.below HE.out.1, HZ.out.2.trans (KeepW.of HE.out.1), Or.inr ⟨(fun h => by cases h), b, rfl, HE.out.2⟩⟩
   | ok z =>
    obtain ⟨A3, c3, A4, c4, rfl, W3, K3⟩ := hr2.ok rfl
    try dsimp only
    obtain ⟨k2, hk2⟩ : ∃ k2 : Nat, z.1.boot = k2 := ⟨_, rfl⟩
    obtain ⟨k3, hk3⟩ : ∃ k3 : Nat, z.2.code = k3 := ⟨_, rfl⟩
    obtain ⟨l2, hl2⟩ : ∃ l2 : Nat, z.2.ps.length = l2 := ⟨_, rfl⟩
    obtain ⟨l3, hl3⟩ : ∃ l3 : Nat, z.2.its.length = l3 := ⟨_, rfl⟩
    have HBZ := Lib.hid hk2
    rw [hk2, hk3, hl2, hl3]
    obtain ⟨w4, hw4, B4, p4⟩ := rep_laid (k0 := k3) (k1 := k2) (A1 := .slice A3 l2 c3) (A2 := .slice A4 l3 c4) hQ
    have HV4 := Lib.hid hw4
    have x1 := p4.c1
    have x2 := ((K3.trans (KeepW.of B4)).rv HR2.out).c1
    have HZ := Lib.hid (And.intro (W3.below B4) (HR.out.2.2.trans (K3.trans (KeepW.of B4))))
    clear hr2 W3 K3 hk2 hk3 hl2 hl3 hw4 B4 p4 hQ
    go_upto_region 5 with fail
    rw [HV4.out, HQ.out]
    by_cases hkk : k2 = k1
    ·subst hkk
     have HY : Hid (x = (s2, 0)) := Lib.hid (by rw [← HX.out]; unfold Wp.done; rw [HCC.out]; dsimp only; rw [show s1.call n qFl = (s2, .ok z) from HCC2.out]; dsimp only; rw [if_pos (by rw [HBZ.out, HBK.out])])
     go_wp2_with fail
     go_ret
     rw [HY.out]
     exact ⟨_, rfl, HZ.out.1, HZ.out.2, Or.inl ⟨rfl, rfl⟩⟩
    ·have hne : ¬ ((k2 : Int) = (k1 : Int)) := by omega
     have hne2 : ((k2 : Int) != (k1 : Int)) = true := by rw [bne_iff_ne]; exact hne
     have HY : Hid (x = (s2, 5)) := Lib.hid (by rw [← HX.out]; unfold Wp.done; rw [HCC.out]; dsimp only; rw [show s1.call n qFl = (s2, .ok z) from HCC2.out]; dsimp only; rw [if_neg (by rw [HBZ.out, HBK.out]; exact hkk)])
     go_wp2_with fail
     refine (we_atNode (n : Int) 5 _).mono ?_
     rintro e w5 ⟨b, rfl, hb, hb2, ho⟩
     try dsimp only
     have HE := Lib.hid (And.intro hb2 ho)
     clear hb hb2 ho
     go_wp2_with fail
     go_ret
     rw [HY.out]
     exact ⟨_, rfl, HZ.out.1.below HE.out.1, HZ.out.2.trans (KeepW.of HE.out.1), Or.inr ⟨(fun h => by cases h), b, rfl, HE.out.2⟩⟩
theorem cy_release (h : WL w0 v g nd s) (hb : CbP v g cb) {m : Nat} (hf : s.Fit m) (hm : m ≤ 999999900) {n : Nat} (hn : n < 8) {st gen : Nat} (hq : OkQ 6 (st : Int) (gen : Int) 0 0) :
  Calls Tryz.prog 55 #[.pointer (some ⟨cb, 0, none⟩), .int .i64 (n : Int), .int .i64 (st : Int), .int .i64 (gen : Int)] v (WRet w0 v g nd (s.call n (qRl st gen)).1 (.tuple #[])) := by
 have c0 := hb.1
 have HC := Lib.hid (wl_call h hf.1 hf.2 (by omega) hn (qRl st gen) none 0 DatN.none_ (fun _ hj => absurd hj (by show ¬ _ < 0; omega)) hq)
 unfold qRl at HC
 obtain ⟨x, hx⟩ : ∃ x, s.call n (qRl st gen) = x := ⟨_, rfl⟩
 have HX := Lib.hid hx
 rw [hx]
 have hx2 : s.call n ⟨6, (st : Int), (gen : Int), 0, 0, fun _ => 0⟩ = x := hx
 rw [hx2] at HC
 clear h hb hf hq hx hx2
 go_enter Tryz.func55, Tryz.ntmps55
 go_wp2_with fail
 refine HC.out.mono ?_
 rintro e w1 ⟨r, u, rfl, W1, K1, _⟩
 try dsimp only
 have HZ := Lib.hid (And.intro W1 K1)
 clear W1 K1
 go_wp2_with fail
 go_end0
 exact ⟨rfl, HZ.out.1, HZ.out.2⟩
end
end Go.Proofs.YtobkmohoepgfmaaGreatDoor
