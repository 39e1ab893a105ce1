import Derived.Test.YtobkmohoepgfmaaGreatDoorV05
namespace Go.Proofs.YtobkmohoepgfmaaGreatDoor
open Go.RowKit Go.Sort
set_option maxRecDepth 100000
set_option maxHeartbeats 1000000

def sumF (F : Nat → Nat) : Nat → Nat
 | 0 => 1
 | k + 1 => (sumF F k * 31 + F k * F k + 7) % 4294967291
theorem sumF_zero (F : Nat → Nat) : sumF F 0 = 1 := rfl
theorem sumF_succ (F : Nat → Nat) (k : Nat) : sumF F (k + 1) = (sumF F k * 31 + F k * F k + 7) % 4294967291 := rfl
theorem sumF_lt (F : Nat → Nat) (k : Nat) : sumF F k < 4294967291 := by
 cases k with
 | zero => rw [sumF_zero]; decide
 | succ k => rw [sumF_succ]; exact Nat.mod_lt _ (by decide)
theorem sumF_congr {F G : Nat → Nat} : ∀ {n : Nat}, (∀ j, j < n → F j = G j) → sumF F n = sumF G n
 | 0, _ => rfl
 | n + 1, h => by rw [sumF_succ, sumF_succ, sumF_congr (n := n) (fun j hj => h j (by omega)), h n (by omega)]
attribute [irreducible] sumF
theorem sq_lt {x : Nat} (h : x < 256) : x * x ≤ 65025 := Nat.le_trans (Nat.mul_le_mul (by omega : x ≤ 255) (by omega : x ≤ 255)) (by decide)
def num4 (F : Nat → Nat) (q : Nat) : Nat := F q * 16777216 + F (q + 1) * 65536 + F (q + 2) * 256 + F (q + 3)
def byteAt (x m k : Nat) : Nat := x / 256 ^ (m - 1 - k) % 256
theorem byteAt_lt (x m k : Nat) : byteAt x m k < 256 := Nat.mod_lt _ (by decide)
theorem byte4 (x : Nat) (h : x < 4294967296) : byteAt x 4 0 * 16777216 + byteAt x 4 1 * 65536 + byteAt x 4 2 * 256 + byteAt x 4 3 = x := by
 unfold byteAt
 simp only [show (4 - 1 - 0 : Nat) = 3 from rfl, show (4 - 1 - 1 : Nat) = 2 from rfl, show (4 - 1 - 2 : Nat) = 1 from rfl, show (4 - 1 - 3 : Nat) = 0 from rfl, show (256 ^ 3 : Nat) = 16777216 from rfl, show (256 ^ 2 : Nat) = 65536 from rfl, show (256 ^ 1 : Nat) = 256 from rfl, show (256 ^ 0 : Nat) = 1 from rfl]
 omega
theorem byte2 (x : Nat) (h : x < 65536) : byteAt x 2 0 * 256 + byteAt x 2 1 = x := by
 unfold byteAt
 simp only [show (2 - 1 - 0 : Nat) = 1 from rfl, show (2 - 1 - 1 : Nat) = 0 from rfl, show (256 ^ 1 : Nat) = 256 from rfl, show (256 ^ 0 : Nat) = 1 from rfl]
 omega
theorem byte1 (x : Nat) (h : x < 256) : byteAt x 1 0 = x := by
 unfold byteAt
 simp only [show (1 - 1 - 0 : Nat) = 0 from rfl, show (256 ^ 0 : Nat) = 1 from rfl]
 omega

def headF (kind n : Nat) (B : Nat → Nat) : Nat → Nat := fun j => if j = 0 then kind else if j = 1 then byteAt n 2 0 else if j = 2 then byteAt n 2 1 else if j < 3 + n then B (j - 3) else 0
def sealF (kind n : Nat) (B : Nat → Nat) : Nat → Nat := fun j => if j < 156 then headF kind n B j else byteAt (sumF (headF kind n B) 156) 4 (j - 156)
theorem headF_lt {kind n : Nat} {B : Nat → Nat} (hk : kind < 256) (hB : ∀ j, j < n → B j < 256) (j : Nat) : headF kind n B j < 256 := by
 unfold headF
 repeat' split
 ·exact hk
 ·exact byteAt_lt _ _ _
 ·exact byteAt_lt _ _ _
 ·exact hB _ (by omega)
 ·decide
theorem sealF_lt {kind n : Nat} {B : Nat → Nat} (hk : kind < 256) (hB : ∀ j, j < n → B j < 256) (j : Nat) : sealF kind n B j < 256 := by
 unfold sealF
 split
 ·exact headF_lt hk hB j
 ·exact byteAt_lt _ _ _
theorem sealF_head {kind n : Nat} {B : Nat → Nat} {j : Nat} (h : j < 156) : sealF kind n B j = headF kind n B j := if_pos h
theorem sealF_sum (kind n : Nat) (B : Nat → Nat) : sumF (sealF kind n B) 156 = sumF (headF kind n B) 156 := sumF_congr (fun _ h => sealF_head h)
theorem sealF_num (kind n : Nat) (B : Nat → Nat) : num4 (sealF kind n B) 156 = sumF (sealF kind n B) 156 := by
 rw [sealF_sum]
 unfold num4 sealF
 simp only [show ¬ (156 : Nat) < 156 by decide, show ¬ (156 + 1 : Nat) < 156 by decide, show ¬ (156 + 2 : Nat) < 156 by decide, show ¬ (156 + 3 : Nat) < 156 by decide, if_false]
 exact byte4 _ (by have := sumF_lt (headF kind n B) 156; omega)
theorem sealF_0 (kind n : Nat) (B : Nat → Nat) : sealF kind n B 0 = kind := rfl
theorem sealF_12 {kind n : Nat} (B : Nat → Nat) (hn : n < 65536) : sealF kind n B 1 * 256 + sealF kind n B 2 = n := byte2 n hn
theorem sealF_body {kind n : Nat} {B : Nat → Nat} (hn : n ≤ 153) {j : Nat} (hj : j < n) : sealF kind n B (3 + j) = B j := by
 rw [sealF_head (by omega)]
 unfold headF
 rw [if_neg (by omega), if_neg (by omega), if_neg (by omega), if_pos (by omega), Nat.add_sub_cancel_left]
theorem headF_congr {kind n : Nat} {B C : Nat → Nat} (h : ∀ j, j < n → B j = C j) (j : Nat) : headF kind n B j = headF kind n C j := by
 unfold headF
 split
 ·rfl
 ·split
  ·rfl
  ·split
   ·rfl
   ·split
    ·exact h _ (by omega)
    ·rfl
theorem sealF_congr {kind n : Nat} {B C : Nat → Nat} (h : ∀ j, j < n → B j = C j) (j : Nat) : sealF kind n B j = sealF kind n C j := by
 unfold sealF
 rw [headF_congr h j, sumF_congr (fun k _ => headF_congr h k)]
theorem sealF_inj {k1 k2 n1 n2 : Nat} {B C : Nat → Nat} (h1 : n1 ≤ 153) (h2 : n2 ≤ 153) (h : ∀ j, j < 160 → sealF k1 n1 B j = sealF k2 n2 C j) : k1 = k2 ∧ n1 = n2 ∧ ∀ j, j < n1 → B j = C j := by
 have e0 := h 0 (by omega)
 rw [sealF_0, sealF_0] at e0
 have e1 := sealF_12 (kind := k1) B (show n1 < 65536 by omega)
 have e2 := sealF_12 (kind := k2) C (show n2 < 65536 by omega)
 rw [h 1 (by omega), h 2 (by omega), e2] at e1
 subst e1
 exact ⟨e0, rfl, fun j hj => by
  have := h (3 + j) (by omega)
  rwa [sealF_body h2 hj, sealF_body h2 hj] at this⟩

def OpenOk (F : Nat → Nat) : Prop := 1 ≤ F 0 ∧ F 1 * 256 + F 2 ≤ 153 ∧ ∀ j, j < 160 → sealF (F 0) (F 1 * 256 + F 2) (fun k => F (3 + k)) j = F j
theorem openOk_seal {kind n : Nat} {B F : Nat → Nat} (hk : 1 ≤ kind) (hn : n ≤ 153) (h : ∀ j, j < 160 → F j = sealF kind n B j) : OpenOk F ∧ num4 F 156 = sumF F 156 ∧ F 0 = kind ∧ F 1 * 256 + F 2 = n ∧ ∀ j, j < n → F (3 + j) = B j := by
 have e0 : F 0 = kind := (h 0 (by omega)).trans (sealF_0 _ _ _)
 have e1 : F 1 * 256 + F 2 = n := by rw [h 1 (by omega), h 2 (by omega)]; exact sealF_12 B (by omega)
 have e2 : ∀ j, j < n → F (3 + j) = B j := fun j hj => by rw [h (3 + j) (by omega)]; exact sealF_body hn hj
 refine ⟨⟨by omega, by omega, fun j hj => ?_⟩, ?_, e0, e1, e2⟩
 ·rw [e0, e1, h j hj]
  exact sealF_congr e2 j
 ·rw [sumF_congr (fun j hj => h j (by omega)), ← sealF_num]
  unfold num4
  rw [h 156 (by omega), h (156 + 1) (by omega), h (156 + 2) (by omega), h (156 + 3) (by omega)]
attribute [irreducible] headF sealF byteAt num4
end Go.Proofs.YtobkmohoepgfmaaGreatDoor
namespace Go.Proofs.YtobkmohoepgfmaaGreatDoor
open Go.RowKit Go.Sort
set_option maxRecDepth 100000
set_option maxHeartbeats 1000000

theorem bclone (a : Addr) (n cap : Nat) (F : Nat → Nat) (w : World) (h : Rd w (some a) n F) (hn : n ≤ 140737488355328) :
  Calls Tryz.prog 137 #[.slice (some a) n cap] w (FewRet n F w) := by
 have HE := Lib.hid (own_empty (t := 5) (base := w.heap.size) (alloc_block w (.cells #[] 5)) (Nat.le_refl _))
 have HB : Hid (Below w.heap.size w (w.alloc (.cells #[] 5))) := Lib.hid ((Below.refl _ _).alloc (Nat.le_refl _) _)
 have HR := Lib.hid h
 have heq : Sem.run Tryz.prog (binOp .eql 36 (.slice (some a) n cap) (.slice none 0 0)) w = .ok (.bool false) w := Lib.run_eql_slice_nil w 36 5 (some a) n cap 0 0 Tryz.underlying36
 clear h
 go_enter Tryz.func137, Tryz.ntmps137
 go_wp2_with (at_builtin; refine append_rd _ rfl _ _ 36 rfl Tryz.underlying36 w.heap.size (.slice (some ⟨w.heap.size, 0, none⟩) 0 0) 0 (fun _ => 0) rfl HE.out (some a) n cap F rfl (HR.out.keep HB.out) (by omega) HB.out.size ?_; intro v' w' own gr _ hne; have HO := Lib.hid own; have HG := Lib.hid gr; have HN := Lib.hid hne; clear own gr hne)
 go_ret
 obtain ⟨g, cp, rfl, hg, hgl, hcp⟩ := own_some HO.out (HN.out (by simp))
 have ho := HO.out
 rw [Nat.zero_add] at ho hcp ⊢
 exact ⟨g, cp, rfl, by simpa using ho, Below.grown HB.out HG.out HB.out.size (fun k hk => by cases hk; exact Nat.le_refl _), hg, hgl, hcp⟩
end Go.Proofs.YtobkmohoepgfmaaGreatDoor
namespace Go.Proofs.YtobkmohoepgfmaaGreatDoor
open Go.RowKit Go.Sort
set_option maxRecDepth 100000
set_option maxHeartbeats 1000000

theorem msum (A : Option Addr) (n cap : Nat) (F : Nat → Nat) (w : World) (h : Rd w A n F) (hF : ∀ j, j < n → F j < 256) (hn : n ≤ 9223372036854775807) :
  Calls Tryz.prog 167 #[.slice A n cap] w fun e w' => e = .returned (.int .i64 (sumF F n : Nat)) ∧ w' = w := by
 have HR := Lib.hid h
 have HF := Lib.hid hF
 clear h hF
 go_enter Tryz.func167, Tryz.ntmps167
 go_wp2_with fail
 go_loopg [3, 8] n (fun q s3 s8 v => ∃ k : Nat, s3 = .int .i64 (sumF F k : Nat) ∧ s8 = .int .i64 (k : Int) ∧ k ≤ n ∧ q = n - k ∧ v = w)
 case atStart => exact ⟨0, by rw [sumF_zero]; rfl, rfl, by omega, rfl, rfl⟩
 case round =>
  obtain ⟨k, rfl, rfl, hk, rfl, rfl⟩ := hrel
  have hs := sumF_lt F k
  by_cases hlt : k < n
  ·have hl : (k : Int) < (n : Int) := by omega
   obtain ⟨g, q, rfl, hg, c1⟩ := HR.out.at hlt
   have HS := Lib.hid (sumF_succ F k)
   have hx := HF.out k hlt
   have hsq := sq_lt hx
   generalize sumF F k = s at *
   generalize F k = x at *
   have e1 : ((x : Int) * (x : Int)) = ((x * x : Nat) : Int) := by push_cast; rfl
   have HE := Lib.hid e1
   have b1 : (x : Int) * (x : Int) ≤ 65025 := by rw [e1]; omega
   have b2 : 0 ≤ (x : Int) * (x : Int) := by rw [e1]; omega
   clear e1
   go_wp2_with fail
   go_roundg (n - (k + 1))
   case measure => omega
   case rel => exact ⟨k + 1, by rw [HS.out, HE.out]; congr 1, by go_num, by omega, rfl, rfl⟩
  ·obtain rfl : k = n := by omega
   go_wp2_with fail
   go_ret
   exact ⟨rfl, rfl⟩

def numF (F : Nat → Nat) : Nat → Nat
 | 0 => 0
 | k + 1 => numF F k * 256 + F k
theorem numF_succ (F : Nat → Nat) (k : Nat) : numF F (k + 1) = numF F k * 256 + F k := rfl
theorem numF_lt {F : Nat → Nat} : ∀ {k : Nat}, (∀ j, j < k → F j < 256) → numF F k < 256 ^ k
 | 0, _ => (by unfold numF; exact Nat.one_pos)
 | k + 1, h => by
  have h1 := numF_lt (k := k) (fun j hj => h j (by omega))
  have h2 := h k (by omega)
  rw [numF_succ, Nat.pow_succ]
  omega
theorem numF_1 (F : Nat → Nat) : numF F 1 = F 0 := by show 0 * 256 + F 0 = F 0; omega
theorem numF_2 (F : Nat → Nat) : numF F 2 = F 0 * 256 + F 1 := by show (0 * 256 + F 0) * 256 + F 1 = _; omega
theorem numF_4 (F : Nat → Nat) : numF F 4 = F 0 * 16777216 + F 1 * 65536 + F 2 * 256 + F 3 := by show (((0 * 256 + F 0) * 256 + F 1) * 256 + F 2) * 256 + F 3 = _; omega
attribute [irreducible] numF
theorem nof (A : Option Addr) (n cap : Nat) (F : Nat → Nat) (w : World) (h : Rd w A n F) (hF : ∀ j, j < n → F j < 256) (hn : n ≤ 7) :
  Calls Tryz.prog 139 #[.slice A n cap] w fun e w' => e = .returned (.int .i64 (numF F n : Nat)) ∧ w' = w := by
 have HR := Lib.hid h
 have HF := Lib.hid hF
 clear h hF
 go_enter Tryz.func139, Tryz.ntmps139
 go_wp2_with fail
 go_loopg [3, 8] n (fun q s3 s8 v => ∃ k : Nat, s3 = .int .i64 (numF F k : Nat) ∧ s8 = .int .i64 (k : Int) ∧ k ≤ n ∧ q = n - k ∧ v = w)
 case atStart => exact ⟨0, by unfold numF; rfl, rfl, by omega, rfl, rfl⟩
 case round =>
  obtain ⟨k, rfl, rfl, hk, rfl, rfl⟩ := hrel
  by_cases hlt : k < n
  ·have hl : (k : Int) < (n : Int) := by omega
   obtain ⟨g, q, rfl, hg, c1⟩ := HR.out.at hlt
   have HS := Lib.hid (numF_succ F k)
   have hx := HF.out k hlt
   have hs : numF F k < 281474976710656 := by
    have h1 := numF_lt (k := k) (fun j hj => HF.out j (by omega))
    have h2 : (256 : Nat) ^ k ≤ 256 ^ 6 := Nat.pow_le_pow_right (by decide) (by omega)
    omega
   generalize numF F k = s at *
   generalize F k = x at *
   have hor := bits_or_i64 s x (by omega) hx
   go_wp2_with fail
   go_roundg (n - (k + 1))
   case measure => omega
   case rel => exact ⟨k + 1, by rw [HS.out]; congr 1, by go_num, by omega, rfl, rfl⟩
  ·obtain rfl : k = n := by omega
   go_wp2_with fail
   go_ret
   exact ⟨rfl, rfl⟩

theorem shr_byte (x m k : Nat) (hk : k < m) : (x : Int) / 2 ^ (8 * k) % 256 = ((byteAt x m (m - 1 - k) : Nat) : Int) := by
 unfold byteAt
 rw [show m - 1 - (m - 1 - k) = k by omega, show (256 : Nat) = 2 ^ 8 from rfl, ← Nat.pow_mul]
 push_cast
 rfl
def putF (F : Nat → Nat) (q m x : Nat) : Nat → Nat := fun j => if q ≤ j ∧ j < q + m then byteAt x m (j - q) else F j
def NBRet (x m : Nat) (w : World) (e : Ending) (w' : World) : Prop := ∃ g, e = .returned (.slice (some ⟨g, 0, none⟩) m m) ∧ Blk8 w' g m (byteAt x m) ∧ Below w.heap.size w w' ∧ w.heap.size ≤ g
theorem nbytes (x m : Nat) (s : Int) (hs : s = (m : Int)) (w : World) (hm : m ≤ 7) : Calls Tryz.prog 107 #[.int .i64 (x : Int), .int .i64 s] w (NBRet x m w) := by
 subst hs
 obtain ⟨zs, z0, z1, z2⟩ := make8s m (by omega)
 have HR0 : Hid (Blk8 (w.alloc (.cells zs 5)) w.heap.size m (fun _ => 0) ∧ Below w.heap.size w (w.alloc (.cells zs 5))) := Lib.hid ⟨Blk8.new z0 z1, (Below.refl _ _).alloc (Nat.le_refl _) _⟩
 have z3 : ∀ W : World, Sem.run Tryz.prog (Instr.makeSlice 36 (.int .i64 (m : Int)) (.int .i64 (m : Int))) W = .ok (.slice (some ⟨W.heap.size, 0, none⟩) m m) (W.alloc (.cells zs 5)) := z2
 have hmx : max (m : Int) 0 = (m : Int) := by omega
 clear z0 z1 z2
 go_enter Tryz.func107, Tryz.ntmps107
 go_wp2_with fail
 generalize w.alloc (.cells zs 5) = w1 at *
 generalize hg : w.heap.size = g at *
 have HG := Lib.hid hg
 clear hg
 go_loopg [6, 12] m (fun q s6 s12 v => ∃ k : Nat, s12 = .int .i64 (k : Int) ∧ k ≤ m ∧ q = m - k ∧ Hid (Blk8 v g m (fun j => if m - k ≤ j then byteAt x m j else 0) ∧ Below g w v))
 case atStart => exact ⟨0, rfl, by omega, rfl, Lib.hid ⟨HR0.out.1.congr (fun j hj => by rw [if_neg (by omega)]), HR0.out.2⟩⟩
 case round =>
  obtain ⟨k, rfl, hk, rfl, HV⟩ := hrel
  by_cases hlt : k < m
  ·have hl : (k : Int) < (m : Int) := by omega
   have HE := Lib.hid (shr_byte x m k hlt)
   have c1 := HV.out.1.row8.cell (m - 1 - k) (by omega)
   have f1 := HV.out.1.row8.free (m - 1 - k)
   go_wp2_with fail
   go_roundg (m - (k + 1))
   case measure => omega
   case rel => exact ⟨k + 1, by go_num, by omega, rfl, Lib.hid ⟨by
    rw [HE.out]
    refine (HV.out.1.put (q := m - 1 - k) (x := byteAt x m (m - 1 - k)) (by omega)).congr (fun j _ => ?_)
    by_cases e : j = m - 1 - k
    ·subst e; rw [if_pos rfl, if_pos (by omega)]
    ·rw [if_neg e]
     by_cases h : m - k ≤ j
     ·rw [if_pos h, if_pos (by omega)]
     ·rw [if_neg h, if_neg (by omega)], HV.out.2.setCell (Nat.le_refl _) _⟩⟩
  ·obtain rfl : k = m := by omega
   go_wp2_with fail
   go_ret
   exact ⟨g, rfl, HV.out.1.congr (fun j hj => by rw [if_pos (by omega)]), by rw [HG.out]; exact HV.out.2, Nat.le_of_eq HG.out⟩

theorem step_copy_blk {w : World} {ops : Array Oper} {o : Oper} {a : Act} {K : Act → World → Prop} {Q : Exit → Act → World → Prop} {E : Prop} (hgd : o.guard = none) (d s : Operand)
  (ho : o.op = .call { callee := .builtin .copy, args := #[d, s], argTypes := #[36, 36] })
  (g off dLen dCap gs sLen sCap : Nat) (hd : a.eval d = .slice (some ⟨g, off, none⟩) dLen dCap) (hs : a.eval s = .slice (some ⟨gs, 0, none⟩) sLen sCap)
  (N : Nat) (F X G : Nat → Nat) (hb : Blk8 w g N F) (hr : Blk8 w gs sLen X) (hk : sLen ≤ dLen) (hfit : off + sLen ≤ N)
  (hG : ∀ j, j < N → (if off ≤ j ∧ j < off + sLen then X (j - off) else F j) = G j)
  (h : ∀ w', Blk8 w' g N G → w.grownBy w' (some g) → w'.heap.size = w.heap.size → K (a.put o.dst (.int .i64 (sLen : Int))) w') :
  if Region.wanted o (yielded ops a.tmps) = true then Oper.wp Tryz.prog o a w K Q else E := by
 have hw : Region.wanted o (yielded ops a.tmps) = true := by simp [Region.wanted, hgd]
 rw [if_pos hw]
 obtain ⟨i0, hi0, hz0, hz1, hz2⟩ := info_parts infoByte
 have isz : (Tryz.prog.info? 5).map (·.size) = some 1 := by rw [hi0]; simp [hz1]
 obtain ⟨cur, hg, hsz, hcur⟩ := hb
 have hc := hr.rd
 have hfit' : off + (rowL sLen X).length ≤ cur.size := by rw [rowL_len]; omega
 have hrun := run_copy_row (P := Tryz.prog) w 36 36 o.type 5 g off dLen dCap ⟨gs, 0, none⟩ sLen sCap cur _ (rowL sLen X) Tryz.underlying36 isz hg (by rw [rowL_len]; exact (Nat.min_eq_left hk).symm) (rowL_cells (fun j hj => by have := hc.some_ hj; exact this)) hfit' rowL_one
 unfold Oper.wp
 simp [execOp, ho, resolve, invoke, builtin, hd, hs, hrun, Result.andThen]
 have hlen : (cur.toList.take off ++ (rowL sLen X ++ cur.toList.drop (off + (rowL sLen X).length))).length = cur.size := by
  rw [List.length_append, List.length_append, List.length_take, List.length_drop, Array.length_toList]; omega
 have hW := h (w.setRow g (cur.toList.take off ++ (rowL sLen X ++ cur.toList.drop (off + (rowL sLen X).length))).toArray) ⟨_, setRow_heap w g _ _ 5 _ hg, by rw [List.size_toArray, hlen]; exact hsz, fun j hj => by
  rw [← hG j hj, List.getElem?_toArray, splice_get _ _ _ _ (by rw [Array.length_toList]; exact hfit'), rowL_len]
  by_cases h1 : j < off
  ·rw [if_pos h1, if_neg (by omega), Array.getElem?_toList]; exact hcur j hj
  ·rw [if_neg h1]
   by_cases h2 : j < off + sLen
   ·rw [if_pos h2, if_pos ⟨by omega, h2⟩, rowL_get (by omega)]
   ·rw [if_neg h2, if_neg (by omega), Array.getElem?_toList]; exact hcur j hj⟩
  ⟨rfl, rfl, rfl, by simp [World.setRow], fun i _ hne => setRow_other w g i _ (fun e => hne (by rw [e]))⟩ (by simp [World.setRow])
 rw [rowL_len] at hW ⊢
 exact hW
end Go.Proofs.YtobkmohoepgfmaaGreatDoor
namespace Go.Proofs.YtobkmohoepgfmaaGreatDoor
set_option maxRecDepth 100000
set_option maxHeartbeats 1000000
theorem numF_4' (F : Nat → Nat) : numF F 4 = ((F 0 * 256 + F 1) * 256 + F 2) * 256 + F 3 := by rw [numF_4]; omega
theorem numF_6 (F : Nat → Nat) : numF F 6 = ((((F 0 * 256 + F 1) * 256 + F 2) * 256 + F 3) * 256 + F 4) * 256 + F 5 := by
 rw [numF_succ, numF_succ, ← numF_4']
theorem byte6 (x : Nat) (h : x < 281474976710656) : numF (byteAt x 6) 6 = x := by
 rw [numF_6]
 unfold byteAt
 simp only [Nat.reduceSub, Nat.reducePow]
 omega
structure Pc where
 s : Nat
 g : Nat
 i : Nat
 D : Nat → Nat
def Pc.Ok (p : Pc) : Prop := p.s < 40 ∧ 1 ≤ p.g ∧ p.g ≤ 1099511627776 ∧ p.i < 6 ∧ ∀ j, j < 32 → p.D j < 256
def pcF (p : Pc) : Nat → Nat := fun j => if j = 0 then p.s else if j < 7 then byteAt p.g 6 (j - 1) else if j = 7 then p.i else p.D (j - 8)
theorem pcF_lt {p : Pc} (h : p.Ok) : ∀ j, j < 40 → pcF p j < 256 := by
 obtain ⟨h1, h2, h3, h4, h5⟩ := h
 intro j hj
 unfold pcF
 split
 ·omega
 ·split
  ·exact byteAt_lt _ _ _
  ·split
   ·omega
   ·exact h5 _ (by omega)
def pcOf (B : Nat → Nat) : Pc := ⟨B 0, numF (fun j => B (1 + j)) 6, B 7, fun j => B (8 + j)⟩
theorem pcOf_pcF {p : Pc} (h : p.Ok) : (pcOf (pcF p)).s = p.s ∧ (pcOf (pcF p)).g = p.g ∧ (pcOf (pcF p)).i = p.i ∧ ∀ j, (pcOf (pcF p)).D j = p.D j := by
 obtain ⟨h1, h2, h3, h4, h5⟩ := h
 refine ⟨rfl, ?_, rfl, fun j => ?_⟩
 ·show numF (fun j => pcF p (1 + j)) 6 = p.g
  have e : numF (fun j => pcF p (1 + j)) 6 = numF (byteAt p.g 6) 6 := by
   rw [numF_6, numF_6]
   rfl
  rw [e]
  exact byte6 p.g (by omega)
 ·show pcF p (8 + j) = p.D j
  unfold pcF
  rw [if_neg (by omega), if_neg (by omega), if_neg (by omega), Nat.add_sub_cancel_left]
def pcS (p : Pc) : Nat → Nat := sealF 1 40 (pcF p)
theorem pcS_lt {p : Pc} (h : p.Ok) (j : Nat) : pcS p j < 256 := sealF_lt (by decide) (pcF_lt h) j
def rdP (F : Nat → Nat) : Pc := pcOf (fun k => F (3 + k))
def IsPc (F : Nat → Nat) : Prop := OpenOk F ∧ num4 F 156 = sumF F 156 ∧ F 0 = 1 ∧ F 1 * 256 + F 2 = 40 ∧ (rdP F).Ok
def Pc.Alike (p q : Pc) : Prop := p.s = q.s ∧ p.g = q.g ∧ p.i = q.i ∧ ∀ j, j < 32 → p.D j = q.D j
theorem Pc.Alike.symm {p q : Pc} (h : p.Alike q) : q.Alike p := ⟨h.1.symm, h.2.1.symm, h.2.2.1.symm, fun j hj => (h.2.2.2 j hj).symm⟩
theorem Pc.Alike.ok {p q : Pc} (h : p.Alike q) (k : p.Ok) : q.Ok := by
 obtain ⟨a, b, c, d⟩ := h
 obtain ⟨k1, k2, k3, k4, k5⟩ := k
 exact ⟨by omega, by omega, by omega, by omega, fun j hj => by rw [← d j hj]; exact k5 j hj⟩
theorem rdP_pcS {p : Pc} {F : Nat → Nat} (h : p.Ok) (hF : ∀ j, j < 160 → F j = pcS p j) : IsPc F ∧ (rdP F).Alike p := by
 obtain ⟨h1, h2, h3, h4, h5⟩ := openOk_seal (kind := 1) (n := 40) (B := pcF p) (F := F) (by decide) (by decide) hF
 have e : (rdP F).Alike p := by
  obtain ⟨a1, a2, a3, a4⟩ := pcOf_pcF h
  refine ⟨(h5 0 (by omega)).trans a1, ?_, (h5 7 (by omega)).trans a3, fun j hj => ?_⟩
  ·refine Eq.trans ?_ a2
   show numF (fun j => F (3 + (1 + j))) 6 = numF (fun j => pcF p (1 + j)) 6
   rw [numF_6, numF_6]
   simp only [h5 (1 + 0) (by omega), h5 (1 + 1) (by omega), h5 (1 + 2) (by omega), h5 (1 + 3) (by omega), h5 (1 + 4) (by omega), h5 (1 + 5) (by omega)]
  ·exact (h5 (8 + j) (by omega)).trans (a4 j)
 exact ⟨⟨h1, h2, h3, h4, e.symm.ok h⟩, e⟩
attribute [irreducible] pcF pcS IsPc rdP pcOf
end Go.Proofs.YtobkmohoepgfmaaGreatDoor
namespace Go.Proofs.YtobkmohoepgfmaaGreatDoor
open Go.RowKit Go.Sort
set_option maxRecDepth 100000
set_option maxHeartbeats 1000000

abbrev pv (s g i : Int) (A : Option Addr) (n cap : Nat) : Value := .agg #[.int .i64 s, .int .i64 g, .int .i64 i, .slice A n cap]
def OkI (s g i : Int) (n : Nat) : Prop := 0 ≤ s ∧ s < 40 ∧ 1 ≤ g ∧ g ≤ 1099511627776 ∧ 0 ≤ i ∧ i < 6 ∧ n = 32

theorem cright (s g i : Int) (A : Option Addr) (n cap : Nat) (w : World) (t : Bool) (ht : t = true ↔ OkI s g i n) :
  Calls Tryz.prog 193 #[pv s g i A n cap] w fun e w' => e = .returned (.bool t) ∧ Below w.heap.size w w' := by
 have HB : Hid (Below w.heap.size w (w.alloc (.cells #[.int .i64 s, .int .i64 g, .int .i64 i, .slice A n cap] 162))) := Lib.hid ((Below.refl _ _).alloc (Nat.le_refl _) _)
 unfold OkI at ht
 unfold pv
 have walk : True := trivial
 by_cases h0 : 0 ≤ s
 ·have p0 := h0
  by_cases h1 : s < 40
  ·have p1 := h1
   by_cases h2 : 1 ≤ g
   ·have p2 := h2
    by_cases h3 : g ≤ 1099511627776
    ·have p3 := h3
     by_cases h4 : 0 ≤ i
     ·have p4 := h4
      by_cases h5 : i < 6
      ·have p5 := h5
       by_cases h6 : (n : Int) = 32
       ·have p6 := h6
        have p7 : ((n : Int) == 32) = true := beq_iff_eq.2 h6
        obtain rfl : t = true := ht.2 (by refine ⟨h0, h1, h2, h3, h4, h5, by omega⟩)
        clear ht h0 h1 h2 h3 h4 h5 h6 p6
        go_enter Tryz.func193, Tryz.ntmps193
        go_wp2_with fail
        go_ret
        exact ⟨rfl, HB.out⟩
       ·obtain rfl : t = false := not_true ht (fun h => by omega)
        have p7 : ((n : Int) == 32) = false := beq_eq_false_iff_ne.2 h6
        clear ht h0 h1 h2 h3 h4 h5 h6
        go_enter Tryz.func193, Tryz.ntmps193
        go_wp2_with fail
        go_ret
        exact ⟨rfl, HB.out⟩
      ·obtain rfl : t = false := not_true ht (fun h => by omega)
       clear ht h0 h1 h2 h3 h4
       go_enter Tryz.func193, Tryz.ntmps193
       go_wp2_with fail
       go_ret
       exact ⟨rfl, HB.out⟩
     ·obtain rfl : t = false := not_true ht (fun h => by omega)
      clear ht h0 h1 h2 h3
      go_enter Tryz.func193, Tryz.ntmps193
      go_wp2_with fail
      go_ret
      exact ⟨rfl, HB.out⟩
    ·obtain rfl : t = false := not_true ht (fun h => by omega)
     clear ht h0 h1 h2
     go_enter Tryz.func193, Tryz.ntmps193
     go_wp2_with fail
     go_ret
     exact ⟨rfl, HB.out⟩
   ·obtain rfl : t = false := not_true ht (fun h => by omega)
    clear ht h0 h1
    go_enter Tryz.func193, Tryz.ntmps193
    go_wp2_with fail
    go_ret
    exact ⟨rfl, HB.out⟩
  ·obtain rfl : t = false := not_true ht (fun h => by omega)
   clear ht h0
   go_enter Tryz.func193, Tryz.ntmps193
   go_wp2_with fail
   go_ret
   exact ⟨rfl, HB.out⟩
 ·obtain rfl : t = false := not_true ht (fun h => by omega)
  clear ht 
  go_enter Tryz.func193, Tryz.ntmps193
  go_wp2_with fail
  go_ret
  exact ⟨rfl, HB.out⟩

theorem bits_and1 (g : Int) (h0 : -9223372036854775808 ≤ g) (h1 : g < 9223372036854775808) : bits .and .i64 g 1 = g % 2 := by
 have e : (BitVec.ofInt IntKind.i64.bits g &&& BitVec.ofInt IntKind.i64.bits 1).toNat = (g % 2).toNat := by
  rw [BitVec.toNat_and]
  have e1 : (BitVec.ofInt IntKind.i64.bits 1).toNat = 1 := by decide
  rw [e1, Nat.and_one_is_mod, BitVec.toNat_ofInt]
  have : (2 : Int) ^ IntKind.i64.bits = 18446744073709551616 := by decide
  rw [show ((2 ^ IntKind.i64.bits : Nat) : Int) = 18446744073709551616 by decide]
  omega
 simp only [bits, e]
 rw [IntKind.wrap_i64]
 omega
theorem cplace (s g : Int) (w : World) (h0 : -9223372036854775808 ≤ g) (h1 : g < 9223372036854775808) (s0 : -1000000 ≤ s) (s1 : s < 1000000) :
  Calls Tryz.prog 173 #[.int .i64 s, .int .i64 g] w fun e w' => e = .returned (.int .i64 (2 * s + g % 2)) ∧ w' = w := by
 have hb := bits_and1 g h0 h1
 go_enter Tryz.func173, Tryz.ntmps173
 go_wp2_with fail
 go_ret
 exact ⟨rfl, rfl⟩
end Go.Proofs.YtobkmohoepgfmaaGreatDoor
