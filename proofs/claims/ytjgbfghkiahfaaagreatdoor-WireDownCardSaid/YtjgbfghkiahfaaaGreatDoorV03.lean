import Derived.Test.YtjgbfghkiahfaaaGreatDoorV01
import Derived.Test.YtjgbfghkiahfaaaGreatDoorV02
namespace Go.Proofs.YtjgbfghkiahfaaaGreatDoor
open Go.RowKit Go.Sort
set_option maxRecDepth 100000
set_option maxHeartbeats 1000000

/-- bytes.Clone of a slice that is not nil. -/
theorem bclone (a : Addr) (n cap : Nat) (F : Nat → Nat) (w : World) (h : Rd w (some a) n F) (hn : n ≤ 140737488355328) :
    Calls Tryz.prog 60 #[.slice (some a) n cap] w (FewRet n F w) := by
  have HE := Lib.hid (own_empty (t := 5) (base := w.heap.size) (alloc_block w (.cells #[] 5)) (Nat.le_refl _))
  have HB : Hid (Below w.heap.size w (w.alloc (.cells #[] 5))) := Lib.hid ((Below.refl _ _).alloc (Nat.le_refl _) _)
  have HR := Lib.hid h
  have heq : Sem.run Tryz.prog (binOp .eql 36 (.slice (some a) n cap) (.slice none 0 0)) w = .ok (.bool false) w := Lib.run_eql_slice_nil w 36 5 (some a) n cap 0 0 Tryz.underlying36
  clear h
  go_enter Tryz.func60, Tryz.ntmps60
  go_wp2_with (at_builtin; refine append_rd _ rfl _ _ 36 rfl Tryz.underlying36 w.heap.size (.slice (some ⟨w.heap.size, 0, none⟩) 0 0) 0 (fun _ => 0) rfl HE.out (some a) n cap F rfl (HR.out.keep HB.out) (by omega) HB.out.size ?_; intro v' w' own gr _ hne; have HO := Lib.hid own; have HG := Lib.hid gr; have HN := Lib.hid hne; clear own gr hne)
  go_ret
  obtain ⟨g, cp, rfl, hg, hgl, hcp⟩ := own_some HO.out (HN.out (by simp))
  have ho := HO.out
  rw [Nat.zero_add] at ho hcp ⊢
  exact ⟨g, cp, rfl, by simpa using ho, Below.grown HB.out HG.out HB.out.size (fun k hk => by cases hk; exact Nat.le_refl _), hg, hgl, hcp⟩
end Go.Proofs.YtjgbfghkiahfaaaGreatDoor
namespace Go.Proofs.YtjgbfghkiahfaaaGreatDoor
open Go.RowKit Go.Sort
set_option maxRecDepth 100000
set_option maxHeartbeats 1000000

/-- mark.Sum. -/
theorem msum (A : Option Addr) (n cap : Nat) (F : Nat → Nat) (w : World) (h : Rd w A n F) (hF : ∀ j, j < n → F j < 256) (hn : n ≤ 9223372036854775807) :
    Calls Tryz.prog 110 #[.slice A n cap] w fun e w' => e = .returned (.int .i64 (sumF F n : Nat)) ∧ w' = w := by
  have HR := Lib.hid h
  have HF := Lib.hid hF
  clear h hF
  go_enter Tryz.func110, Tryz.ntmps110
  go_wp2_with fail
  go_loopg [3, 8] n (fun q s3 s8 v => ∃ k : Nat, s3 = .int .i64 (sumF F k : Nat) ∧ s8 = .int .i64 (k : Int) ∧ k ≤ n ∧ q = n - k ∧ v = w)
  case atStart => exact ⟨0, by rw [sumF_zero]; rfl, rfl, by omega, rfl, rfl⟩
  case round =>
    obtain ⟨k, rfl, rfl, hk, rfl, rfl⟩ := hrel
    have hs := sumF_lt F k
    by_cases hlt : k < n
    · have hl : (k : Int) < (n : Int) := by omega
      obtain ⟨g, q, rfl, hg, c1⟩ := HR.out.at hlt
      have HS := Lib.hid (sumF_succ F k)
      have hx := HF.out k hlt
      have hsq := sq_lt hx
      generalize sumF F k = s at *
      generalize F k = x at *
      have e1 : ((x : Int) * (x : Int)) = ((x * x : Nat) : Int) := by push_cast; rfl
      have HE := Lib.hid e1
      have b1 : (x : Int) * (x : Int) ≤ 65025 := by rw [e1]; omega
      have b2 : 0 ≤ (x : Int) * (x : Int) := by rw [e1]; omega
      clear e1
      go_wp2_with fail
      go_roundg (n - (k + 1))
      case measure => omega
      case rel => exact ⟨k + 1, by rw [HS.out, HE.out]; congr 1, by go_num, by omega, rfl, rfl⟩
    · obtain rfl : k = n := by omega
      go_wp2_with fail
      go_ret
      exact ⟨rfl, rfl⟩

/-- Highest byte first. -/
def numF (F : Nat → Nat) : Nat → Nat
  | 0 => 0
  | k + 1 => numF F k * 256 + F k
theorem numF_succ (F : Nat → Nat) (k : Nat) : numF F (k + 1) = numF F k * 256 + F k := rfl
theorem numF_lt {F : Nat → Nat} : ∀ {k : Nat}, (∀ j, j < k → F j < 256) → numF F k < 256 ^ k
  | 0, _ => (by unfold numF; exact Nat.one_pos)
  | k + 1, h => by
    have h1 := numF_lt (k := k) (fun j hj => h j (by omega))
    have h2 := h k (by omega)
    rw [numF_succ, Nat.pow_succ]
    omega
theorem numF_1 (F : Nat → Nat) : numF F 1 = F 0 := by show 0 * 256 + F 0 = F 0; omega
theorem numF_2 (F : Nat → Nat) : numF F 2 = F 0 * 256 + F 1 := by show (0 * 256 + F 0) * 256 + F 1 = _; omega
theorem numF_4 (F : Nat → Nat) : numF F 4 = F 0 * 16777216 + F 1 * 65536 + F 2 * 256 + F 3 := by show (((0 * 256 + F 0) * 256 + F 1) * 256 + F 2) * 256 + F 3 = _; omega
attribute [irreducible] numF

/-- number.Of. -/
theorem nof (A : Option Addr) (n cap : Nat) (F : Nat → Nat) (w : World) (h : Rd w A n F) (hF : ∀ j, j < n → F j < 256) (hn : n ≤ 7) :
    Calls Tryz.prog 100 #[.slice A n cap] w fun e w' => e = .returned (.int .i64 (numF F n : Nat)) ∧ w' = w := by
  have HR := Lib.hid h
  have HF := Lib.hid hF
  clear h hF
  go_enter Tryz.func100, Tryz.ntmps100
  go_wp2_with fail
  go_loopg [3, 8] n (fun q s3 s8 v => ∃ k : Nat, s3 = .int .i64 (numF F k : Nat) ∧ s8 = .int .i64 (k : Int) ∧ k ≤ n ∧ q = n - k ∧ v = w)
  case atStart => exact ⟨0, by unfold numF; rfl, rfl, by omega, rfl, rfl⟩
  case round =>
    obtain ⟨k, rfl, rfl, hk, rfl, rfl⟩ := hrel
    by_cases hlt : k < n
    · have hl : (k : Int) < (n : Int) := by omega
      obtain ⟨g, q, rfl, hg, c1⟩ := HR.out.at hlt
      have HS := Lib.hid (numF_succ F k)
      have hx := HF.out k hlt
      have hs : numF F k < 281474976710656 := by
        have h1 := numF_lt (k := k) (fun j hj => HF.out j (by omega))
        have h2 : (256 : Nat) ^ k ≤ 256 ^ 6 := Nat.pow_le_pow_right (by decide) (by omega)
        omega
      generalize numF F k = s at *
      generalize F k = x at *
      have hor := bits_or_i64 s x (by omega) hx
      go_wp2_with fail
      go_roundg (n - (k + 1))
      case measure => omega
      case rel => exact ⟨k + 1, by rw [HS.out]; congr 1, by go_num, by omega, rfl, rfl⟩
    · obtain rfl : k = n := by omega
      go_wp2_with fail
      go_ret
      exact ⟨rfl, rfl⟩

theorem shr_byte (x m k : Nat) (hk : k < m) : (x : Int) / 2 ^ (8 * k) % 256 = ((byteAt x m (m - 1 - k) : Nat) : Int) := by
  unfold byteAt
  rw [show m - 1 - (m - 1 - k) = k by omega, show (256 : Nat) = 2 ^ 8 from rfl, ← Nat.pow_mul]
  push_cast
  rfl
/-- Some of a row's bytes are a number's. -/
def putF (F : Nat → Nat) (q m x : Nat) : Nat → Nat := fun j => if q ≤ j ∧ j < q + m then byteAt x m (j - q) else F j
/-- number.Bytes. -/
def NBRet (x m : Nat) (w : World) (e : Ending) (w' : World) : Prop := ∃ g, e = .returned (.slice (some ⟨g, 0, none⟩) m m) ∧ Blk8 w' g m (byteAt x m) ∧ Below w.heap.size w w' ∧ w.heap.size ≤ g
theorem nbytes (x m : Nat) (s : Int) (hs : s = (m : Int)) (w : World) (hm : m ≤ 7) : Calls Tryz.prog 52 #[.int .i64 (x : Int), .int .i64 s] w (NBRet x m w) := by
  subst hs
  obtain ⟨zs, z0, z1, z2⟩ := make8s m (by omega)
  have HR0 : Hid (Blk8 (w.alloc (.cells zs 5)) w.heap.size m (fun _ => 0) ∧ Below w.heap.size w (w.alloc (.cells zs 5))) := Lib.hid ⟨Blk8.new z0 z1, (Below.refl _ _).alloc (Nat.le_refl _) _⟩
  have z3 : ∀ W : World, Sem.run Tryz.prog (Instr.makeSlice 36 (.int .i64 (m : Int)) (.int .i64 (m : Int))) W = .ok (.slice (some ⟨W.heap.size, 0, none⟩) m m) (W.alloc (.cells zs 5)) := z2
  have hmx : max (m : Int) 0 = (m : Int) := by omega
  clear z0 z1 z2
  go_enter Tryz.func52, Tryz.ntmps52
  go_wp2_with fail
  generalize w.alloc (.cells zs 5) = w1 at *
  generalize hg : w.heap.size = g at *
  have HG := Lib.hid hg
  clear hg
  go_loopg [6, 12] m (fun q s6 s12 v => ∃ k : Nat, s12 = .int .i64 (k : Int) ∧ k ≤ m ∧ q = m - k ∧ Hid (Blk8 v g m (fun j => if m - k ≤ j then byteAt x m j else 0) ∧ Below g w v))
  case atStart => exact ⟨0, rfl, by omega, rfl, Lib.hid ⟨HR0.out.1.congr (fun j hj => by rw [if_neg (by omega)]), HR0.out.2⟩⟩
  case round =>
    obtain ⟨k, rfl, hk, rfl, HV⟩ := hrel
    by_cases hlt : k < m
    · have hl : (k : Int) < (m : Int) := by omega
      have HE := Lib.hid (shr_byte x m k hlt)
      have c1 := HV.out.1.row8.cell (m - 1 - k) (by omega)
      have f1 := HV.out.1.row8.free (m - 1 - k)
      go_wp2_with fail
      go_roundg (m - (k + 1))
      case measure => omega
      case rel => exact ⟨k + 1, by go_num, by omega, rfl, Lib.hid ⟨by
        rw [HE.out]
        refine (HV.out.1.put (q := m - 1 - k) (x := byteAt x m (m - 1 - k)) (by omega)).congr (fun j _ => ?_)
        by_cases e : j = m - 1 - k
        · subst e; rw [if_pos rfl, if_pos (by omega)]
        · rw [if_neg e]
          by_cases h : m - k ≤ j
          · rw [if_pos h, if_pos (by omega)]
          · rw [if_neg h, if_neg (by omega)], HV.out.2.setCell (Nat.le_refl _) _⟩⟩
    · obtain rfl : k = m := by omega
      go_wp2_with fail
      go_ret
      exact ⟨g, rfl, HV.out.1.congr (fun j hj => by rw [if_pos (by omega)]), by rw [HG.out]; exact HV.out.2, Nat.le_of_eq HG.out⟩

/-- copy into a block that is known whole, as a step of a region. -/
theorem step_copy_blk {w : World} {ops : Array Oper} {o : Oper} {a : Act} {K : Act → World → Prop} {Q : Exit → Act → World → Prop} {E : Prop} (hgd : o.guard = none) (d s : Operand)
    (ho : o.op = .call { callee := .builtin .copy, args := #[d, s], argTypes := #[36, 36] })
    (g off dLen dCap gs sLen sCap : Nat) (hd : a.eval d = .slice (some ⟨g, off, none⟩) dLen dCap) (hs : a.eval s = .slice (some ⟨gs, 0, none⟩) sLen sCap)
    (N : Nat) (F X G : Nat → Nat) (hb : Blk8 w g N F) (hr : Blk8 w gs sLen X) (hk : sLen ≤ dLen) (hfit : off + sLen ≤ N)
    (hG : ∀ j, j < N → (if off ≤ j ∧ j < off + sLen then X (j - off) else F j) = G j)
    (h : ∀ w', Blk8 w' g N G → w.grownBy w' (some g) → w'.heap.size = w.heap.size → K (a.put o.dst (.int .i64 (sLen : Int))) w') :
    if Region.wanted o (yielded ops a.tmps) = true then Oper.wp Tryz.prog o a w K Q else E := by
  have hw : Region.wanted o (yielded ops a.tmps) = true := by simp [Region.wanted, hgd]
  rw [if_pos hw]
  obtain ⟨i0, hi0, hz0, hz1, hz2⟩ := info_parts infoByte
  have isz : (Tryz.prog.info? 5).map (·.size) = some 1 := by rw [hi0]; simp [hz1]
  obtain ⟨cur, hg, hsz, hcur⟩ := hb
  have hc := hr.rd
  have hfit' : off + (rowL sLen X).length ≤ cur.size := by rw [rowL_len]; omega
  have hrun := run_copy_row (P := Tryz.prog) w 36 36 o.type 5 g off dLen dCap ⟨gs, 0, none⟩ sLen sCap cur _ (rowL sLen X) Tryz.underlying36 isz hg (by rw [rowL_len]; exact (Nat.min_eq_left hk).symm) (rowL_cells (fun j hj => by have := hc.some_ hj; exact this)) hfit' rowL_one
  unfold Oper.wp
  simp [execOp, ho, resolve, invoke, builtin, hd, hs, hrun, Result.andThen]
  have hlen : (cur.toList.take off ++ (rowL sLen X ++ cur.toList.drop (off + (rowL sLen X).length))).length = cur.size := by
    rw [List.length_append, List.length_append, List.length_take, List.length_drop, Array.length_toList]; omega
  have hW := h (w.setRow g (cur.toList.take off ++ (rowL sLen X ++ cur.toList.drop (off + (rowL sLen X).length))).toArray) ⟨_, setRow_heap w g _ _ 5 _ hg, by rw [List.size_toArray, hlen]; exact hsz, fun j hj => by
    rw [← hG j hj, List.getElem?_toArray, splice_get _ _ _ _ (by rw [Array.length_toList]; exact hfit'), rowL_len]
    by_cases h1 : j < off
    · rw [if_pos h1, if_neg (by omega), Array.getElem?_toList]; exact hcur j hj
    · rw [if_neg h1]
      by_cases h2 : j < off + sLen
      · rw [if_pos h2, if_pos ⟨by omega, h2⟩, rowL_get (by omega)]
      · rw [if_neg h2, if_neg (by omega), Array.getElem?_toList]; exact hcur j hj⟩
    ⟨rfl, rfl, rfl, by simp [World.setRow], fun i _ hne => setRow_other w g i _ (fun e => hne (by rw [e]))⟩ (by simp [World.setRow])
  rw [rowL_len] at hW ⊢
  exact hW
end Go.Proofs.YtjgbfghkiahfaaaGreatDoor
namespace Go.Proofs.YtjgbfghkiahfaaaGreatDoor
set_option maxRecDepth 100000
set_option maxHeartbeats 1000000
/-! Chapter 8, said plainly: a piece's 40 bytes, and back. -/
theorem numF_4' (F : Nat → Nat) : numF F 4 = ((F 0 * 256 + F 1) * 256 + F 2) * 256 + F 3 := by rw [numF_4]; omega
theorem numF_6 (F : Nat → Nat) : numF F 6 = ((((F 0 * 256 + F 1) * 256 + F 2) * 256 + F 3) * 256 + F 4) * 256 + F 5 := by
  rw [numF_succ, numF_succ, ← numF_4']
theorem byte6 (x : Nat) (h : x < 281474976710656) : numF (byteAt x 6) 6 = x := by
  rw [numF_6]
  unfold byteAt
  simp only [Nat.reduceSub, Nat.reducePow]
  omega
theorem byteAt_numF {F : Nat → Nat} (hF : ∀ j, j < 6 → F j < 256) : ∀ j, j < 6 → byteAt (numF F 6) 6 j = F j := by
  have h0 := hF 0 (by omega)
  have h1 := hF 1 (by omega)
  have h2 := hF 2 (by omega)
  have h3 := hF 3 (by omega)
  have h4 := hF 4 (by omega)
  have h5 := hF 5 (by omega)
  rw [numF_6]
  intro j hj
  match j, hj with
  | 0, _ => unfold byteAt; simp only [Nat.reduceSub, Nat.reducePow]; omega
  | 1, _ => unfold byteAt; simp only [Nat.reduceSub, Nat.reducePow]; omega
  | 2, _ => unfold byteAt; simp only [Nat.reduceSub, Nat.reducePow]; omega
  | 3, _ => unfold byteAt; simp only [Nat.reduceSub, Nat.reducePow]; omega
  | 4, _ => unfold byteAt; simp only [Nat.reduceSub, Nat.reducePow]; omega
  | 5, _ => unfold byteAt; simp only [Nat.reduceSub, Nat.reducePow]; omega
/-- A piece, said plainly: its numbers, its data as a function. -/
structure Pc where
  s : Nat
  g : Nat
  i : Nat
  D : Nat → Nat
def Pc.Ok (p : Pc) : Prop := p.s < 40 ∧ 1 ≤ p.g ∧ p.g ≤ 1099511627776 ∧ p.i < 6 ∧ ∀ j, j < 32 → p.D j < 256
def pcF (p : Pc) : Nat → Nat := fun j => if j = 0 then p.s else if j < 7 then byteAt p.g 6 (j - 1) else if j = 7 then p.i else p.D (j - 8)
theorem pcF_lt {p : Pc} (h : p.Ok) : ∀ j, j < 40 → pcF p j < 256 := by
  obtain ⟨h1, h2, h3, h4, h5⟩ := h
  intro j hj
  unfold pcF
  split
  · omega
  · split
    · exact byteAt_lt _ _ _
    · split
      · omega
      · exact h5 _ (by omega)
/-- The piece that 40 bytes say. -/
def pcOf (B : Nat → Nat) : Pc := ⟨B 0, numF (fun j => B (1 + j)) 6, B 7, fun j => B (8 + j)⟩
theorem pcOf_pcF {p : Pc} (h : p.Ok) : (pcOf (pcF p)).s = p.s ∧ (pcOf (pcF p)).g = p.g ∧ (pcOf (pcF p)).i = p.i ∧ ∀ j, (pcOf (pcF p)).D j = p.D j := by
  obtain ⟨h1, h2, h3, h4, h5⟩ := h
  refine ⟨rfl, ?_, rfl, fun j => ?_⟩
  · show numF (fun j => pcF p (1 + j)) 6 = p.g
    have e : numF (fun j => pcF p (1 + j)) 6 = numF (byteAt p.g 6) 6 := by
      rw [numF_6, numF_6]
      rfl
    rw [e]
    exact byte6 p.g (by omega)
  · show pcF p (8 + j) = p.D j
    unfold pcF
    rw [if_neg (by omega), if_neg (by omega), if_neg (by omega), Nat.add_sub_cancel_left]
theorem pcF_pcOf {B : Nat → Nat} (hB : ∀ j, j < 40 → B j < 256) : ∀ j, j < 40 → pcF (pcOf B) j = B j := by
  intro j hj
  unfold pcF pcOf
  dsimp only
  by_cases h0 : j = 0
  · rw [if_pos h0, h0]
  · rw [if_neg h0]
    by_cases h1 : j < 7
    · rw [if_pos h1, byteAt_numF (F := fun j => B (1 + j)) (fun k hk => hB _ (by omega)) (j - 1) (by omega), show 1 + (j - 1) = j by omega]
    · rw [if_neg h1]
      by_cases h2 : j = 7
      · rw [if_pos h2, h2]
      · rw [if_neg h2, show 8 + (j - 8) = j by omega]
theorem pcF_inj {p q : Pc} (hp : p.Ok) (hq : q.Ok) (h : ∀ j, j < 40 → pcF p j = pcF q j) : p.s = q.s ∧ p.g = q.g ∧ p.i = q.i ∧ ∀ j, j < 32 → p.D j = q.D j := by
  have e : ∀ j, j < 40 → pcF p j = pcF q j := h
  obtain ⟨a1, a2, a3, a4⟩ := pcOf_pcF hp
  obtain ⟨b1, b2, b3, b4⟩ := pcOf_pcF hq
  refine ⟨e 0 (by omega), ?_, e 7 (by omega), fun j hj => ?_⟩
  · rw [← a2, ← b2]
    show numF (fun j => pcF p (1 + j)) 6 = numF (fun j => pcF q (1 + j)) 6
    rw [numF_6, numF_6]
    simp only [e 1 (by omega), e 2 (by omega), e 3 (by omega), e 4 (by omega), e 5 (by omega), e 6 (by omega), Nat.reduceAdd]
  · rw [← a4 j, ← b4 j]
    exact e (8 + j) (by omega)
/-- A piece's block. -/
def pcS (p : Pc) : Nat → Nat := sealF 1 40 (pcF p)
theorem pcS_lt {p : Pc} (h : p.Ok) (j : Nat) : pcS p j < 256 := sealF_lt (by decide) (pcF_lt h) j
/-- The piece that a block says, if it does. -/
def rdP (F : Nat → Nat) : Pc := pcOf (fun k => F (3 + k))
def IsPc (F : Nat → Nat) : Prop := OpenOk F ∧ num4 F 156 = sumF F 156 ∧ F 0 = 1 ∧ F 1 * 256 + F 2 = 40 ∧ (rdP F).Ok
/-- Two pieces alike. -/
def Pc.Alike (p q : Pc) : Prop := p.s = q.s ∧ p.g = q.g ∧ p.i = q.i ∧ ∀ j, j < 32 → p.D j = q.D j
theorem Pc.Alike.refl (p : Pc) : p.Alike p := ⟨rfl, rfl, rfl, fun _ _ => rfl⟩
theorem Pc.Alike.symm {p q : Pc} (h : p.Alike q) : q.Alike p := ⟨h.1.symm, h.2.1.symm, h.2.2.1.symm, fun j hj => (h.2.2.2 j hj).symm⟩
theorem Pc.Alike.trans {p q r : Pc} (h : p.Alike q) (k : q.Alike r) : p.Alike r := ⟨h.1.trans k.1, h.2.1.trans k.2.1, h.2.2.1.trans k.2.2.1, fun j hj => (h.2.2.2 j hj).trans (k.2.2.2 j hj)⟩
theorem Pc.Alike.ok {p q : Pc} (h : p.Alike q) (k : p.Ok) : q.Ok := by
  obtain ⟨a, b, c, d⟩ := h
  obtain ⟨k1, k2, k3, k4, k5⟩ := k
  exact ⟨by omega, by omega, by omega, by omega, fun j hj => by rw [← d j hj]; exact k5 j hj⟩
theorem Pc.Alike.pcF {p q : Pc} (h : p.Alike q) : ∀ j, j < 40 → pcF p j = pcF q j := by
  obtain ⟨a, b, c, d⟩ := h
  intro j hj
  unfold Go.Proofs.YtjgbfghkiahfaaaGreatDoor.pcF
  rw [a, b, c]
  split
  · rfl
  · split
    · rfl
    · split
      · rfl
      · exact d _ (by omega)
theorem rdP_pcS {p : Pc} {F : Nat → Nat} (h : p.Ok) (hF : ∀ j, j < 160 → F j = pcS p j) : IsPc F ∧ (rdP F).Alike p := by
  obtain ⟨h1, h2, h3, h4, h5⟩ := openOk_seal (kind := 1) (n := 40) (B := pcF p) (F := F) (by decide) (by decide) hF
  have e : (rdP F).Alike p := by
    obtain ⟨a1, a2, a3, a4⟩ := pcOf_pcF h
    refine ⟨(h5 0 (by omega)).trans a1, ?_, (h5 7 (by omega)).trans a3, fun j hj => ?_⟩
    · refine Eq.trans ?_ a2
      show numF (fun j => F (3 + (1 + j))) 6 = numF (fun j => pcF p (1 + j)) 6
      rw [numF_6, numF_6]
      simp only [h5 (1 + 0) (by omega), h5 (1 + 1) (by omega), h5 (1 + 2) (by omega), h5 (1 + 3) (by omega), h5 (1 + 4) (by omega), h5 (1 + 5) (by omega)]
    · exact (h5 (8 + j) (by omega)).trans (a4 j)
  exact ⟨⟨h1, h2, h3, h4, e.symm.ok h⟩, e⟩
theorem isPc_pcS {F : Nat → Nat} (hF : ∀ j, j < 160 → F j < 256) (h : IsPc F) : ∀ j, j < 160 → F j = pcS (rdP F) j := by
  obtain ⟨⟨_, _, h1⟩, h2, h3, h4, h5⟩ := h
  intro j hj
  rw [← h1 j hj, h3, h4]
  unfold pcS
  refine sealF_congr (fun k hk => ?_) j
  exact (pcF_pcOf (B := fun k => F (3 + k)) (fun k hk => hF _ (by omega)) k hk).symm
theorem IsPc.congr {F G : Nat → Nat} (e : ∀ j, j < 160 → F j = G j) (hF : ∀ j, j < 160 → F j < 256) (h : IsPc F) : IsPc G ∧ (rdP G).Alike (rdP F) :=
  rdP_pcS h.2.2.2.2 (fun j hj => (e j hj).symm.trans (isPc_pcS hF h j hj))
attribute [irreducible] pcF pcS IsPc rdP pcOf
end Go.Proofs.YtjgbfghkiahfaaaGreatDoor
namespace Go.Proofs.YtjgbfghkiahfaaaGreatDoor
open Go.RowKit Go.Sort
set_option maxRecDepth 100000
set_option maxHeartbeats 1000000

/-- A piece as a value. -/
abbrev pv (s g i : Int) (A : Option Addr) (n cap : Nat) : Value := .agg #[.int .i64 s, .int .i64 g, .int .i64 i, .slice A n cap]
/-- May there be such a piece? -/
def OkI (s g i : Int) (n : Nat) : Prop := 0 ≤ s ∧ s < 40 ∧ 1 ≤ g ∧ g ≤ 1099511627776 ∧ 0 ≤ i ∧ i < 6 ∧ n = 32

/-- chunk.Right. -/
theorem cright (s g i : Int) (A : Option Addr) (n cap : Nat) (w : World) (t : Bool) (ht : t = true ↔ OkI s g i n) :
    Calls Tryz.prog 104 #[pv s g i A n cap] w fun e w' => e = .returned (.bool t) ∧ Below w.heap.size w w' := by
  have HB : Hid (Below w.heap.size w (w.alloc (.cells #[.int .i64 s, .int .i64 g, .int .i64 i, .slice A n cap] 117))) := Lib.hid ((Below.refl _ _).alloc (Nat.le_refl _) _)
  unfold OkI at ht
  unfold pv
  have walk : True := trivial
  by_cases h0 : 0 ≤ s
  · have p0 := h0
    by_cases h1 : s < 40
    · have p1 := h1
      by_cases h2 : 1 ≤ g
      · have p2 := h2
        by_cases h3 : g ≤ 1099511627776
        · have p3 := h3
          by_cases h4 : 0 ≤ i
          · have p4 := h4
            by_cases h5 : i < 6
            · have p5 := h5
              by_cases h6 : (n : Int) = 32
              · have p6 := h6
                have p7 : ((n : Int) == 32) = true := beq_iff_eq.2 h6
                obtain rfl : t = true := ht.2 (by refine ⟨h0, h1, h2, h3, h4, h5, by omega⟩)
                clear ht h0 h1 h2 h3 h4 h5 h6 p6
                go_enter Tryz.func104, Tryz.ntmps104
                go_wp2_with fail
                go_ret
                exact ⟨rfl, HB.out⟩
              · obtain rfl : t = false := not_true ht (fun h => by omega)
                have p7 : ((n : Int) == 32) = false := beq_eq_false_iff_ne.2 h6
                clear ht h0 h1 h2 h3 h4 h5 h6
                go_enter Tryz.func104, Tryz.ntmps104
                go_wp2_with fail
                go_ret
                exact ⟨rfl, HB.out⟩
            · obtain rfl : t = false := not_true ht (fun h => by omega)
              clear ht h0 h1 h2 h3 h4
              go_enter Tryz.func104, Tryz.ntmps104
              go_wp2_with fail
              go_ret
              exact ⟨rfl, HB.out⟩
          · obtain rfl : t = false := not_true ht (fun h => by omega)
            clear ht h0 h1 h2 h3
            go_enter Tryz.func104, Tryz.ntmps104
            go_wp2_with fail
            go_ret
            exact ⟨rfl, HB.out⟩
        · obtain rfl : t = false := not_true ht (fun h => by omega)
          clear ht h0 h1 h2
          go_enter Tryz.func104, Tryz.ntmps104
          go_wp2_with fail
          go_ret
          exact ⟨rfl, HB.out⟩
      · obtain rfl : t = false := not_true ht (fun h => by omega)
        clear ht h0 h1
        go_enter Tryz.func104, Tryz.ntmps104
        go_wp2_with fail
        go_ret
        exact ⟨rfl, HB.out⟩
    · obtain rfl : t = false := not_true ht (fun h => by omega)
      clear ht h0
      go_enter Tryz.func104, Tryz.ntmps104
      go_wp2_with fail
      go_ret
      exact ⟨rfl, HB.out⟩
  · obtain rfl : t = false := not_true ht (fun h => by omega)
    clear ht 
    go_enter Tryz.func104, Tryz.ntmps104
    go_wp2_with fail
    go_ret
    exact ⟨rfl, HB.out⟩

theorem bits_and1 (g : Int) (h0 : -9223372036854775808 ≤ g) (h1 : g < 9223372036854775808) : bits .and .i64 g 1 = g % 2 := by
  have e : (BitVec.ofInt IntKind.i64.bits g &&& BitVec.ofInt IntKind.i64.bits 1).toNat = (g % 2).toNat := by
    rw [BitVec.toNat_and]
    have e1 : (BitVec.ofInt IntKind.i64.bits 1).toNat = 1 := by decide
    rw [e1, Nat.and_one_is_mod, BitVec.toNat_ofInt]
    have : (2 : Int) ^ IntKind.i64.bits = 18446744073709551616 := by decide
    rw [show ((2 ^ IntKind.i64.bits : Nat) : Int) = 18446744073709551616 by decide]
    omega
  simp only [bits, e]
  rw [IntKind.wrap_i64]
  omega
/-- chunk.Place of what may be. -/
theorem cplace (s g : Int) (w : World) (h0 : -9223372036854775808 ≤ g) (h1 : g < 9223372036854775808) (s0 : -1000000 ≤ s) (s1 : s < 1000000) :
    Calls Tryz.prog 89 #[.int .i64 s, .int .i64 g] w fun e w' => e = .returned (.int .i64 (2 * s + g % 2)) ∧ w' = w := by
  have hb := bits_and1 g h0 h1
  go_enter Tryz.func89, Tryz.ntmps89
  go_wp2_with fail
  go_ret
  exact ⟨rfl, rfl⟩
end Go.Proofs.YtjgbfghkiahfaaaGreatDoor
