import Derived.Test.YtoofgcdilgfclaaU01
import Derived.Test.YtoofgcdilgfclaaU02
namespace Go.Proofs.Ytoofgcdilgfclaa
open Go.RowKit Go.Sort
set_option maxRecDepth 100000
set_option maxHeartbeats 1000000

/-- bytes.Clone of a slice that is not nil. -/
theorem bclone (a : Addr) (n cap : Nat) (F : Nat → Nat) (w : World) (h : Rd w (some a) n F) (hn : n ≤ 140737488355328) :
    Calls Try.prog 55 #[.slice (some a) n cap] w (FewRet n F w) := by
  have HE := Lib.hid (own_empty (t := 5) (base := w.heap.size) (alloc_block w (.cells #[] 5)) (Nat.le_refl _))
  have HB : Hid (Below w.heap.size w (w.alloc (.cells #[] 5))) := Lib.hid ((Below.refl _ _).alloc (Nat.le_refl _) _)
  have HR := Lib.hid h
  have heq : Sem.run Try.prog (binOp .eql 22 (.slice (some a) n cap) (.slice none 0 0)) w = .ok (.bool false) w := Lib.run_eql_slice_nil w 22 5 (some a) n cap 0 0 Try.underlying22
  clear h
  go_enter Try.func55, Try.ntmps55
  go_wp2_with (at_builtin; refine append_rd _ rfl _ _ 22 rfl Try.underlying22 w.heap.size (.slice (some ⟨w.heap.size, 0, none⟩) 0 0) 0 (fun _ => 0) rfl HE.out (some a) n cap F rfl (HR.out.keep HB.out) (by omega) HB.out.size ?_; intro v' w' own gr _ hne; have HO := Lib.hid own; have HG := Lib.hid gr; have HN := Lib.hid hne; clear own gr hne)
  go_ret
  obtain ⟨g, cp, rfl, hg, hgl, hcp⟩ := own_some HO.out (HN.out (by simp))
  have ho := HO.out
  rw [Nat.zero_add] at ho hcp ⊢
  exact ⟨g, cp, rfl, by simpa using ho, Below.grown HB.out HG.out HB.out.size (fun k hk => by cases hk; exact Nat.le_refl _), hg, hgl, hcp⟩
end Go.Proofs.Ytoofgcdilgfclaa
namespace Go.Proofs.Ytoofgcdilgfclaa
open Go.RowKit Go.Sort
set_option maxRecDepth 100000
set_option maxHeartbeats 1000000

/-- Highest byte first. -/
def numF (F : Nat → Nat) : Nat → Nat
  | 0 => 0
  | k + 1 => numF F k * 256 + F k
theorem numF_succ (F : Nat → Nat) (k : Nat) : numF F (k + 1) = numF F k * 256 + F k := rfl
theorem numF_lt {F : Nat → Nat} : ∀ {k : Nat}, (∀ j, j < k → F j < 256) → numF F k < 256 ^ k
  | 0, _ => (by unfold numF; exact Nat.one_pos)
  | k + 1, h => by
    have h1 := numF_lt (k := k) (fun j hj => h j (by omega))
    have h2 := h k (by omega)
    rw [numF_succ, Nat.pow_succ]
    omega
theorem numF_1 (F : Nat → Nat) : numF F 1 = F 0 := by show 0 * 256 + F 0 = F 0; omega
theorem numF_2 (F : Nat → Nat) : numF F 2 = F 0 * 256 + F 1 := by show (0 * 256 + F 0) * 256 + F 1 = _; omega
theorem numF_4 (F : Nat → Nat) : numF F 4 = F 0 * 16777216 + F 1 * 65536 + F 2 * 256 + F 3 := by show (((0 * 256 + F 0) * 256 + F 1) * 256 + F 2) * 256 + F 3 = _; omega
attribute [irreducible] numF

/-- number.Of. -/
theorem nof (A : Option Addr) (n cap : Nat) (F : Nat → Nat) (w : World) (h : Rd w A n F) (hF : ∀ j, j < n → F j < 256) (hn : n ≤ 7) :
    Calls Try.prog 53 #[.slice A n cap] w fun e w' => e = .returned (.int .i64 (numF F n : Nat)) ∧ w' = w := by
  have HR := Lib.hid h
  have HF := Lib.hid hF
  clear h hF
  go_enter Try.func53, Try.ntmps53
  go_wp2_with fail
  go_loopg [3, 8] n (fun q s3 s8 v => ∃ k : Nat, s3 = .int .i64 (numF F k : Nat) ∧ s8 = .int .i64 (k : Int) ∧ k ≤ n ∧ q = n - k ∧ v = w)
  case atStart => exact ⟨0, by unfold numF; rfl, rfl, by omega, rfl, rfl⟩
  case round =>
    obtain ⟨k, rfl, rfl, hk, rfl, rfl⟩ := hrel
    by_cases hlt : k < n
    · have hl : (k : Int) < (n : Int) := by omega
      obtain ⟨g, q, rfl, hg, c1⟩ := HR.out.at hlt
      have HS := Lib.hid (numF_succ F k)
      have hx := HF.out k hlt
      have hs : numF F k < 281474976710656 := by
        have h1 := numF_lt (k := k) (fun j hj => HF.out j (by omega))
        have h2 : (256 : Nat) ^ k ≤ 256 ^ 6 := Nat.pow_le_pow_right (by decide) (by omega)
        omega
      generalize numF F k = s at *
      generalize F k = x at *
      have hor := bits_or_i64 s x (by omega) hx
      go_wp2_with fail
      go_roundg (n - (k + 1))
      case measure => omega
      case rel => exact ⟨k + 1, by rw [HS.out]; congr 1, by go_num, by omega, rfl, rfl⟩
    · obtain rfl : k = n := by omega
      go_wp2_with fail
      go_ret
      exact ⟨rfl, rfl⟩

theorem shr_byte (x m k : Nat) (hk : k < m) : (x : Int) / 2 ^ (8 * k) % 256 = ((byteAt x m (m - 1 - k) : Nat) : Int) := by
  unfold byteAt
  rw [show m - 1 - (m - 1 - k) = k by omega, show (256 : Nat) = 2 ^ 8 from rfl, ← Nat.pow_mul]
  push_cast
  rfl
/-- Some of a row's bytes are a number's. -/
def putF (F : Nat → Nat) (q m x : Nat) : Nat → Nat := fun j => if q ≤ j ∧ j < q + m then byteAt x m (j - q) else F j
/-- number.Bytes. -/
def NBRet (x m : Nat) (w : World) (e : Ending) (w' : World) : Prop := ∃ g, e = .returned (.slice (some ⟨g, 0, none⟩) m m) ∧ Blk8 w' g m (byteAt x m) ∧ Below w.heap.size w w' ∧ w.heap.size ≤ g
theorem nbytes (x m : Nat) (s : Int) (hs : s = (m : Int)) (w : World) (hm : m ≤ 7) : Calls Try.prog 29 #[.int .i64 (x : Int), .int .i64 s] w (NBRet x m w) := by
  subst hs
  obtain ⟨zs, z0, z1, z2⟩ := make8s m (by omega)
  have HR0 : Hid (Blk8 (w.alloc (.cells zs 5)) w.heap.size m (fun _ => 0) ∧ Below w.heap.size w (w.alloc (.cells zs 5))) := Lib.hid ⟨Blk8.new z0 z1, (Below.refl _ _).alloc (Nat.le_refl _) _⟩
  have z3 : ∀ W : World, Sem.run Try.prog (Instr.makeSlice 22 (.int .i64 (m : Int)) (.int .i64 (m : Int))) W = .ok (.slice (some ⟨W.heap.size, 0, none⟩) m m) (W.alloc (.cells zs 5)) := z2
  have hmx : max (m : Int) 0 = (m : Int) := by omega
  clear z0 z1 z2
  go_enter Try.func29, Try.ntmps29
  go_wp2_with fail
  generalize w.alloc (.cells zs 5) = w1 at *
  generalize hg : w.heap.size = g at *
  have HG := Lib.hid hg
  clear hg
  go_loopg [6, 12] m (fun q s6 s12 v => ∃ k : Nat, s12 = .int .i64 (k : Int) ∧ k ≤ m ∧ q = m - k ∧ Hid (Blk8 v g m (fun j => if m - k ≤ j then byteAt x m j else 0) ∧ Below g w v))
  case atStart => exact ⟨0, rfl, by omega, rfl, Lib.hid ⟨HR0.out.1.congr (fun j hj => by rw [if_neg (by omega)]), HR0.out.2⟩⟩
  case round =>
    obtain ⟨k, rfl, hk, rfl, HV⟩ := hrel
    by_cases hlt : k < m
    · have hl : (k : Int) < (m : Int) := by omega
      have HE := Lib.hid (shr_byte x m k hlt)
      have c1 := HV.out.1.row8.cell (m - 1 - k) (by omega)
      have f1 := HV.out.1.row8.free (m - 1 - k)
      go_wp2_with fail
      go_roundg (m - (k + 1))
      case measure => omega
      case rel => exact ⟨k + 1, by go_num, by omega, rfl, Lib.hid ⟨by
        rw [HE.out]
        refine (HV.out.1.put (q := m - 1 - k) (x := byteAt x m (m - 1 - k)) (by omega)).congr (fun j _ => ?_)
        by_cases e : j = m - 1 - k
        · subst e; rw [if_pos rfl, if_pos (by omega)]
        · rw [if_neg e]
          by_cases h : m - k ≤ j
          · rw [if_pos h, if_pos (by omega)]
          · rw [if_neg h, if_neg (by omega)], HV.out.2.setCell (Nat.le_refl _) _⟩⟩
    · obtain rfl : k = m := by omega
      go_wp2_with fail
      go_ret
      exact ⟨g, rfl, HV.out.1.congr (fun j hj => by rw [if_pos (by omega)]), by rw [HG.out]; exact HV.out.2, Nat.le_of_eq HG.out⟩

/-- copy into a block that is known whole, as a step of a region. -/
theorem step_copy_blk {w : World} {ops : Array Oper} {o : Oper} {a : Act} {K : Act → World → Prop} {Q : Exit → Act → World → Prop} {E : Prop} (hgd : o.guard = none) (d s : Operand)
    (ho : o.op = .call { callee := .builtin .copy, args := #[d, s], argTypes := #[22, 22] })
    (g off dLen dCap gs sLen sCap : Nat) (hd : a.eval d = .slice (some ⟨g, off, none⟩) dLen dCap) (hs : a.eval s = .slice (some ⟨gs, 0, none⟩) sLen sCap)
    (N : Nat) (F X G : Nat → Nat) (hb : Blk8 w g N F) (hr : Blk8 w gs sLen X) (hk : sLen ≤ dLen) (hfit : off + sLen ≤ N)
    (hG : ∀ j, j < N → (if off ≤ j ∧ j < off + sLen then X (j - off) else F j) = G j)
    (h : ∀ w', Blk8 w' g N G → w.grownBy w' (some g) → w'.heap.size = w.heap.size → K (a.put o.dst (.int .i64 (sLen : Int))) w') :
    if Region.wanted o (yielded ops a.tmps) = true then Oper.wp Try.prog o a w K Q else E := by
  have hw : Region.wanted o (yielded ops a.tmps) = true := by simp [Region.wanted, hgd]
  rw [if_pos hw]
  obtain ⟨i0, hi0, hz0, hz1, hz2⟩ := info_parts infoByte
  have isz : (Try.prog.info? 5).map (·.size) = some 1 := by rw [hi0]; simp [hz1]
  obtain ⟨cur, hg, hsz, hcur⟩ := hb
  have hc := hr.rd
  have hfit' : off + (rowL sLen X).length ≤ cur.size := by rw [rowL_len]; omega
  have hrun := run_copy_row (P := Try.prog) w 22 22 o.type 5 g off dLen dCap ⟨gs, 0, none⟩ sLen sCap cur _ (rowL sLen X) Try.underlying22 isz hg (by rw [rowL_len]; exact (Nat.min_eq_left hk).symm) (rowL_cells (fun j hj => by have := hc.some_ hj; exact this)) hfit' rowL_one
  unfold Oper.wp
  simp [execOp, ho, resolve, invoke, builtin, hd, hs, hrun, Result.andThen]
  have hlen : (cur.toList.take off ++ (rowL sLen X ++ cur.toList.drop (off + (rowL sLen X).length))).length = cur.size := by
    rw [List.length_append, List.length_append, List.length_take, List.length_drop, Array.length_toList]; omega
  have hW := h (w.setRow g (cur.toList.take off ++ (rowL sLen X ++ cur.toList.drop (off + (rowL sLen X).length))).toArray) ⟨_, setRow_heap w g _ _ 5 _ hg, by rw [List.size_toArray, hlen]; exact hsz, fun j hj => by
    rw [← hG j hj, List.getElem?_toArray, splice_get _ _ _ _ (by rw [Array.length_toList]; exact hfit'), rowL_len]
    by_cases h1 : j < off
    · rw [if_pos h1, if_neg (by omega), Array.getElem?_toList]; exact hcur j hj
    · rw [if_neg h1]
      by_cases h2 : j < off + sLen
      · rw [if_pos h2, if_pos ⟨by omega, h2⟩, rowL_get (by omega)]
      · rw [if_neg h2, if_neg (by omega), Array.getElem?_toList]; exact hcur j hj⟩
    ⟨rfl, rfl, rfl, by simp [World.setRow], fun i _ hne => setRow_other w g i _ (fun e => hne (by rw [e]))⟩ (by simp [World.setRow])
  rw [rowL_len] at hW ⊢
  exact hW
end Go.Proofs.Ytoofgcdilgfclaa
