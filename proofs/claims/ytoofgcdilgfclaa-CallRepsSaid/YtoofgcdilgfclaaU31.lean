import Derived.Test.YtoofgcdilgfclaaU30
import Derived.Test.YtoofgcdilgfclaaU09
namespace Go.Proofs.Ytoofgcdilgfclaa
open Go.RowKit Go.Sort
set_option maxRecDepth 100000
set_option maxHeartbeats 2000000

/-- append of bytes to a row of one's own, as a step of a region. -/
theorem step_append_rd (w : World) {ops : Array Oper} {o : Oper} {a : Act} {K : Act → World → Prop} {Q : Exit → Act → World → Prop} {E : Prop} (hgd : o.guard = none) (s x : Operand) (t : TypeId)
    (ho : o.op = .call { callee := .builtin .append, args := #[s, x], argTypes := #[t, t] }) (ht : Try.prog.underlying t = some (.slice 5))
    (base : Nat) (v : Value) (n : Nat) (F : Nat → Nat) (hs : a.eval s = v) (hown : w.ownsRow base 5 1 v n (rowL n F)) (A : Option Addr) (m c : Nat) (G : Nat → Nat) (hx : a.eval x = .slice A m c) (hr : Rd w A m G)
    (hbytes : n + m ≤ 140737488355328) (hbase : base ≤ w.heap.size)
    (h : ∀ v' w', w'.ownsRow base 5 1 v' (n + m) (rowL (n + m) (fun j => if j < n then F j else G (j - n))) → w.grownBy w' v.ownBlock → (v'.ownBlock = v.ownBlock ∨ v'.ownBlock = some w.heap.size) → (v ≠ .slice none 0 0 → v' ≠ .slice none 0 0) →
      K (a.put o.dst v') w') : if Region.wanted o (yielded ops a.tmps) = true then Oper.wp Try.prog o a w K Q else E := by
  have hw : Region.wanted o (yielded ops a.tmps) = true := by simp [Region.wanted, hgd]
  rw [if_pos hw]
  obtain ⟨v', w', hrun, h2, h3, h4, h5⟩ := run_append_rd w base t o.type ht v n F hown A m c G hr hbytes hbase
  unfold Oper.wp
  simp [execOp, ho, resolve, invoke, builtin, hs, hx, hrun, Result.andThen]
  exact h v' w' h2 h3 h4 h5
theorem rbigB {B : Nat} {w0 : World} (x m : Nat) (s : Int) (hs : s = (m : Int)) (w : World) (h1 : 1 ≤ m) (hm : m ≤ 7) (hB : Below B w0 w) (hl : B ≤ w.heap.size) : Calls Try.prog 43 #[.int .i64 (x : Int), .int .i64 s] w fun e w' => ∃ g cap, e = .returned (.slice (some ⟨g, 0, none⟩) m cap) ∧ w'.ownsRow B 5 1 (.slice (some ⟨g, 0, none⟩) m cap) m (rowL m (byteAt x m)) ∧ Below B w0 w' ∧ Below w.heap.size w w' ∧ B ≤ w'.heap.size :=
  (rbig x m s hs w h1 hm).mono (by
    rintro e w' ⟨g, cap, rfl, ho, hb, _, _, _⟩
    refine ⟨g, cap, rfl, ⟨ho.1, ?_⟩, hB.trans (hb.mono hl), hb, Nat.le_trans hl hb.size⟩
    rcases ho.2 with h0 | ⟨g', cap', cur, e1, hg, r⟩
    · exact Or.inl h0
    · exact Or.inr ⟨g', cap', cur, e1, Nat.le_trans hl hg, r⟩)
/-- pieceBytes. -/
theorem rbytes40 (p : Pc) (A : Option Addr) (cap : Nat) (w : World) (hp : p.Ok) (h : Rd w A 32 p.D) :
    Calls Try.prog 47 #[pv (p.s : Int) (p.g : Int) (p.i : Int) A 32 cap] w (FewRet 40 (pcF p) w) := by
  obtain ⟨w1, hw1⟩ : ∃ w1, w.alloc (.cells #[.int .i64 (p.s : Int), .int .i64 (p.g : Int), .int .i64 (p.i : Int), .slice A 32 cap] 31) = w1 := ⟨_, rfl⟩
  obtain ⟨H, hH⟩ : ∃ H, w.heap.size = H := ⟨_, rfl⟩
  have HH := Lib.hid hH
  have HW1 := Lib.hid hw1
  have HK1 : Hid (PV w1 H (p.s : Int) (p.g : Int) (p.i : Int) A 32 cap) := Lib.hid (by rw [← hw1, ← hH]; exact PV.new w _ _ _ _ _ _)
  have hb1 : Below H w w1 := by rw [← hw1, ← hH]; exact (Below.refl _ _).alloc (Nat.le_refl _) _
  have HB1 := Lib.hid hb1
  have HR1 : Hid (Rd w1 A 32 p.D) := Lib.hid (h.keep (by rw [hH]; exact hb1))
  have HF : Hid (∀ j, j < 40 → pcF p j = if j < 1 + 6 + 1 then (if j < 1 + 6 then (if j < 1 then byteAt p.s 1 j else byteAt p.g 6 (j - 1)) else p.i) else p.D (j - (1 + 6 + 1))) := Lib.hid (by
    obtain ⟨o1, o2, o3, o4, o5⟩ := hp
    intro j hj
    unfold pcF
    by_cases e0 : j = 0
    · subst e0; rw [if_pos rfl, if_pos (by omega), if_pos (by omega), if_pos (by omega)]; exact (byte1 p.s (by omega)).symm
    · rw [if_neg e0]
      by_cases e1 : j < 7
      · rw [if_pos e1, if_pos (by omega), if_pos (by omega), if_neg (by omega)]
      · rw [if_neg e1]
        by_cases e2 : j = 7
        · subst e2; rw [if_pos rfl, if_pos (by omega), if_neg (by omega)]
        · rw [if_neg e2, if_neg (by omega)])
  have hi6 : p.i < 6 := hp.2.2.2.1
  obtain ⟨base, hbase⟩ : ∃ base, w1.heap.size = base := ⟨_, rfl⟩
  have HBS := Lib.hid hbase
  have HHB : Hid (H < base) := Lib.hid (by rw [← hbase]; exact HK1.out.lt)
  have BD : Hid (Below base w1 w1.drew) := Lib.hid (by rw [← hbase]; exact below_drewN 1 w1)
  have BZ : Hid (base ≤ w1.drew.heap.size) := Lib.hid (by rw [← hbase]; exact Nat.le_refl _)
  clear hw1 hH hb1 h hp hbase
  have c0 : w1.drew.cell? ⟨H, 0, none⟩ = some (.int .i64 (p.s : Int)) := HK1.out.c0
  have c1 : w1.drew.cell? ⟨H, 1, none⟩ = some (.int .i64 (p.g : Int)) := HK1.out.c1
  unfold pv
  go_enter Try.func47, Try.ntmps47
  go_wp2_with fail
  rw [HW1.out, HH.out]
  go_region_law (first
    | (refine step_append_rd _ rfl (.tmp 6) (.tmp 9) 22 rfl Try.underlying22 base (.slice (some ⟨g2, 0, none⟩) 1 k2) 1 (byteAt p.s 1) rfl HO3'.out (some ⟨g3, 0, none⟩) 6 k3 (byteAt p.g 6) rfl (own_rd HO3.out) (by omega) HZ3.out ?_; intro v4 w4 own4 gr4 _ hne4; have HO4 := Lib.hid own4; have HB4 : Hid (Below base w1 w4) := Lib.hid (Below.grown HB3.out gr4 HZ3.out (fun k hk => by cases hk; exact HG2.out)); have HZ4 : Hid (base ≤ w4.heap.size) := Lib.hid (Nat.le_trans HZ3.out gr4.size); have HN4 : Hid (v4 ≠ .slice none 0 0) := Lib.hid (hne4 (by simp)); clear own4 gr4 hne4)
    | (go_simp; go_at_call 43; (with_reducible refine (rbigB p.s 1 1 rfl _ (by omega) (by omega) BD.out BZ.out).mono ?_); rintro e w2 ⟨g2, k2, rfl, ho2, hb2, hh2, hz2⟩; (try dsimp only); have HO2 := Lib.hid ho2; have HB2 := Lib.hid hb2; have HZ2 := Lib.hid hz2; have d1 := ((HK1.out.below (by rw [HBS.out]; exact hb2)).c1); clear ho2 hb2 hh2 hz2)
    | (go_simp; go_at_call 43; (with_reducible refine (rbigB p.g 6 6 rfl _ (by omega) (by omega) HB2.out HZ2.out).mono ?_); rintro e w3 ⟨g3, k3, rfl, ho3, hb3, hh3, hz3⟩; (try dsimp only); have HO3 := Lib.hid ho3; have HB3 := Lib.hid hb3; have HZ3 := Lib.hid hz3; have HO3' := Lib.hid (own_keep HO2.out hh3); have HG2 : Hid (base ≤ g2) := Lib.hid (own_ge' HO2.out g2 rfl); clear ho3 hb3 hh3 hz3))
  all_goals
    have HK4 : Hid (PV w4 H (p.s : Int) (p.g : Int) (p.i : Int) A 32 cap) := Lib.hid (HK1.out.below (by rw [HBS.out]; exact HB4.out))
    have e2 := HK4.out.c2
    have hL : Hid (Below w4.heap.size w4 (w4.alloc (.cells #[.int .u8 (p.i : Int)] 5))) := Lib.hid ((Below.refl _ _).alloc (Nat.le_refl _) _)
    have HRL : Hid (Rd (w4.alloc (.cells #[.int .u8 (p.i : Int)] 5)) (some ⟨w4.heap.size, 0, none⟩) 1 (fun _ => p.i)) := Lib.hid (lit_rd (by omega) rfl)
    have HOL := Lib.hid (own_keep HO4.out hL.out)
    have HBL : Hid (Below base w1 (w4.alloc (.cells #[.int .u8 (p.i : Int)] 5))) := Lib.hid (HB4.out.trans (hL.out.mono HZ4.out))
    have HZL : Hid (base ≤ (w4.alloc (.cells #[.int .u8 (p.i : Int)] 5)).heap.size) := Lib.hid (Nat.le_trans HZ4.out hL.out.size)
    have em : (p.i : Int) % 256 = (p.i : Int) := by omega
    clear hL
    go_wp2_with (first
      | (at_builtin; refine append_rd _ rfl (.tmp 11) (.tmp 15) 22 rfl Try.underlying22 base v4 (1 + 6) _ rfl HOL.out (some ⟨w4.heap.size, 0, none⟩) 1 1 (fun _ => p.i) rfl HRL.out (by omega) HZL.out ?_; intro v5 w5 own5 gr5 _ hne5; have HO5 := Lib.hid own5; have HB5 : Hid (Below base w1 w5) := Lib.hid (Below.grown HBL.out gr5 HZL.out (own_ge' HOL.out)); have HZ5 : Hid (base ≤ w5.heap.size) := Lib.hid (Nat.le_trans HZL.out gr5.size); have HN5 := Lib.hid (hne5 HN4.out); have e3 := (HK1.out.below (by rw [HBS.out]; exact HB5.out)).c3; have HR5 : Hid (Rd w5 A 32 p.D) := Lib.hid (HR1.out.keep (by rw [HBS.out]; exact HB5.out)); clear own5 gr5 hne5)
      | (at_builtin; refine append_rd _ rfl (.tmp 17) (.tmp 19) 22 rfl Try.underlying22 base v5 (1 + 6 + 1) _ rfl HO5.out A 32 cap p.D rfl HR5.out (by omega) HZ5.out ?_; intro v6 w6 own6 gr6 _ hne6; have HO6 := Lib.hid own6; have HB6 : Hid (Below base w1 w6) := Lib.hid (Below.grown HB5.out gr6 HZ5.out (own_ge' HO5.out)); have HN6 := Lib.hid (hne6 HN5.out); clear own6 gr6 hne6))
    go_ret
    obtain ⟨g, c, rfl, hg, hgl, hcc⟩ := own_some HO6.out HN6.out
    refine ⟨g, c, rfl, ⟨by rw [rowL_len], ?_⟩, by rw [HH.out]; exact HB1.out.trans (HB6.out.mono (Nat.le_of_lt HHB.out)), by rw [HH.out]; exact Nat.le_trans (Nat.le_of_lt HHB.out) hg, hgl, hcc⟩
    have ho := (own_congr HO6.out (fun j hj => (HF.out j hj).symm)).2
    rcases ho with h0 | ⟨g', cap', cur, e1, hg', r⟩
    · exact Or.inl h0
    · exact Or.inr ⟨g', cap', cur, e1, by rw [HH.out]; exact Nat.le_trans (Nat.le_of_lt HHB.out) hg', r⟩
/-- corbelref7.LayPiece of a piece that may be. -/
def RLayRetB (p : Pc) (w : World) (e : Ending) (w' : World) : Prop := ∃ g cap, e = .returned (.tuple #[.slice (some ⟨g, 0, none⟩) 160 cap, .bool true]) ∧ Blk8 w' g 160 (pcS p) ∧ Below w.heap.size w w' ∧ 160 ≤ cap ∧ w.heap.size ≤ g
def RLayRet (p : Pc) (w : World) (e : Ending) (w' : World) : Prop := ∃ g cap, e = .returned (.tuple #[.slice (some ⟨g, 0, none⟩) 160 cap, .bool true]) ∧ Rd w' (some ⟨g, 0, none⟩) 160 (pcS p) ∧ Below w.heap.size w w' ∧ 160 ≤ cap
end Go.Proofs.Ytoofgcdilgfclaa
