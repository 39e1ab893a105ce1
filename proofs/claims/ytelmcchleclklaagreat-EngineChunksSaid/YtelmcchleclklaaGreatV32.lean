import Derived.Test.YtelmcchleclklaaGreatV29
import Derived.WalkKit
import Derived.WalkSpells
import Derived.Lib.Hide
import Derived.Outline
import Derived.Deep.QuietTactic
import Derived.Deep.RegionHeld
import Derived.Deep.RegionWith
import Derived.Deep.RegionLaw
import Derived.Deep.AppendLies
import Derived.Deep.LoopGhost
import Derived.Maps.OwnSet
import Derived.Sort.Grow
import Derived.BigRegion
import Derived.BigQuiet
import Derived.StillTailTactics
import Derived.Laws.BitsLemmas
import Derived.Laws.ResultCell
import Derived.Test.YtelmcchleclklaaGreatV31
import Derived.OwnWalk
import Derived.ArgAppend
namespace Go.Proofs.YtelmcchleclklaaGreat.Kc
open Go.RowKit Go.Sort
set_option maxRecDepth 100000

theorem bits_xor_u8 (a b : Nat) (ha : a < 256) (hb : b < 256) : bits .xor .u8 (a : Int) (b : Int) = ((a ^^^ b : Nat) : Int) := by
 have ha' : a % 2 ^ IntKind.u8.bits = a := Nat.mod_eq_of_lt ha
 have hb' : b % 2 ^ IntKind.u8.bits = b := Nat.mod_eq_of_lt hb
 simp only [bits, BitVec.ofInt_natCast, BitVec.toNat_xor, BitVec.toNat_ofNat, ha', hb']
 rw [IntKind.wrap_u8]
 have := xor_lt ha hb
 omega
theorem bits_xor_i64 (a b : Nat) (ha : a < 2 ^ 62) (hb : b < 2 ^ 62) : bits .xor .i64 (a : Int) (b : Int) = ((a ^^^ b : Nat) : Int) := by
 have h2 : (2 : Nat) ^ 62 ≤ 2 ^ IntKind.i64.bits := by decide
 have ha' : a % 2 ^ IntKind.i64.bits = a := Nat.mod_eq_of_lt (Nat.lt_of_lt_of_le ha h2)
 have hb' : b % 2 ^ IntKind.i64.bits = b := Nat.mod_eq_of_lt (Nat.lt_of_lt_of_le hb h2)
 simp only [bits, BitVec.ofInt_natCast, BitVec.toNat_xor, BitVec.toNat_ofNat, ha', hb']
 rw [IntKind.wrap_i64]
 have := Nat.xor_lt_two_pow ha hb
 omega

theorem cell?_lt {w : World} {b o : Nat} {v : Value} (h : w.cell? ⟨b, o, none⟩ = some v) : b < w.heap.size := by
 unfold World.cell? at h
 by_cases hb : b < w.heap.size
 ·exact hb
 ·simp [Array.getElem?_eq_none (by omega : w.heap.size ≤ b)] at h

structure Fld (w : World) (f : Nat) : Prop where
 exp : ∀ k, k < 255 → w.cell? ⟨f, k, none⟩ = some (.int .u8 (pw k : Nat))
 log : ∀ k, k < 255 → w.cell? ⟨f, 255 + pw k, none⟩ = some (.int .u8 (k : Nat))
theorem Fld.lt {w : World} {f : Nat} (h : Fld w f) : f < w.heap.size := cell?_lt (h.exp 0 (by decide))
theorem Fld.keep {w w' : World} {f : Nat} (h : Fld w f) (b : Below w.heap.size w w') : Fld w' f :=
 ⟨fun k hk => (b.cell (p := ⟨f, k, none⟩) h.lt).trans (h.exp k hk), fun k hk => (b.cell (p := ⟨f, 255 + pw k, none⟩) h.lt).trans (h.log k hk)⟩
theorem Fld.lgc {w : World} {f : Nat} (h : Fld w f) {a : Nat} (ha : a < 256) (h0 : a ≠ 0) : w.cell? ⟨f, 255 + a, none⟩ = some (.int .u8 (lg a : Nat)) := by
 have := h.log (lg a) (lg_ok ha h0).2
 rw [(lg_ok ha h0).1] at this
 exact this

theorem fmade (f : Nat) (w : World) (h : Fld w f) : Calls Tryz.prog 172 #[.pointer (some ⟨f, 0, none⟩)] w fun e w' => e = .returned (.bool true) ∧ w' = w := by
 have h0 := h.exp 0 (by decide)
 have e : pw 0 = 1 := pw_zero
 rw [e] at h0
 clear h
 go_enter Tryz.func172, Tryz.ntmps172
 go_wp2
 go_ret
 exact ⟨rfl, rfl⟩

theorem flog (f a : Nat) (w : World) (h : Fld w f) (ha : a < 256) : Calls Tryz.prog 212 #[.pointer (some ⟨f, 0, none⟩), .int .u8 (a : Int)] w
  fun e w' => e = .returned (.tuple #[.int .i64 (if a = 0 then 0 else lg a : Nat), .bool (decide (a ≠ 0))]) ∧ w' = w := by
 have HH := Lib.hid h
 by_cases h0 : a = 0
 ·subst h0
  clear h
  go_enter Tryz.func212, Tryz.ntmps212
  go_wp2_with fail
  go_ret2
  exact ⟨rfl, rfl⟩
 ·have h1 := h.lgc ha h0
  have h2 := (lg_ok ha h0).2
  have e0 : ((a : Int) == 0) = false := beq_eq_false_iff_ne.2 (by omega)
  have a1 : (a : Int) < 256 := by omega
  clear h
  generalize lg a = n at *
  go_enter Tryz.func212, Tryz.ntmps212
  go_wp2_with fail
  refine (fmade f _ HH.out).mono ?_
  rintro e w2 ⟨rfl, rfl⟩
  go_wp2_with fail
  go_ret2
  exact ⟨rfl, rfl⟩

theorem fadd (f a b : Nat) (w : World) (h : Fld w f) (ha : a < 256) (hb : b < 256) : Calls Tryz.prog 204 #[.pointer (some ⟨f, 0, none⟩), .int .u8 (a : Int), .int .u8 (b : Int)] w
  fun e w' => e = .returned (.int .u8 ((a ^^^ b : Nat) : Int)) ∧ w' = w := by
 have HH := Lib.hid h
 clear h
 rw [← bits_xor_u8 a b ha hb]
 go_enter Tryz.func204, Tryz.ntmps204
 go_wp2_with (go_at_call 172; refine (fmade f _ HH.out).mono ?_; rintro e w2 ⟨rfl, rfl⟩)
 go_ret
 exact ⟨rfl, rfl⟩



theorem fexp (f : Nat) (n : Int) (w : World) (h : Fld w f) (_hn : -9223372036854775808 ≤ n ∧ n ≤ 9223372036854775807) : Calls Tryz.prog 139 #[.pointer (some ⟨f, 0, none⟩), .int .i64 n] w
  fun e w' => e = .returned (.int .u8 (pw (n % 255).toNat : Nat)) ∧ w' = w := by
 have HH := Lib.hid h
 have h1 := h.exp (n % 255).toNat (by omega)
 have hr : (n.tmod 255 = n % 255 ∧ 0 ≤ n.tmod 255) ∨ (n.tmod 255 < 0 ∧ n.tmod 255 + 255 = n % 255) := by
  rw [Int.tmod_eq_emod]
  split
  ·left; omega
  ·right
   rename_i hc
   have : ¬ (n % 255 = 0) := fun e => hc (Or.inr (Int.dvd_of_emod_eq_zero e))
   omega
 generalize pw (n % 255).toNat = v at *
 clear h
 rcases hr with ⟨hr, hr0⟩ | ⟨hr0, hr⟩
 ·have hl : n.tmod 255 < 255 := by omega
  have hs : ¬ n.tmod 255 < 0 := by omega
  rw [← hr] at h1
  clear hr
  go_enter Tryz.func139, Tryz.ntmps139
  go_wp2_with (go_at_call 172; refine (fmade f _ HH.out).mono ?_; rintro e w2 ⟨rfl, rfl⟩)
  go_ret
  exact ⟨rfl, rfl⟩
 ·have hl : -255 ≤ n.tmod 255 := by omega
  have hs : 0 ≤ n.tmod 255 + 255 := by omega
  rw [← hr] at h1
  clear hr
  go_enter Tryz.func139, Tryz.ntmps139
  go_wp2_with (go_at_call 172; refine (fmade f _ HH.out).mono ?_; rintro e w2 ⟨rfl, rfl⟩)
  go_ret
  exact ⟨rfl, rfl⟩

theorem fmul (f a b : Nat) (w : World) (h : Fld w f) (ha : a < 256) (hb : b < 256) : Calls Tryz.prog 203 #[.pointer (some ⟨f, 0, none⟩), .int .u8 (a : Int), .int .u8 (b : Int)] w
  fun e w' => e = .returned (.int .u8 (mul a b : Nat)) ∧ w' = w := by
 have HH := Lib.hid h
 have HA := Lib.hid ha
 have HB := Lib.hid hb
 clear h ha hb
 rw [mul_def]
 by_cases h0 : a = 0
 ·subst h0
  rw [if_pos (Or.inl rfl)]
  go_enter Tryz.func203, Tryz.ntmps203
  go_wp2_with fail
  refine (flog f 0 _ HH.out HA.out).mono ?_
  rintro e w2 ⟨rfl, rfl⟩
  go_wp2_with fail
  refine (flog f b _ HH.out HB.out).mono ?_
  rintro e w2 ⟨rfl, rfl⟩
  go_wp2_with fail
  all_goals (go_ret; exact ⟨rfl, rfl⟩)
 ·by_cases h1 : b = 0
  ·subst h1
   rw [if_pos (Or.inr rfl)]
   go_enter Tryz.func203, Tryz.ntmps203
   go_wp2_with fail
   refine (flog f a _ HH.out HA.out).mono ?_
   rintro e w2 ⟨rfl, rfl⟩
   go_wp2_with fail
   refine (flog f 0 _ HH.out HB.out).mono ?_
   rintro e w2 ⟨rfl, rfl⟩
   go_wp2_with fail
   all_goals (go_ret; exact ⟨rfl, rfl⟩)
  ·have la := (lg_ok HA.out h0).2
   have lb := (lg_ok HB.out h1).2
   rw [if_neg (by simp [h0, h1])]
   go_enter Tryz.func203, Tryz.ntmps203
   go_wp2_with fail
   refine (flog f a _ HH.out HA.out).mono ?_
   rintro e w2 ⟨rfl, rfl⟩
   go_wp2_with fail
   refine (flog f b _ HH.out HB.out).mono ?_
   rintro e w2 ⟨rfl, rfl⟩
   go_wp2_with fail
   have HE : Hid ((((lg a : Int) + (lg b : Int)) % 255).toNat = (lg a + lg b) % 255) := Lib.hid (by omega)
   refine (fexp f _ _ HH.out (by omega)).mono ?_
   rintro e w2 ⟨rfl, rfl⟩
   rw [HE.out]
   go_wp2_with fail
   go_ret
   exact ⟨rfl, rfl⟩

theorem finv (f a : Nat) (w : World) (h : Fld w f) (ha : a < 256) : Calls Tryz.prog 202 #[.pointer (some ⟨f, 0, none⟩), .int .u8 (a : Int)] w
  fun e w' => e = .returned (.tuple #[.int .u8 (if a = 0 then 0 else inv a : Nat), .bool (decide (a ≠ 0))]) ∧ w' = w := by
 have HH := Lib.hid h
 have HA := Lib.hid ha
 clear h ha
 by_cases h0 : a = 0
 ·subst h0
  go_enter Tryz.func202, Tryz.ntmps202
  go_wp2_with fail
  refine (flog f 0 _ HH.out HA.out).mono ?_
  rintro e w2 ⟨rfl, rfl⟩
  go_wp2_with fail
  go_ret2
  exact ⟨rfl, rfl⟩
 ·have la := (lg_ok HA.out h0).2
  have HV : Hid (∀ z : Int, z = -(lg a : Int) → pw (z % 255).toNat = inv a) := Lib.hid (by
   rintro z rfl
   rw [inv_def]
   congr 1
   omega)
  rw [if_neg h0]
  go_enter Tryz.func202, Tryz.ntmps202
  go_wp2_with fail
  refine (flog f a _ HH.out HA.out).mono ?_
  rintro e w2 ⟨rfl, rfl⟩
  go_wp2_with fail
  refine (fexp f _ _ HH.out (by omega)).mono ?_
  rintro e w2 ⟨rfl, rfl⟩
  rw [HV.out _ rfl]
  go_wp2_with fail
  go_ret2
  rw [show decide (a ≠ 0) = true from decide_eq_true h0]
  exact ⟨rfl, rfl⟩

theorem fdouble (x : Nat) (w : World) (h : x < 256) : Calls Tryz.prog 171 #[.int .i64 (x : Int)] w fun e w' => e = .returned (.int .i64 (dbl x : Nat)) ∧ w' = w := by
 rw [dbl_eq]
 have hb : bits .xor .i64 ((x : Int) * 2) 285 = ((2 * x ^^^ 285 : Nat) : Int) := by
  have := bits_xor_i64 (2 * x) 285 (by omega) (by omega)
  rw [← this]
  congr 1
  omega
 by_cases hc : 256 ≤ 2 * x
 ·have hi : (256 : Int) ≤ (x : Int) * 2 := by omega
  rw [if_pos hc]
  generalize 2 * x ^^^ 285 = y at *
  go_enter Tryz.func171, Tryz.ntmps171
  go_wp2
  go_ret
  exact ⟨rfl, rfl⟩
 ·have hi : ¬ (256 : Int) ≤ (x : Int) * 2 := by omega
  rw [if_neg hc]
  have e : ((2 * x : Nat) : Int) = (x : Int) * 2 := by omega
  rw [e]
  clear hb e
  go_enter Tryz.func171, Tryz.ntmps171
  go_wp2
  go_ret
  exact ⟨rfl, rfl⟩

theorem fzero : ∃ zs : Array Value, zs.size = 511 ∧ zs ≠ #[] ∧ (∀ k : Nat, k < 511 → zs[k]? = some (.int .u8 0)) ∧ ∀ w, Sem.run Tryz.prog (zeroValue 258) w = .ok (.agg zs) w := by
 refine ⟨Array.replicate 511 (.int .u8 0), Array.size_replicate, ?_, ?_, ?_⟩
 ·intro h
  have := congrArg Array.size h
  simp at this
 ·intro k hk
  rw [Array.getElem?_replicate, if_pos hk]
 ·intro w
  kernel_rfl

structure Part (w : World) (f n : Nat) : Prop where
 room : ∀ k, k < 511 → ∃ v, w.cell? ⟨f, k, none⟩ = some (.int .u8 v)
 exp : ∀ k, k < n → w.cell? ⟨f, k, none⟩ = some (.int .u8 (pw k : Nat))
 log : ∀ k, k < n → w.cell? ⟨f, 255 + pw k, none⟩ = some (.int .u8 (k : Nat))
 fz : ∀ k, w.frozen? ⟨f, k, none⟩ = false

theorem Part.next {w : World} {f n : Nat} (h : Part w f n) (hn : n < 255) :
  Part ((w.setCell ⟨f, n, none⟩ (.int .u8 (pw n : Nat))).setCell ⟨f, 255 + pw n, none⟩ (.int .u8 (n : Nat))) f (n + 1) := by
 have hlt := pw_lt n
 obtain ⟨v1, e1⟩ := h.room n (by omega)
 obtain ⟨v2, e2⟩ := h.room (255 + pw n) (by omega)
 have ne : ∀ a b : Nat, a ≠ b → (⟨f, a, none⟩ : Addr) ≠ ⟨f, b, none⟩ := fun a b hab e => hab (by injection e)
 have e2' : (w.setCell ⟨f, n, none⟩ (.int .u8 (pw n : Nat))).cell? ⟨f, 255 + pw n, none⟩ = some (.int .u8 v2) := by
  rw [World.cell?_setCell_other _ _ _ _ (ne _ _ (by omega)), e2]
 have key : ∀ k : Nat, ((w.setCell ⟨f, n, none⟩ (.int .u8 (pw n : Nat))).setCell ⟨f, 255 + pw n, none⟩ (.int .u8 (n : Nat))).cell? ⟨f, k, none⟩ =
   if k = 255 + pw n then some (.int .u8 (n : Nat)) else if k = n then some (.int .u8 (pw n : Nat)) else w.cell? ⟨f, k, none⟩ := by
  intro k
  split
  ·subst k; rw [World.cell?_setCell_same _ _ _ e2']
  ·rw [World.cell?_setCell_other _ _ _ _ (ne _ _ (by omega))]
   split
   ·subst k; rw [World.cell?_setCell_same _ _ _ e1]
   ·rw [World.cell?_setCell_other _ _ _ _ (ne _ _ (by omega))]
 refine ⟨fun k hk => ?_, fun k hk => ?_, fun k hk => ?_, fun k => ?_⟩
 ·rw [key]
  split
  ·exact ⟨_, rfl⟩
  ·split
   ·exact ⟨_, rfl⟩
   ·exact h.room k hk
 ·rw [key, if_neg (by omega)]
  split
  ·subst k; rfl
  ·exact h.exp k (by omega)
 ·rw [key]
  by_cases e : k = n
  ·subst k; rw [if_pos rfl]
  ·have := pw_lt k
   rw [if_neg (by intro e3; exact e (pw_inj (by omega) hn (by omega))), if_neg (by omega)]
   exact h.log k (by omega)
 ·rw [World.frozen?_setCell, World.frozen?_setCell]; exact h.fz k

theorem cell_of_block {w : World} {b k : Nat} {cs : Array Value} {t : TypeId} {fr : Nat × Nat} (h : w.heap[b]? = some (.cells cs t fr)) : w.cell? ⟨b, k, none⟩ = cs[k]? := by
 simp [World.cell?, h]

theorem fnew (w : World) : Calls Tryz.prog 138 #[] w fun e w' => e = .returned (.pointer (some ⟨w.heap.size, 0, none⟩)) ∧ Fld w' w.heap.size ∧ Below w.heap.size w w' := by
 obtain ⟨zs, z1, z2, z3, z4⟩ := fzero
 have H0 : Hid (Part (w.alloc (.cells zs 258)) w.heap.size 0 ∧ Below w.heap.size w (w.alloc (.cells zs 258))) := by
  have hb : (w.alloc (.cells zs 258)).heap[w.heap.size]? = some (.cells zs 258 (0, 0)) := by
   show (w.heap.push _)[w.heap.size]? = _
   rw [Array.getElem?_push, if_pos rfl]
  refine Lib.hid ⟨⟨fun k hk => ⟨0, ?_⟩, fun k hk => by omega, fun k hk => by omega, fun k => ?_⟩, (Below.refl _ _).alloc (Nat.le_refl _) _⟩
  ·rw [cell_of_block hb, z3 k hk]
  ·generalize w.alloc _ = w1 at *
   simp [World.frozen?, hb]
 go_enter Tryz.func138, Tryz.ntmps138
 go_wp2
 generalize w.alloc (.cells zs 258) = w1 at *
 clear z1 z2 z3 z4
 go_loopg [2, 6] 255 (fun q s2 s6 v => ∃ n : Nat, s2 = .int .i64 (pw n : Nat) ∧ s6 = .int .i64 (n : Int) ∧ n ≤ 255 ∧ q = 255 - n ∧ Hid (Part v w.heap.size n ∧ Below w.heap.size w v))
 case atStart => exact ⟨0, by rw [pw_zero]; rfl, rfl, by omega, rfl, H0⟩
 case round =>
  obtain ⟨n, rfl, rfl, hn, rfl, HS⟩ := hrel
  by_cases hlt : n < 255
  ·have hp := pw_lt n
   have hl : (n : Int) < 255 := by omega
   obtain ⟨v1, e1⟩ := HS.out.1.room n (by omega)
   obtain ⟨v2, e2⟩ := HS.out.1.room (255 + pw n) (by omega)
   have HN := Lib.hid (HS.out.1.next hlt)
   have e2' : (wr.setCell ⟨w.heap.size, n, none⟩ (.int .u8 (pw n : Nat))).cell? ⟨w.heap.size, 255 + pw n, none⟩ = some (.int .u8 v2) := by
    rw [World.cell?_setCell_other _ _ _ _ (by intro e; injection e; omega), e2]
   have HD := Lib.hid (fdouble (pw n))
   have HP : pw (n + 1) = dbl (pw n) := pw_succ n
   have hpi : (pw n : Int) < 256 := by omega
   rw [← HP] at HD
   clear HP
   have f1 := HS.out.1.fz n
   have f2 := (World.frozen?_setCell wr ⟨w.heap.size, n, none⟩ ⟨w.heap.size, 255 + pw n, none⟩ (.int .u8 (pw n : Nat))).trans (HS.out.1.fz (255 + pw n))
   have HB := Lib.hid HS.out.2
   clear HS H0
   generalize pw n = x at *
   go_wp2_with fail
   refine (HD.out _ hp).mono ?_
   rintro e w2 ⟨rfl, rfl⟩
   go_wp2_with fail
   go_roundg (255 - (n + 1))
   case measure => omega
   case rel => exact ⟨n + 1, rfl, by go_num, by omega, rfl, Lib.hid ⟨HN.out, (HB.out.setCell (Nat.le_refl _) _).setCell (Nat.le_refl _) _⟩⟩
  ·have hge : ¬ (n : Int) < 255 := by omega
   have e : n = 255 := by omega
   go_wp2_with fail
   go_ret
   subst e
   exact ⟨rfl, ⟨HS.out.1.exp, HS.out.1.log⟩, HS.out.2⟩

end Go.Proofs.YtelmcchleclklaaGreat.Kc
namespace Go.Proofs.YtelmcchleclklaaGreat.Kc
open Go.RowKit Go.Sort

structure Own (w : World) (b r c : Nat) (G K : Nat → Nat) (A : Mx) : Prop where
 outer : ∀ i, i < r → w.cell? ⟨b, i, none⟩ = some (.slice (some ⟨G i, 0, none⟩) c (K i))
 cell : ∀ i, i < r → ∀ j, j < c → w.cell? ⟨G i, j, none⟩ = some (.int .u8 (A i j : Nat))
 free : ∀ k, w.frozen? ⟨b, k, none⟩ = false
 freeG : ∀ i, i < r → ∀ k, w.frozen? ⟨G i, k, none⟩ = false
 apart : ∀ i, i < r → G i ≠ b
 inj : ∀ i, i < r → ∀ k, k < r → G i = G k → i = k

theorem addr_ne {b b' o o' : Nat} (h : b ≠ b' ∨ o ≠ o') : (⟨b, o, none⟩ : Addr) ≠ ⟨b', o', none⟩ := by
 intro e
 injection e with e1 e2
 rcases h with h | h
 ·exact h e1
 ·exact h e2

theorem cell_far {w : World} {b b' o o' : Nat} {v : Value} (h : b ≠ b' ∨ o ≠ o') : (w.setCell ⟨b', o', none⟩ v).cell? ⟨b, o, none⟩ = w.cell? ⟨b, o, none⟩ :=
 World.cell?_setCell_other _ _ _ _ (addr_ne h).symm

theorem Own.put {w : World} {b r c p q x : Nat} {G K : Nat → Nat} {A : Mx} (h : Own w b r c G K A) (hp : p < r) (hq : q < c) :
  Own (w.setCell ⟨G p, q, none⟩ (.int .u8 (x : Nat))) b r c G K (fun i j => if i = p ∧ j = q then x else A i j) := by
 refine ⟨fun i hi => ?_, fun i hi j hj => ?_, fun k => ?_, fun i hi k => ?_, h.apart, h.inj⟩
 ·rw [cell_far (Or.inl (fun e => h.apart p hp e.symm))]
  exact h.outer i hi
 ·by_cases e : i = p ∧ j = q
  ·obtain ⟨rfl, rfl⟩ := e
   rw [World.cell?_setCell_same _ _ _ (h.cell i hi j hj), if_pos ⟨rfl, rfl⟩]
  ·rw [if_neg e, cell_far (by
    by_cases hij : i = p
    ·right
     intro e2
     exact e ⟨hij, e2⟩
    ·left
     intro e2
     exact hij (h.inj i hi p hp e2))]
   exact h.cell i hi j hj
 ·rw [World.frozen?_setCell]; exact h.free k
 ·rw [World.frozen?_setCell]; exact h.freeG i hi k

theorem Own.swap {w : World} {b r c p q : Nat} {G K : Nat → Nat} {A : Mx} (h : Own w b r c G K A) (hp : p < r) (hq : q < r) :
  Own ((w.setCell ⟨b, p, none⟩ (.slice (some ⟨G q, 0, none⟩) c (K q))).setCell ⟨b, q, none⟩ (.slice (some ⟨G p, 0, none⟩) c (K p))) b r c (fun i => G (sw p q i)) (fun i => K (sw p q i)) (fun i j => A (sw p q i) j) := by
 have c1 : (w.setCell ⟨b, p, none⟩ (.slice (some ⟨G q, 0, none⟩) c (K q))).cell? ⟨b, q, none⟩ = some (.slice (some ⟨G q, 0, none⟩) c (K q)) := by
  by_cases e : q = p
  ·subst e; rw [World.cell?_setCell_same _ _ _ (h.outer q hq)]
  ·rw [cell_far (Or.inr e)]; exact h.outer q hq
 refine ⟨fun i hi => ?_, fun i hi j hj => ?_, fun k => ?_, fun i hi k => ?_, fun i hi => h.apart _ (sw_lt hp hq hi), fun i hi k hk e => sw_inj (h.inj _ (sw_lt hp hq hi) _ (sw_lt hp hq hk) e)⟩
 ·by_cases e1 : i = q
  ·subst e1
   rw [World.cell?_setCell_same _ _ _ c1]
   have : sw p i i = p := by unfold sw; split <;> simp_all
   rw [this]
  ·rw [cell_far (Or.inr e1)]
   by_cases e2 : i = p
   ·subst e2
    rw [World.cell?_setCell_same _ _ _ (h.outer i hi)]
    have : sw i q i = q := by unfold sw; rw [if_pos rfl]
    rw [this]
   ·rw [cell_far (Or.inr e2)]
    have : sw p q i = i := by unfold sw; rw [if_neg e2, if_neg e1]
    rw [this]
    exact h.outer i hi
 ·have hs := sw_lt hp hq hi
  rw [cell_far (Or.inl (h.apart _ hs)), cell_far (Or.inl (h.apart _ hs))]
  exact h.cell _ hs j hj
 ·rw [World.frozen?_setCell, World.frozen?_setCell]; exact h.free k
 ·rw [World.frozen?_setCell, World.frozen?_setCell]; exact h.freeG _ (sw_lt hp hq hi) k

theorem Own.congr {w : World} {b r c : Nat} {G K : Nat → Nat} {A B : Mx} (h : Own w b r c G K A) (e : EqM r c A B) : Own w b r c G K B :=
 ⟨h.outer, fun i hi j hj => by rw [← e i hi j hj]; exact h.cell i hi j hj, h.free, h.freeG, h.apart, h.inj⟩
theorem Own.lt {w : World} {b r c : Nat} {G K : Nat → Nat} {A : Mx} (h : Own w b r c G K A) (hr : 0 < r) : b < w.heap.size := cell?_lt (h.outer 0 hr)
theorem Own.ltG {w : World} {b r c i : Nat} {G K : Nat → Nat} {A : Mx} (h : Own w b r c G K A) (hi : i < r) (hc : 0 < c) : G i < w.heap.size := cell?_lt (h.cell i hi 0 hc)

theorem Own.keep {w w' : World} {b r c : Nat} {G K : Nat → Nat} {A : Mx} (h : Own w b r c G K A) (e : ∀ k, k = b ∨ (∃ i, i < r ∧ k = G i) → w'.heap[k]? = w.heap[k]?) : Own w' b r c G K A :=
 ⟨fun i hi => (World.cell?_of_block (w := w) (e b (Or.inl rfl))).trans (h.outer i hi),
  fun i hi j hj => (World.cell?_of_block (w := w) (e _ (Or.inr ⟨i, hi, rfl⟩))).trans (h.cell i hi j hj),
  fun k => (World.frozen?_of_block (w := w) (e b (Or.inl rfl))).trans (h.free k),
  fun i hi k => (World.frozen?_of_block (w := w) (e _ (Or.inr ⟨i, hi, rfl⟩))).trans (h.freeG i hi k), h.apart, h.inj⟩

end Go.Proofs.YtelmcchleclklaaGreat.Kc
namespace Go.Proofs.YtelmcchleclklaaGreat.Kc
open Go.RowKit Go.Sort
set_option maxRecDepth 100000
set_option maxHeartbeats 1000000

end Go.Proofs.YtelmcchleclklaaGreat.Kc
namespace Go.Proofs.YtelmcchleclklaaGreat.Kc
open Go.RowKit Go.Sort
set_option maxRecDepth 100000
set_option maxHeartbeats 1000000

theorem heap_lt {w : World} {b : Nat} {o : Obj} (h : w.heap[b]? = some o) : b < w.heap.size := by
 by_cases hb : b < w.heap.size
 ·exact hb
 ·rw [Array.getElem?_eq_none (by omega)] at h; cases h

theorem grownBy_weaker {w w' : World} (h : w.grownBy w' none) (r : Option Nat) : w.grownBy w' r := ⟨h.os, h.tape, h.output, h.size, fun k hk _ => h.block k hk (by simp)⟩

theorem append_mine {P : Program} (w : World) {ops : Array Oper} {rest : List Oper} {o : Oper} {a : Act} {Q : Exit → Act → World → Prop}
  (hg : o.guard = none) (s x : Operand) (t : TypeId) (hop : o.op = Op.call { callee := Callee.builtin Builtin.append, args := #[s, x], argTypes := #[t, t] })
  (base : Nat) (e : TypeId) (i : TypeInfo) (z : Value) (size bytes : Nat) (h1 : P.underlying t = some (.slice e)) (h2 : P.info? e = some i) (h3 : i.zero = some z) (h4 : i.size = size) (h5 : i.bytes = bytes) (h6 : z.cells.size = size) (h7 : 0 < size)
  (v : Value) (n : Nat) (xs : List Value) (hs : a.eval s = v) (hown : w.ownsRow base e size v n xs)
  (ad : Addr) (m c : Nat) (news : List Value) (hx : a.eval x = .slice (some ad) m c) (hn : news.length = m * size) (hc : ∀ j u, news[j]? = some u → w.cell? (ad.add j) = some u) (h1c : ∀ u ∈ news, u.oneCell' = true)
  (b1 : n + m ≤ maxLen) (b2 : (n + m) * bytes ≤ 140737488355328) (hbase : base ≤ w.heap.size) (hm : 0 < m)
  (hK : ∀ v' w', w'.ownsRow base e size v' (n + m) (xs ++ news) → w.grownBy w' v.ownBlock → (v'.ownBlock = v.ownBlock ∨ w'.ownsRow w.heap.size e size v' (n + m) (xs ++ news)) → wpList P ops Q rest (a.put o.dst v') w') :
  wpList P ops Q (o :: rest) a w := by
 have hown' := hown
 obtain ⟨hlen, ⟨rfl, rfl⟩ | ⟨g, cap, cur, rfl, hb, hh, hle, hmax, hsz, htake⟩⟩ := hown
 ·refine wpList_append_grows w hg s x t hop e i z size bytes h1 h2 h3 h4 h5 h6 h7 none 0 0 xs hs (fun _ => ⟨rfl, rfl⟩) hlen (fun b hb => by cases hb) ad m c news hx hn hc h1c (by omega) b1 b2 ?_
  intro v' w' r1 r2
  refine hK v' w' ?_ r2 (.inr r1)
  obtain ⟨q1, q2⟩ := r1
  refine ⟨q1, ?_⟩
  rcases q2 with q2 | ⟨g, cap, cur, e1, e2, e3⟩
  ·exact .inl q2
  ·exact .inr ⟨g, cap, cur, e1, by omega, e3⟩
 ·by_cases hfit : n + m ≤ cap
  ·refine wpList_append_fits w hg s x t hop base e i size h1 h2 h4 g n cap xs hs hown' ad m c news hx hn hc h1c hfit ?_
   intro w' r1 r2
   exact hK _ w' r1 r2 (.inl rfl)
  ·refine wpList_append_grows w hg s x t hop e i z size bytes h1 h2 h3 h4 h5 h6 h7 (some ⟨g, 0, none⟩) n cap xs hs (fun h => by cases h) hlen (fun b hb j u hj => by cases hb; exact hown'.cells rfl j u hj) ad m c news hx hn hc h1c (by omega) b1 b2 ?_
   intro v' w' r1 r2
   refine hK v' w' ?_ (grownBy_weaker r2 _) (.inr r1)
   obtain ⟨q1, q2⟩ := r1
   refine ⟨q1, ?_⟩
   rcases q2 with q2 | ⟨g', cap', cur', e1, e2, e3⟩
   ·exact .inl q2
   ·exact .inr ⟨g', cap', cur', e1, by have := heap_lt hh; omega, e3⟩

theorem tmod_pos (a m : Int) (hm : 1 ≤ m) (h : 0 ≤ a.tmod m) : a.tmod m = a % m := by
 rw [Int.tmod_eq_emod] at h ⊢
 split
 ·omega
 ·rename_i hc
  rw [if_neg hc] at h
  have h1 := Int.emod_lt_of_pos a (show 0 < m by omega)
  omega
theorem tmod_neg (a m : Int) (hm : 1 ≤ m) (h : a.tmod m < 0) : a.tmod m + m = a % m ∧ -m < a.tmod m := by
 rw [Int.tmod_eq_emod] at h ⊢
 have h0 := Int.emod_nonneg a (show m ≠ 0 by omega)
 split
 ·rename_i hc
  rw [if_pos hc] at h
  omega
 ·rename_i hc
  rw [if_neg hc] at h
  have : ¬ (a % m = 0) := fun e => hc (Or.inr (Int.dvd_of_emod_eq_zero e))
  omega

theorem rpick (a m : Int) (hm : 1 ≤ m) (hm2 : m ≤ 1000) (w : World) :
  Calls Tryz.prog 7 #[.int .i64 a, .int .i64 m] w fun e w' => e = .returned (.int .i64 (a % m)) ∧ w' = w := by
 have hne : ¬ m = 0 := by omega
 by_cases h : 0 ≤ a.tmod m
 ·have HP := Lib.hid (tmod_pos a m hm h)
  have h' : ¬ a.tmod m < 0 := by omega
  go_enter Tryz.func7, Tryz.ntmps7
  go_wp2
  go_ret
  rw [← HP.out]; exact ⟨rfl, rfl⟩
 ·have hlt : a.tmod m < 0 := by omega
  have HP := Lib.hid (tmod_neg a m hm hlt).1
  have hb := (tmod_neg a m hm hlt).2
  go_enter Tryz.func7, Tryz.ntmps7
  go_wp2
  go_ret
  rw [← HP.out]; exact ⟨rfl, rfl⟩

def Nums (w : World) (a : Option Addr) (xs : List Int) : Prop := ∀ (i : Nat) (x : Int), xs[i]? = some x → ∃ g o, a = some ⟨g, o, none⟩ ∧ g < w.heap.size ∧ w.cell? ⟨g, o + i, none⟩ = some (.int .i64 x)

structure Row8 (w : World) (g c : Nat) (f : Nat → Nat) : Prop where
 cell : ∀ j, j < c → w.cell? ⟨g, j, none⟩ = some (.int .u8 (f j : Nat))
 free : ∀ k, w.frozen? ⟨g, k, none⟩ = false

theorem Row8.keep {w w' : World} {g c : Nat} {f : Nat → Nat} (h : Row8 w g c f) (e : w'.heap[g]? = w.heap[g]?) : Row8 w' g c f :=
 ⟨fun j hj => (World.cell?_of_block (w := w) e).trans (h.cell j hj), fun k => (World.frozen?_of_block (w := w) e).trans (h.free k)⟩
theorem Row8.put {w : World} {g c q x : Nat} {f : Nat → Nat} (h : Row8 w g c f) (hq : q < c) : Row8 (w.setCell ⟨g, q, none⟩ (.int .u8 (x : Nat))) g c (fun j => if j = q then x else f j) := by
 refine ⟨fun j hj => ?_, fun k => by rw [World.frozen?_setCell]; exact h.free k⟩
 by_cases e : j = q
 ·subst e; rw [World.cell?_setCell_same _ _ _ (h.cell j hj), if_pos rfl]
 ·rw [cell_far (Or.inr e), if_neg e]; exact h.cell j hj

theorem Row8.congr {w : World} {g c : Nat} {f f' : Nat → Nat} (h : Row8 w g c f) (e : ∀ j, j < c → f j = f' j) : Row8 w g c f' := ⟨fun j hj => by rw [← e j hj]; exact h.cell j hj, h.free⟩

theorem infoRow : (Tryz.prog.info? 33).map (fun i => (i.zero, i.size, i.bytes)) = some (some (.slice none 0 0), 1, 24) := by kernel_rfl

theorem infoByte : (Tryz.prog.info? 5).map (fun i => (i.zero, i.size, i.bytes)) = some (some (.int .u8 0), 1, 1) := by kernel_rfl

theorem make8 (n : Nat) (hn : n ≤ 1000000) : ∃ zs : Array Value, (∀ j, j < n → zs[j]? = some (.int .u8 0)) ∧
  ∀ W : World, Sem.run Tryz.prog (Instr.makeSlice 33 (.int .i64 (n : Int)) (.int .i64 (n : Int))) W = .ok (.slice (some ⟨W.heap.size, 0, none⟩) n n) (W.alloc (.cells zs 5)) := by
 obtain ⟨i0, hi0, hz0, hz1, hz2⟩ := info_parts infoByte
 refine ⟨madeCells (Value.int .u8 0).cells (n * i0.size), fun j hj => ?_, fun W => ?_⟩
 ·rw [hz1]
  simp [madeCells, Value.cells, hj]
  rw [Nat.mod_one]; rfl
 ·have h := run_make W 33 5 i0 (.int .u8 0) Tryz.underlying33 hi0 hz0 .i64 .i64 (n : Int) (n : Int) (by omega) (by omega) (by rw [hz2]; omega) (by omega)
  simpa using h

end Go.Proofs.YtelmcchleclklaaGreat.Kc
namespace Go.Proofs.YtelmcchleclklaaGreat.Kc
open Go.RowKit Go.Sort
set_option maxRecDepth 100000
set_option maxHeartbeats 1000000

def RawIn (w : World) (a : Option Addr) (xss : List (List Nat)) : Prop :=
 ∀ (i : Nat) (xs : List Nat), xss[i]? = some xs → ∃ b o, a = some ⟨b, o, none⟩ ∧ b < w.heap.size ∧ ∃ (g : Option Addr) (cap : Nat), w.cell? ⟨b, o + i, none⟩ = some (.slice g xs.length cap) ∧
  ∀ (j x : Nat), xs[j]? = some x → ∃ h q, g = some ⟨h, q, none⟩ ∧ h < w.heap.size ∧ w.cell? ⟨h, q + j, none⟩ = some (.int .u8 (x : Nat))

theorem RawIn.keep {w w' : World} {a : Option Addr} {xss : List (List Nat)} (h : RawIn w a xss) (b : Below w.heap.size w w') : RawIn w' a xss := by
 intro i xs hi
 obtain ⟨b1, o, e, hb, g, cap, hc, hj⟩ := h i xs hi
 refine ⟨b1, o, e, Nat.lt_of_lt_of_le hb b.size, g, cap, (b.cell (p := ⟨b1, o + i, none⟩) hb).trans hc, fun j x hx => ?_⟩
 obtain ⟨h1, q, e2, hh, hc2⟩ := hj j x hx
 exact ⟨h1, q, e2, Nat.lt_of_lt_of_le hh b.size, (b.cell (p := ⟨h1, q + j, none⟩) hh).trans hc2⟩

def RightP (xss : List (List Nat)) : Prop := 1 ≤ xss.length ∧ xss.length ≤ 64 ∧ ∃ c, 1 ≤ c ∧ c ≤ 64 ∧ ∀ (i : Nat) (xs : List Nat), xss[i]? = some xs → xs.length = c

theorem below_drewN (n : Nat) (w : World) : Below w.heap.size w (w.drewN n) := ⟨rfl, rfl, rfl, Nat.le_refl _, fun _ _ => rfl⟩

theorem not_true {t : Bool} {p : Prop} (h : t = true ↔ p) (n : ¬ p) : t = false := by
 cases t
 ·rfl
 ·exact absurd (h.1 rfl) n

end Go.Proofs.YtelmcchleclklaaGreat.Kc
namespace Go.Proofs.YtelmcchleclklaaGreat.Kc
open Go.RowKit Go.Sort
set_option maxRecDepth 100000
set_option maxHeartbeats 600000

def ent (xss : List (List Nat)) : Mx := fun i j => ((xss[i]?).getD [])[j]?.getD 0
def Bytes (xss : List (List Nat)) : Prop := ∀ (i : Nat) (xs : List Nat), xss[i]? = some xs → ∀ x ∈ xs, x < 256
theorem ent_lt {xss : List (List Nat)} (h : Bytes xss) (i j : Nat) : ent xss i j < 256 := by
 unfold ent
 cases e : xss[i]? with
 | none => simp
 | some xs =>
  simp only [Option.getD_some]
  cases e2 : xs[j]? with
  | none => simp
  | some x => exact h i xs e x (List.mem_of_getElem? e2)
theorem RawIn.at {w : World} {a : Option Addr} {xss : List (List Nat)} (h : RawIn w a xss) {i j c : Nat} (hi : i < xss.length) (hc : ∀ xs, xss[i]? = some xs → xs.length = c) (hj : j < c) :
  ∃ b o g q cap, a = some ⟨b, o, none⟩ ∧ b < w.heap.size ∧ g < w.heap.size ∧ w.cell? ⟨b, o + i, none⟩ = some (.slice (some ⟨g, q, none⟩) c cap) ∧ w.cell? ⟨g, q + j, none⟩ = some (.int .u8 (ent xss i j : Nat)) := by
 obtain ⟨xs, hxs⟩ : ∃ xs, xss[i]? = some xs := ⟨_, List.getElem?_eq_getElem hi⟩
 obtain ⟨b, o, rfl, hb, g, cap, hcell, hx⟩ := h i xs hxs
 have hl := hc xs hxs
 obtain ⟨x, hxj⟩ : ∃ x, xs[j]? = some x := ⟨_, List.getElem?_eq_getElem (by omega)⟩
 obtain ⟨g', q, rfl, hg, hv⟩ := hx j x hxj
 refine ⟨b, o, g', q, cap, rfl, hb, hg, by rw [← hl]; exact hcell, ?_⟩
 have : ent xss i j = x := by unfold ent; rw [hxs, Option.getD_some, hxj, Option.getD_some]
 rw [this]; exact hv

end Go.Proofs.YtelmcchleclklaaGreat.Kc
namespace Go.Proofs.YtelmcchleclklaaGreat.Kc
open Go.RowKit Go.Sort
set_option maxRecDepth 100000
set_option maxHeartbeats 1000000

end Go.Proofs.YtelmcchleclklaaGreat.Kc
namespace Go.Proofs.YtelmcchleclklaaGreat.Kc

def gr : Mx := fun i j => if i < 4 then one i j else if i = 4 then 1 else pw j
theorem gr_bd (r c : Nat) : Bd r c gr := fun i _ j _ => by
 unfold gr
 split
 ·unfold one; split <;> decide
 ·split
  ·decide
  ·exact pw_lt _
def sel (a b c d : Nat) : Nat → Nat := fun i => if i = 0 then a else if i = 1 then b else if i = 2 then c else d
def four (a b c d : Nat) : Mx := fun i j => gr (sel a b c d i) j
theorem check_four : all 6 (fun a => all 6 (fun b => all 6 (fun c => all 6 (fun d => (!(Nat.blt a b && Nat.blt b c && Nat.blt c d)) || !(Nat.beq (det 4 (four a b c d)) 0))))) = true := by kernel_rfl
theorem four_det {a b c d : Nat} (h1 : a < b) (h2 : b < c) (h3 : c < d) (h4 : d < 6) : det 4 (four a b c d) ≠ 0 := by
 have h := all_of (all_of (all_of (all_of check_four a (by omega)) b (by omega)) c (by omega)) d h4
 have e1 : Nat.blt a b = true := by simpa using h1
 have e2 : Nat.blt b c = true := by simpa using h2
 have e3 : Nat.blt c d = true := by simpa using h3
 rw [e1, e2, e3] at h
 intro e
 rw [e] at h
 exact absurd h (by decide)
def enc (D : Mx) : Mx := mm 4 gr D
end Go.Proofs.YtelmcchleclklaaGreat.Kc
namespace Go.Proofs.YtelmcchleclklaaGreat.Kc
open Go.RowKit Go.Sort
set_option maxRecDepth 100000
set_option maxHeartbeats 1000000

theorem alloc_block (w : World) (o : Obj) : (w.alloc o).heap[w.heap.size]? = some o := by
 show (w.heap.push _)[w.heap.size]? = _
 rw [Array.getElem?_push, if_pos rfl]
theorem alloc_old (w : World) (o : Obj) {k : Nat} (h : k < w.heap.size) : (w.alloc o).heap[k]? = w.heap[k]? := by
 show (w.heap.push _)[k]? = _
 rw [Array.getElem?_push, if_neg (by omega)]
theorem alloc_size (w : World) (o : Obj) : (w.alloc o).heap.size = w.heap.size + 1 := by simp
theorem free_of_block {w : World} {b k : Nat} {cs : Array Value} {t : TypeId} (h : w.heap[b]? = some (.cells cs t (0, 0))) : w.frozen? ⟨b, k, none⟩ = false := by
 simp [World.frozen?, h]

theorem only_drew {a w : World} {row : Option Nat} (h : a.grownBy w row) : a.grownBy w.drew row := ⟨h.os, h.tape, h.output, h.size, h.block⟩
theorem only_refl (a : World) (row : Option Nat) : a.grownBy a row := ⟨rfl, rfl, rfl, Nat.le_refl _, fun _ _ _ => rfl⟩
theorem only_setCell {a w : World} {g : Nat} (h : a.grownBy w (some g)) (k : Nat) (u : Value) : a.grownBy (w.setCell ⟨g, k, none⟩ u) (some g) :=
 ⟨h.os, h.tape, h.output, by simpa [World.setCell] using h.size, fun i hi hne => (Below.heap_setCell w ⟨g, k, none⟩ u i (by rintro rfl; exact hne rfl)).trans (h.block i hi hne)⟩

theorem Own.row8 {w : World} {b r c p : Nat} {G K : Nat → Nat} {A : Mx} (h : Own w b r c G K A) (hp : p < r) : Row8 w (G p) c (A p) := ⟨h.cell p hp, h.freeG p hp⟩
theorem Own.row_put {w w' : World} {b r c p : Nat} {G K : Nat → Nat} {A : Mx} {F : Nat → Nat} (h : Own w b r c G K A) (hp : p < r) (hc : 0 < c) (hr : Row8 w' (G p) c F) (hg : w.grownBy w' (some (G p))) :
  Own w' b r c G K (fun i j => if i = p then F j else A i j) := by
 have hb : ∀ i, i < r → i ≠ p → w'.heap[G i]? = w.heap[G i]? := fun i hi hne => hg.block _ (h.ltG hi hc) (fun e => hne (h.inj i hi p hp (by injection e)))
 have hbb : w'.heap[b]? = w.heap[b]? := hg.block _ (h.lt (by omega)) (fun e => h.apart p hp (by injection e with e; exact e.symm))
 refine ⟨fun i hi => (World.cell?_of_block (w := w) hbb).trans (h.outer i hi), fun i hi j hj => ?_, fun k => (World.frozen?_of_block (w := w) hbb).trans (h.free k), fun i hi k => ?_, h.apart, h.inj⟩
 ·by_cases e : i = p
  ·subst e; rw [if_pos rfl]; exact hr.cell j hj
  ·rw [if_neg e]; exact (World.cell?_of_block (w := w) (hb i hi e)).trans (h.cell i hi j hj)
 ·by_cases e : i = p
  ·subst e; exact hr.free k
  ·exact (World.frozen?_of_block (w := w) (hb i hi e)).trans (h.freeG i hi k)
theorem Own.drew {w : World} {b r c : Nat} {G K : Nat → Nat} {A : Mx} (h : Own w b r c G K A) : Own w.drew b r c G K A := h.keep (fun _ _ => rfl)
theorem Below.of_only {B : Nat} {w0 w w' : World} {g : Nat} (h : Below B w0 w) (hg : w.grownBy w' (some g)) (hB : B ≤ g) (hs : B ≤ w.heap.size) : Below B w0 w' :=
 ⟨hg.os.trans h.os, hg.tape.trans h.tape, hg.output.trans h.output, Nat.le_trans h.size hg.size, fun k hk => (hg.block k (by omega) (fun e => by injection e; omega)).trans (h.block k hk)⟩

theorem addr_add (h q j : Nat) : (⟨h, q, none⟩ : Addr).add j = ⟨h, q + j, none⟩ := by
 unfold Addr.add
 split
 ·rename_i e; subst e; rfl
 ·rfl
def rowL (n : Nat) (X : Nat → Nat) : List Value := (List.range n).map (fun j => Value.int .u8 (X j : Nat))
theorem rowL_len (n : Nat) (X : Nat → Nat) : (rowL n X).length = n := by simp [rowL]
theorem rowL_get {n j : Nat} {X : Nat → Nat} (h : j < n) : (rowL n X)[j]? = some (.int .u8 (X j : Nat)) := by simp [rowL, h]
theorem rowL_cells {w : World} {h q n : Nat} {X : Nat → Nat} (hx : ∀ j, j < n → w.cell? ⟨h, q + j, none⟩ = some (.int .u8 (X j : Nat))) : ∀ j u, (rowL n X)[j]? = some u → w.cell? ((⟨h, q, none⟩ : Addr).add j) = some u := by
 intro j u hu
 have hj : j < n := by have := (List.getElem?_eq_some_iff.1 hu).1; rwa [rowL_len] at this
 rw [rowL_get hj] at hu
 cases hu
 rw [addr_add]
 exact hx j hj
theorem rowL_one {n : Nat} {X : Nat → Nat} : ∀ u ∈ rowL n X, u.oneCell' = true := by
 intro u hu
 simp [rowL] at hu
 obtain ⟨j, _, rfl⟩ := hu
 rfl
theorem own_row8 {w : World} {B g n cap : Nat} {xs : List Value} {X : Nat → Nat} (h : w.ownsRow B 5 1 (.slice (some ⟨g, 0, none⟩) n cap) n xs) (hx : ∀ j, j < n → xs[j]? = some (.int .u8 (X j : Nat))) : Row8 w g n X := by
 refine ⟨fun j hj => ?_, fun k => ?_⟩
 ·have := h.cells (g := g) rfl j _ (hx j hj)
  rw [addr_add, Nat.zero_add] at this
  exact this
 ·rcases h.2 with ⟨h0, _⟩ | ⟨g', cap', cur, e, _, hb, _⟩
  ·cases h0
  ·cases e
   exact free_of_block hb

def rowsOf (r c : Nat) (M : Mx) : List (List Nat) := (List.range r).map (fun i => (List.range c).map (M i))
theorem rowsOf_len (r c : Nat) (M : Mx) : (rowsOf r c M).length = r := by simp [rowsOf]
theorem rowsOf_get {r c i : Nat} {M : Mx} (hi : i < r) : (rowsOf r c M)[i]? = some ((List.range c).map (M i)) := by simp [rowsOf, hi]
theorem rowsOf_row {r c i : Nat} {M : Mx} {xs : List Nat} (h : (rowsOf r c M)[i]? = some xs) : i < r ∧ xs = (List.range c).map (M i) := by
 have hi : i < r := by have := (List.getElem?_eq_some_iff.1 h).1; rwa [rowsOf_len] at this
 rw [rowsOf_get hi] at h
 exact ⟨hi, (Option.some.inj h).symm⟩
theorem rowsOf_rowlen {r c i : Nat} {M : Mx} {xs : List Nat} (h : (rowsOf r c M)[i]? = some xs) : xs.length = c := by
 rw [(rowsOf_row h).2]; simp
theorem rowsOf_right {r c : Nat} (M : Mx) (h1 : 1 ≤ r) (h2 : r ≤ 64) (h3 : 1 ≤ c) (h4 : c ≤ 64) : RightP (rowsOf r c M) :=
 ⟨by rw [rowsOf_len]; exact h1, by rw [rowsOf_len]; exact h2, c, h3, h4, fun _ _ h => rowsOf_rowlen h⟩
theorem rowsOf_bytes {r c : Nat} {M : Mx} (h : Bd r c M) : Bytes (rowsOf r c M) := fun i xs hx x hm => by
 obtain ⟨hi, rfl⟩ := rowsOf_row hx
 simp at hm
 obtain ⟨j, hj, rfl⟩ := hm
 exact h i hi j hj
theorem rowsOf_ent {r c : Nat} (M : Mx) : EqM r c (ent (rowsOf r c M)) M := fun i hi j hj => by
 unfold ent
 rw [rowsOf_get hi, Option.getD_some]
 simp [hj]
theorem rowsOf_congr {r c : Nat} {M M' : Mx} (h : EqM r c M M') : rowsOf r c M = rowsOf r c M' := by
 unfold rowsOf
 refine List.map_congr_left (fun i hi => List.map_congr_left (fun j hj => h i ?_ j ?_))
 ·simpa using hi
 ·simpa using hj
theorem rawIn_of {w : World} {b o r c : Nat} {M : Mx} (h : ∀ i, i < r → ∃ g q cap, w.cell? ⟨b, o + i, none⟩ = some (.slice (some ⟨g, q, none⟩) c cap) ∧ ∀ j, j < c → w.cell? ⟨g, q + j, none⟩ = some (.int .u8 (M i j : Nat))) :
  RawIn w (some ⟨b, o, none⟩) (rowsOf r c M) := by
 intro i xs hxs
 obtain ⟨hi, rfl⟩ := rowsOf_row hxs
 obtain ⟨g, q, cap, h1, h2⟩ := h i hi
 refine ⟨b, o, rfl, cell?_lt h1, some ⟨g, q, none⟩, cap, by simpa using h1, fun j x hx => ?_⟩
 have hj : j < c := by have := (List.getElem?_eq_some_iff.1 hx).1; simpa using this
 simp [hj] at hx
 subst hx
 exact ⟨g, q, rfl, cell?_lt (h2 j hj), h2 j hj⟩
theorem rowsOf_facts {r c : Nat} {M : Mx} (hM : Bd r c M) (h1 : 1 ≤ r) (h2 : r ≤ 64) (h3 : 1 ≤ c) (h4 : c ≤ 64) : RightP (rowsOf r c M) ∧ Bytes (rowsOf r c M) ∧ ∀ (i : Nat) (xs : List Nat), (rowsOf r c M)[i]? = some xs → xs.length = c :=
 ⟨rowsOf_right M h1 h2 h3 h4, rowsOf_bytes hM, fun _ _ h => rowsOf_rowlen h⟩
end Go.Proofs.YtelmcchleclklaaGreat.Kc
namespace Go.Proofs.YtelmcchleclklaaGreat.Kc
open Go.RowKit Go.Sort
set_option maxRecDepth 100000
set_option maxHeartbeats 1000000

end Go.Proofs.YtelmcchleclklaaGreat.Kc
