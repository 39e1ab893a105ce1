import Derived.Test.YtajpnbmfeapmcaaB
import Derived.WalkKit
import Derived.WalkSpells
import Derived.Lib.Hide
import Derived.Outline
import Derived.Deep.QuietTactic
import Derived.Deep.RegionHeld
import Derived.Deep.RegionWith
import Derived.Deep.RegionLaw
import Derived.Deep.AppendLies
import Derived.Deep.LoopGhost
import Derived.Maps.OwnSet
import Derived.Sort.Grow
import Derived.BigRegion
import Derived.BigQuiet
import Derived.StillTailTactics
import Derived.Laws.BitsLemmas
import Derived.Laws.ResultCell
namespace Go.Proofs.Ytajpnbmfeapmcaa
open Go.RowKit Go.Sort
set_option maxRecDepth 100000

theorem bits_xor_u8 (a b : Nat) (ha : a < 256) (hb : b < 256) : bits .xor .u8 (a : Int) (b : Int) = ((a ^^^ b : Nat) : Int) := by
  have ha' : a % 2 ^ IntKind.u8.bits = a := Nat.mod_eq_of_lt ha
  have hb' : b % 2 ^ IntKind.u8.bits = b := Nat.mod_eq_of_lt hb
  simp only [bits, BitVec.ofInt_natCast, BitVec.toNat_xor, BitVec.toNat_ofNat, ha', hb']
  rw [IntKind.wrap_u8]
  have := xor_lt ha hb
  omega
theorem bits_xor_i64 (a b : Nat) (ha : a < 2 ^ 62) (hb : b < 2 ^ 62) : bits .xor .i64 (a : Int) (b : Int) = ((a ^^^ b : Nat) : Int) := by
  have h2 : (2 : Nat) ^ 62 ≤ 2 ^ IntKind.i64.bits := by decide
  have ha' : a % 2 ^ IntKind.i64.bits = a := Nat.mod_eq_of_lt (Nat.lt_of_lt_of_le ha h2)
  have hb' : b % 2 ^ IntKind.i64.bits = b := Nat.mod_eq_of_lt (Nat.lt_of_lt_of_le hb h2)
  simp only [bits, BitVec.ofInt_natCast, BitVec.toNat_xor, BitVec.toNat_ofNat, ha', hb']
  rw [IntKind.wrap_i64]
  have := Nat.xor_lt_two_pow ha hb
  omega

theorem cell?_lt {w : World} {b o : Nat} {v : Value} (h : w.cell? ⟨b, o, none⟩ = some v) : b < w.heap.size := by
  unfold World.cell? at h
  by_cases hb : b < w.heap.size
  · exact hb
  · simp [Array.getElem?_eq_none (by omega : w.heap.size ≤ b)] at h

/-- A field in memory: block f. -/
structure Fld (w : World) (f : Nat) : Prop where
  exp : ∀ k, k < 255 → w.cell? ⟨f, k, none⟩ = some (.int .u8 (pw k : Nat))
  log : ∀ k, k < 255 → w.cell? ⟨f, 255 + pw k, none⟩ = some (.int .u8 (k : Nat))
theorem Fld.lt {w : World} {f : Nat} (h : Fld w f) : f < w.heap.size := cell?_lt (h.exp 0 (by decide))
theorem Fld.keep {w w' : World} {f : Nat} (h : Fld w f) (b : Below w.heap.size w w') : Fld w' f :=
  ⟨fun k hk => (b.cell (p := ⟨f, k, none⟩) h.lt).trans (h.exp k hk), fun k hk => (b.cell (p := ⟨f, 255 + pw k, none⟩) h.lt).trans (h.log k hk)⟩
theorem Fld.keep' {w0 w w' : World} {f : Nat} (h : Fld w f) (hf : f < w0.heap.size) (b : Below w0.heap.size w w') : Fld w' f :=
  ⟨fun k hk => (b.cell (p := ⟨f, k, none⟩) hf).trans (h.exp k hk), fun k hk => (b.cell (p := ⟨f, 255 + pw k, none⟩) hf).trans (h.log k hk)⟩
theorem Fld.lgc {w : World} {f : Nat} (h : Fld w f) {a : Nat} (ha : a < 256) (h0 : a ≠ 0) : w.cell? ⟨f, 255 + a, none⟩ = some (.int .u8 (lg a : Nat)) := by
  have := h.log (lg a) (lg_ok ha h0).2
  rw [(lg_ok ha h0).1] at this
  exact this

theorem fmade (f : Nat) (w : World) (h : Fld w f) : Calls Try.prog 40 #[.pointer (some ⟨f, 0, none⟩)] w fun e w' => e = .returned (.bool true) ∧ w' = w := by
  have h0 := h.exp 0 (by decide)
  have e : pw 0 = 1 := pw_zero
  rw [e] at h0
  clear h
  go_enter Try.func40, Try.ntmps40
  go_wp2
  go_ret
  exact ⟨rfl, rfl⟩

theorem flog (f a : Nat) (w : World) (h : Fld w f) (ha : a < 256) : Calls Try.prog 61 #[.pointer (some ⟨f, 0, none⟩), .int .u8 (a : Int)] w
    fun e w' => e = .returned (.tuple #[.int .i64 (if a = 0 then 0 else lg a : Nat), .bool (decide (a ≠ 0))]) ∧ w' = w := by
  have HH := Lib.hid h
  by_cases h0 : a = 0
  · subst h0
    clear h
    go_enter Try.func61, Try.ntmps61
    go_wp2_with fail
    go_ret2
    exact ⟨rfl, rfl⟩
  · have h1 := h.lgc ha h0
    have h2 := (lg_ok ha h0).2
    have e0 : ((a : Int) == 0) = false := beq_eq_false_iff_ne.2 (by omega)
    have a1 : (a : Int) < 256 := by omega
    clear h
    generalize lg a = n at *
    go_enter Try.func61, Try.ntmps61
    go_wp2_with fail
    refine (fmade f _ HH.out).mono ?_
    rintro e w2 ⟨rfl, rfl⟩
    go_wp2_with fail
    go_ret2
    exact ⟨rfl, rfl⟩

theorem fadd (f a b : Nat) (w : World) (h : Fld w f) (ha : a < 256) (hb : b < 256) : Calls Try.prog 32 #[.pointer (some ⟨f, 0, none⟩), .int .u8 (a : Int), .int .u8 (b : Int)] w
    fun e w' => e = .returned (.int .u8 ((a ^^^ b : Nat) : Int)) ∧ w' = w := by
  have HH := Lib.hid h
  clear h
  rw [← bits_xor_u8 a b ha hb]
  go_enter Try.func32, Try.ntmps32
  go_wp2_with (go_at_call 40; refine (fmade f _ HH.out).mono ?_; rintro e w2 ⟨rfl, rfl⟩)
  go_ret
  exact ⟨rfl, rfl⟩



theorem fexp (f : Nat) (n : Int) (w : World) (h : Fld w f) (_hn : -9223372036854775808 ≤ n ∧ n ≤ 9223372036854775807) : Calls Try.prog 22 #[.pointer (some ⟨f, 0, none⟩), .int .i64 n] w
    fun e w' => e = .returned (.int .u8 (pw (n % 255).toNat : Nat)) ∧ w' = w := by
  have HH := Lib.hid h
  have h1 := h.exp (n % 255).toNat (by omega)
  have hr : (n.tmod 255 = n % 255 ∧ 0 ≤ n.tmod 255) ∨ (n.tmod 255 < 0 ∧ n.tmod 255 + 255 = n % 255) := by
    rw [Int.tmod_eq_emod]
    split
    · left; omega
    · right
      rename_i hc
      have : ¬ (n % 255 = 0) := fun e => hc (Or.inr (Int.dvd_of_emod_eq_zero e))
      omega
  generalize pw (n % 255).toNat = v at *
  clear h
  rcases hr with ⟨hr, hr0⟩ | ⟨hr0, hr⟩
  · have hl : n.tmod 255 < 255 := by omega
    have hs : ¬ n.tmod 255 < 0 := by omega
    rw [← hr] at h1
    clear hr
    go_enter Try.func22, Try.ntmps22
    go_wp2_with (go_at_call 40; refine (fmade f _ HH.out).mono ?_; rintro e w2 ⟨rfl, rfl⟩)
    go_ret
    exact ⟨rfl, rfl⟩
  · have hl : -255 ≤ n.tmod 255 := by omega
    have hs : 0 ≤ n.tmod 255 + 255 := by omega
    rw [← hr] at h1
    clear hr
    go_enter Try.func22, Try.ntmps22
    go_wp2_with (go_at_call 40; refine (fmade f _ HH.out).mono ?_; rintro e w2 ⟨rfl, rfl⟩)
    go_ret
    exact ⟨rfl, rfl⟩

theorem fmul (f a b : Nat) (w : World) (h : Fld w f) (ha : a < 256) (hb : b < 256) : Calls Try.prog 57 #[.pointer (some ⟨f, 0, none⟩), .int .u8 (a : Int), .int .u8 (b : Int)] w
    fun e w' => e = .returned (.int .u8 (mul a b : Nat)) ∧ w' = w := by
  have HH := Lib.hid h
  have HA := Lib.hid ha
  have HB := Lib.hid hb
  clear h ha hb
  rw [mul_def]
  by_cases h0 : a = 0
  · subst h0
    rw [if_pos (Or.inl rfl)]
    go_enter Try.func57, Try.ntmps57
    go_wp2_with fail
    refine (flog f 0 _ HH.out HA.out).mono ?_
    rintro e w2 ⟨rfl, rfl⟩
    go_wp2_with fail
    refine (flog f b _ HH.out HB.out).mono ?_
    rintro e w2 ⟨rfl, rfl⟩
    go_wp2_with fail
    all_goals (go_ret; exact ⟨rfl, rfl⟩)
  · by_cases h1 : b = 0
    · subst h1
      rw [if_pos (Or.inr rfl)]
      go_enter Try.func57, Try.ntmps57
      go_wp2_with fail
      refine (flog f a _ HH.out HA.out).mono ?_
      rintro e w2 ⟨rfl, rfl⟩
      go_wp2_with fail
      refine (flog f 0 _ HH.out HB.out).mono ?_
      rintro e w2 ⟨rfl, rfl⟩
      go_wp2_with fail
      all_goals (go_ret; exact ⟨rfl, rfl⟩)
    · have la := (lg_ok HA.out h0).2
      have lb := (lg_ok HB.out h1).2
      rw [if_neg (by simp [h0, h1])]
      go_enter Try.func57, Try.ntmps57
      go_wp2_with fail
      refine (flog f a _ HH.out HA.out).mono ?_
      rintro e w2 ⟨rfl, rfl⟩
      go_wp2_with fail
      refine (flog f b _ HH.out HB.out).mono ?_
      rintro e w2 ⟨rfl, rfl⟩
      go_wp2_with fail
      have HE : Hid ((((lg a : Int) + (lg b : Int)) % 255).toNat = (lg a + lg b) % 255) := Lib.hid (by omega)
      refine (fexp f _ _ HH.out (by omega)).mono ?_
      rintro e w2 ⟨rfl, rfl⟩
      rw [HE.out]
      go_wp2_with fail
      go_ret
      exact ⟨rfl, rfl⟩

theorem finv (f a : Nat) (w : World) (h : Fld w f) (ha : a < 256) : Calls Try.prog 60 #[.pointer (some ⟨f, 0, none⟩), .int .u8 (a : Int)] w
    fun e w' => e = .returned (.tuple #[.int .u8 (if a = 0 then 0 else inv a : Nat), .bool (decide (a ≠ 0))]) ∧ w' = w := by
  have HH := Lib.hid h
  have HA := Lib.hid ha
  clear h ha
  by_cases h0 : a = 0
  · subst h0
    go_enter Try.func60, Try.ntmps60
    go_wp2_with fail
    refine (flog f 0 _ HH.out HA.out).mono ?_
    rintro e w2 ⟨rfl, rfl⟩
    go_wp2_with fail
    go_ret2
    exact ⟨rfl, rfl⟩
  · have la := (lg_ok HA.out h0).2
    have HV : Hid (∀ z : Int, z = -(lg a : Int) → pw (z % 255).toNat = inv a) := Lib.hid (by
      rintro z rfl
      rw [inv_def]
      congr 1
      omega)
    rw [if_neg h0]
    go_enter Try.func60, Try.ntmps60
    go_wp2_with fail
    refine (flog f a _ HH.out HA.out).mono ?_
    rintro e w2 ⟨rfl, rfl⟩
    go_wp2_with fail
    refine (fexp f _ _ HH.out (by omega)).mono ?_
    rintro e w2 ⟨rfl, rfl⟩
    rw [HV.out _ rfl]
    go_wp2_with fail
    go_ret2
    rw [show decide (a ≠ 0) = true from decide_eq_true h0]
    exact ⟨rfl, rfl⟩

theorem fdouble (x : Nat) (w : World) (h : x < 256) : Calls Try.prog 39 #[.int .i64 (x : Int)] w fun e w' => e = .returned (.int .i64 (dbl x : Nat)) ∧ w' = w := by
  rw [dbl_eq]
  have hb : bits .xor .i64 ((x : Int) * 2) 285 = ((2 * x ^^^ 285 : Nat) : Int) := by
    have := bits_xor_i64 (2 * x) 285 (by omega) (by omega)
    rw [← this]
    congr 1
    omega
  by_cases hc : 256 ≤ 2 * x
  · have hi : (256 : Int) ≤ (x : Int) * 2 := by omega
    rw [if_pos hc]
    generalize 2 * x ^^^ 285 = y at *
    go_enter Try.func39, Try.ntmps39
    go_wp2
    go_ret
    exact ⟨rfl, rfl⟩
  · have hi : ¬ (256 : Int) ≤ (x : Int) * 2 := by omega
    rw [if_neg hc]
    have e : ((2 * x : Nat) : Int) = (x : Int) * 2 := by omega
    rw [e]
    clear hb e
    go_enter Try.func39, Try.ntmps39
    go_wp2
    go_ret
    exact ⟨rfl, rfl⟩

theorem fzero : ∃ zs : Array Value, zs.size = 511 ∧ zs ≠ #[] ∧ (∀ k : Nat, k < 511 → zs[k]? = some (.int .u8 0)) ∧ ∀ w, Sem.run Try.prog (zeroValue 69) w = .ok (.agg zs) w := by
  refine ⟨Array.replicate 511 (.int .u8 0), Array.size_replicate, ?_, ?_, ?_⟩
  · intro h
    have := congrArg Array.size h
    simp at this
  · intro k hk
    rw [Array.getElem?_replicate, if_pos hk]
  · intro w
    kernel_rfl

/-- A field under way: the first n powers are in. -/
structure Part (w : World) (f n : Nat) : Prop where
  room : ∀ k, k < 511 → ∃ v, w.cell? ⟨f, k, none⟩ = some (.int .u8 v)
  exp : ∀ k, k < n → w.cell? ⟨f, k, none⟩ = some (.int .u8 (pw k : Nat))
  log : ∀ k, k < n → w.cell? ⟨f, 255 + pw k, none⟩ = some (.int .u8 (k : Nat))
  fz : ∀ k, w.frozen? ⟨f, k, none⟩ = false

theorem Part.next {w : World} {f n : Nat} (h : Part w f n) (hn : n < 255) :
    Part ((w.setCell ⟨f, n, none⟩ (.int .u8 (pw n : Nat))).setCell ⟨f, 255 + pw n, none⟩ (.int .u8 (n : Nat))) f (n + 1) := by
  have hlt := pw_lt n
  obtain ⟨v1, e1⟩ := h.room n (by omega)
  obtain ⟨v2, e2⟩ := h.room (255 + pw n) (by omega)
  have ne : ∀ a b : Nat, a ≠ b → (⟨f, a, none⟩ : Addr) ≠ ⟨f, b, none⟩ := fun a b hab e => hab (by injection e)
  have e2' : (w.setCell ⟨f, n, none⟩ (.int .u8 (pw n : Nat))).cell? ⟨f, 255 + pw n, none⟩ = some (.int .u8 v2) := by
    rw [World.cell?_setCell_other _ _ _ _ (ne _ _ (by omega)), e2]
  have key : ∀ k : Nat, ((w.setCell ⟨f, n, none⟩ (.int .u8 (pw n : Nat))).setCell ⟨f, 255 + pw n, none⟩ (.int .u8 (n : Nat))).cell? ⟨f, k, none⟩ =
      if k = 255 + pw n then some (.int .u8 (n : Nat)) else if k = n then some (.int .u8 (pw n : Nat)) else w.cell? ⟨f, k, none⟩ := by
    intro k
    split
    · subst k; rw [World.cell?_setCell_same _ _ _ e2']
    · rw [World.cell?_setCell_other _ _ _ _ (ne _ _ (by omega))]
      split
      · subst k; rw [World.cell?_setCell_same _ _ _ e1]
      · rw [World.cell?_setCell_other _ _ _ _ (ne _ _ (by omega))]
  refine ⟨fun k hk => ?_, fun k hk => ?_, fun k hk => ?_, fun k => ?_⟩
  · rw [key]
    split
    · exact ⟨_, rfl⟩
    · split
      · exact ⟨_, rfl⟩
      · exact h.room k hk
  · rw [key, if_neg (by omega)]
    split
    · subst k; rfl
    · exact h.exp k (by omega)
  · rw [key]
    by_cases e : k = n
    · subst k; rw [if_pos rfl]
    · have := pw_lt k
      rw [if_neg (by intro e3; exact e (pw_inj (by omega) hn (by omega))), if_neg (by omega)]
      exact h.log k (by omega)
  · rw [World.frozen?_setCell, World.frozen?_setCell]; exact h.fz k

theorem cell_of_block {w : World} {b k : Nat} {cs : Array Value} {t : TypeId} {fr : Nat × Nat} (h : w.heap[b]? = some (.cells cs t fr)) : w.cell? ⟨b, k, none⟩ = cs[k]? := by
  simp [World.cell?, h]

theorem fnew (w : World) : Calls Try.prog 21 #[] w fun e w' => e = .returned (.pointer (some ⟨w.heap.size, 0, none⟩)) ∧ Fld w' w.heap.size ∧ Below w.heap.size w w' := by
  obtain ⟨zs, z1, z2, z3, z4⟩ := fzero
  have H0 : Hid (Part (w.alloc (.cells zs 69)) w.heap.size 0 ∧ Below w.heap.size w (w.alloc (.cells zs 69))) := by
    have hb : (w.alloc (.cells zs 69)).heap[w.heap.size]? = some (.cells zs 69 (0, 0)) := by
      show (w.heap.push _)[w.heap.size]? = _
      rw [Array.getElem?_push, if_pos rfl]
    refine Lib.hid ⟨⟨fun k hk => ⟨0, ?_⟩, fun k hk => by omega, fun k hk => by omega, fun k => ?_⟩, (Below.refl _ _).alloc (Nat.le_refl _) _⟩
    · rw [cell_of_block hb, z3 k hk]
    · generalize w.alloc _ = w1 at *
      simp [World.frozen?, hb]
  go_enter Try.func21, Try.ntmps21
  go_wp2
  generalize w.alloc (.cells zs 69) = w1 at *
  clear z1 z2 z3 z4
  go_loopg [2, 6] 255 (fun q s2 s6 v => ∃ n : Nat, s2 = .int .i64 (pw n : Nat) ∧ s6 = .int .i64 (n : Int) ∧ n ≤ 255 ∧ q = 255 - n ∧ Hid (Part v w.heap.size n ∧ Below w.heap.size w v))
  case atStart => exact ⟨0, by rw [pw_zero]; rfl, rfl, by omega, rfl, H0⟩
  case round =>
    obtain ⟨n, rfl, rfl, hn, rfl, HS⟩ := hrel
    by_cases hlt : n < 255
    · have hp := pw_lt n
      have hl : (n : Int) < 255 := by omega
      obtain ⟨v1, e1⟩ := HS.out.1.room n (by omega)
      obtain ⟨v2, e2⟩ := HS.out.1.room (255 + pw n) (by omega)
      have HN := Lib.hid (HS.out.1.next hlt)
      have e2' : (wr.setCell ⟨w.heap.size, n, none⟩ (.int .u8 (pw n : Nat))).cell? ⟨w.heap.size, 255 + pw n, none⟩ = some (.int .u8 v2) := by
        rw [World.cell?_setCell_other _ _ _ _ (by intro e; injection e; omega), e2]
      have HD := Lib.hid (fdouble (pw n))
      have HP : pw (n + 1) = dbl (pw n) := pw_succ n
      have hpi : (pw n : Int) < 256 := by omega
      rw [← HP] at HD
      clear HP
      have f1 := HS.out.1.fz n
      have f2 := (World.frozen?_setCell wr ⟨w.heap.size, n, none⟩ ⟨w.heap.size, 255 + pw n, none⟩ (.int .u8 (pw n : Nat))).trans (HS.out.1.fz (255 + pw n))
      have HB := Lib.hid HS.out.2
      clear HS H0
      generalize pw n = x at *
      go_wp2_with fail
      refine (HD.out _ hp).mono ?_
      rintro e w2 ⟨rfl, rfl⟩
      go_wp2_with fail
      go_roundg (255 - (n + 1))
      case measure => omega
      case rel => exact ⟨n + 1, rfl, by go_num, by omega, rfl, Lib.hid ⟨HN.out, (HB.out.setCell (Nat.le_refl _) _).setCell (Nat.le_refl _) _⟩⟩
    · have hge : ¬ (n : Int) < 255 := by omega
      have e : n = 255 := by omega
      go_wp2_with fail
      go_ret
      subst e
      exact ⟨rfl, ⟨HS.out.1.exp, HS.out.1.log⟩, HS.out.2⟩

end Go.Proofs.Ytajpnbmfeapmcaa
