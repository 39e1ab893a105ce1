import Derived.Test.YtofmilkjhnkgjaaGreatW20
import Derived.Test.YtofmilkjhnkgjaaGreatW34
import Derived.Test.YtofmilkjhnkgjaaGreatW33
import Derived.Test.YtofmilkjhnkgjaaGreatW24
import Derived.Test.YtofmilkjhnkgjaaGreatW29
import Derived.Lib.ConvBytes
import Derived.Test.YtofmilkjhnkgjaaGreatW25
import Derived.Deep.RegionHeld
namespace Go.Proofs.YtofmilkjhnkgjaaGreat
open Go.RowKit Go.Sort
set_option maxRecDepth 100000
set_option maxHeartbeats 2000000

theorem LI.at3 {w : World} {B : Nat} {v : Value} {l : List It} {i : Nat} {p : It} (h : LI w B v l) (hi : l[i]? = some p) : ∃ b c A d, v = .slice (some ⟨b, 0, none⟩) l.length c ∧ b < w.heap.size ∧ w.cell? ⟨b, i * 3, none⟩ = some (.int .i64 (p.s : Int)) ∧ w.cell? ⟨b, i * 3 + 1, none⟩ = some (.int .i64 (p.g : Int)) ∧ w.cell? ⟨b, i * 3 + 2, none⟩ = some (.slice A 128 d) ∧ DatI w A p.D := by
  rcases h.pl with ⟨rfl, _⟩ | ⟨b, c, cur, rfl, _, hh, hx⟩
  · simp at hi
  · obtain ⟨A, d, a0, a1, a2, ad⟩ := hx i p hi
    have ck : ∀ (k : Nat) (x : Value), cur[k]? = some x → w.cell? ⟨b, k, none⟩ = some x := fun k x hk => by simp [World.cell?, hh, hk]
    exact ⟨b, c, A, d, rfl, heap_lt hh, ck _ _ a0, ck _ _ a1, ck _ _ a2, ad⟩
/-- SameIntents of intents that are the same. -/
theorem rsameIs {w : World} {v1 v2 : Value} {B1 B2 : Nat} {l : List It} (h1 : LI w B1 v1 l) (h2 : LI w B2 v2 l) (hl : ∀ p ∈ l, ∀ j, j < 128 → p.D j < 256) (hn : l.length ≤ 1000) :
    Calls Tryz.prog 32 #[v1, v2] w fun e w' => e = .returned (.bool true) ∧ Below w.heap.size w w' := by
  have H1 := Lib.hid h1
  have H2 := Lib.hid h2
  have HL := Lib.hid hl
  obtain ⟨A1, c1, rfl⟩ := h1.form
  obtain ⟨A2, c2, rfl⟩ := h2.form
  obtain ⟨n, hnn⟩ : ∃ n, l.length = n := ⟨_, rfl⟩
  have HN := Lib.hid hnn
  rw [hnn] at hn ⊢
  clear h1 h2 hl hnn
  go_enter Tryz.func32, Tryz.ntmps32
  go_wp2_with fail
  go_loopg [5] n (fun q s5 v => ∃ i : Nat, s5 = .int .i64 (i : Int) ∧ i ≤ n ∧ q = n - i ∧ Hid (Below w.heap.size w v))
  case atStart => exact ⟨0, rfl, by omega, rfl, Lib.hid (Below.refl _ _)⟩
  case round =>
    obtain ⟨i, rfl, hi, rfl, HV⟩ := hrel
    by_cases hlt : i < n
    · have hlt' : (i : Int) < (n : Int) := by omega
      obtain ⟨y, hy⟩ : ∃ y, l[i]? = some y := ⟨_, List.getElem?_eq_getElem (by rw [HN.out]; exact hlt)⟩
      have HY := Lib.hid (HL.out y (List.mem_of_getElem? hy))
      obtain ⟨b, _, Ay, dy, hv, hbl, a0, a1, a2, aD⟩ := (H1.out.below HV.out).at3 hy
      obtain ⟨b', _, Az, dz, hv', hbl', z0, z1, z2, zD⟩ := (H2.out.below HV.out).at3 hy
      injection hv with e1 e2 e3
      injection hv' with e1' e2' e3'
      subst e1
      subst e1'
      have HS := Lib.hid (rsameIV (w := wr.drew) (v := iv (y.s : Int) (y.g : Int) Ay 128 dy) (v' := iv (y.s : Int) (y.g : Int) Az 128 dz) (x := y) (y := y) ⟨Ay, dy, rfl, aD.below (below_drewN 1 wr)⟩ ⟨Az, dz, rfl, zD.below (below_drewN 1 wr)⟩ HY.out HY.out true ⟨fun _ => It.Alike.refl _, fun _ => rfl⟩)
      have HB : Hid (Below w.heap.size w wr.drew) := Lib.hid HV.out.drew
      clear hy aD zD e2 e3 e2' e3'
      go_wp2_with fail
      go_still_tail 8, (by kernel_rfl)
      change wpList _ _ _ _ _ wr.drew
      go_wp2_with fail
      refine HS.out.mono ?_
      rintro e w3 ⟨rfl, hb3⟩
      try dsimp only
      have HB3 : Hid (Below w.heap.size w w3) := Lib.hid (HB.out.trans (hb3.mono HB.out.size))
      clear hb3
      go_wp2_with fail
      go_roundg (n - (i + 1))
      case measure => omega
      case rel => exact ⟨i + 1, by go_num, by omega, rfl, HB3⟩
    · obtain rfl : i = n := by omega
      go_wp2_with fail
      go_ret
      exact ⟨rfl, HV.out⟩
end Go.Proofs.YtofmilkjhnkgjaaGreat
namespace Go.Proofs.YtofmilkjhnkgjaaGreat
open Go.RowKit Go.Sort
set_option maxRecDepth 100000
set_option maxHeartbeats 2000000

/-- SamePieces of pieces that are the same. -/
theorem rsames {w : World} {v1 v2 : Value} {B1 B2 : Nat} {l : List Pc} (h1 : PL w B1 v1 l) (h2 : PL w B2 v2 l) (hl : ∀ p ∈ l, ∀ j, j < 32 → p.D j < 256) (hn : l.length ≤ 1000) :
    Calls Tryz.prog 31 #[v1, v2] w fun e w' => e = .returned (.bool true) ∧ Below w.heap.size w w' := by
  have H1 := Lib.hid h1
  have H2 := Lib.hid h2
  have HL := Lib.hid hl
  obtain ⟨A1, c1, rfl⟩ := h1.form
  obtain ⟨A2, c2, rfl⟩ := h2.form
  obtain ⟨n, hnn⟩ : ∃ n, l.length = n := ⟨_, rfl⟩
  have HN := Lib.hid hnn
  rw [hnn] at hn ⊢
  clear h1 h2 hl hnn
  go_enter Tryz.func31, Tryz.ntmps31
  go_wp2_with fail
  go_loopg [5] n (fun q s5 v => ∃ i : Nat, s5 = .int .i64 (i : Int) ∧ i ≤ n ∧ q = n - i ∧ Hid (Below w.heap.size w v))
  case atStart => exact ⟨0, rfl, by omega, rfl, Lib.hid (Below.refl _ _)⟩
  case round =>
    obtain ⟨i, rfl, hi, rfl, HV⟩ := hrel
    by_cases hlt : i < n
    · have hlt' : (i : Int) < (n : Int) := by omega
      obtain ⟨y, hy⟩ : ∃ y, l[i]? = some y := ⟨_, List.getElem?_eq_getElem (by rw [HN.out]; exact hlt)⟩
      have HY := Lib.hid (HL.out y (List.mem_of_getElem? hy))
      obtain ⟨b, _, Ay, dy, hv, _, hbl, a0, a1, a2, a3, aD⟩ := (H1.out.below HV.out).at hy
      obtain ⟨b', _, Az, dz, hv', _, hbl', z0, z1, z2, z3, zD⟩ := (H2.out.below HV.out).at hy
      injection hv with e1 e2 e3
      injection hv' with e1' e2' e3'
      subst e1
      subst e1'
      rw [Nat.mul_comm 4 i] at a0 a1 a2 a3 z0 z1 z2 z3
      have HS := Lib.hid (rsameV (w := wr.drew) (v := pv (y.s : Int) (y.g : Int) (y.i : Int) Ay 32 dy) (v' := pv (y.s : Int) (y.g : Int) (y.i : Int) Az 32 dz) (p := y) (q := y) ⟨Ay, dy, rfl, aD.below (below_drewN 1 wr)⟩ ⟨Az, dz, rfl, zD.below (below_drewN 1 wr)⟩ HY.out HY.out true ⟨fun _ => Pc.Alike.refl _, fun _ => rfl⟩)
      have HB : Hid (Below w.heap.size w wr.drew) := Lib.hid HV.out.drew
      clear hy aD zD e2 e3 e2' e3'
      go_wp2_with fail
      go_still_tail 8, (by kernel_rfl)
      change wpList _ _ _ _ _ wr.drew
      go_wp2_with fail
      refine HS.out.mono ?_
      rintro e w3 ⟨rfl, hb3⟩
      try dsimp only
      have HB3 : Hid (Below w.heap.size w w3) := Lib.hid (HB.out.trans (hb3.mono HB.out.size))
      clear hb3
      go_wp2_with fail
      go_roundg (n - (i + 1))
      case measure => omega
      case rel => exact ⟨i + 1, by go_num, by omega, rfl, HB3⟩
    · obtain rfl : i = n := by omega
      go_wp2_with fail
      go_ret
      exact ⟨rfl, HV.out⟩
end Go.Proofs.YtofmilkjhnkgjaaGreat
namespace Go.Proofs.YtofmilkjhnkgjaaGreat
open Go.RowKit Go.Sort
set_option maxRecDepth 100000
set_option maxHeartbeats 2000000

theorem bstr_data (F : Blk) : (bstr F).data.toList = ((List.range 160).map F).map UInt8.ofNat := by
  have h := strOf_list ((List.range 160).map F)
  rw [ByteArray.toList_eq] at h
  exact h
theorem bstr_size (F : Blk) : (bstr F).size = 160 := by
  have h := congrArg List.length (bstr_data F)
  simpa using h
/-- A text of a block's bytes, as bytes. -/
theorem conv_bs (w : World) (F : Blk) (hF : ∀ j, j < 160 → F j < 256) : ∃ c w1, 160 ≤ c ∧ Sem.run Tryz.prog (convert 9 35 (.string (bstr F))) w = .ok (.slice (some ⟨w.heap.size, 0, none⟩) 160 c) w1 ∧ Rd w1 (some ⟨w.heap.size, 0, none⟩) 160 F ∧ Below w.heap.size w w1 := by
  refine ⟨grownCap w (bstr F).size 0 5, Lib.bytesWorld w 5 (bstr F), ?_, ?_, ?_, ?_⟩
  · have := grownCap_ge w (bstr F).size 0 5
    rw [bstr_size] at this ⊢
    exact this
  · have h := Lib.run_convert_string_bytes (P := Tryz.prog) w 9 35 5 (bstr F) Tryz.underlying9 Tryz.underlying35 Tryz.underlying5
    rw [bstr_size] at h
    rw [bstr_size]
    exact h
  · refine Rd.mk_ fun j hj => ?_
    rw [Nat.zero_add]
    have h := Lib.bytesWorld_cell w 5 (bstr F) j (by rw [bstr_size]; exact hj)
    rw [h, bstr_data]
    have hb := hF j hj
    have e : ((((List.range 160).map F).map UInt8.ofNat).getD j 0).toNat = F j := by
      rw [List.getD_eq_getElem?_getD, List.getElem?_map, List.getElem?_map, List.getElem?_range hj]
      simp
      omega
    rw [e]
  · exact ⟨rfl, rfl, rfl, by rw [Lib.bytesWorld_size]; omega, fun k hk => Lib.bytesWorld_at_old w _ _ k hk⟩
/-- Pieces of a stripe that is none. -/
theorem rpieces_out {w : World} {r : Nat} (s : Int) (hs : ¬ (0 ≤ s ∧ s < 40)) :
    Calls Tryz.prog 41 #[.pointer (some ⟨r, 0, none⟩), .int .i64 s] w fun e w' => e = .returned (.slice none 0 0) ∧ w' = w := by
  by_cases h0 : s < 0
  · clear hs
    go_enter Tryz.func41, Tryz.ntmps41
    go_wp2_with fail
    go_ret
    exact ⟨rfl, rfl⟩
  · have h1 : (40 : Int) ≤ s := by omega
    clear hs
    go_enter Tryz.func41, Tryz.ntmps41
    go_wp2_with fail
    go_ret
    exact ⟨rfl, rfl⟩
end Go.Proofs.YtofmilkjhnkgjaaGreat
namespace Go.Proofs.YtofmilkjhnkgjaaGreat
open Go.RowKit Go.Sort
set_option maxRecDepth 100000
set_option maxHeartbeats 2000000

/-! The reference's ring in memory: its slots lie flat in its own block. -/
def RRg (w : World) (b p next : Nat) (X : Nat → Sx) : Prop := ∃ cs : Array Value, w.heap[b]? = some (.cells cs 100 (0, 0)) ∧ cs.size = 66 ∧ cs[0]? = some (.pointer (some ⟨p, 0, none⟩)) ∧ cs[65]? = some (.int .i64 (next : Int)) ∧ ∀ i, i < 16 → cs[1 + i * 4]? = some (.int .i64 ((X i).no : Int)) ∧ cs[1 + i * 4 + 1]? = some (.int .i64 ((X i).s : Int)) ∧ cs[1 + i * 4 + 2]? = some (.int .i64 ((X i).g : Int)) ∧ cs[1 + i * 4 + 3]? = some (.slice (X i).A (X i).n (X i).c)
section
variable {w w' : World} {b p next : Nat} {X : Nat → Sx}
theorem RRg.c0 (h : RRg w b p next X) : w.cell? ⟨b, 0, none⟩ = some (.pointer (some ⟨p, 0, none⟩)) := by
  obtain ⟨cs, h1, _, h2, _⟩ := h
  exact (cell_of_block h1).trans h2
theorem RRg.cn (h : RRg w b p next X) : w.cell? ⟨b, 65, none⟩ = some (.int .i64 (next : Int)) := by
  obtain ⟨cs, h1, _, _, h2, _⟩ := h
  exact (cell_of_block h1).trans h2
theorem RRg.cell (h : RRg w b p next X) {i : Nat} (hi : i < 16) : w.cell? ⟨b, 1 + i * 4, none⟩ = some (.int .i64 ((X i).no : Int)) ∧ w.cell? ⟨b, 1 + i * 4 + 1, none⟩ = some (.int .i64 ((X i).s : Int)) ∧ w.cell? ⟨b, 1 + i * 4 + 2, none⟩ = some (.int .i64 ((X i).g : Int)) ∧ w.cell? ⟨b, 1 + i * 4 + 3, none⟩ = some (.slice (X i).A (X i).n (X i).c) := by
  obtain ⟨cs, h1, _, _, _, h2⟩ := h
  obtain ⟨a0, a1, a2, a3⟩ := h2 i hi
  exact ⟨(cell_of_block h1).trans a0, (cell_of_block h1).trans a1, (cell_of_block h1).trans a2, (cell_of_block h1).trans a3⟩
theorem RRg.f (h : RRg w b p next X) (k : Nat) : w.frozen? ⟨b, k, none⟩ = false := by
  obtain ⟨cs, h1, _⟩ := h
  exact free_of_block h1
theorem RRg.type (h : RRg w b p next X) : ∃ cs, w.heap[b]? = some (.cells cs 100 (0, 0)) := by
  obtain ⟨cs, h1, _⟩ := h
  exact ⟨cs, h1⟩
theorem RRg.lt (h : RRg w b p next X) : b < w.heap.size := by
  obtain ⟨cs, h1⟩ := h.type
  exact heap_lt h1
theorem RRg.keep (h : RRg w b p next X) (e : w'.heap[b]? = w.heap[b]?) : RRg w' b p next X := by
  obtain ⟨cs, h1, r⟩ := h
  exact ⟨cs, e.trans h1, r⟩
theorem RRg.below (h : RRg w b p next X) (e : Below w.heap.size w w') : RRg w' b p next X := h.keep (e.block b h.lt)
theorem RRg.next_ (h : RRg w b p next X) (n : Nat) : RRg (w.setCell ⟨b, 65, none⟩ (.int .i64 (n : Int))) b p n X := by
  obtain ⟨cs, h1, hz, h0, hn, h2⟩ := h
  refine ⟨_, set_block h1 65 _, by simp [hz], ?_, ?_, fun i hi => ?_⟩
  · rw [Array.getElem?_setIfInBounds_ne (by omega)]; exact h0
  · rw [Array.getElem?_setIfInBounds_self]; rw [if_pos (by omega)]
  · obtain ⟨a0, a1, a2, a3⟩ := h2 i hi
    exact ⟨by rw [Array.getElem?_setIfInBounds_ne (by omega)]; exact a0, by rw [Array.getElem?_setIfInBounds_ne (by omega)]; exact a1, by rw [Array.getElem?_setIfInBounds_ne (by omega)]; exact a2, by rw [Array.getElem?_setIfInBounds_ne (by omega)]; exact a3⟩
theorem RRg.put (h : RRg w b p next X) {k : Nat} (hk : k < 16) (y : Sx) : RRg ((((w.setCell ⟨b, 1 + k * 4, none⟩ (.int .i64 (y.no : Int))).setCell ⟨b, 1 + k * 4 + 1, none⟩ (.int .i64 (y.s : Int))).setCell ⟨b, 1 + k * 4 + 2, none⟩ (.int .i64 (y.g : Int))).setCell ⟨b, 1 + k * 4 + 3, none⟩ (.slice y.A y.n y.c)) b p next (updS X k y) := by
  obtain ⟨cs, h1, hz, h0, hn, h2⟩ := h
  refine ⟨_, set_block (set_block (set_block (set_block h1 _ _) _ _) _ _) _ _, by simp [hz], ?_, ?_, fun i hi => ?_⟩
  · simp only [Array.getElem?_setIfInBounds]
    rw [if_neg (by omega), if_neg (by omega), if_neg (by omega), if_neg (by omega)]
    exact h0
  · simp only [Array.getElem?_setIfInBounds]
    rw [if_neg (by omega), if_neg (by omega), if_neg (by omega), if_neg (by omega)]
    exact hn
  · obtain ⟨a0, a1, a2, a3⟩ := h2 i hi
    unfold updS
    by_cases e : i = k
    · subst e
      simp [hz, show 1 + i * 4 < 66 by omega, show 1 + i * 4 + 1 < 66 by omega, show 1 + i * 4 + 2 < 66 by omega, show 1 + i * 4 + 3 < 66 by omega]
    · simp only [Array.getElem?_setIfInBounds, if_neg e]
      refine ⟨?_, ?_, ?_, ?_⟩ <;> (rw [if_neg (by omega), if_neg (by omega), if_neg (by omega), if_neg (by omega)]) <;> assumption
end
end Go.Proofs.YtofmilkjhnkgjaaGreat
