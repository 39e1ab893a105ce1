import Derived.Test.YtjgbfghkiahfaaaGreatDoorV03
import Derived.Test.YtjgbfghkiahfaaaGreatDoorV07
import Derived.Test.YtjgbfghkiahfaaaGreatDoorV05
namespace Go.Proofs.YtjgbfghkiahfaaaGreatDoor
open Go.RowKit Go.Sort
set_option maxRecDepth 100000
set_option maxHeartbeats 1000000

/-! corbelhand.Bytes, told. -/
def lcg (x : Int) : Int := IntKind.u64.wrap (IntKind.u64.wrap (x * 6364136223846793005) + 1442695040888963407)
def lcgN (s : Int) : Nat → Int
  | 0 => IntKind.u64.wrap (IntKind.u64.wrap (IntKind.u64.wrap s * 2654435761) + 12345)
  | k + 1 => lcg (lcgN s k)
def bytesF (s : Int) (j : Nat) : Nat := if s % 7 = 6 then 0 else (lcgN s (j + 1) / 72057594037927936 % 256).toNat
theorem bytesF_lt (s : Int) (j : Nat) : bytesF s j < 256 := by
  unfold bytesF
  split
  · decide
  · omega
theorem bytesF_zero {s : Int} (h : s % 7 = 6) (j : Nat) : bytesF s j = 0 := if_pos h
theorem bytesF_next {s : Int} (h : ¬ s % 7 = 6) (j : Nat) : ((bytesF s j : Nat) : Int) = lcgN s (j + 1) / 72057594037927936 % 256 := by
  unfold bytesF
  rw [if_neg h]
  omega
def CBRet (s : Int) (n : Nat) (w : World) (e : Ending) (w' : World) : Prop := ∃ g, e = .returned (.slice (some ⟨g, 0, none⟩) n n) ∧ Blk8 w' g n (bytesF s) ∧ Below w.heap.size w w' ∧ w.heap.size ≤ g
theorem cbytes (seed : Int) (n : Nat) (m : Int) (hm : m = (n : Int)) (w : World) (hn : n ≤ 1000000) : Calls Tryz.prog 12 #[.int .i64 seed, .int .i64 m] w (CBRet seed n w) := by
  subst hm
  obtain ⟨zs, z0, z1, z2⟩ := make8s n hn
  have HR0 : Hid (Blk8 (w.alloc (.cells zs 5)) w.heap.size n (fun _ => 0) ∧ Below w.heap.size w (w.alloc (.cells zs 5))) := Lib.hid ⟨Blk8.new z0 z1, (Below.refl _ _).alloc (Nat.le_refl _) _⟩
  have HP := Lib.hid (rpick seed 7 (by omega) (by omega))
  clear z0 z1
  by_cases h6 : seed % 7 = 6
  · have t1 : (seed % 7 == 6) = true := beq_iff_eq.2 h6
    have H6 := Lib.hid h6
    clear h6
    go_enter Tryz.func12, Tryz.ntmps12
    go_wp2_with fail
    refine (HP.out _).mono ?_
    rintro e w' ⟨rfl, hw⟩
    obtain rfl := hw.symm
    go_wp2_with fail
    go_ret
    exact ⟨_, rfl, HR0.out.1.congr (fun j _ => (bytesF_zero H6.out j).symm), HR0.out.2, Nat.le_refl _⟩
  · have t1 : (seed % 7 == 6) = false := beq_eq_false_iff_ne.2 h6
    have H6 := Lib.hid h6
    clear h6
    go_enter Tryz.func12, Tryz.ntmps12
    go_wp2_with fail
    refine (HP.out _).mono ?_
    rintro e w' ⟨rfl, hw⟩
    obtain rfl := hw.symm
    go_wp2_with fail
    generalize w.alloc (.cells zs 5) = w1 at *
    generalize hg : w.heap.size = g at *
    have HG := Lib.hid hg
    clear hg
    go_loopg [6, 7] n (fun q s6 s7 v => ∃ (i : Nat), s6 = .int .u64 (lcgN seed i) ∧ s7 = .int .i64 (i : Int) ∧ i ≤ n ∧ q = n - i ∧ Hid (Blk8 v g n (fun j => if j < i then bytesF seed j else 0) ∧ Below g w v))
    case atStart => exact ⟨0, rfl, rfl, by omega, rfl, Lib.hid ⟨HR0.out.1.congr (fun j _ => by rw [if_neg (by omega)]), HR0.out.2⟩⟩
    case round =>
      obtain ⟨i, rfl, rfl, hi, rfl, HS⟩ := hrel
      clear HR0
      by_cases hlt : i < n
      · have hl : (i : Int) < (n : Int) := by omega
        have c1 := HS.out.1.row8.cell i hlt
        have f1 := HS.out.1.row8.free i
        have HX : Hid (IntKind.u64.wrap (IntKind.u64.wrap (lcgN seed i * 6364136223846793005) + 1442695040888963407) = lcgN seed (i + 1)) := Lib.hid rfl
        have HY := Lib.hid (bytesF_next H6.out i)
        generalize lcgN seed i = x at *
        go_wp2_with fail
        rw [HX.out, ← HY.out]
        go_roundg (n - (i + 1))
        case measure => omega
        case rel => exact ⟨i + 1, rfl, by go_num, by omega, rfl, Lib.hid ⟨(HS.out.1.put hlt).congr (fun j hj => by
          try dsimp only
          by_cases e : j = i
          · subst e; rw [if_pos rfl, if_pos (by omega)]
          · rw [if_neg e]
            by_cases h : j < i
            · rw [if_pos h, if_pos (by omega)]
            · rw [if_neg h, if_neg (by omega)]), HS.out.2.setCell (Nat.le_refl _) _⟩⟩
      · have hge : ¬ (i : Int) < (n : Int) := by omega
        go_wp2_with fail
        go_ret
        exact ⟨g, rfl, HS.out.1.congr (fun j hj => by rw [if_pos (by omega)]), by rw [HG.out]; exact HS.out.2, by rw [HG.out]; exact Nat.le_refl _⟩
theorem bytes_12 : bytesF 1 0 ≠ bytesF 2 0 := by decide
attribute [irreducible] bytesF lcgN lcg
end Go.Proofs.YtjgbfghkiahfaaaGreatDoor
namespace Go.Proofs.YtjgbfghkiahfaaaGreatDoor
open Go.RowKit Go.Sort
set_option maxRecDepth 100000
set_option maxHeartbeats 1000000

theorem results_cell1 {fn : Func} {p : Tmp} {ty : TypeId} (h : fn.results = #[.cell p ty]) (tmps : Array Value) (P : Program) (w : World) :
    (results fn tmps).run P w = ((asAddr (tmps.getD p undef)).run P w).andThen fun a w₁ => (loadVar ty a).run P w₁ := by
  simp only [results, h]
  simp [Sem.run_bind, Result.andThen]
/-- A piece as it is handed about. -/
def PcV (w : World) (v : Value) (p : Pc) : Prop := ∃ A c, v = pv (p.s : Int) (p.g : Int) (p.i : Int) A 32 c ∧ Dat w A p.D
/-- one. -/
def oneP (s g i : Nat) (x : Int) : Pc := ⟨s, g, i, bytesF x⟩
def LOneRet (p : Pc) (w : World) (e : Ending) (w' : World) : Prop := ∃ v, e = .returned v ∧ PcV w' v p ∧ Below w.heap.size w w'
end Go.Proofs.YtjgbfghkiahfaaaGreatDoor
namespace Go.Proofs.YtjgbfghkiahfaaaGreatDoor
open Go.RowKit Go.Sort
set_option maxRecDepth 100000
set_option maxHeartbeats 1000000
/-! Chapter 9, said plainly: an intent, its block. -/
structure It where
  s : Nat
  g : Nat
  D : Nat → Nat
def It.Ok (x : It) : Prop := x.s < 40 ∧ 1 ≤ x.g ∧ x.g ≤ 1099511627776 ∧ ∀ j, j < 128 → x.D j < 256
def itF (no : Nat) (x : It) : Nat → Nat := fun j => if j < 6 then byteAt no 6 j else if j = 6 then x.s else if j < 13 then byteAt x.g 6 (j - 7) else x.D (j - 13)
theorem itF_lt {no : Nat} {x : It} (h : x.Ok) : ∀ j, j < 141 → itF no x j < 256 := by
  obtain ⟨h1, h2, h3, h4⟩ := h
  intro j hj
  unfold itF
  split
  · exact byteAt_lt _ _ _
  · split
    · omega
    · split
      · exact byteAt_lt _ _ _
      · exact h4 _ (by omega)
/-- An intent's block. -/
def itS (no : Nat) (x : It) : Nat → Nat := sealF 2 141 (itF no x)
theorem itS_lt {no : Nat} {x : It} (h : x.Ok) (j : Nat) : itS no x j < 256 := sealF_lt (by decide) (itF_lt h) j
theorem itS_read {no : Nat} {x : It} {F : Nat → Nat} (hx : x.Ok) (hno : no < 281474976710656) (hF : ∀ j, j < 160 → F j = itS no x j) :
    OpenOk F ∧ num4 F 156 = sumF F 156 ∧ F 0 = 2 ∧ F 1 * 256 + F 2 = 141 ∧ numF (fun j => F (3 + j)) 6 = no ∧ F 9 = x.s ∧ numF (fun j => F (3 + (7 + j))) 6 = x.g ∧ ∀ j, j < 128 → F (16 + j) = x.D j := by
  obtain ⟨h1, h2, h3, h4, h5⟩ := openOk_seal (kind := 2) (n := 141) (B := itF no x) (F := F) (by decide) (by decide) hF
  refine ⟨h1, h2, h3, h4, ?_, ?_, ?_, fun j hj => ?_⟩
  · have e : numF (fun j => F (3 + j)) 6 = numF (byteAt no 6) 6 := by
      rw [numF_6, numF_6]
      simp only [h5 0 (by omega), h5 1 (by omega), h5 2 (by omega), h5 3 (by omega), h5 4 (by omega), h5 5 (by omega)]
      rfl
    rw [e]
    exact byte6 no hno
  · exact h5 6 (by omega)
  · have e : numF (fun j => F (3 + (7 + j))) 6 = numF (byteAt x.g 6) 6 := by
      rw [numF_6, numF_6]
      simp only [h5 (7 + 0) (by omega), h5 (7 + 1) (by omega), h5 (7 + 2) (by omega), h5 (7 + 3) (by omega), h5 (7 + 4) (by omega), h5 (7 + 5) (by omega)]
      rfl
    rw [e]
    exact byte6 x.g (by have := hx.2.2.1; omega)
  · have := h5 (13 + j) (by omega)
    rw [show 3 + (13 + j) = 16 + j by omega] at this
    rw [this]
    unfold itF
    rw [if_neg (by omega), if_neg (by omega), if_neg (by omega), Nat.add_sub_cancel_left]
/-- Two intents alike. -/
def It.Alike (x y : It) : Prop := x.s = y.s ∧ x.g = y.g ∧ ∀ j, j < 128 → x.D j = y.D j
theorem It.Alike.refl (x : It) : x.Alike x := ⟨rfl, rfl, fun _ _ => rfl⟩
attribute [irreducible] itF itS

/-- An intent as a value. -/
abbrev iv (s g : Int) (A : Option Addr) (n c : Nat) : Value := .agg #[.int .i64 s, .int .i64 g, .slice A n c]
/-- A slot as a value. -/
abbrev sv (no s g : Int) (A : Option Addr) (n c : Nat) : Value := .agg #[.int .i64 no, .int .i64 s, .int .i64 g, .slice A n c]
/-- May there be such an intent? -/
def OkJ (s g : Int) (n : Nat) : Prop := 0 ≤ s ∧ s < 40 ∧ 1 ≤ g ∧ g ≤ 1099511627776 ∧ n = 128
/-- An intent in a variable. -/
def IV (w : World) (b : Nat) (s g : Int) (A : Option Addr) (n c : Nat) : Prop := w.heap[b]? = some (.cells #[.int .i64 s, .int .i64 g, .slice A n c] 56 (0, 0))
section
variable {w w' : World} {b n c : Nat} {s g : Int} {A : Option Addr}
theorem IV.c0 (h : IV w b s g A n c) : w.cell? ⟨b, 0, none⟩ = some (.int .i64 s) := cell_of_block h
theorem IV.c1 (h : IV w b s g A n c) : w.cell? ⟨b, 1, none⟩ = some (.int .i64 g) := cell_of_block h
theorem IV.c2 (h : IV w b s g A n c) : w.cell? ⟨b, 2, none⟩ = some (.slice A n c) := cell_of_block h
theorem IV.f (h : IV w b s g A n c) (k : Nat) : w.frozen? ⟨b, k, none⟩ = false := free_of_block h
theorem IV.lt (h : IV w b s g A n c) : b < w.heap.size := heap_lt h
theorem IV.keep (h : IV w b s g A n c) (e : w'.heap[b]? = w.heap[b]?) : IV w' b s g A n c := e.trans h
theorem IV.below (h : IV w b s g A n c) (e : Below w.heap.size w w') : IV w' b s g A n c := (e.block b h.lt).trans h
theorem IV.new (w : World) (s g : Int) (A : Option Addr) (n c : Nat) : IV (w.alloc (.cells #[.int .i64 s, .int .i64 g, .slice A n c] 56)) w.heap.size s g A n c := alloc_block w _
theorem IV.of_new {H : Nat} (hH : w.heap.size = H) : IV (w.alloc (.cells #[.int .i64 s, .int .i64 g, .slice A n c] 56)) H s g A n c := hH ▸ IV.new w s g A n c
theorem IV.put (h : IV w b s g A n c) {s' g' : Int} {A' : Option Addr} {n' c' : Nat} : IV (((w.setCell ⟨b, 0, none⟩ (.int .i64 s')).setCell ⟨b, 1, none⟩ (.int .i64 g')).setCell ⟨b, 2, none⟩ (.slice A' n' c')) b s' g' A' n' c' := by
  unfold IV at h ⊢
  rw [set_block (set_block (set_block h 0 _) 1 _) 2 _]
  rfl
theorem IV.put_d (h : IV w b s g A n c) {A' : Option Addr} {n' c' : Nat} : IV (w.setCell ⟨b, 2, none⟩ (.slice A' n' c')) b s g A' n' c' := by
  unfold IV at h ⊢
  rw [set_block h 2 _]
  rfl
theorem IV.load (h : IV w b s g A n c) : (loadVar 56 ⟨b, 0, none⟩).run Tryz.prog w = .ok (iv s g A n c) w := by
  have c0 := h.c0
  have c1 := h.c1
  have c2 := h.c2
  have s0 := h.lt
  simp [go_sem, c0, c1, c2, iv]
end
theorem below_put3 {B : Nat} {w0 w : World} {b : Nat} (h : Below B w0 w) (hb : B ≤ b) (v0 v1 v2 : Value) : Below B w0 (((w.setCell ⟨b, 0, none⟩ v0).setCell ⟨b, 1, none⟩ v1).setCell ⟨b, 2, none⟩ v2) :=
  ((h.setCell hb _).setCell hb _).setCell hb _
/-- An intent's bytes, in a block of bytes. -/
def DatI (w : World) (A : Option Addr) (D : Nat → Nat) : Prop := ∃ g o cs, A = some ⟨g, o, none⟩ ∧ w.heap[g]? = some (.cells cs 5 (0, 0)) ∧ ∀ j, j < 128 → w.cell? ⟨g, o + j, none⟩ = some (.int .u8 (D j : Nat))
theorem DatI.of {w : World} {g o n : Nat} {D F : Nat → Nat} (h : Blk8 w g n F) (r : Rd w (some ⟨g, o, none⟩) 128 D) : DatI w (some ⟨g, o, none⟩) D := by
  obtain ⟨cs, hb, _⟩ := h
  exact ⟨g, o, cs, rfl, hb, fun j hj => r.some_ hj⟩
theorem DatI.blk {w : World} {g : Nat} {D : Nat → Nat} (h : Blk8 w g 128 D) : DatI w (some ⟨g, 0, none⟩) D := DatI.of h h.rd
theorem DatI.rd {w : World} {A : Option Addr} {D : Nat → Nat} (h : DatI w A D) : Rd w A 128 D := fun _ => by
  obtain ⟨g, o, cs, e, _, hc⟩ := h
  exact ⟨g, o, e, hc⟩
theorem DatI.keep {w w' : World} {A : Option Addr} {D : Nat → Nat} (h : DatI w A D) (k : ∀ (g : Nat) (cs : Array Value), w.heap[g]? = some (Obj.cells cs 5 (0, 0)) → w'.heap[g]? = w.heap[g]?) : DatI w' A D := by
  obtain ⟨g, o, cs, e, hb, hc⟩ := h
  have h1 := k g cs hb
  exact ⟨g, o, cs, e, h1.trans hb, fun j hj => (World.cell?_of_block (w := w) h1).trans (hc j hj)⟩
theorem DatI.below {w w' : World} {A : Option Addr} {D : Nat → Nat} (h : DatI w A D) (b : Below w.heap.size w w') : DatI w' A D := h.keep (fun g _ hb => b.block g (heap_lt hb))
theorem DatI.congr {w : World} {A : Option Addr} {D E : Nat → Nat} (h : DatI w A D) (e : ∀ j, j < 128 → D j = E j) : DatI w A E := by
  obtain ⟨g, o, cs, a, hb, hc⟩ := h
  exact ⟨g, o, cs, a, hb, fun j hj => by rw [← e j hj]; exact hc j hj⟩
/-- A cell of a block of another kind is put. -/
theorem DatI.far {w : World} {A : Option Addr} {D : Nat → Nat} {b k : Nat} {cs : Array Value} {t : TypeId} {fr : Nat × Nat} {v : Value} (h : DatI w A D) (hb : w.heap[b]? = some (.cells cs t fr)) (ht : t ≠ 5) : DatI (w.setCell ⟨b, k, none⟩ v) A D :=
  h.keep (fun g cs' hg => set_other (by rintro rfl; rw [hb] at hg; cases hg; exact ht rfl) k v)
theorem DatI.far3 {w : World} {A : Option Addr} {D : Nat → Nat} {b n c : Nat} {s g : Int} {B : Option Addr} (h : DatI w A D) (k : IV w b s g B n c) {v0 v1 v2 : Value} :
    DatI (((w.setCell ⟨b, 0, none⟩ v0).setCell ⟨b, 1, none⟩ v1).setCell ⟨b, 2, none⟩ v2) A D := by
  have h1 := set_block k 0 v0
  have h2 := set_block h1 1 v1
  exact ((h.far k (by decide)).far h1 (by decide)).far h2 (by decide)
theorem DatI.some_ {w : World} {A : Option Addr} {D : Nat → Nat} (h : DatI w A D) : ∃ g o, A = some ⟨g, o, none⟩ := by
  obtain ⟨g, o, _, e, _⟩ := h
  exact ⟨g, o, e⟩
/-- An intent as it is handed about. -/
def ItV (w : World) (v : Value) (x : It) : Prop := ∃ A c, v = iv (x.s : Int) (x.g : Int) A 128 c ∧ DatI w A x.D
theorem ItV.below {w w' : World} {v : Value} {x : It} (h : ItV w v x) (b : Below w.heap.size w w') : ItV w' v x := by
  obtain ⟨A, c, e, d⟩ := h
  exact ⟨A, c, e, d.below b⟩
theorem Blk8.farI {w : World} {g n b k : Nat} {F : Nat → Nat} {cs : Array Value} {t : TypeId} {fr : Nat × Nat} {v : Value} (h : Blk8 w g n F) (hb : w.heap[b]? = some (.cells cs t fr)) (ht : t ≠ 5) : Blk8 (w.setCell ⟨b, k, none⟩ v) g n F :=
  h.keep (set_other (by rintro rfl; obtain ⟨cs', h1, _⟩ := h; rw [hb] at h1; cases h1; exact ht rfl) k v)
theorem Blk8.far3 {w : World} {q m : Nat} {D : Nat → Nat} {b n c : Nat} {s g : Int} {B : Option Addr} (h : Blk8 w q m D) (k : IV w b s g B n c) {v0 v1 v2 : Value} :
    Blk8 (((w.setCell ⟨b, 0, none⟩ v0).setCell ⟨b, 1, none⟩ v1).setCell ⟨b, 2, none⟩ v2) q m D := by
  have h1 := set_block k 0 v0
  have h2 := set_block h1 1 v1
  exact ((h.farI k (by decide)).farI h1 (by decide)).farI h2 (by decide)
/-- intent.Right. -/
theorem iright (s g : Int) (A : Option Addr) (n cap : Nat) (w : World) (t : Bool) (ht : t = true ↔ OkJ s g n) :
    Calls Tryz.prog 90 #[iv s g A n cap] w fun e w' => e = .returned (.bool t) ∧ Below w.heap.size w w' := by
  have HB : Hid (Below w.heap.size w (w.alloc (.cells #[.int .i64 s, .int .i64 g, .slice A n cap] 56))) := Lib.hid ((Below.refl _ _).alloc (Nat.le_refl _) _)
  unfold OkJ at ht
  unfold iv
  have walk : True := trivial
  by_cases h0 : 0 ≤ s
  · have p0 := h0
    by_cases h1 : s < 40
    · have p1 := h1
      by_cases h2 : 1 ≤ g
      · have p2 := h2
        by_cases h3 : g ≤ 1099511627776
        · have p3 := h3
          by_cases h4 : (n : Int) = 128
          · have p5 : ((n : Int) == 128) = true := beq_iff_eq.2 h4
            obtain rfl : t = true := ht.2 (by refine ⟨h0, h1, h2, h3, by omega⟩)
            clear ht h0 h1 h2 h3 h4
            go_enter Tryz.func90, Tryz.ntmps90
            go_wp2_with fail
            go_ret
            exact ⟨rfl, HB.out⟩
          · obtain rfl : t = false := not_true ht (fun h => by omega)
            have p5 : ((n : Int) == 128) = false := beq_eq_false_iff_ne.2 h4
            clear ht h0 h1 h2 h3 h4
            go_enter Tryz.func90, Tryz.ntmps90
            go_wp2_with fail
            go_ret
            exact ⟨rfl, HB.out⟩
        · obtain rfl : t = false := not_true ht (fun h => by omega)
          clear ht h0 h1 h2
          go_enter Tryz.func90, Tryz.ntmps90
          go_wp2_with fail
          go_ret
          exact ⟨rfl, HB.out⟩
      · obtain rfl : t = false := not_true ht (fun h => by omega)
        clear ht h0 h1
        go_enter Tryz.func90, Tryz.ntmps90
        go_wp2_with fail
        go_ret
        exact ⟨rfl, HB.out⟩
    · obtain rfl : t = false := not_true ht (fun h => by omega)
      clear ht h0
      go_enter Tryz.func90, Tryz.ntmps90
      go_wp2_with fail
      go_ret
      exact ⟨rfl, HB.out⟩
  · obtain rfl : t = false := not_true ht (fun h => by omega)
    clear ht 
    go_enter Tryz.func90, Tryz.ntmps90
    go_wp2_with fail
    go_ret
    exact ⟨rfl, HB.out⟩
/-- intent.Same. -/
theorem isame (s g s' g' : Int) (A A' : Option Addr) (n c n' c' : Nat) (D D' : Nat → Nat) (w : World) (h1 : Rd w A n D) (h2 : Rd w A' n' D') (b1 : ∀ j, j < n → D j < 256) (b2 : ∀ j, j < n' → D' j < 256)
    (t : Bool) (ht : t = true ↔ s = s' ∧ g = g' ∧ n = n' ∧ ∀ j, j < n → D j = D' j) :
    Calls Tryz.prog 108 #[iv s g A n c, iv s' g' A' n' c'] w fun e w' => e = .returned (.bool t) ∧ Below w.heap.size w w' := by
  have HT := Lib.hid ht
  obtain ⟨w1, hw1⟩ : ∃ w1, (w.alloc (.cells #[.int .i64 s, .int .i64 g, .slice A n c] 56)).alloc (.cells #[.int .i64 s', .int .i64 g', .slice A' n' c'] 56) = w1 := ⟨_, rfl⟩
  have HB1 : Hid (Below w.heap.size w w1) := Lib.hid (by rw [← hw1]; exact ((Below.refl _ _).alloc (Nat.le_refl _) _).alloc (by simp) _)
  have HW1 := Lib.hid hw1
  have HE := Lib.hid (fun t' ht' => bequal A A' n n' c c' D D' w1 (h1.keep HB1.out) (h2.keep HB1.out) b1 b2 t' ht')
  clear ht h1 h2 b1 b2 hw1
  unfold iv
  by_cases hs : s = s'
  · have e1 : (s == s') = true := beq_iff_eq.2 hs
    have HS := Lib.hid hs
    clear hs
    by_cases hg : g = g'
    · have e2 : (g == g') = true := beq_iff_eq.2 hg
      have HG := Lib.hid hg
      clear hg
      have HE2 := Lib.hid (HE.out t ⟨fun h => (HT.out.1 h).2.2, fun h => HT.out.2 ⟨HS.out, HG.out, h⟩⟩)
      go_enter Tryz.func108, Tryz.ntmps108
      go_wp2_with fail
      rw [HW1.out]
      refine HE2.out.mono ?_
      rintro e w' ⟨rfl, hw⟩
      obtain rfl := hw.symm
      go_wp2_with fail
      go_ret
      exact ⟨rfl, HB1.out⟩
    · have e2 : (g == g') = false := beq_eq_false_iff_ne.2 hg
      obtain rfl : t = false := not_true HT.out (fun h => hg h.2.1)
      clear hg
      go_enter Tryz.func108, Tryz.ntmps108
      go_wp2_with fail
      go_ret
      rw [HW1.out]
      exact ⟨rfl, HB1.out⟩
  · have e1 : (s == s') = false := beq_eq_false_iff_ne.2 hs
    obtain rfl : t = false := not_true HT.out (fun h => hs h.1)
    clear hs
    go_enter Tryz.func108, Tryz.ntmps108
    go_wp2_with fail
    go_ret
    rw [HW1.out]
    exact ⟨rfl, HB1.out⟩
theorem isameV {w : World} {v v' : Value} {x y : It} (h : ItV w v x) (h' : ItV w v' y) (hx : ∀ j, j < 128 → x.D j < 256) (hy : ∀ j, j < 128 → y.D j < 256) (t : Bool) (ht : t = true ↔ x.Alike y) :
    Calls Tryz.prog 108 #[v, v'] w fun e w' => e = .returned (.bool t) ∧ Below w.heap.size w w' := by
  obtain ⟨A, c, rfl, d⟩ := h
  obtain ⟨A', c', rfl, d'⟩ := h'
  refine isame _ _ _ _ A A' 128 c 128 c' x.D y.D w d.rd d'.rd hx hy t ⟨fun h => ?_, fun h => ht.2 ⟨by omega, by omega, h.2.2.2⟩⟩
  obtain ⟨a, b, e⟩ := ht.1 h
  exact ⟨by omega, by omega, rfl, e⟩
/-- one of corbellaw9. -/
def oneI (s g : Nat) (x : Int) : It := ⟨s, g, bytesF x⟩
theorem oneI_ok {s g : Nat} {x : Int} (hs : s < 40) (h1 : 1 ≤ g) (h2 : g ≤ 1099511627776) : (oneI s g x).Ok := ⟨hs, h1, h2, fun j _ => bytesF_lt x j⟩
def LOneI (s g : Nat) (x : Int) (w : World) (e : Ending) (w' : World) : Prop := ∃ b, e = .returned (iv (s : Int) (g : Int) (some ⟨b, 0, none⟩) 128 128) ∧ Blk8 w' b 128 (bytesF x) ∧ Below w.heap.size w w' ∧ w.heap.size ≤ b
/-- clone: the same bytes in new memory. -/
def IClone (s g : Int) (D : Nat → Nat) (w : World) (e : Ending) (w' : World) : Prop := ∃ b c, e = .returned (iv s g (some ⟨b, 0, none⟩) 128 c) ∧ Blk8 w' b 128 D ∧ Below w.heap.size w w' ∧ w.heap.size ≤ b ∧ 128 ≤ c
theorem iclone (s g : Int) (A : Option Addr) (c : Nat) (D : Nat → Nat) (w : World) (h : Rd w A 128 D) :
    Calls Tryz.prog 45 #[iv s g A 128 c] w (IClone s g D w) := by
  obtain ⟨g0, o0, rfl, _⟩ := h (by omega)
  obtain ⟨w1, hw1⟩ : ∃ w1, (w.alloc (.cells #[.int .i64 s, .int .i64 g, .slice (some ⟨g0, o0, none⟩) 128 c] 56)).alloc (.cells #[.int .i64 0, .int .i64 0, .slice none 0 0] 56) = w1 := ⟨_, rfl⟩
  have HW1 := Lib.hid hw1
  obtain ⟨H, hH⟩ : ∃ H, w.heap.size = H := ⟨_, rfl⟩
  have HH := Lib.hid hH
  have HB1 : Hid (Below H w w1) := Lib.hid (by rw [← hw1, ← hH]; exact ((Below.refl _ _).alloc (Nat.le_refl _) _).alloc (by simp) _)
  have HK1 : Hid (IV w1 H s g (some ⟨g0, o0, none⟩) 128 c) := Lib.hid (by rw [← hw1]; exact (IV.of_new hH).below ((Below.refl _ _).alloc (Nat.le_refl _) _))
  have HK2 : Hid (IV w1 (H + 1) 0 0 none 0 0) := Lib.hid (by rw [← hw1]; exact IV.of_new (by simp [hH]))
  have HC := Lib.hid (bclone ⟨g0, o0, none⟩ 128 c D w1 (h.keep (by rw [hH]; exact HB1.out)) (by omega))
  have HS1 : Hid (H + 1 < w1.heap.size) := Lib.hid HK2.out.lt
  have c2 := HK1.out.c2
  clear hw1 hH h
  unfold iv
  go_enter Tryz.func45, Tryz.ntmps45
  go_wp2_with fail
  rw [HW1.out, HH.out]
  refine HC.out.mono ?_
  rintro e w2 ⟨b, cap, rfl, ho, hb2, hl2, _, hcap⟩
  try dsimp only
  have HO2 := Lib.hid (own_blk ho)
  have HCAP := Lib.hid hcap
  have HB2 : Hid (Below H w w2) := Lib.hid (HB1.out.trans (hb2.mono (by have := HS1.out; omega)))
  have K1 := Lib.hid (HK1.out.below hb2)
  have K2 := Lib.hid (HK2.out.below hb2)
  have HL2 : Hid (H ≤ b) := Lib.hid (by have := HS1.out; omega)
  have d0 := K1.out.c0
  have d1 := K1.out.c1
  have d2 := K1.out.c2
  have df := K1.out.f
  have e0 := K2.out.c0
  have e1 := K2.out.c1
  have e2 := K2.out.c2
  have ef := K2.out.f
  clear ho hb2 hl2 hcap c2 HC
  have K3 : Hid (IV (w2.setCell ⟨H, 2, none⟩ (.slice (some ⟨b, 0, none⟩) 128 cap)) (H + 1) 0 0 none 0 0) := Lib.hid (K2.out.keep (set_other (by omega) 2 _))
  go_wp2_with fail
  refine bodyPost_ret (v := iv s g (some ⟨b, 0, none⟩) 128 cap) ?_ rfl ?_
  · rw [results_cell1 rfl]
    simp [K3.out.put.load, Result.andThen, asAddr]
  refine ⟨b, cap, rfl, ?_, ?_, by rw [HH.out]; exact HL2.out, HCAP.out⟩
  · exact (HO2.out.farI K1.out (by decide)).far3 K3.out
  · rw [HH.out]; exact below_put3 (HB2.out.setCell (p := ⟨H, 2, none⟩) (Nat.le_refl _) _) (Nat.le_succ _) _ _ _
end Go.Proofs.YtjgbfghkiahfaaaGreatDoor
