import Derived.Test.YticaoknplpgjlaaQA
import Derived.Test.YticaoknplpgjlaaChF
import Derived.Test.YticaoknplpgjlaaChT
import Derived.Deep.RegionHeld
namespace Go.Proofs.Yticaoknplpgjlaa
open Go.RowKit Go.Sort
set_option maxRecDepth 100000
set_option maxHeartbeats 2000000

theorem PV.newd (w : World) (s g i : Int) (A : Option Addr) (n c : Nat) : PV ((w.alloc (.cells #[.int .i64 s, .int .i64 g, .int .i64 i, .slice A n c] 29)).drew) w.heap.size s g i A n c := alloc_block w _
theorem CD.of_now2 {d d' : Disk} {M : Nat → Option Pc} (h : CD d M) (e : d'.now = d.now) : CD d' M :=
  ⟨fun k j hj => by rw [e]; exact h.bd k j hj, fun k hk => by rw [e]; exact h.slot k hk⟩
def NwX (w : World) (x : Nat → Option Value) : Option Pc → Prop
  | none => x 1 = some (.int .i64 0)
  | some p => PcX w x p
/-- The newest pieces that were put. -/
def NW (w : World) (ab : Nat) (M : Nat → Option Pc) : Prop := ∃ cur : Array Value, w.heap[ab]? = some (.cells cur 60 (0, 0)) ∧ cur.size = 48 ∧ ∀ k, k < 12 → NwX w (fun j => cur[4 * k + j]?) (M k)
theorem NwX.keep {w w' : World} {x : Nat → Option Value} {o : Option Pc} (h : NwX w x o) (k : ∀ (g : Nat) (cs : Array Value), w.heap[g]? = some (Obj.cells cs 5 (0, 0)) → w'.heap[g]? = w.heap[g]?) : NwX w' x o := by
  cases o with
  | none => exact h
  | some p => exact PcX.keep h k
theorem NW.keep {w w' : World} {ab : Nat} {M : Nat → Option Pc} (h : NW w ab M) (k : ∀ (g : Nat) (cs : Array Value), w.heap[g]? = some (Obj.cells cs 5 (0, 0)) → w'.heap[g]? = w.heap[g]?) (e : w'.heap[ab]? = w.heap[ab]?) : NW w' ab M := by
  obtain ⟨cur, h1, h2, h3⟩ := h
  exact ⟨cur, e.trans h1, h2, fun i hi => (h3 i hi).keep k⟩
theorem NW.lt {w : World} {ab : Nat} {M : Nat → Option Pc} (h : NW w ab M) : ab < w.heap.size := by
  obtain ⟨cur, h1, _⟩ := h
  exact heap_lt h1
theorem NW.below {w w' : World} {ab : Nat} {M : Nat → Option Pc} (h : NW w ab M) (b : Below w.heap.size w w') : NW w' ab M := h.keep (fun g _ hg => b.block g (heap_lt hg)) (b.block ab h.lt)
theorem NW.turn {w w' : World} {ab p : Nat} {S : List Nat} {N : Nat} {d : Disk} {wr : Nat} {M : Nat → Option Pc} (h : NW w ab M) (hp : Plt w p S N d wr) (t : Turn S w w') : NW w' ab M := by
  have h0 := h
  obtain ⟨cur, h1, _⟩ := h0
  exact h.keep (fun g cs hg => t.block g (heap_lt hg) (hp.notMem hg (by decide) (by decide) (by decide))) (t.block ab (heap_lt h1) (hp.notMem h1 (by decide) (by decide) (by decide)))
theorem getElem?_set4 {cur : Array Value} {o : Nat} {v0 v1 v2 v3 : Value} (h : o + 3 < cur.size) (j : Nat) : ((((cur.setIfInBounds o v0).setIfInBounds (o + 1) v1).setIfInBounds (o + 2) v2).setIfInBounds (o + 3) v3)[j]? = if j = o then some v0 else if j = o + 1 then some v1 else if j = o + 2 then some v2 else if j = o + 3 then some v3 else cur[j]? := by
  simp only [Array.getElem?_setIfInBounds, Array.size_setIfInBounds]
  by_cases e0 : j = o
  · subst e0; rw [if_neg (by omega), if_neg (by omega), if_neg (by omega), if_pos rfl, if_pos (by omega), if_pos rfl]
  · rw [if_neg e0]
    by_cases e1 : j = o + 1
    · subst e1; rw [if_neg (by omega), if_neg (by omega), if_pos rfl, if_pos (by omega), if_pos rfl]
    · rw [if_neg e1]
      by_cases e2 : j = o + 2
      · subst e2; rw [if_neg (by omega), if_pos rfl, if_pos (by omega), if_pos rfl]
      · rw [if_neg e2]
        by_cases e3 : j = o + 3
        · subst e3; rw [if_pos rfl, if_pos (by omega), if_pos rfl]
        · rw [if_neg e3, if_neg (fun e => e3 e.symm), if_neg (fun e => e2 e.symm), if_neg (fun e => e1 e.symm), if_neg (fun e => e0 e.symm)]
/-- One of them is put anew. -/
theorem NW.put {w : World} {ab k : Nat} {M : Nat → Option Pc} {p : Pc} {A : Option Addr} {c : Nat} (h : NW w ab M) (hk : k < 12) (hd : Dat w A p.D) :
    NW ((((w.setCell ⟨ab, 4 * k, none⟩ (.int .i64 (p.s : Int))).setCell ⟨ab, 4 * k + 1, none⟩ (.int .i64 (p.g : Int))).setCell ⟨ab, 4 * k + 2, none⟩ (.int .i64 (p.i : Int))).setCell ⟨ab, 4 * k + 3, none⟩ (.slice A 32 c)) ab (updM M k (some p)) := by
  obtain ⟨cur, h1, h2, h3⟩ := h
  have s1 := set_block h1 (4 * k) (.int .i64 (p.s : Int))
  have s2 := set_block s1 (4 * k + 1) (.int .i64 (p.g : Int))
  have s3 := set_block s2 (4 * k + 2) (.int .i64 (p.i : Int))
  have s4 := set_block s3 (4 * k + 3) (.slice A 32 c)
  have hby : ∀ (g : Nat) (cs : Array Value), w.heap[g]? = some (Obj.cells cs 5 (0, 0)) → ((((w.setCell ⟨ab, 4 * k, none⟩ (.int .i64 (p.s : Int))).setCell ⟨ab, 4 * k + 1, none⟩ (.int .i64 (p.g : Int))).setCell ⟨ab, 4 * k + 2, none⟩ (.int .i64 (p.i : Int))).setCell ⟨ab, 4 * k + 3, none⟩ (.slice A 32 c)).heap[g]? = w.heap[g]? := by
    intro g cs hg
    have hne : g ≠ ab := by rintro rfl; rw [h1] at hg; cases hg
    rw [set_other hne, set_other hne, set_other hne, set_other hne]
  refine ⟨_, s4, by simpa using h2, fun i hi => ?_⟩
  unfold updM
  by_cases e : i = k
  · subst e
    rw [if_pos rfl]
    refine ⟨A, c, ?_, ?_, ?_, ?_, hd.keep hby⟩
    all_goals
      dsimp only
      rw [getElem?_set4 (by omega)]
    · rw [if_pos (by omega)]
    · rw [if_neg (by omega), if_pos (by omega)]
    · rw [if_neg (by omega), if_neg (by omega), if_pos (by omega)]
    · rw [if_neg (by omega), if_neg (by omega), if_neg (by omega), if_pos (by omega)]
  · rw [if_neg e]
    have hx := (h3 i hi).keep hby
    have ec : ∀ j, j < 4 → ((((cur.setIfInBounds (4 * k) (.int .i64 (p.s : Int))).setIfInBounds (4 * k + 1) (.int .i64 (p.g : Int))).setIfInBounds (4 * k + 2) (.int .i64 (p.i : Int))).setIfInBounds (4 * k + 3) (.slice A 32 c))[4 * i + j]? = cur[4 * i + j]? := fun j hj => by
      rw [getElem?_set4 (by omega), if_neg (by omega), if_neg (by omega), if_neg (by omega), if_neg (by omega)]
    generalize M i = mo at hx ⊢
    cases mo with
    | none => exact (ec 1 (by omega)).trans hx
    | some q => exact PcX.congr (x := fun j => cur[4 * i + j]?) hx ec
theorem NW.cells {w : World} {ab k : Nat} {M : Nat → Option Pc} (h : NW w ab M) (hk : k < 12) : (∀ j, j < 4 → ∃ v, w.cell? ⟨ab, 4 * k + j, none⟩ = some v) ∧ (∀ j, w.frozen? ⟨ab, j, none⟩ = false) := by
  obtain ⟨cur, h1, h2, h3⟩ := h
  exact ⟨fun j hj => ⟨_, (cell_of_block h1).trans (Array.getElem?_eq_getElem (by omega))⟩, fun j => free_of_block h1⟩
theorem NW.gen {w : World} {ab k : Nat} {M : Nat → Option Pc} (h : NW w ab M) (hk : k < 12) : ∃ g : Nat, w.cell? ⟨ab, 4 * k + 1, none⟩ = some (.int .i64 (g : Int)) ∧ (M k = none → g = 0) ∧ ∀ p, M k = some p → g = p.g := by
  obtain ⟨cur, h1, h2, h3⟩ := h
  have hx := h3 k hk
  generalize M k = mo at hx ⊢
  cases mo with
  | none => exact ⟨0, (cell_of_block h1).trans hx, fun _ => rfl, fun p e => (by cases e)⟩
  | some q =>
    obtain ⟨A, c, a, b, _⟩ := hx
    exact ⟨q.g, (cell_of_block h1).trans b, fun e => (by cases e), fun p e => (by cases e; rfl)⟩
theorem NW.some {w : World} {ab k : Nat} {M : Nat → Option Pc} {p : Pc} (h : NW w ab M) (hk : k < 12) (e : M k = some p) : ∃ A c, w.cell? ⟨ab, 4 * k, none⟩ = some (.int .i64 (p.s : Int)) ∧ w.cell? ⟨ab, 4 * k + 1, none⟩ = some (.int .i64 (p.g : Int)) ∧ w.cell? ⟨ab, 4 * k + 2, none⟩ = some (.int .i64 (p.i : Int)) ∧ w.cell? ⟨ab, 4 * k + 3, none⟩ = some (.slice A 32 c) ∧ Dat w A p.D := by
  obtain ⟨cur, h1, h2, h3⟩ := h
  have hx := h3 k hk
  rw [e] at hx
  obtain ⟨A, c, a, b, d, f, g⟩ := hx
  exact ⟨A, c, (cell_of_block h1).trans a, (cell_of_block h1).trans b, (cell_of_block h1).trans d, (cell_of_block h1).trans f, g⟩
/-- What stands while the acts go on. -/
def ApSt (w0 : World) (p ab i : Nat) (v : World) : Prop := ∃ S d M, Plt v p S 96 d i ∧ (∀ k ∈ S, w0.heap.size ≤ k) ∧ CD d M ∧ (∀ k x, M k = some x → x.Ok ∧ atP x = k) ∧ NW v ab M ∧ Below w0.heap.size w0 v ∧ w0.heap.size ≤ ab
theorem mem_srt {l : List Pc} {p : Pc} (h : p ∈ srt l) : p ∈ l := by
  unfold srt at h
  split at h
  · split at h
    · simp at h ⊢; exact h.symm
    · exact h
  · exact h
theorem len_srt (l : List Pc) : (srt l).length = l.length := by
  unfold srt
  split
  · split <;> rfl
  · rfl
theorem two_mem {M : Nat → Option Pc} (hM : ∀ k x, M k = some x → x.Ok ∧ atP x = k) {s : Nat} {p : Pc} (h : p ∈ two (M (2 * s)) (M (2 * s + 1))) : p.Ok ∧ p.s = s ∧ M (2 * s + p.g % 2) = some p := by
  have h1 := mem_srt h
  rw [List.mem_append] at h1
  rcases h1 with h1 | h1
  · have e : M (2 * s) = some p := by simpa [Option.mem_toList] using h1
    obtain ⟨a, b⟩ := hM _ _ e
    unfold atP at b
    exact ⟨a, by omega, by rw [show p.g % 2 = 0 by omega]; exact e⟩
  · have e : M (2 * s + 1) = some p := by simpa [Option.mem_toList] using h1
    obtain ⟨a, b⟩ := hM _ _ e
    unfold atP at b
    exact ⟨a, by omega, by rw [show p.g % 2 = 1 by omega]; exact e⟩
def cn (o : Option Pc) : Nat := if o.isSome then 1 else 0
def cnt (M : Nat → Option Pc) (s : Nat) : Nat → Nat
  | 0 => 0
  | k + 1 => cnt M s k + cn (M (2 * s + k))
theorem cnt_le (M : Nat → Option Pc) (s : Nat) : ∀ k, cnt M s k ≤ k
  | 0 => Nat.le_refl _
  | k + 1 => by
    have := cnt_le M s k
    unfold cnt cn
    split <;> omega
theorem two_len (a b : Option Pc) : (two a b).length = cn a + cn b := by
  unfold two
  rw [len_srt, List.length_append]
  cases a <;> cases b <;> rfl
theorem two_ord {a b : Option Pc} {p q : Pc} (h : two a b = [p, q]) : ¬ p.g < q.g := by
  unfold two srt at h
  split at h
  · split at h
    · simp at h; obtain ⟨rfl, rfl⟩ := h; omega
    · simp at h; obtain ⟨rfl, rfl⟩ := h; omega
  · rename_i hn
    exact absurd h (hn p q)
theorem Plt.setOther {w : World} {p : Nat} {S : List Nat} {N : Nat} {d : Disk} {wr b k : Nat} {v : Value} {cs : Array Value} {fr : Nat × Nat} (h : Plt w p S N d wr) (hb : w.heap[b]? = some (.cells cs 60 fr)) : Plt (w.setCell ⟨b, k, none⟩ v) p S N d wr :=
  h.same ⟨fun g cs' hg => set_other (by rintro rfl; rw [hb] at hg; cases hg) k v, fun i hi => set_other (by rintro rfl; exact h.notMem hb (by decide) (by decide) (by decide) hi) k v⟩
theorem ApSt.below {w0 v v' : World} {p ab i : Nat} (h : ApSt w0 p ab i v) (b : Below v.heap.size v v') : ApSt w0 p ab i v' := by
  obtain ⟨S, d, M, h1, h2, h3, h4, h5, h6, h7⟩ := h
  exact ⟨S, d, M, h1.below b, h2, h3, h4, h5.below b, h6.trans (b.mono h6.size), h7⟩
/-- What stands behind a store into the newest. -/
theorem ap_put {w0 w4 : World} {p ab i k : Nat} {S : List Nat} {d : Disk} {M : Nat → Option Pc} {P : Pc} {A : Option Addr} {c : Nat} (h1 : Plt w4 p S 96 d (i + 1)) (h2 : ∀ j ∈ S, w0.heap.size ≤ j) (h3 : CD d (updM M k (some P))) (h4 : ∀ k x, M k = some x → x.Ok ∧ atP x = k) (h5 : NW w4 ab M) (h6 : Below w0.heap.size w0 w4) (h7 : w0.heap.size ≤ ab) (hk : k < 12) (hP : P.Ok) (hat : atP P = k) (hd : Dat w4 A P.D) :
    ApSt w0 p ab (i + 1) ((((w4.setCell ⟨ab, 4 * k, none⟩ (.int .i64 (P.s : Int))).setCell ⟨ab, 4 * k + 1, none⟩ (.int .i64 (P.g : Int))).setCell ⟨ab, 4 * k + 2, none⟩ (.int .i64 (P.i : Int))).setCell ⟨ab, 4 * k + 3, none⟩ (.slice A 32 c)) := by
  have hn := NW.put (c := c) h5 hk hd
  obtain ⟨cur, hc, _⟩ := h5
  have s1 := set_block hc (4 * k) (.int .i64 (P.s : Int))
  have s2 := set_block s1 (4 * k + 1) (.int .i64 (P.g : Int))
  have s3 := set_block s2 (4 * k + 2) (.int .i64 (P.i : Int))
  refine ⟨S, d, _, (((h1.setOther hc).setOther s1).setOther s2).setOther s3, h2, h3, fun j x hx => ?_, hn, (((h6.setCell h7 _).setCell h7 _).setCell h7 _).setCell h7 _, h7⟩
  unfold updM at hx
  split at hx
  · rename_i e
    cases hx
    exact ⟨hP, by omega⟩
  · exact h4 j x hx
theorem chunkApart (A : Option Addr) (L : List A8) (c0 : Nat) (w : World) (hL : A8In w A L) (hl : L.length ≤ 9223372036854775807) :
    Calls Try.prog 7 #[.slice A L.length c0] w fun e w' => e = .returned (.bool true) ∧ Below w.heap.size w w' := by
  have HLL := Lib.hid hL
  obtain ⟨m, hm⟩ : ∃ m, L.length = m := ⟨_, rfl⟩
  rw [hm] at hl ⊢
  have HM := Lib.hid hm
  have HNW := Lib.hid (dnew_of w 96 96 (by omega) rfl)
  clear hL hm
  go_enter Try.func7, Try.ntmps7
  go_wp2_with fail
  refine HNW.out.mono ?_
  rintro e w1 ⟨p, S1, rfl, hp1, hb1, hS1⟩
  try dsimp only
  have HP1 := Lib.hid hp1
  have HB1 := Lib.hid hb1
  have HS1 := Lib.hid hS1
  clear hp1 hb1 hS1 HNW
  go_wp2_with fail
  refine (lknown8 w1).mono ?_
  rintro e w2 ⟨rfl, hb2⟩
  try dsimp only
  have HP2 := Lib.hid (HP1.out.below hb2)
  have HB2 : Hid (Below w.heap.size w w2) := Lib.hid (HB1.out.trans (hb2.mono HB1.out.size))
  clear hb2 HP1 HB1
  have HPZ : Hid (∃ zs : Array Value, zs.size = 48 ∧ (∀ k, k < 12 → zs[4 * k + 1]? = some (.int .i64 0)) ∧ zs = #[.int .i64 0, .int .i64 0, .int .i64 0, .slice none 0 0, .int .i64 0, .int .i64 0, .int .i64 0, .slice none 0 0, .int .i64 0, .int .i64 0, .int .i64 0, .slice none 0 0, .int .i64 0, .int .i64 0, .int .i64 0, .slice none 0 0, .int .i64 0, .int .i64 0, .int .i64 0, .slice none 0 0, .int .i64 0, .int .i64 0, .int .i64 0, .slice none 0 0, .int .i64 0, .int .i64 0, .int .i64 0, .slice none 0 0, .int .i64 0, .int .i64 0, .int .i64 0, .slice none 0 0, .int .i64 0, .int .i64 0, .int .i64 0, .slice none 0 0, .int .i64 0, .int .i64 0, .int .i64 0, .slice none 0 0, .int .i64 0, .int .i64 0, .int .i64 0, .slice none 0 0, .int .i64 0, .int .i64 0, .int .i64 0, .slice none 0 0]) := Lib.hid ⟨_, rfl, fun k hk => by
    have : k = 0 ∨ k = 1 ∨ k = 2 ∨ k = 3 ∨ k = 4 ∨ k = 5 ∨ k = 6 ∨ k = 7 ∨ k = 8 ∨ k = 9 ∨ k = 10 ∨ k = 11 := by omega
    rcases this with rfl | rfl | rfl | rfl | rfl | rfl | rfl | rfl | rfl | rfl | rfl | rfl <;> rfl, rfl⟩
  go_wp2_with fail
  obtain ⟨zs, hz1, hz2, hz3⟩ := HPZ.out
  rw [← hz3]
  have HST : Hid (ApSt w p w2.heap.size 0 (w2.alloc (.cells zs 60))) := Lib.hid ⟨S1, Disk.blank, fun _ => none, HP2.out.below ((Below.refl _ _).alloc (Nat.le_refl _) _), HS1.out, CD.blank, fun k x e => (by cases e), ⟨zs, alloc_block _ _, hz1, fun k hk => hz2 k hk⟩, HB2.out.alloc HB2.out.size _, HB2.out.size⟩
  obtain ⟨ab, hab⟩ : ∃ ab, w2.heap.size = ab := ⟨_, rfl⟩
  rw [hab] at HST ⊢
  clear hz1 hz2 hz3 HPZ HP2 HB2 HS1 hab
  generalize w2.alloc (.cells zs 60) = w3 at *
  obtain ⟨n, hn⟩ : ∃ n, n = min m 40 := ⟨_, rfl⟩
  have n40 : n ≤ 40 := by omega
  have nm : n ≤ m := by omega
  have HN : Hid (n = min m 40) := Lib.hid hn
  clear hn
  go_loopg [5] n (fun q s5 v => ∃ i : Nat, s5 = .int .i64 (i : Int) ∧ i ≤ n ∧ q = n - i ∧ Hid (ApSt w p ab i v))
  case atStart => exact ⟨0, rfl, by omega, rfl, HST⟩
  case round =>
    obtain ⟨i, rfl, hi, rfl, HV⟩ := hrel
    clear HST
    by_cases hlt : i < n
    · have t1 : (i : Int) < (m : Int) := by omega
      have t2 : (i : Int) < 40 := by omega
      obtain ⟨x, hx⟩ : ∃ x, L[i]? = some x := ⟨_, List.getElem?_eq_getElem (by rw [HM.out]; omega)⟩
      obtain ⟨g, o, rfl, hg, hat, _, _, _⟩ := HLL.out i x hx
      have HAT := Lib.hid hat
      have HGL := Lib.hid hg
      obtain ⟨S, d, M, hp, hS, hcd, hM, hnw, hbl, hab⟩ := HV.out
      have HP := Lib.hid hp
      have HS := Lib.hid hS
      have HCD := Lib.hid hcd
      have HMM := Lib.hid hM
      have HNW := Lib.hid hnw
      have HB := Lib.hid hbl
      have HAB := Lib.hid hab
      have HCX : Hid (∀ W, Below wr.heap.size wr W → W.cell? ⟨g, o + i * 8 + 1, none⟩ = some (.int .i64 x.stripe) ∧ W.cell? ⟨g, o + i * 8 + 2, none⟩ = some (.int .i64 x.gen) ∧ W.cell? ⟨g, o + i * 8 + 3, none⟩ = some (.int .i64 x.index) ∧ W.cell? ⟨g, o + i * 8 + 4, none⟩ = some (.int .i64 x.seed)) := Lib.hid (fun W hW => by
        have h := hat.keep ((hbl.trans (hW.mono hbl.size)).block g hg)
        exact ⟨h.2.1, h.2.2.1, h.2.2.2.1, h.2.2.2.2.1⟩)
      clear hx hat hg hp hS hcd hM hnw hbl hab HV
      obtain ⟨s6, hs6, HPK0⟩ := rpickN x.stripe 6 (by omega) (by omega)
      have HPK : Hid (∀ W : World, Calls Try.prog 24 #[.int .i64 x.stripe, .int .i64 6] W fun e w' => e = .returned (.int .i64 (s6 : Int)) ∧ w' = W) := Lib.hid HPK0
      obtain ⟨gg, hgg⟩ : ∃ gg : Nat, (gg : Int) = 1 + x.gen % 9 := ⟨(1 + x.gen % 9).toNat, by omega⟩
      obtain ⟨ii, hii⟩ : ∃ ii : Nat, (ii : Int) = x.index % 6 := ⟨(x.index % 6).toNat, by omega⟩
      have g1 : 1 ≤ gg := by omega
      have g9 : gg ≤ 9 := by omega
      have i6 : ii < 6 := by omega
      have HGP : Hid (∀ W, Calls Try.prog 20 #[.int .i64 (s6 : Int), .int .i64 x.gen, .int .i64 x.index, .int .i64 x.seed, .int .i64 0] W (GPRet (s6 : Int) (gg : Int) (ii : Int) 32 x.seed W)) := Lib.hid (fun W => by
        have h := gpiece0 (s6 : Int) x.gen x.index x.seed 0 W (by decide) (by decide) (by decide) (by decide) (by decide)
        rwa [show (s6 : Int) % 40 = (s6 : Int) by omega, ← hgg, ← hii] at h)
      clear HPK0 hgg hii
      have hbW : Below wr.heap.size wr wr.drew := below_drewN 1 wr
      go_upto_region 8 with fail
      go_cut [6] from 30 to 51 (fun s6' wx => ∃ pb A5 c5, s6' = .pointer (some ⟨pb, 0, none⟩) ∧ Hid (PV wx pb (s6 : Int) (gg : Int) (ii : Int) A5 32 c5 ∧ Dat wx A5 (bytesF x.seed) ∧ Below wr.heap.size wr wx))
      case first =>
        go_wp2_with fail
        first
          | (go_region_held (fun W => W.cell? ⟨g, o + i * 8 + 1, none⟩ = some (.int .i64 x.stripe) ∧ W.cell? ⟨g, o + i * 8 + 2, none⟩ = some (.int .i64 x.gen) ∧ W.cell? ⟨g, o + i * 8 + 3, none⟩ = some (.int .i64 x.index) ∧ W.cell? ⟨g, o + i * 8 + 4, none⟩ = some (.int .i64 x.seed))
          (first | (with_reducible assumption) | (with_reducible exact (HCX.out _ hbW)) | (with_reducible exact (HCX.out _ (hbW.alloc hbW.size _))) | (with_reducible exact (HCX.out _ (((Below.refl _ _).alloc (Nat.le_refl _) _).drew))) | (with_reducible exact (HCX.out _ (below_put4 hbW HPB.out _ _ _ _))))
          (first
            | (go_at_call 24; (with_reducible refine (HPK.out _).mono ?_); rintro e wn ⟨rfl, hw⟩; obtain rfl := hw.symm; (try dsimp only))
            | (go_at_call 20; (with_reducible refine (HGP.out _).mono ?_); rintro e w5 ⟨b5, rfl, k5, hb5, l5⟩; (try dsimp only); have HK5 := Lib.hid k5; have hbW5 : Below wr.heap.size wr w5 := (by first | exact hbW.trans (hb5.mono hbW.size) | exact (hbW.alloc hbW.size _).trans (hb5.mono (hbW.alloc hbW.size _).size)); (first | (have HPZ := Lib.hid (PV.below (PV.newd wr 0 0 0 none 0 0) hb5); have y0 := HPZ.out.c0; have y1 := HPZ.out.c1; have y2 := HPZ.out.c2; have y3 := HPZ.out.c3; have yf := HPZ.out.f; have HPB : Hid (wr.heap.size ≤ wr.heap.size) := Lib.hid (Nat.le_refl _)) | skip); clear k5 hb5 l5 hbW; have hbW := hbW5)
            | fail))
          | fail
        all_goals
          go_wp2_with fail
          go_meet
          first
            | exact ⟨wr.heap.size, _, _, rfl, Lib.hid ⟨HPZ.out.put, (Dat.blk HK5.out).far4 HPZ.out, below_put4 hbW (Nat.le_refl _) _ _ _ _⟩⟩
            | exact ⟨w5.heap.size, _, _, rfl, Lib.hid ⟨PV.new w5 _ _ _ _ _ _, (Dat.blk HK5.out).below ((Below.refl _ _).alloc (Nat.le_refl _) _), hbW.alloc hbW.size _⟩⟩
      case rest =>
        obtain ⟨pb, A5, c5, rfl, HX⟩ := hcut
        have HPV := Lib.hid HX.out.1
        have HD := Lib.hid HX.out.2.1
        have hwc := HX.out.2.2
        have HP1 := Lib.hid (HP.out.below hwc)
        have HNW1 := Lib.hid (HNW.out.below hwc)
        have HB1 : Hid (Below w.heap.size w wc) := Lib.hid (HB.out.trans (hwc.mono HB.out.size))
        have HPC := Lib.hid (oneP_ok (x := x.seed) (by omega) g1 (by omega) i6 : (oneP s6 gg ii x.seed).Ok)
        have HPU := Lib.hid (cput HP1.out (by omega) (oneP s6 gg ii x.seed) HPC.out A5 c5 HD.out.rd (by omega))
        have c0' := HPV.out.c0
        have c1' := HPV.out.c1
        have c2' := HPV.out.c2
        have c3' := HPV.out.c3
        clear HX hwc HP HNW HB HCX HGP HPK hbW
        go_wp2_with fail
        refine HPU.out.mono ?_
        rintro e w4 ⟨S4, rfl, hp4, hs4⟩
        try dsimp only
        have HP4 := Lib.hid hp4
        have HST4 := Lib.hid (Below.step HB1.out hs4 HS.out HB1.out.size)
        have HNW4 := Lib.hid (HNW1.out.turn HP1.out hs4.turn)
        have HD4 : Hid (Dat w4 A5 (bytesF x.seed)) := Lib.hid (HD.out.keep (fun q cs hq => hs4.turn.block q (heap_lt hq) (HP1.out.notMem hq (by decide) (by decide) (by decide))))
        have HPV4 : Hid (PV w4 pb (s6 : Int) (gg : Int) (ii : Int) A5 32 c5) := Lib.hid (HPV.out.keep (hs4.turn.block pb HPV.out.lt (HP1.out.notMem HPV.out (by decide) (by decide) (by decide))))
        have HCD4 := Lib.hid (HCD.out.put HPC.out)
        obtain ⟨t, ht⟩ : ∃ t, gg % 2 = t := ⟨_, rfl⟩
        have tm : (gg : Int).tmod 2 = (t : Int) := by rw [Int.tmod_eq_emod_of_nonneg (by omega)]; omega
        have t2' : t < 2 := by omega
        have HKK : Hid (s6 * 8 + t * 4 = 4 * (2 * s6 + t)) := Lib.hid (by omega)
        have HATP : Hid (atP (oneP s6 gg ii x.seed) = 2 * s6 + t) := Lib.hid (by show 2 * s6 + gg % 2 = _; rw [ht])
        clear ht
        have hK := HNW4.out.cells (k := 2 * s6 + t) (by omega)
        obtain ⟨u0, x0⟩ := hK.1 0 (by omega)
        obtain ⟨u1, x1⟩ := hK.1 1 (by omega)
        obtain ⟨u2', x2⟩ := hK.1 2 (by omega)
        obtain ⟨u3, x3⟩ := hK.1 3 (by omega)
        have xf := hK.2
        rw [← HKK.out] at x0 x1 x2 x3
        rw [Nat.add_zero] at x0
        have hab4 := HNW4.out.lt
        clear c0' c1' c2' c3' hp4 hs4 hK HPU HP1 HNW1 HD HPV HB1 HCD
        have c0' := HPV4.out.c0
        have c1' := HPV4.out.c1
        have c2' := HPV4.out.c2
        have c3' := HPV4.out.c3
        have s6i : (s6 : Int) < 6 := by omega
        have ti : (t : Int) < 2 := by omega
        have HP5 : Hid (ApSt w p ab (i + 1) ((((w4.setCell ⟨ab, s6 * 8 + t * 4, none⟩ (.int .i64 (s6 : Int))).setCell ⟨ab, s6 * 8 + t * 4 + 1, none⟩ (.int .i64 (gg : Int))).setCell ⟨ab, s6 * 8 + t * 4 + 2, none⟩ (.int .i64 (ii : Int))).setCell ⟨ab, s6 * 8 + t * 4 + 3, none⟩ (.slice A5 32 c5))) := Lib.hid (by
          have h := ap_put (A := A5) (c := c5) HP4.out HST4.out.2 (by rw [← HATP.out]; exact HCD4.out) HMM.out HNW4.out HST4.out.1 HAB.out (by omega) HPC.out HATP.out HD4.out
          rw [← HKK.out] at h
          exact h)
        clear HP4 HST4 HNW4 HD4 HCD4 HMM HAB HPC HATP HKK HS
        go_upto_region 11 with fail
        go_cut [] from 56 to 63 (fun wx => Hid (ApSt w p ab (i + 1) wx))
        case first =>
          go_wp2_with fail
          go_region
          all_goals
            go_wp2_with fail
            go_meet
            exact Lib.hid (HP5.out.below (below_drewN 1 _))
        case rest =>
          have HA5 := hcut
          clear hcut HP5 HPV4 x0 x1 x2 x3 xf hab4 c0' c1' c2' c3'
          obtain ⟨S5, d5, M5, q1, q2, q3, q4, q5, q6, q7⟩ := HA5.out
          have Q1 := Lib.hid q1
          have Q2 := Lib.hid q2
          have Q3 := Lib.hid q3
          have Q4 := Lib.hid q4
          have Q5 := Lib.hid q5
          have Q6 := Lib.hid q6
          have Q7 := Lib.hid q7
          have zw := (HAT.out.keep (q6.block g HGL.out)).1
          clear q1 q2 q3 q4 q5 q6 q7
          go_upto_if 70 with fail
          go_cut [] from 69 to 72 (fun wx => Hid (ApSt w p ab (i + 1) wx))
          case first =>
            rcases hwb : (x.what.tmod 5 == 0) with _ | _
            · go_wp2_with fail
              go_meet
              exact HA5
            · have HFL := Lib.hid (dflush Q1.out)
              go_wp2_with fail
              refine HFL.out.mono ?_
              rintro e w6 ⟨S6, rfl, hp6, hs6'⟩
              try dsimp only
              have hst := Below.step Q6.out hs6' Q2.out Q6.out.size
              have HZ : Hid (ApSt w p ab (i + 1) w6) := Lib.hid ⟨S6, _, M5, hp6, hst.2, Q3.out.of_now2 (now_flush _), Q4.out, Q5.out.turn Q1.out hs6'.turn, hst.1, Q7.out⟩
              clear hp6 hs6' hst
              go_wp2_with fail
              go_meet
              exact HZ
          case rest =>
            have HA6 := hcut
            clear hcut HA5 Q1 Q2 Q3 Q4 Q5 Q6 Q7 zw
            go_wp2_with fail
            go_loopg [73] 6 (fun q s73 v => ∃ s : Nat, s73 = .int .i64 (s : Int) ∧ s ≤ 6 ∧ q = 6 - s ∧ Hid (ApSt w p ab (i + 1) v))
            case atStart => exact ⟨0, rfl, by omega, rfl, HA6⟩
            case round =>
              obtain ⟨s, rfl, hs6'', rfl, HV⟩ := hrel
              by_cases hslt : s < 6
              · have hsl : (s : Int) < 6 := by omega
                obtain ⟨S7, d7, M7, q1, q2, q3, q4, q5, q6, q7⟩ := HV.out
                have Q1 := Lib.hid q1
                have Q4 := Lib.hid q4
                have Q5 := Lib.hid q5
                have Q6 := Lib.hid q6
                have HGT := Lib.hid (cgetD q1 q3 (by omega) s (by omega))
                obtain ⟨l, hl'⟩ : ∃ l, two (M7 (2 * s)) (M7 (2 * s + 1)) = l := ⟨_, rfl⟩
                have HLQ := Lib.hid hl'
                rw [hl'] at HGT
                have HLM : Hid (∀ q ∈ l, q.Ok ∧ q.s = s ∧ M7 (2 * s + q.g % 2) = some q) := Lib.hid (fun q hq => two_mem q4 (by rw [hl']; exact hq))
                have HLC : Hid (l.length = cn (M7 (2 * s)) + cn (M7 (2 * s + 1))) := Lib.hid (by rw [← hl']; exact two_len _ _)
                have HLO : Hid (∀ q r, l = [q, r] → ¬ q.g < r.g) := Lib.hid (fun q r e => two_ord (hl'.trans e))
                clear q1 q2 q3 q4 q5 q6 q7 hl'
                go_wp2_with fail
                refine HGT.out.mono ?_
                rintro e w8 ⟨v8, rfl, hl8, hb8⟩
                try dsimp only
                have HL8 := Lib.hid hl8
                have HB8 := Lib.hid hb8
                have HA8 := Lib.hid (HV.out.below hb8)
                have HNW8 := Lib.hid (Q5.out.below hb8)
                have HB8w : Hid (Below w.heap.size w w8) := Lib.hid (Q6.out.trans (hb8.mono Q6.out.size))
                obtain ⟨A8', c8, hv8⟩ := hl8.form
                have hl2 : l.length ≤ 2 := by rw [HLC.out]; unfold cn; split <;> split <;> omega
                subst hv8
                obtain ⟨ll, hll⟩ : ∃ ll, l.length = ll := ⟨_, rfl⟩
                have HLLL := Lib.hid hll
                rw [hll] at hl2 ⊢
                clear hl8 hb8 hll HGT HV
                go_wp2_with fail
                go_loopg [9, 79] 2 (fun q s9 s79 v => ∃ k : Nat, s79 = .int .i64 (k : Int) ∧ k ≤ 2 ∧ q = 2 - k ∧ s9 = .int .i64 (cnt M7 s k : Nat) ∧ w8 = v)
                case atStart => exact ⟨0, rfl, by omega, rfl, rfl, rfl⟩
                case round =>
                  obtain ⟨k, rfl, hk2, rfl, rfl, rfl⟩ := hrel
                  by_cases hklt : k < 2
                  · have hkl : (k : Int) < 2 := by omega
                    obtain ⟨gk, hgk, hg0, hg1⟩ := HNW8.out.gen (k := 2 * s + k) (by omega)
                    rw [show 4 * (2 * s + k) = s * 8 + k * 4 by omega] at hgk
                    have hcl := cnt_le M7 s k
                    have HCN : Hid (cnt M7 s (k + 1) = cnt M7 s k + cn (M7 (2 * s + k))) := Lib.hid rfl
                    rcases hM : M7 (2 * s + k) with _ | y
                    · obtain rfl := hg0 hM
                      rw [hM] at HCN
                      clear hg0 hg1 hM
                      go_wp2_with fail
                      go_roundg (2 - (k + 1))
                      case measure => omega
                      case rel => exact ⟨k + 1, by go_num, by omega, rfl, by rw [HCN.out]; simp [cn], rfl⟩
                    · obtain rfl := hg1 y hM
                      have hy1 : 0 < y.g := (Q4.out _ _ hM).1.2.1
                      have hy2 : (0 : Int) < (y.g : Int) := by omega
                      rw [hM] at HCN
                      clear hg0 hg1 hM
                      go_wp2_with fail
                      go_roundg (2 - (k + 1))
                      case measure => omega
                      case rel => exact ⟨k + 1, by go_num, by omega, rfl, by rw [HCN.out]; simp [cn], rfl⟩
                  · obtain rfl : k = 2 := by omega
                    have HCE : cnt M7 s 2 = ll := by
                      have h := HLC.out
                      rw [HLLL.out] at h
                      rw [h]
                      show 0 + cn (M7 (2 * s + 0)) + cn (M7 (2 * s + 1)) = _
                      rw [Nat.zero_add, Nat.add_zero]
                    rw [HCE]
                    clear HCE hklt
                    go_upto_region 25 with fail
                    go_cut [110] from 92 to 110 (fun s110 wx => s110 = .bool false ∧ Hid (Below w8.heap.size w8 wx))
                    case first =>
                      by_cases h2 : ll = 2
                      · subst h2
                        obtain ⟨y, z, hyz⟩ : ∃ y z, l = [y, z] := by
                          have h := HLLL.out
                          match l, h with
                          | [y, z], _ => exact ⟨y, z, rfl⟩
                        have hord := HLO.out y z hyz
                        have HORD := Lib.hid hord
                        have hl8 := HL8.out
                        rw [hyz] at hl8
                        obtain ⟨bb, cc, Ay, Az, cy, cz, hvv, _, _, _, hC8⟩ := hl8.two
                        injection hvv with e1 e2 e3
                        subst e1
                        have hc := hC8 w8 (Below.refl _ _)
                        have g1' := hc.2.1
                        have g2' := hc.2.2.2.2.2.1
                        have hord' : ¬ (y.g : Int) < (z.g : Int) := by omega
                        have hordb : decide ((y.g : Int) < (z.g : Int)) = false := decide_eq_false hord'
                        clear hc hC8 hl8 hyz hord e2 e3
                        go_wp2_with fail
                        go_big_quiet (fail)
                        go_wp2_with fail
                        go_meet
                        exact ⟨by rw [decide_eq_false HORD.out], Lib.hid (by first | exact below_drewN _ _ | exact Below.refl _ _)⟩
                      · have h2b : ((ll : Int) == 2) = false := beq_eq_false_iff_ne.2 (by omega)
                        clear h2
                        go_wp2_with fail
                        go_big_quiet (fail)
                        go_wp2_with fail
                        go_meet
                        exact ⟨rfl, Lib.hid (by first | exact below_drewN _ _ | exact Below.refl _ _)⟩
                    case rest =>
                      obtain ⟨rfl, HWC⟩ := hcut
                      go_wp2_with fail
                      go_loopg [113] ll (fun q s113 v => ∃ j : Nat, s113 = .int .i64 (j : Int) ∧ j ≤ ll ∧ q = ll - j ∧ Hid (Below w8.heap.size w8 v))
                      case atStart => exact ⟨0, rfl, by omega, rfl, HWC⟩
                      case round =>
                        obtain ⟨j, rfl, hj, rfl, HJ⟩ := hrel
                        by_cases hjl : j < ll
                        · have hjl' : (j : Int) < (ll : Int) := by omega
                          obtain ⟨y, hy⟩ : ∃ y, l[j]? = some y := ⟨_, List.getElem?_eq_getElem (by rw [HLLL.out]; exact hjl)⟩
                          obtain ⟨yo, ys, yM⟩ := HLM.out y (List.mem_of_getElem? hy)
                          obtain ⟨bb, cc, Ay, dy, hvv, _, hbl, a0, a1, a2, a3, aD⟩ := (HL8.out.below HJ.out).at hy
                          injection hvv with e1 e2 e3
                          subst e1
                          rw [Nat.mul_comm 4 j] at a0 a1 a2 a3
                          obtain ⟨t, ht⟩ : ∃ t, y.g % 2 = t := ⟨_, rfl⟩
                          rw [ht] at yM
                          obtain ⟨An, cn', n0, n1', n2, n3, nD⟩ := (HNW8.out.below HJ.out).some (by omega) yM
                          rw [show 4 * (2 * s + t) = s * 8 + t * 4 by omega] at n0 n1' n2 n3
                          have tm : (y.g : Int).tmod 2 = (t : Int) := by rw [Int.tmod_eq_emod_of_nonneg (by omega)]; omega
                          have t2' : (t : Int) < 2 := by omega
                          have es : ((y.s : Int) != (s : Int)) = false := by rw [ys]; simp
                          have es2 : ((s : Int) != (s : Int)) = false := by simp
                          obtain ⟨w9, hw9⟩ : ∃ w9, wr.alloc (.cells #[.int .i64 (y.s : Int), .int .i64 (y.g : Int), .int .i64 (y.i : Int), .slice Ay 32 dy] 29) = w9 := ⟨_, rfl⟩
                          have hb9 : Below wr.heap.size wr w9 := by rw [← hw9]; exact (Below.refl _ _).alloc (Nat.le_refl _) _
                          have HX9 : Hid (PV w9 wr.heap.size (y.s : Int) (y.g : Int) (y.i : Int) Ay 32 dy) := Lib.hid (by rw [← hw9]; exact PV.new wr _ _ _ _ _ _)
                          have HN9 := Lib.hid ((HNW8.out.below HJ.out).below hb9)
                          have HDY := Lib.hid (aD.below hb9)
                          have HDN := Lib.hid (nD.below hb9)
                          have HJ9 : Hid (Below w8.heap.size w8 w9) := Lib.hid (HJ.out.trans (hb9.mono HJ.out.size))
                          have HW9 := Lib.hid hw9
                          have nb := hb9.cell (p := ⟨ab, s * 8 + t * 4, none⟩) (cell?_lt n0)
                          have HSS : Hid (∀ W, Below w9.heap.size w9 W → W.cell? ⟨wr.heap.size, 0, none⟩ = some (.int .i64 (y.s : Int)) ∧ W.cell? ⟨wr.heap.size, 1, none⟩ = some (.int .i64 (y.g : Int)) ∧ W.cell? ⟨wr.heap.size, 2, none⟩ = some (.int .i64 (y.i : Int)) ∧ W.cell? ⟨wr.heap.size, 3, none⟩ = some (.slice Ay 32 dy) ∧ W.cell? ⟨ab, s * 8 + t * 4, none⟩ = some (.int .i64 (y.s : Int)) ∧ W.cell? ⟨ab, s * 8 + t * 4 + 1, none⟩ = some (.int .i64 (y.g : Int)) ∧ W.cell? ⟨ab, s * 8 + t * 4 + 2, none⟩ = some (.int .i64 (y.i : Int)) ∧ W.cell? ⟨ab, s * 8 + t * 4 + 3, none⟩ = some (.slice An 32 cn')) := Lib.hid (fun W hW => by
                            have hx := HX9.out.below hW
                            have hlt := cell?_lt n0
                            have hbb := hb9.trans (hW.mono hb9.size)
                            exact ⟨hx.c0, hx.c1, hx.c2, hx.c3, (hbb.cell (p := ⟨ab, s * 8 + t * 4, none⟩) hlt).trans n0, (hbb.cell (p := ⟨ab, s * 8 + t * 4 + 1, none⟩) hlt).trans n1', (hbb.cell (p := ⟨ab, s * 8 + t * 4 + 2, none⟩) hlt).trans n2, (hbb.cell (p := ⟨ab, s * 8 + t * 4 + 3, none⟩) hlt).trans n3⟩)
                          have HYL := Lib.hid yo.2.2.2.2
                          obtain ⟨xb, hxb⟩ : ∃ xb, wr.heap.size = xb := ⟨_, rfl⟩
                          have HXB := Lib.hid hxb
                          rw [hxb] at HSS
                          clear hy yo ys yM n0 n1' n2 n3 nD aD hb9 hw9 ht nb e2 e3 hxb
                          go_wp2_with fail
                          rw [HW9.out, HXB.out]
                          have hbW : Below w9.heap.size w9 w9.drew := below_drewN 1 w9
                          first
                            | (go_region_held (fun W => W.cell? ⟨xb, 0, none⟩ = some (.int .i64 (y.s : Int)) ∧ W.cell? ⟨xb, 1, none⟩ = some (.int .i64 (y.g : Int)) ∧ W.cell? ⟨xb, 2, none⟩ = some (.int .i64 (y.i : Int)) ∧ W.cell? ⟨xb, 3, none⟩ = some (.slice Ay 32 dy) ∧ W.cell? ⟨ab, s * 8 + t * 4, none⟩ = some (.int .i64 (y.s : Int)) ∧ W.cell? ⟨ab, s * 8 + t * 4 + 1, none⟩ = some (.int .i64 (y.g : Int)) ∧ W.cell? ⟨ab, s * 8 + t * 4 + 2, none⟩ = some (.int .i64 (y.i : Int)) ∧ W.cell? ⟨ab, s * 8 + t * 4 + 3, none⟩ = some (.slice An 32 cn'))
                              (first | (with_reducible assumption) | (with_reducible exact HSS.out _ hbW))
                              (first
                                | (go_at_call 17; have hc := (csameV (v := pv (y.s : Int) (y.g : Int) (y.i : Int) Ay 32 dy) (v' := pv (y.s : Int) (y.g : Int) (y.i : Int) An 32 cn') (p := y) (q := y) ⟨Ay, dy, rfl, HDY.out.below hbW⟩ ⟨An, cn', rfl, HDN.out.below hbW⟩ HYL.out HYL.out true ⟨fun _ => Pc.Alike.refl _, fun _ => rfl⟩); (with_reducible refine hc.mono ?_); clear hc; rintro e w10 ⟨rfl, hb4⟩; (try dsimp only); have hbW4 := hbW.trans (hb4.mono hbW.size); clear hb4 hbW; have hbW := hbW4)
                                | fail))
                            | fail
                          all_goals
                            go_wp2_with fail
                            go_roundg (ll - (j + 1))
                            case measure => omega
                            case rel => exact ⟨j + 1, by go_num, by omega, rfl, Lib.hid (HJ9.out.trans (hbW.mono HJ9.out.size))⟩
                        · obtain rfl : j = ll := by omega
                          go_wp2_with fail
                          go_roundg (6 - (s + 1))
                          case measure => omega
                          case rel => exact ⟨s + 1, by go_num, by omega, rfl, Lib.hid (HA8.out.below HJ.out)⟩
              · obtain rfl : s = 6 := by omega
                go_wp2_with fail
                go_roundg (n - (i + 1))
                case measure => omega
                case rel => exact ⟨i + 1, by go_num, by omega, rfl, HV⟩
    · obtain rfl : i = n := by omega
      obtain ⟨S7, d7, M7, q1, q2, q3, q4, q5, q6, q7⟩ := HV.out
      have Q6 := Lib.hid q6
      clear q1 q2 q3 q4 q5 q6 q7
      by_cases hm : (i : Int) < (m : Int)
      · have h40 : ¬ (i : Int) < 40 := by have := HN.out; omega
        go_wp2_with fail
        go_ret
        exact ⟨rfl, Q6.out⟩
      · go_wp2_with fail
        go_ret
        exact ⟨rfl, Q6.out⟩
end Go.Proofs.Yticaoknplpgjlaa
