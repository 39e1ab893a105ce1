/- For every input: corbellaw1.CauseTells (at the commit in COMMIT) returns true and leaves its arguments as they were; the one package variable that its code reads, errors.errorType, is tied to the program's text by the card. No condition. -/
import Derived.Test.YtbifpjdkljibeaaDoorG4t
import Derived.Test.YtbifpjdkljibeaaDoorG9b
import Derived.Test.YtbifpjdkljibeaaDoorG9c
import Derived.Test.YtbifpjdkljibeaaDoorCards
import Derived.Test.YtbifpjdkljibeaaDoorTie
import Derived.SevenTiedAt
import Derived.Test.YtbifpjdkljibeaaDoorY
import Derived.Test.YtbifpjdkljibeaaDoorG3
import Derived.Deep.Grids
import Derived.Deep.Slices
import Derived.Deep.Fields
import Derived.ChangeSame
namespace Go.Proofs.YtbifpjdkljibeaaDoor
open Go.ChangeShapes Go.WideShapes Go.ChangeAt Go.WideMaps Go.WideElems Go.RowKit Go.Deep

section
variable {H : Type} {enc : TypeId × Value → H} {P : Program} {w : World} {base : Nat} {spare : Nat → Bool} {held : Bool}
/-- A slice of structs of fields of one cell: each field's cell, and its reading. -/
theorem fields_in {t e : TypeId} {fs : Array Field} {fuel : Nat} {cs : List Value} {x : DataW H × List MemPlace} (ht : P.underlying t = some (.slice e)) (he : P.underlying e = some (.struct fs))
    (hone : oneCellFields P fs = true) (hC : P.cellsOf e = fs.size) (h : DataW.trod enc P w base spare held fuel t cs = some x) :
    cs = [.slice none 0 0] ∨
    ∃ (a : Addr) (len cap m : Nat), cs = [.slice (some a) len cap] ∧ len ≤ m ∧
      ∀ i, i < m → ∃ n : Nat, ∀ (j : Nat) (f : Field), fs[j]? = some f → ∃ (v : Value) (y : DataW H × List MemPlace), w.cell? (a.add (i * fs.size + j)) = some v ∧ DataW.trod enc P w base spare held n f.type [v] = some y := by
  rcases open_slice ht h with ⟨h0, _⟩ | ⟨a, len, cap, m, n, D, Pl, hcs, hb, hl, hm, hmm, hx, hi⟩
  · exact .inl h0
  · refine .inr ⟨a, len, cap, m, hcs, by rw [hmm]; split <;> omega, fun i him => ?_⟩
    obtain ⟨cs', hc, ht'⟩ := hi i him
    rw [hC] at hc
    obtain ⟨ys, n', hn', hy, hlen, hyl, hf⟩ := DataW.trod_struct he ht'
    obtain ⟨_, hcl, hat⟩ := World.cells?_some hc
    refine ⟨n', fun j f hj => ?_⟩
    obtain ⟨ho, hk⟩ := hone_of hone j f hj
    have hjl : j < fs.size := (Array.getElem?_eq_some_iff.1 hj).1
    have hcell := hat j hjl
    have hv : cs'[j]? = some (cs'[j]'(by omega)) := List.getElem?_eq_getElem (by omega)
    have h1 := hf j f hj
    rw [ho, hk] at h1
    have hone' : (cs'.drop j).take 1 = [cs'[j]'(by omega)] := by
      rw [List.drop_eq_getElem_cons (by omega)]
      rfl
    rw [hone'] at h1
    have hys : ys[j]? = some (ys[j]'(by omega)) := List.getElem?_eq_getElem (by omega)
    refine ⟨_, _, ?_, h1.trans hys⟩
    rw [← Go.Deep.add_add, hcell, hv]
end

/-- A slice of raw steps that came in. -/
theorem raws_in {H : Type} {enc : TypeId × Value → H} {W : World} {a0 : Option Addr} {len cap : Nat} {d : DataW H} {p : List MemPlace} (h : DataW.Trod enc Tryd.prog W 0 (fun _ => true) true 46 (.slice a0 len cap) d p) :
    ∃ xs : List (Int × Int), xs.length = len ∧ Raws W a0 xs := by
  obtain ⟨fuel, hf⟩ := h
  obtain ⟨fs, hfs⟩ : ∃ fs, Tryd.prog.underlying 84 = some (.struct fs) := ⟨_, Tryd.underlying84⟩
  have e38 := hfs.symm.trans Tryd.underlying84
  injection e38 with e38
  injection e38 with e38
  have hsz : fs.size = 2 := by rw [e38]; rfl
  rcases fields_in Tryd.underlying46 hfs (by rw [e38]; kernel_rfl) (by rw [hsz]; kernel_rfl) hf with hcs | ⟨a, len', cap', m, hcs, hlm, hi⟩
  · simp [Value.cells] at hcs
    obtain ⟨rfl, rfl, rfl⟩ := hcs
    exact ⟨[], rfl, fun i x hx => by simp at hx⟩
  · simp [Value.cells] at hcs
    obtain ⟨rfl, rfl, rfl⟩ := hcs
    have key : ∀ i, i < len → ∃ x : Int × Int, ∃ g o, a = ⟨g, o, none⟩ ∧ g < W.heap.size ∧ W.cell? ⟨g, o + i * 2, none⟩ = some (.int .i64 x.1) ∧ W.cell? ⟨g, o + i * 2 + 1, none⟩ = some (.int .i64 x.2) := by
      intro i hil
      obtain ⟨n, hn⟩ := hi i (by omega)
      obtain ⟨n0, h00⟩ := hi 0 (by omega)
      have get : ∀ j, j < 2 → ∃ z : Int, W.cell? (a.add (i * 2 + j)) = some (.int .i64 z) := by
        intro j hj
        obtain ⟨f, hfj, hft⟩ : ∃ f, fs[j]? = some f ∧ f.type = 3 := by
          rw [e38]
          match j, hj with
          | 0, _ => exact ⟨_, rfl, rfl⟩
          | 1, _ => exact ⟨_, rfl, rfl⟩
        obtain ⟨v, y, hv, hy⟩ := hn j f hfj
        rw [hft] at hy
        obtain ⟨z, hz, _, hw⟩ := DataW.trod_int Tryd.underlying3 hy
        simp at hz
        subst hz
        rw [hsz] at hv
        exact ⟨z, hv⟩
      have g0 : ∃ v, W.cell? (a.add 0) = some v := by
        obtain ⟨f, hfj⟩ : ∃ f, fs[0]? = some f := by rw [e38]; exact ⟨_, rfl⟩
        obtain ⟨v, y, hv, hy⟩ := h00 0 f hfj
        rw [hsz] at hv
        exact ⟨v, hv⟩
      obtain ⟨v0, hv0⟩ := g0
      obtain ⟨z0, q0⟩ := get 0 (by omega)
      obtain ⟨z1, q1⟩ := get 1 (by omega)
      obtain ⟨g, o, rfl, hg, c0⟩ := cell_plain hv0 q0
      obtain ⟨g', o', e', _, c1⟩ := cell_plain hv0 q1
      injection e' with e1 e2
      subst e1 e2
      exact ⟨(z0, z1), g, o, rfl, hg, c0, c1⟩
    have ex : ∀ n, n ≤ len → ∃ xs : List (Int × Int), xs.length = n ∧ ∀ (i : Nat) (x : Int × Int), xs[i]? = some x → ∃ g o, a = ⟨g, o, none⟩ ∧ g < W.heap.size ∧
        W.cell? ⟨g, o + i * 2, none⟩ = some (.int .i64 x.1) ∧ W.cell? ⟨g, o + i * 2 + 1, none⟩ = some (.int .i64 x.2) := by
      intro n
      induction n with
      | zero => intro _; exact ⟨[], rfl, fun i x hx => by simp at hx⟩
      | succ n ih =>
        intro hn
        obtain ⟨xs, hl, h1⟩ := ih (by omega)
        obtain ⟨x, hx⟩ := key n (by omega)
        refine ⟨xs ++ [x], by simp [hl], fun i y hy => ?_⟩
        by_cases hi : i < xs.length
        · rw [List.getElem?_append_left hi] at hy
          exact h1 i y hy
        · rw [List.getElem?_append_right (by omega)] at hy
          have e : i = n := by
            have := (List.getElem?_eq_some_iff.1 hy).1
            simp at this
            omega
          subst e
          rw [hl, Nat.sub_self] at hy
          cases hy
          exact hx
    obtain ⟨xs, hl, h1⟩ := ex len (Nat.le_refl _)
    refine ⟨xs, hl, fun i x hx => ?_⟩
    obtain ⟨g, o, e, r⟩ := h1 i x hx
    exact ⟨g, o, by rw [e], r⟩

end Go.Proofs.YtbifpjdkljibeaaDoor

namespace Go.Proofs.YtbifpjdkljibeaaDoor
open Go.RowKit Go.Extern.Stop Go.Stop Go.Extern Go.Extern.Rtype

set_option maxRecDepth 100000 in
set_option maxHeartbeats 4000000 in
theorem causeTells4 (a : Option Addr) (xs : List (Int × Int)) (c : Nat) (code : Int) (w : World) (hE : ErrType w) (hn : Raws w a xs) :
    Calls Tryd.prog 4 #[.slice a xs.length c, .int .i64 code] w fun e w' => e = .returned (.bool true) ∧ Below w.heap.size w w' := by
  have HN := Lib.hid (And.intro hn hE)
  clear hn hE
  have q1 := eqlNil
  have q2 := eqlNilNil
  go_enter Tryd.func4, Tryd.ntmps4
  go_wp2_with fail
  refine (known8 _ HN.out.2).mono ?_
  rintro e w1 ⟨rfl, hb1⟩
  have HB1 := Lib.hid hb1
  clear hb1
  go_wp2_with fail
  refine (grow19 a xs c _ (HN.out.1.below HB1.out)).mono ?_
  rintro e w2 ⟨hb2, rfl | ⟨k, d, ⟨t, x, hkv⟩, rfl, hf, hn25, ht⟩⟩
  · have hb3 := (HB1.out.trans (hb2.mono HB1.out.size)).trans ((alloc_below w2 (.cells #[.int .i64 0, .slice none 0 0, .int .i64 0, .bool false, .string ⟨#[]⟩] 48)).mono (Nat.le_trans HB1.out.size hb2.size))
    clear hb2
    go_wp2_with fail
    refine (code_nil _).mono ?_
    rintro e w4 ⟨rfl, rfl⟩
    have HB3 := Lib.hid hb3
    clear hb3
    go_wp2_with fail
    go_ret
    exact ⟨rfl, HB3.out⟩
  · obtain ⟨an, cn, hnv⟩ := own_form hf.nod.1
    have hb3 := (HB1.out.trans (hb2.mono HB1.out.size)).trans ((alloc_below w2 (.cells #[.int .i64 (codeZ k.cs), .slice an (nodesOf k.ns).length cn, .int .i64 (stripeOf k.st), .bool (stripeIs k.st), .string ⟨k.tx.toArray⟩] 48)).mono (Nat.le_trans HB1.out.size hb2.size))
    have F3 := hf.keep (A' := fun _ => True) (fun _ _ _ => trivial) (fun k' _ hl => Below.heap_alloc w2 (.cells #[.int .i64 (codeZ k.cs), .slice an (nodesOf k.ns).length cn, .int .i64 (stripeOf k.st), .bool (stripeIs k.st), .string ⟨k.tx.toArray⟩] 48) k' hl)
    have hblk : (w2.alloc (.cells #[.int .i64 (codeZ k.cs), .slice an (nodesOf k.ns).length cn, .int .i64 (stripeOf k.st), .bool (stripeIs k.st), .string ⟨k.tx.toArray⟩] 48)).heap[w2.heap.size]? = some (.cells #[.int .i64 (codeZ k.cs), .slice an (nodesOf k.ns).length cn, .int .i64 (stripeOf k.st), .bool (stripeIs k.st), .string ⟨k.tx.toArray⟩] 48 (0, 0)) := heap_new _ _
    rw [hkv, hnv]
    have HK := Lib.hid (And.intro hkv (And.intro hnv (And.intro hn25 (And.intro ht hf.cod))))
    clear hb2 hf hn25 ht hkv hnv
    have HCZ := codeZ_code k.cs (fun c hc => (HK.out.2.2.2.2 c hc).1)
    rcases HCZ with ⟨hz, hco⟩ | ⟨hz, hco, hha⟩
    · have HCO := Lib.hid hco
      clear hco
      rw [hz] at hb3 F3 hblk ⊢
      clear hz
      go_wp2_with fail
      obtain ⟨w3, hw3⟩ : ∃ w3, w2.alloc (.cells #[.int .i64 0, .slice an (nodesOf k.ns).length cn, .int .i64 (stripeOf k.st), .bool (stripeIs k.st), .string ⟨k.tx.toArray⟩] 48) = w3 := ⟨_, rfl⟩
      rw [hw3] at hb3 F3 hblk ⊢
      clear hw3
      have T3 := F3.tree
      rw [HK.out.1] at T3
      have H3 := Lib.hid (And.intro hb3 (And.intro F3 (And.intro hblk T3)))
      clear hb3 F3 hblk T3
      refine (stripe_any _ _ _ _ _ _ H3.out.2.2.2 (HN.out.2.below H3.out.1)).mono ?_
      rintro e w4 ⟨rfl, hb4⟩
      have F4 := H3.out.2.1.keep (A' := fun _ => True) (fun _ _ _ => trivial) (fun k' _ hl => hb4.block k' hl)
      have hblk4 := (hb4.block _ (heap_lt H3.out.2.2.1)).trans H3.out.2.2.1
      have hs0 : SX w4 w4 w2.heap.size (.int .i64 0) (.slice an (nodesOf k.ns).length cn) (.int .i64 (stripeOf k.st)) (.bool (stripeIs k.st)) (.string ⟨k.tx.toArray⟩) := by
        refine ⟨Below.refl _ _, ?_, ?_, ?_, ?_, ?_⟩ <;> simp [World.cell?, hblk4]
      have H4 := Lib.hid (And.intro (H3.out.1.trans (hb4.mono H3.out.1.size)) (And.intro F4 (And.intro hs0 (H3.out.2.2.2.next hb4))))
      clear hb4 F4 hblk4 hs0
      go_wp2_with fail
      refine (pick_any code 12 (by omega) (by omega) _).mono ?_
      rintro e w' ⟨rfl, rfl⟩
      obtain ⟨mc, hmc⟩ : ∃ mc, code % 12 = mc := ⟨_, rfl⟩
      have hm0 : 0 ≤ mc := by omega
      have hm12 : mc < 12 := by omega
      rw [hmc]
      clear hmc
      go_wp2_with fail
      have X4 := H4.out.2.1.txt.txt
      rw [HK.out.1] at X4
      obtain ⟨F, R, hFF, hm1, hm2, hF⟩ := err_meth X4 (by have := HK.out.2.2.2.1; omega)
      have C14 : ∀ w', SX w4 w' w2.heap.size (.int .i64 0) (.slice an (nodesOf k.ns).length cn) (.int .i64 (stripeOf k.st)) (.bool (stripeIs k.st)) (.string ⟨k.tx.toArray⟩) → Calls Tryd.prog 14 #[.iface t x] w' fun e w'' => e = .returned (.int .i64 8) ∧ Below w'.heap.size w' w'' := fun w' h => by
        have := code_any _ _ _ _ _ w' (H4.out.2.2.2.next h.1) (HN.out.2.below (H4.out.1.trans (h.1.mono H4.out.1.size)))
        rw [HCO.out] at this
        exact this
      have C18 : ∀ w', SX w4 w' w2.heap.size (.int .i64 0) (.slice an (nodesOf k.ns).length cn) (.int .i64 (stripeOf k.st)) (.bool (stripeIs k.st)) (.string ⟨k.tx.toArray⟩) → Calls Tryd.prog 18 #[.iface t x] w' fun e w'' => ∃ a9 c9, e = .returned (.slice a9 (nodesOf k.ns).length c9) ∧ Nums w'' a9 (nodesOf k.ns) ∧ Below w'.heap.size w' w'' := fun w' h => by
        refine Calls.mono (nodes18 _ _ _ _ _ w' (H4.out.2.2.2.next h.1) (by have := HK.out.2.2.1; omega)) ?_
        rintro e w'' ⟨u, rfl, ho, hb⟩
        obtain ⟨a9, c9, rfl, hnum⟩ := nums_of ho
        exact ⟨a9, c9, rfl, hnum, hb⟩
      have C21 : ∀ w' a9 c9, SX w4 w' w2.heap.size (.int .i64 0) (.slice an (nodesOf k.ns).length cn) (.int .i64 (stripeOf k.st)) (.bool (stripeIs k.st)) (.string ⟨k.tx.toArray⟩) → Nums w' a9 (nodesOf k.ns) → Calls Tryd.prog 21 #[.slice a9 (nodesOf k.ns).length c9, .slice an (nodesOf k.ns).length cn] w' fun e w'' => e = .returned (.bool true) ∧ Below w'.heap.size w' w'' := fun w' a9 c9 h hn => by
        have hnod := H4.out.2.1.nod.keep (A' := fun _ => True) (fun _ _ _ => trivial) (fun k' _ hl => h.1.block k' hl)
        rw [HK.out.2.1] at hnod
        have := same21 a9 an (nodesOf k.ns) (nodesOf k.ns) c9 cn w' (by have := HK.out.2.2.1; omega) hn (nums_nod hnod)
        rw [show sameB (nodesOf k.ns) (nodesOf k.ns) = true from decide_eq_true rfl] at this
        exact this
      have C15 : ∀ m w', SX w4 w' w2.heap.size (.int .i64 0) (.slice an (nodesOf k.ns).length cn) (.int .i64 (stripeOf k.st)) (.bool (stripeIs k.st)) (.string ⟨k.tx.toArray⟩) → Calls Tryd.prog 15 #[.iface t x, .int .i64 m] w' fun e w'' => e = .returned (.bool (hasCode m k.cs)) ∧ Below w'.heap.size w' w'' := fun m w' h => cis_any _ _ _ _ _ w' m (H4.out.2.2.2.next h.1)
      have C22 : ∀ m w', SX w4 w' w2.heap.size (.int .i64 0) (.slice an (nodesOf k.ns).length cn) (.int .i64 (stripeOf k.st)) (.bool (stripeIs k.st)) (.string ⟨k.tx.toArray⟩) → Calls Tryd.prog 22 #[.iface t x, .iface 26 (.int .i64 m)] w' fun e w'' => e = .returned (.bool (hasCode m k.cs)) ∧ Below w'.heap.size w' w'' := fun m w' h => is_code _ _ _ _ _ w' m (H4.out.2.2.2.next h.1)
      have CF : ∀ w', SX w4 w' w2.heap.size (.int .i64 0) (.slice an (nodesOf k.ns).length cn) (.int .i64 (stripeOf k.st)) (.bool (stripeIs k.st)) (.string ⟨k.tx.toArray⟩) → Calls Tryd.prog F #[R] w' fun e w'' => e = .returned (.string ⟨k.tx.toArray⟩) ∧ Below w'.heap.size w' w'' := fun w' h => hF w' h.1
      have HC14 := Lib.hid C14
      have HC18 := Lib.hid C18
      have HC21 := Lib.hid C21
      have HC15 := Lib.hid C15
      have HC22 := Lib.hid C22
      have HCF := Lib.hid CF
      have HS0 := Lib.hid H4.out.2.2.1
      have hwr : IntKind.i64.wrap (1 + mc) = 1 + mc := IntWalk.i64_in _ (by omega)
      clear C14 C18 C21 C15 C22 CF hF X4
      refine tellsB HC14 HC18 HC21 HC15 HC22 HCF HS0 hFF hm1 hm2 hm0 hm12 (Lib.hid (fun a' w' hb h => ?_))
      obtain ⟨z35, z36, z37, z38, z39, z40, z41, z42, z43, z44, z45, z46, z47, z48, z49, z50, z51, z52, z53, z54, z55, z56, z57, z58, z59, z60, z61, z62, z63, z64, z65, z66, z67, z68, z69, z70, z71, z72, z73, z74, z75, z76, z77, z78, z79, z80, z81, z82, z83, z84, z85, rfl⟩ := h
      go_wp2_with fail
      go_ret
      exact ⟨rfl, H4.out.1.trans (hb.mono H4.out.1.size)⟩
    · have HCO := Lib.hid (And.intro hco hha)
      clear hco hha
      go_wp2_with fail
      obtain ⟨w3, hw3⟩ : ∃ w3, w2.alloc (.cells #[.int .i64 (codeZ k.cs), .slice an (nodesOf k.ns).length cn, .int .i64 (stripeOf k.st), .bool (stripeIs k.st), .string ⟨k.tx.toArray⟩] 48) = w3 := ⟨_, rfl⟩
      rw [hw3] at hb3 F3 hblk ⊢
      clear hw3
      have T3 := F3.tree
      rw [HK.out.1] at T3
      have H3 := Lib.hid (And.intro hb3 (And.intro F3 (And.intro hblk T3)))
      clear hb3 F3 hblk T3
      refine (stripe_any _ _ _ _ _ _ H3.out.2.2.2 (HN.out.2.below H3.out.1)).mono ?_
      rintro e w4 ⟨rfl, hb4⟩
      have F4 := H3.out.2.1.keep (A' := fun _ => True) (fun _ _ _ => trivial) (fun k' _ hl => hb4.block k' hl)
      have hblk4 := (hb4.block _ (heap_lt H3.out.2.2.1)).trans H3.out.2.2.1
      have hs0 : SX w4 w4 w2.heap.size (.int .i64 (codeZ k.cs)) (.slice an (nodesOf k.ns).length cn) (.int .i64 (stripeOf k.st)) (.bool (stripeIs k.st)) (.string ⟨k.tx.toArray⟩) := by
        refine ⟨Below.refl _ _, ?_, ?_, ?_, ?_, ?_⟩ <;> simp [World.cell?, hblk4]
      have H4 := Lib.hid (And.intro (H3.out.1.trans (hb4.mono H3.out.1.size)) (And.intro F4 (And.intro hs0 (H3.out.2.2.2.next hb4))))
      clear hb4 F4 hblk4 hs0
      go_wp2_with fail
      refine (pick_any code 12 (by omega) (by omega) _).mono ?_
      rintro e w' ⟨rfl, rfl⟩
      obtain ⟨mc, hmc⟩ : ∃ mc, code % 12 = mc := ⟨_, rfl⟩
      have hm0 : 0 ≤ mc := by omega
      have hm12 : mc < 12 := by omega
      rw [hmc]
      clear hmc
      go_wp2_with fail
      have X4 := H4.out.2.1.txt.txt
      rw [HK.out.1] at X4
      obtain ⟨F, R, hFF, hm1, hm2, hF⟩ := err_meth X4 (by have := HK.out.2.2.2.1; omega)
      have C14 : ∀ w', SX w4 w' w2.heap.size (.int .i64 (codeZ k.cs)) (.slice an (nodesOf k.ns).length cn) (.int .i64 (stripeOf k.st)) (.bool (stripeIs k.st)) (.string ⟨k.tx.toArray⟩) → Calls Tryd.prog 14 #[.iface t x] w' fun e w'' => e = .returned (.int .i64 (codeZ k.cs)) ∧ Below w'.heap.size w' w'' := fun w' h => by
        have := code_any _ _ _ _ _ w' (H4.out.2.2.2.next h.1) (HN.out.2.below (H4.out.1.trans (h.1.mono H4.out.1.size)))
        rw [HCO.out.1] at this
        exact this
      have C18 : ∀ w', SX w4 w' w2.heap.size (.int .i64 (codeZ k.cs)) (.slice an (nodesOf k.ns).length cn) (.int .i64 (stripeOf k.st)) (.bool (stripeIs k.st)) (.string ⟨k.tx.toArray⟩) → Calls Tryd.prog 18 #[.iface t x] w' fun e w'' => ∃ a9 c9, e = .returned (.slice a9 (nodesOf k.ns).length c9) ∧ Nums w'' a9 (nodesOf k.ns) ∧ Below w'.heap.size w' w'' := fun w' h => by
        refine Calls.mono (nodes18 _ _ _ _ _ w' (H4.out.2.2.2.next h.1) (by have := HK.out.2.2.1; omega)) ?_
        rintro e w'' ⟨u, rfl, ho, hb⟩
        obtain ⟨a9, c9, rfl, hnum⟩ := nums_of ho
        exact ⟨a9, c9, rfl, hnum, hb⟩
      have C21 : ∀ w' a9 c9, SX w4 w' w2.heap.size (.int .i64 (codeZ k.cs)) (.slice an (nodesOf k.ns).length cn) (.int .i64 (stripeOf k.st)) (.bool (stripeIs k.st)) (.string ⟨k.tx.toArray⟩) → Nums w' a9 (nodesOf k.ns) → Calls Tryd.prog 21 #[.slice a9 (nodesOf k.ns).length c9, .slice an (nodesOf k.ns).length cn] w' fun e w'' => e = .returned (.bool true) ∧ Below w'.heap.size w' w'' := fun w' a9 c9 h hn => by
        have hnod := H4.out.2.1.nod.keep (A' := fun _ => True) (fun _ _ _ => trivial) (fun k' _ hl => h.1.block k' hl)
        rw [HK.out.2.1] at hnod
        have := same21 a9 an (nodesOf k.ns) (nodesOf k.ns) c9 cn w' (by have := HK.out.2.2.1; omega) hn (nums_nod hnod)
        rw [show sameB (nodesOf k.ns) (nodesOf k.ns) = true from decide_eq_true rfl] at this
        exact this
      have C15 : ∀ m w', SX w4 w' w2.heap.size (.int .i64 (codeZ k.cs)) (.slice an (nodesOf k.ns).length cn) (.int .i64 (stripeOf k.st)) (.bool (stripeIs k.st)) (.string ⟨k.tx.toArray⟩) → Calls Tryd.prog 15 #[.iface t x, .int .i64 m] w' fun e w'' => e = .returned (.bool (hasCode m k.cs)) ∧ Below w'.heap.size w' w'' := fun m w' h => cis_any _ _ _ _ _ w' m (H4.out.2.2.2.next h.1)
      have C22 : ∀ m w', SX w4 w' w2.heap.size (.int .i64 (codeZ k.cs)) (.slice an (nodesOf k.ns).length cn) (.int .i64 (stripeOf k.st)) (.bool (stripeIs k.st)) (.string ⟨k.tx.toArray⟩) → Calls Tryd.prog 22 #[.iface t x, .iface 26 (.int .i64 m)] w' fun e w'' => e = .returned (.bool (hasCode m k.cs)) ∧ Below w'.heap.size w' w'' := fun m w' h => is_code _ _ _ _ _ w' m (H4.out.2.2.2.next h.1)
      have CF : ∀ w', SX w4 w' w2.heap.size (.int .i64 (codeZ k.cs)) (.slice an (nodesOf k.ns).length cn) (.int .i64 (stripeOf k.st)) (.bool (stripeIs k.st)) (.string ⟨k.tx.toArray⟩) → Calls Tryd.prog F #[R] w' fun e w'' => e = .returned (.string ⟨k.tx.toArray⟩) ∧ Below w'.heap.size w' w'' := fun w' h => hF w' h.1
      have HC14 := Lib.hid C14
      have HC18 := Lib.hid C18
      have HC21 := Lib.hid C21
      have HC15 := Lib.hid C15
      have HC22 := Lib.hid C22
      have HCF := Lib.hid CF
      have HS0 := Lib.hid H4.out.2.2.1
      have hha' := HCO.out.2
      have hzb : (codeZ k.cs == 0) = false := by rw [beq_eq_false_iff_ne]; exact hz
      have hwr : IntKind.i64.wrap (1 + mc) = 1 + mc := IntWalk.i64_in _ (by omega)
      clear C14 C18 C21 C15 C22 CF hF X4
      refine tellsA HC14 HC18 HC21 HC15 HC22 HCF HS0 hFF hm1 hm2 hm0 hm12 hzb hz hha' (Lib.hid (fun a' w' hb h => ?_))
      obtain ⟨z35, z36, z37, z38, z39, z40, z41, z42, z43, z44, z45, z46, z47, z48, z49, z50, z51, z52, z53, z54, z55, z56, z57, z58, z59, z60, z61, z62, z63, z64, z65, z66, z67, z68, z69, z70, z71, z72, z73, z74, z75, z76, z77, z78, z79, z80, z81, z82, z83, z84, z85, rfl⟩ := h
      go_wp2_with fail
      go_ret
      exact ⟨rfl, H4.out.1.trans (hb.mono H4.out.1.size)⟩
end Go.Proofs.YtbifpjdkljibeaaDoor

namespace Go.Proofs.YtbifpjdkljibeaaDoor
open Go.ChangeShapes Go.WideShapes Go.ChangeAt Go.WideMaps Go.WideElems Go.RowKit Go.Deep

set_option maxRecDepth 100000 in
theorem causeTells_lifted (os : Os) (started : os.Started) (H : Type) (enc : TypeId × Value → H) :
    ReturnsInHanded {} Tryd.checked os 4 .any (fun w args => (Rows.causeTellsSpec.pre enc Tryd.prog Tryd.f4 [] false w args ∧ laidMetH Tryd.prog laidE w) ∧ sizedMet enc Tryd.prog Tryd.f4 (OpenSpec.ofChange Rows.causeTellsSpec) false w args)
      (Rows.causeTellsSpec.post enc Tryd.prog Tryd.f4 false true false false) := by
  refine returnsInHanded_of_change_and (C := Tryd.checked) (X := fun w _ => laidMetH Tryd.prog laidE w) (fun _ _ _ hh h => h.of_heap hh) own started (by kernel_rfl) Tryd.func4
    (ChangeSpec.witness_shaped (enc := enc) (C := Tryd.checked) (os := os) (X := fun w _ => laidMetH Tryd.prog laidE w) false (World.doorLaid Tryd.prog 400 os) #[.slice none 0 0, .int .i64 0] 8 rfl (World.shaped_of_RefB (by kernel_rfl) (by kernel_rfl)) (by kernel_rfl) (by kernel_rfl) (by kernel_rfl) (door_met os _)) ?_
  intro W base args ds gs before hval0 hW _ _ hL _
  have hval : ∀ (j : Nat) t v, Tryd.f4.params[j]? = some t → args[j]? = some v → Value.okWide Tryd.prog W .any base t v := hval0
  have hW' := hW
  obtain ⟨p, q, hA0, hV, rfl, hfz, hnd⟩ := hW
  have hA : DataW.TrodAll enc Tryd.prog W 0 (fun _ => true) true Tryd.f4.params.toList args.toList ds p := hA0
  rw [Tryd.params4] at hA hval
  obtain ⟨v0, v1, d0, d1, p0, p1, rfl, rfl, rfl, h0, h1⟩ := trodAll_two hA
  obtain ⟨rfl, rfl⟩ := trodVars_none hV
  have hlt0 : ∀ x ∈ p0, x.block < W.heap.size := fun x hx => hW'.lt x (by simp [hx])
  obtain ⟨a0, l0, c0, rfl⟩ := okWide_slice Tryd.underlying46 (hval 0 46 v0 rfl rfl)
  have h1' := h1
  obtain ⟨n1, rfl, rfl, rfl, wz1⟩ := open_int Tryd.underlying3 (hval 1 3 v1 rfl rfl) h1'
  obtain ⟨xs, rfl, hn0⟩ := raws_in h0
  clear hA0 hval0
  simp only [List.append_nil] at hW'
  refine (causeTells4 a0 xs c0 n1 W (errType_of_laid hL) hn0).mono fun e W' ⟨he, hb⟩ => ?_
  subst he
  exact ⟨_, rfl, post_of_below (pa := p0) (pv := []) hW' (fun _ _ _ => trodAll_mk1 (shut_bool Tryd.underlying4 _))
    (fun sp hsp => by
      have := trodAll_mk2 (Trod_stays laidOut (by kernel_rfl) (of_decide_eq_true (by kernel_rfl)) h0 (fun x hx => hb.same (hlt0 x hx)) (fun x hx => hsp x (by simp [hx]))) (shut_int Tryd.underlying3 wz1)
      simp only [List.append_nil] at this
      exact this)
    (fun _ _ => rfl) (by simp) hb (ok_one (by kernel_rfl) rfl (okWide_bool_mk Tryd.underlying4 _))⟩

theorem causeTells_holds : Rows.CauseTellsSaid :=
  OpenClaim.holds_of_wide 4 Tryd.f4 rfl rfl rfl rfl rfl rfl rfl ⟨rfl, rfl, rfl, rfl, rfl⟩ rfl rfl rfl rfl rfl (by kernel_rfl) Tryd.func4 (by kernel_rfl)
    (of_decide_eq_true (by kernel_rfl)) (by unfold Func.isWrapper; first | (rw [if_pos (by decide +kernel)]; kernel_rfl) | (rw [if_neg (by decide +kernel)]; exact ⟨rfl, rfl⟩))
    (fun os started H enc _ => causeTells_lifted os started H enc)

end Go.Proofs.YtbifpjdkljibeaaDoor

namespace Go.Proofs.YtbifpjdkljibeaaDoor
open Go

theorem causeTells_card : Rows.CauseTellsCardSaid :=
  Claim7.holds_tied_plain_at .later [] [.handle] true (true, "5f58898c6e8f1a1b7434ea555eb671066e2a3382c6f8d2097edfa9f788d9bc96") true
    causeTells_holds (fun _ h => by cases h) (by kernel_rfl) (fun _ h => by cases h) causeTells_row_tie rfl ⟨rfl, rfl⟩ (by kernel_rfl) rfl
    (fun f fn hf hfn => by
      obtain rfl : f = 4 := Option.some.inj ((show Tryd.prog.funcNamed "corbel/corbellaw1.CauseTells" = some 4 by kernel_rfl).symm.trans hf) |>.symm
      obtain rfl : fn = Tryd.f4 := (Option.some.inj (Tryd.func4.symm.trans hfn)).symm
      exact ⟨by kernel_rfl, fun j t ht => by
        rw [Tryd.params4] at ht
        have hm : t ∈ [46, 3] := by simpa using Array.mem_of_getElem? ht
        have hall : ([46, 3].all fun u => !Tryd.prog.wantsStandIn u) = true := by kernel_rfl
        exact (show Tryd.prog.wantsStandIn t = false by simpa using List.all_eq_true.1 hall t hm)⟩)
    (by kernel_rfl)

end Go.Proofs.YtbifpjdkljibeaaDoor
