import Derived.Test.YtfhlipalfebfaaaT
import Derived.Test.YtfhlipalfebfaaaR
import Derived.Test.YtfhlipalfebfaaaU
namespace Go.Proofs.Ytfhlipalfebfaaa
open Go.RowKit Go.Sort

/-- The items (j, f j), j below i, in order. -/
def Lof (f : Nat → Int) : Nat → List It
  | 0 => []
  | i + 1 => ins ((i : Int), f i) (rem (i : Int) (Lof f i))

theorem mem_insL (x y : It) (S : List It) : y ∈ ins x S ↔ y = x ∨ y ∈ S := by rw [(ins_perm x S).mem_iff, List.mem_cons]

theorem mem_rem (id : Int) (S : List It) (y : It) : y ∈ rem id S ↔ y ∈ S ∧ y.1 ≠ id := by
  unfold rem
  rw [List.mem_filter]
  simp

theorem mem_Lof (f : Nat → Int) : ∀ (i : Nat) (y : It), y ∈ Lof f i ↔ ∃ j : Nat, j < i ∧ y = ((j : Int), f j)
  | 0, y => by simp [Lof]
  | i + 1, y => by
    unfold Lof
    rw [mem_insL, mem_rem, mem_Lof f i y]
    constructor
    · rintro (rfl | ⟨⟨j, hj, e⟩, _⟩)
      · exact ⟨i, by omega, rfl⟩
      · exact ⟨j, by omega, e⟩
    · rintro ⟨j, hj, rfl⟩
      by_cases h : j = i
      · subst h; exact Or.inl rfl
      · exact Or.inr ⟨⟨j, by omega, rfl⟩, by dsimp only; omega⟩

theorem hasId_Lof (f : Nat → Int) (i : Nat) (k : Int) : hasId k (Lof f i) = decide (0 ≤ k ∧ k < i) := by
  rw [Bool.eq_iff_iff, hasId_iff, decide_eq_true_iff]
  constructor
  · rintro ⟨x, hx, rfl⟩
    obtain ⟨j, hj, rfl⟩ := (mem_Lof f i x).1 hx
    dsimp only
    omega
  · rintro ⟨h1, h2⟩
    exact ⟨((k.toNat : Int), f k.toNat), (mem_Lof f i _).2 ⟨k.toNat, by omega, rfl⟩, by dsimp only; omega⟩

theorem srt_ins_rem {S : List It} (h : Srt S) (x : It) : Srt (ins x (rem x.1 S)) := ins_srt (rem_srt h _) (fun _ hy => ((mem_rem _ _ _).1 hy).2)

theorem Lof_srt (f : Nat → Int) : ∀ i, Srt (Lof f i)
  | 0 => List.Pairwise.nil
  | i + 1 => srt_ins_rem (Lof_srt f i) ((i : Int), f i)

theorem srt_ext {S T : List It} (h : Srt S) (k : Srt T) (e : ∀ y, y ∈ S ↔ y ∈ T) : S = T := by
  have nd : ∀ {U : List It}, Srt U → U.Nodup := fun {U} hU => by
    rw [List.nodup_iff_pairwise_ne]
    refine hU.imp (fun {x y} hxy e => ?_)
    subst e
    rw [lt_irrefl'] at hxy
    cases hxy
  exact srt_unique h k ((List.perm_ext_iff_of_nodup (nd h) (nd k)).2 e)

theorem length_Lof (f : Nat → Int) : ∀ i, (Lof f i).length = i
  | 0 => rfl
  | i + 1 => by
    unfold Lof
    rw [(ins_perm _ _).length_eq, rem_none (by rw [hasId_Lof]; simp), List.length_cons, length_Lof f i]

theorem Lof_congr {f g : Nat → Int} {n : Nat} (h : ∀ j, j < n → f j = g j) : Lof f n = Lof g n :=
  srt_ext (Lof_srt f n) (Lof_srt g n) (fun _ => by
    rw [mem_Lof, mem_Lof]
    constructor
    · rintro ⟨j, hj, e⟩; exact ⟨j, hj, by rw [← h j hj]; exact e⟩
    · rintro ⟨j, hj, e⟩; exact ⟨j, hj, by rw [h j hj]; exact e⟩)

theorem Lof_put {f g : Nat → Int} {n i : Nat} {v : Int} (hi : i < n) (hv : g i = v) (h : ∀ j, j < n → j ≠ i → g j = f j) : ins ((i : Int), v) (rem (i : Int) (Lof f n)) = Lof g n :=
  srt_ext (srt_ins_rem (Lof_srt f n) ((i : Int), v)) (Lof_srt g n) (fun _ => by
    rw [mem_insL, mem_rem, mem_Lof, mem_Lof]
    constructor
    · rintro (rfl | ⟨⟨j, hj, rfl⟩, hne⟩)
      · exact ⟨i, hi, by rw [hv]⟩
      · dsimp only at hne
        exact ⟨j, hj, by rw [h j hj (by omega)]⟩
    · rintro ⟨j, hj, rfl⟩
      by_cases e : j = i
      · subst e; exact Or.inl (by rw [hv])
      · exact Or.inr ⟨⟨j, hj, by rw [h j hj e]⟩, by dsimp only; omega⟩)

theorem rem_rem (id : Int) (S : List It) : rem id (rem id S) = rem id S := by
  unfold rem
  rw [List.filter_filter]
  simp

theorem hasId_rem (id : Int) (S : List It) : hasId id (rem id S) = false := by
  cases e : hasId id (rem id S)
  · rfl
  · obtain ⟨x, hx, e2⟩ := (hasId_iff _ _).1 e
    exact absurd e2 ((mem_rem _ _ _).1 hx).2

theorem rem_ins {S : List It} (hs : Srt S) {id k : Int} (h : hasId id S = false) : rem id (ins (id, k) S) = S := by
  refine srt_unique (rem_srt (ins_srt hs (fun y hy e => ?_)) id) hs ?_
  · have := (hasId_iff id S).2 ⟨y, hy, e⟩
    rw [h] at this
    cases this
  · have p := rem_perm (ins_perm (id, k) S) id
    have e : rem id ((id, k) :: S) = S := by
      have := rem_none h
      unfold rem at *
      rw [List.filter_cons_of_neg (by simp)]
      exact this
    rw [e] at p
    exact p

theorem hasId_insL (id : Int) (k : Int) (S : List It) : hasId id (ins (id, k) S) = true := (hasId_iff _ _).2 ⟨(id, k), (mem_insL _ _ _).2 (Or.inl rfl), rfl⟩

/-- Two heaps apart. -/
structure Two (B : Nat) (w wr : World) (ha hb : Nat) (Fa Fb : List Nat) (Sa Sb : List It) : Prop where
  a : St B w wr ha Fa Sa
  b : St B w wr hb Fb Sb
  dis : ∀ k ∈ Fa, k ∉ Fb

theorem Two.stepA {B : Nat} {w wr w' : World} {ha hb : Nat} {Fa Fb F' : List Nat} {Sa Sb S' : List It} (h : Two B w wr ha hb Fa Fb Sa Sb) (i : IsHeap w' ha F' S') (s : Step Fa F' wr w') : Two B w w' ha hb F' Fb S' Sb :=
  ⟨h.a.step i s, h.b.turn s.turn h.a.base (fun k hk hm => h.dis k hm hk), fun k hk hm => by
    rcases s.blocks k hk with y | y
    · exact h.dis k y hm
    · have := h.b.heap.lt k hm; omega⟩
theorem Two.stepB {B : Nat} {w wr w' : World} {ha hb : Nat} {Fa Fb F' : List Nat} {Sa Sb S' : List It} (h : Two B w wr ha hb Fa Fb Sa Sb) (i : IsHeap w' hb F' S') (s : Step Fb F' wr w') : Two B w w' ha hb Fa F' Sa S' :=
  ⟨h.a.turn s.turn h.b.base (fun k hk hm => h.dis k hk hm), h.b.step i s, fun k hk hm => by
    rcases s.blocks k hm with y | y
    · exact h.dis k hk y
    · have := h.a.heap.lt k hk; omega⟩
theorem Two.of {B : Nat} {w wr w' : World} {ha hb : Nat} {Fa Fb : List Nat} {Sa Sb : List It} (h : Two B w wr ha hb Fa Fb Sa Sb) (b : Below wr.heap.size wr w') : Two B w w' ha hb Fa Fb Sa Sb := ⟨h.a.of b, h.b.of b, h.dis⟩

def at1 (xs : List Int) (i : Nat) : Int := xs.getD i 0
/-- What an item's key is in the end; what it is when i of them were put anew. -/
def fin (xs ys : List Int) (j : Nat) : Int := if j < ys.length then at1 ys j else at1 xs j
def mid (xs ys : List Int) (i j : Nat) : Int := if j < i then fin xs ys j else at1 xs j

theorem at1_some {xs : List Int} {i : Nat} (h : i < xs.length) : xs[i]? = some (at1 xs i) := by
  unfold at1
  rw [List.getD_eq_getElem?_getD, List.getElem?_eq_getElem h]
  rfl

theorem mid_step {xs ys : List Int} {n i : Nat} (hi : i < n) : ins ((i : Int), fin xs ys i) (rem (i : Int) (Lof (mid xs ys i) n)) = Lof (mid xs ys (i + 1)) n :=
  Lof_put hi (by unfold mid; rw [if_pos (by omega)]) (fun j _ hne => by unfold mid; by_cases h : j < i; rw [if_pos h, if_pos (by omega)]; rw [if_neg h, if_neg (by omega)])

theorem mid_same {xs ys : List Int} {n i : Nat} (h : fin xs ys i = at1 xs i) : Lof (mid xs ys i) n = Lof (mid xs ys (i + 1)) n :=
  Lof_congr (fun j _ => by
    unfold mid
    by_cases e : j < i
    · rw [if_pos e, if_pos (by omega)]
    · rw [if_neg e]
      by_cases e2 : j = i
      · subst e2; rw [if_pos (by omega), h]
      · rw [if_neg (by omega)])

theorem mid_zero (xs ys : List Int) (n : Nat) : Lof (mid xs ys 0) n = Lof (at1 xs) n := Lof_congr (fun j _ => by unfold mid; rw [if_neg (by omega)])
theorem mid_all (xs ys : List Int) (n : Nat) : Lof (mid xs ys n) n = Lof (fin xs ys) n := Lof_congr (fun j hj => by unfold mid; rw [if_pos hj])

set_option maxHeartbeats 4000000 in
set_option maxRecDepth 100000 in
theorem pickChanges6 (a0 a1 a2 : Option Addr) (xs ys : List Int) (zs : List Bool) (c0 c1 c2 : Nat) (w : World) (hn : Nums w a0 xs) (hn1 : Nums w a1 ys) (hn2 : Bools w a2 zs) (hx : ∀ x ∈ xs, I64 x) (hx1 : ∀ x ∈ ys, I64 x) :
    Calls Try.prog 6 #[.slice a0 xs.length c0, .slice a1 ys.length c1, .slice a2 zs.length c2] w fun e w' => e = .returned (.bool true) ∧ Below w.heap.size w w' := by
  have HN := Lib.hid (And.intro hn (And.intro hn1 hn2))
  have HX := Lib.hid (And.intro hx hx1)
  clear hn hn1 hn2 hx hx1
  have q := eqlItem
  obtain ⟨n, hn⟩ : ∃ n, min xs.length 40 = n := ⟨_, rfl⟩
  go_enter Try.func6, Try.ntmps6
  go_wp2_with fail
  refine (new8 w).mono ?_
  rintro e w1 ⟨rfl, h1, b1⟩
  have H1 : Hid (St w.heap.size w w1 w.heap.size [w.heap.size] []) := Lib.hid ⟨h1, by simp, b1, Nat.le_refl _⟩
  have HS1 : Hid (w.heap.size < w1.heap.size) := Lib.hid (h1.lt _ (by simp))
  clear h1 b1
  go_wp2_with fail
  refine (new8 w1).mono ?_
  rintro e w2 ⟨rfl, h2, b2⟩
  have H2 : Hid (Two w.heap.size w w2 w.heap.size w1.heap.size [w.heap.size] [w1.heap.size] [] []) := Lib.hid
    ⟨H1.out.of b2, ⟨h2, by have := HS1.out; simp; omega, (H1.out.of b2).below, Nat.le_refl _⟩, by have := HS1.out; simp; omega⟩
  clear h2 b2 H1
  go_wp2_with fail
  refine (known9 w2).mono ?_
  rintro e w3 ⟨rfl, b3⟩
  have H3 := Lib.hid (H2.out.of b3)
  clear b3 H2 HS1
  revert H3
  generalize hha : w.heap.size = ha
  generalize w1.heap.size = hb
  generalize hF : [hb] = F0
  intro H3
  have HA := Lib.hid hha
  clear hF
  have H4 : Hid (Two w.heap.size w w3 ha hb [ha] F0 [] []) := by rw [hha]; exact H3
  clear H3
  have H3 := H4
  clear H4 hha
  have hcase : (xs.length : Int) = n ∧ n ≤ 40 ∨ (n : Int) = 40 ∧ 40 < xs.length := by omega
  have h3 : n ≤ xs.length := by omega
  have h2 : n ≤ 40 := by omega
  clear hn
  rcases hcase with ⟨h1, _⟩ | ⟨h1, h4⟩
  · have hd : (xs.length : Int) ≤ 40 := by omega
    have hm1 : min (n : Int) 40 = n := by omega
    have HNI : Hid (((n : Int) : Int) = n) := Lib.hid (by omega)
    go_wp2_with fail
    clear hm1 hd
    go_loopg [10] n (fun q s10 wr => ∃ (i : Nat) (Fa : List Nat), s10 = .int .i64 i ∧ i ≤ n ∧ q = n - i ∧ Hid (Two w.heap.size w wr ha hb Fa F0 (Lof (at1 xs) i) []))
    case atStart => exact ⟨0, _, rfl, Nat.zero_le _, rfl, H3⟩
    case round =>
      obtain ⟨i, Fa, rfl, hi, rfl, HS⟩ := hrel
      clear H3
      by_cases hlt : i < n
      · have hz := at1_some (xs := xs) (i := i) (by omega)
        obtain ⟨g, o, rfl, hg, hc⟩ := HN.out.1 i _ hz
        have wx : Wf ((i : Int), at1 xs i) := ⟨⟨by dsimp only; omega, by dsimp only; omega⟩, HX.out.1 _ (List.mem_of_getElem? hz)⟩
        have k1 : wr.cell? ⟨g, o + i, none⟩ = some (.int .i64 (at1 xs i)) := (HS.out.a.below.cell (p := ⟨g, o + i, none⟩) hg).trans hc
        have HP := Lib.hid (put1 ha Fa (Lof (at1 xs) i) (Lof (at1 xs) (i + 1)) i (at1 xs i) true wr HS.out.a.heap wx (by rw [length_Lof]; omega) rfl (by rw [hasId_Lof]; simp))
        have qi : (i : Int) < (xs.length : Int) := by omega
        have qn : (i : Int) < ((n : Int) : Int) := by have := HNI.out; omega
        clear hz wx hc
        go_wp2_with fail
        refine HP.out.mono ?_
        rintro e w4 ⟨rfl, F4, i4, s4⟩
        have HS4 := Lib.hid (HS.out.stepA i4 s4)
        clear i4 s4
        go_wp2_with fail
        go_roundg (n - (i + 1))
        case measure => omega
        case rel => exact ⟨i + 1, F4, by go_num, by omega, rfl, HS4⟩
      · have hge : ¬ (i : Int) < ((n : Int) : Int) := by have := HNI.out; omega
        have HS0 : Hid (Two w.heap.size w wr ha hb Fa F0 (Lof (mid xs ys 0) n) (Lof (fin xs ys) 0)) := by
          have e : i = n := by omega
          rw [mid_zero, ← e]
          exact Lib.hid HS.out
        clear HS hlt hi
        obtain ⟨wo, rfl⟩ : ∃ wo : World, wo = wr := ⟨wr, rfl⟩
        go_wp2_with fail
        clear hge
        go_loopg [11] n (fun q s11 wv => ∃ (i : Nat) (Fa Fb : List Nat), s11 = .int .i64 i ∧ i ≤ n ∧ q = n - i ∧ Hid (Two w.heap.size w wv ha hb Fa Fb (Lof (mid xs ys i) n) (Lof (fin xs ys) i)))
        case atStart => exact ⟨0, _, _, rfl, Nat.zero_le _, rfl, HS0⟩
        case round =>
          obtain ⟨i, Fa, Fb, rfl, hi, rfl, HT⟩ := hrel
          clear HS0
          by_cases hlt : i < n
          · have hz := at1_some (xs := xs) (i := i) (by omega)
            obtain ⟨g, o, rfl, hg, hc⟩ := HN.out.1 i _ hz
            have wi : I64 (i : Int) := by constructor <;> omega
            have HWX := Lib.hid (HX.out.1 _ (List.mem_of_getElem? hz))
            have k1 : wr.cell? ⟨g, o + i, none⟩ = some (.int .i64 (at1 xs i)) := (HT.out.a.below.cell (p := ⟨g, o + i, none⟩) hg).trans hc
            have qi : (i : Int) < (xs.length : Int) := by omega
            have qn : (i : Int) < ((n : Int) : Int) := by have := HNI.out; omega
            have HNB : Hid (hasId ((n : Int) + (i : Int)) (Lof (fin xs ys) i) = false) := Lib.hid (by rw [hasId_Lof]; have := HNI.out; refine decide_eq_false (fun h => ?_); omega)
            have h41 : ((n : Int) : Int) ≤ 40 ∧ 0 ≤ ((n : Int) : Int) := by have := HNI.out; omega
            clear hz hc
            by_cases hy : i < ys.length
            · have hz := at1_some (xs := ys) (i := i) hy
              obtain ⟨g1, o1, rfl, hg1, hc1⟩ := HN.out.2.1 i _ hz
              have HWF : Hid (I64 (fin xs ys i)) := Lib.hid (by unfold fin; rw [if_pos hy]; exact HX.out.2 _ (List.mem_of_getElem? hz))
              have hfin : at1 ys i = fin xs ys i := by unfold fin; rw [if_pos hy]
              have k2 : wr.cell? ⟨g1, o1 + i, none⟩ = some (.int .i64 (fin xs ys i)) := by rw [← hfin]; exact (HT.out.a.below.cell (p := ⟨g1, o1 + i, none⟩) hg1).trans hc1
              have qy : (i : Int) < (ys.length : Int) := by omega
              clear hz hc1 hfin
              by_cases hd : i < zs.length
              · have hz : zs[i]? = some zs[i] := List.getElem?_eq_getElem hd
                generalize zs[i] = z at hz
                obtain ⟨g2, o2, rfl, hg2, hc2⟩ := HN.out.2.2 i _ hz
                have k3 : wr.cell? ⟨g2, o2 + i, none⟩ = some (.bool z) := (HT.out.a.below.cell (p := ⟨g2, o2 + i, none⟩) hg2).trans hc2
                have qz : (i : Int) < (zs.length : Int) := by omega
                clear hz hc2
                cases z
                · go_wp2_with fail
                  refine (put1 ha _ (Lof (mid xs ys i) n) (Lof (mid xs ys (i + 1)) n) i (fin xs ys i) false _ HT.out.a.heap ⟨wi, HWF.out⟩ (by rw [length_Lof]; omega) (mid_step hlt) (by rw [hasId_Lof, decide_eq_true (by omega)]; rfl)).mono ?_
                  rintro e w4 ⟨rfl, F4, i4, s4⟩
                  have HT1 := Lib.hid (HT.out.stepA i4 s4)
                  clear i4 s4 HT k1 k2
                  go_wp2_with fail
                  refine (put1 hb _ (Lof (fin xs ys) i) (ins ((n : Int) + (i : Int), 0) (Lof (fin xs ys) i)) ((n : Int) + (i : Int)) 0 true _ HT1.out.b.heap ⟨by constructor <;> (dsimp only; omega), by constructor <;> (dsimp only; omega)⟩ (by rw [length_Lof]; omega) (by rw [rem_none HNB.out]) (by rw [HNB.out]; rfl)).mono ?_
                  rintro e w5 ⟨rfl, F5, i5, s5⟩
                  have HT5 := Lib.hid (HT1.out.stepB i5 s5)
                  clear i5 s5 HT1
                  go_wp2_with fail
                  refine (drop1 hb _ (ins ((n : Int) + (i : Int), 0) (Lof (fin xs ys) i)) (Lof (fin xs ys) i) ((n : Int) + (i : Int)) true (by constructor <;> omega) _ HT5.out.b.heap (rem_ins (Lof_srt _ _) HNB.out) (hasId_insL _ _ _)).mono ?_
                  rintro e w6 ⟨rfl, F6, i6, s6⟩
                  have HT6 := Lib.hid (HT5.out.stepB i6 s6)
                  clear i6 s6 HT5
                  go_wp2_with fail
                  refine (put1 hb _ (Lof (fin xs ys) i) (Lof (fin xs ys) (i + 1)) i (fin xs ys i) true _ HT6.out.b.heap ⟨wi, HWF.out⟩ (by rw [length_Lof]; omega) rfl (by rw [hasId_Lof]; simp)).mono ?_
                  rintro e w7 ⟨rfl, F7, i7, s7⟩
                  have HT7 := Lib.hid (HT6.out.stepB i7 s7)
                  clear i7 s7 HT6
                  go_wp2_with fail
                  go_roundg (n - (i + 1))
                  case measure => omega
                  case rel => exact ⟨i + 1, _, F7, by go_num, by omega, rfl, HT7⟩
                · go_wp2_with fail
                  refine (drop1 ha _ (Lof (mid xs ys i) n) (rem (i : Int) (Lof (mid xs ys i) n)) i true wi _ HT.out.a.heap rfl (by rw [hasId_Lof]; exact decide_eq_true (by omega))).mono ?_
                  rintro e w3 ⟨rfl, F3, i3, s3⟩
                  have HT0 := Lib.hid (HT.out.stepA i3 s3)
                  clear i3 s3 k1 k2 k3 HT
                  go_wp2_with fail
                  refine (put1 ha _ (rem (i : Int) (Lof (mid xs ys i) n)) (Lof (mid xs ys (i + 1)) n) i (fin xs ys i) true _ HT0.out.a.heap ⟨wi, HWF.out⟩ (Nat.lt_of_le_of_lt (List.length_filter_le _ _) (by rw [length_Lof]; omega)) (by rw [rem_rem]; exact mid_step hlt) (by rw [hasId_rem]; rfl)).mono ?_
                  rintro e w4 ⟨rfl, F4, i4, s4⟩
                  have HT1 := Lib.hid (HT0.out.stepA i4 s4)
                  clear i4 s4 HT0
                  go_wp2_with fail
                  refine (put1 hb _ (Lof (fin xs ys) i) (ins ((n : Int) + (i : Int), 0) (Lof (fin xs ys) i)) ((n : Int) + (i : Int)) 0 true _ HT1.out.b.heap ⟨by constructor <;> (dsimp only; omega), by constructor <;> (dsimp only; omega)⟩ (by rw [length_Lof]; omega) (by rw [rem_none HNB.out]) (by rw [HNB.out]; rfl)).mono ?_
                  rintro e w5 ⟨rfl, F5, i5, s5⟩
                  have HT5 := Lib.hid (HT1.out.stepB i5 s5)
                  clear i5 s5 HT1
                  go_wp2_with fail
                  refine (drop1 hb _ (ins ((n : Int) + (i : Int), 0) (Lof (fin xs ys) i)) (Lof (fin xs ys) i) ((n : Int) + (i : Int)) true (by constructor <;> omega) _ HT5.out.b.heap (rem_ins (Lof_srt _ _) HNB.out) (hasId_insL _ _ _)).mono ?_
                  rintro e w6 ⟨rfl, F6, i6, s6⟩
                  have HT6 := Lib.hid (HT5.out.stepB i6 s6)
                  clear i6 s6 HT5
                  go_wp2_with fail
                  refine (put1 hb _ (Lof (fin xs ys) i) (Lof (fin xs ys) (i + 1)) i (fin xs ys i) true _ HT6.out.b.heap ⟨wi, HWF.out⟩ (by rw [length_Lof]; omega) rfl (by rw [hasId_Lof]; simp)).mono ?_
                  rintro e w7 ⟨rfl, F7, i7, s7⟩
                  have HT7 := Lib.hid (HT6.out.stepB i7 s7)
                  clear i7 s7 HT6
                  go_wp2_with fail
                  go_roundg (n - (i + 1))
                  case measure => omega
                  case rel => exact ⟨i + 1, _, F7, by go_num, by omega, rfl, HT7⟩
              · have qz : ¬ (i : Int) < (zs.length : Int) := by omega
                go_wp2_with fail
                refine (put1 ha _ (Lof (mid xs ys i) n) (Lof (mid xs ys (i + 1)) n) i (fin xs ys i) false _ HT.out.a.heap ⟨wi, HWF.out⟩ (by rw [length_Lof]; omega) (mid_step hlt) (by rw [hasId_Lof, decide_eq_true (by omega)]; rfl)).mono ?_
                rintro e w4 ⟨rfl, F4, i4, s4⟩
                have HT1 := Lib.hid (HT.out.stepA i4 s4)
                clear i4 s4 HT k1 k2
                go_wp2_with fail
                refine (put1 hb _ (Lof (fin xs ys) i) (ins ((n : Int) + (i : Int), 0) (Lof (fin xs ys) i)) ((n : Int) + (i : Int)) 0 true _ HT1.out.b.heap ⟨by constructor <;> (dsimp only; omega), by constructor <;> (dsimp only; omega)⟩ (by rw [length_Lof]; omega) (by rw [rem_none HNB.out]) (by rw [HNB.out]; rfl)).mono ?_
                rintro e w5 ⟨rfl, F5, i5, s5⟩
                have HT5 := Lib.hid (HT1.out.stepB i5 s5)
                clear i5 s5 HT1
                go_wp2_with fail
                refine (drop1 hb _ (ins ((n : Int) + (i : Int), 0) (Lof (fin xs ys) i)) (Lof (fin xs ys) i) ((n : Int) + (i : Int)) true (by constructor <;> omega) _ HT5.out.b.heap (rem_ins (Lof_srt _ _) HNB.out) (hasId_insL _ _ _)).mono ?_
                rintro e w6 ⟨rfl, F6, i6, s6⟩
                have HT6 := Lib.hid (HT5.out.stepB i6 s6)
                clear i6 s6 HT5
                go_wp2_with fail
                refine (put1 hb _ (Lof (fin xs ys) i) (Lof (fin xs ys) (i + 1)) i (fin xs ys i) true _ HT6.out.b.heap ⟨wi, HWF.out⟩ (by rw [length_Lof]; omega) rfl (by rw [hasId_Lof]; simp)).mono ?_
                rintro e w7 ⟨rfl, F7, i7, s7⟩
                have HT7 := Lib.hid (HT6.out.stepB i7 s7)
                clear i7 s7 HT6
                go_wp2_with fail
                go_roundg (n - (i + 1))
                case measure => omega
                case rel => exact ⟨i + 1, _, F7, by go_num, by omega, rfl, HT7⟩
            · have HWF : Hid (I64 (fin xs ys i)) := Lib.hid (by unfold fin; rw [if_neg hy]; exact HWX.out)
              have hfin : at1 xs i = fin xs ys i := by unfold fin; rw [if_neg hy]
              rw [hfin] at k1
              have HT1 : Hid (Two w.heap.size w wr ha hb Fa Fb (Lof (mid xs ys (i + 1)) n) (Lof (fin xs ys) i)) := by rw [← mid_same hfin.symm]; exact HT
              have qy : ¬ (i : Int) < (ys.length : Int) := by omega
              clear hfin HT
              go_wp2_with fail
              refine (put1 hb _ (Lof (fin xs ys) i) (ins ((n : Int) + (i : Int), 0) (Lof (fin xs ys) i)) ((n : Int) + (i : Int)) 0 true _ HT1.out.b.heap ⟨by constructor <;> (dsimp only; omega), by constructor <;> (dsimp only; omega)⟩ (by rw [length_Lof]; omega) (by rw [rem_none HNB.out]) (by rw [HNB.out]; rfl)).mono ?_
              rintro e w5 ⟨rfl, F5, i5, s5⟩
              have HT5 := Lib.hid (HT1.out.stepB i5 s5)
              clear i5 s5 HT1
              go_wp2_with fail
              refine (drop1 hb _ (ins ((n : Int) + (i : Int), 0) (Lof (fin xs ys) i)) (Lof (fin xs ys) i) ((n : Int) + (i : Int)) true (by constructor <;> omega) _ HT5.out.b.heap (rem_ins (Lof_srt _ _) HNB.out) (hasId_insL _ _ _)).mono ?_
              rintro e w6 ⟨rfl, F6, i6, s6⟩
              have HT6 := Lib.hid (HT5.out.stepB i6 s6)
              clear i6 s6 HT5
              go_wp2_with fail
              refine (put1 hb _ (Lof (fin xs ys) i) (Lof (fin xs ys) (i + 1)) i (fin xs ys i) true _ HT6.out.b.heap ⟨wi, HWF.out⟩ (by rw [length_Lof]; omega) rfl (by rw [hasId_Lof]; simp)).mono ?_
              rintro e w7 ⟨rfl, F7, i7, s7⟩
              have HT7 := Lib.hid (HT6.out.stepB i7 s7)
              clear i7 s7 HT6
              go_wp2_with fail
              go_roundg (n - (i + 1))
              case measure => omega
              case rel => exact ⟨i + 1, _, F7, by go_num, by omega, rfl, HT7⟩
          · have hge : ¬ (i : Int) < ((n : Int) : Int) := by have := HNI.out; omega
            have HT9 : Hid (Two w.heap.size w wr ha hb Fa Fb (Lof (fin xs ys) n) (Lof (fin xs ys) n)) := by
              have e : i = n := by omega
              rw [← mid_all, ← e]
              have := HT.out
              rw [e] at this ⊢
              rw [mid_all] at this ⊢
              exact Lib.hid this
            clear HT hlt hi
            have hlen := length_Lof (fin xs ys) n
            have HLL := Lib.hid hlen
            clear hlen
            go_wp2_with fail
            refine (all14 ha _ (Lof (fin xs ys) n) _ HT9.out.a.heap).mono ?_
            rintro e w8 ⟨v8, rfl, b8, A8, cp8, rfl, hs8⟩
            have HT10 := Lib.hid (HT9.out.of b8)
            have HS8 := Lib.hid hs8
            rw [HLL.out]
            clear b8 hs8 HT9 hge
            go_wp2_with fail
            refine (all14 hb _ (Lof (fin xs ys) n) _ HT10.out.b.heap).mono ?_
            rintro e w9 ⟨v9, rfl, b9, A9, cp9, rfl, hs9⟩
            have HT11 := Lib.hid (HT10.out.of b9)
            have HS9 := Lib.hid hs9
            have HB9 := Lib.hid b9
            rw [HLL.out]
            have hEQ : (n : Int) = (n : Int) := by first | rfl | exact HNI.out.symm
            clear b9 hs9 HT10
            go_wp2_with fail
            go_loopg [123] n (fun q s wv => ∃ i : Nat, s = .int .i64 i ∧ i ≤ n ∧ q = n - i ∧ Hid (Below w9.heap.size w9 wv))
            case atStart => exact ⟨0, rfl, Nat.zero_le _, rfl, Lib.hid (Below.refl _ _)⟩
            case round =>
              obtain ⟨i, rfl, hi, rfl, HB⟩ := hrel
              by_cases hlt : i < n
              · obtain ⟨g8, rfl, _, hg8, x0, x1⟩ := HS8.out i (by rw [HLL.out]; exact hlt)
                obtain ⟨g9, rfl, _, hg9, y0, y1⟩ := HS9.out i (by rw [HLL.out]; exact hlt)
                revert x0 x1 y0 y1
                generalize (at' (Lof (fin xs ys) n) i).1 = p1
                generalize (at' (Lof (fin xs ys) n) i).2 = p2
                intro x0 x1 y0 y1
                have hg8' := Nat.lt_of_lt_of_le hg8 HB9.out.size
                have u0 := (HB.out.cell (p := ⟨g8, i * 2, none⟩) hg8').trans ((HB9.out.cell (p := ⟨g8, i * 2, none⟩) hg8).trans x0)
                have u1 := (HB.out.cell (p := ⟨g8, i * 2 + 1, none⟩) hg8').trans ((HB9.out.cell (p := ⟨g8, i * 2 + 1, none⟩) hg8).trans x1)
                have u2 := (HB.out.cell (p := ⟨g9, i * 2, none⟩) hg9).trans y0
                have u3 := (HB.out.cell (p := ⟨g9, i * 2 + 1, none⟩) hg9).trans y1
                have qi : (i : Int) < ((n : Int) : Int) := by have := HNI.out; omega
                have qi' : (i : Int) < (n : Int) := by omega
                clear x0 x1 y0 y1 hg8 hg9 hg8'
                go_wp2_with fail
                go_big_quiet (fail)
                go_wp2_with fail
                go_roundg (n - (i + 1))
                case measure => omega
                case rel => exact ⟨i + 1, by go_num, by omega, rfl, Lib.hid (HB.out.trans ((below_drewN _ _).mono HB.out.size))⟩
              · have hge : ¬ (i : Int) < ((n : Int) : Int) := by have := HNI.out; omega
                clear hlt hi
                go_wp2_with fail
                refine (len15 ha _ (Lof (fin xs ys) n) _ (HT11.out.of HB.out).a.heap).mono ?_
                rintro e w12 ⟨rfl, rfl⟩
                rw [HLL.out]
                go_wp2_with fail
                go_ret
                exact ⟨by simp, (HT11.out.of HB.out).a.below⟩
  · have hd : ¬ (xs.length : Int) ≤ 40 := by omega
    have hm1 : min (xs.length : Int) 40 = 40 := by omega
    have HN4 := Lib.hid h1
    clear h1
    have HNI : Hid (((40 : Int) : Int) = n) := Lib.hid HN4.out.symm
    go_wp2_with fail
    clear hm1 hd
    go_loopg [10] n (fun q s10 wr => ∃ (i : Nat) (Fa : List Nat), s10 = .int .i64 i ∧ i ≤ n ∧ q = n - i ∧ Hid (Two w.heap.size w wr ha hb Fa F0 (Lof (at1 xs) i) []))
    case atStart => exact ⟨0, _, rfl, Nat.zero_le _, rfl, H3⟩
    case round =>
      obtain ⟨i, Fa, rfl, hi, rfl, HS⟩ := hrel
      clear H3
      by_cases hlt : i < n
      · have hz := at1_some (xs := xs) (i := i) (by omega)
        obtain ⟨g, o, rfl, hg, hc⟩ := HN.out.1 i _ hz
        have wx : Wf ((i : Int), at1 xs i) := ⟨⟨by dsimp only; omega, by dsimp only; omega⟩, HX.out.1 _ (List.mem_of_getElem? hz)⟩
        have k1 : wr.cell? ⟨g, o + i, none⟩ = some (.int .i64 (at1 xs i)) := (HS.out.a.below.cell (p := ⟨g, o + i, none⟩) hg).trans hc
        have HP := Lib.hid (put1 ha Fa (Lof (at1 xs) i) (Lof (at1 xs) (i + 1)) i (at1 xs i) true wr HS.out.a.heap wx (by rw [length_Lof]; omega) rfl (by rw [hasId_Lof]; simp))
        have qi : (i : Int) < (xs.length : Int) := by omega
        have qn : (i : Int) < ((40 : Int) : Int) := by have := HNI.out; omega
        clear hz wx hc
        go_wp2_with fail
        refine HP.out.mono ?_
        rintro e w4 ⟨rfl, F4, i4, s4⟩
        have HS4 := Lib.hid (HS.out.stepA i4 s4)
        clear i4 s4
        go_wp2_with fail
        go_roundg (n - (i + 1))
        case measure => omega
        case rel => exact ⟨i + 1, F4, by go_num, by omega, rfl, HS4⟩
      · have hge : ¬ (i : Int) < ((40 : Int) : Int) := by have := HNI.out; omega
        have HS0 : Hid (Two w.heap.size w wr ha hb Fa F0 (Lof (mid xs ys 0) n) (Lof (fin xs ys) 0)) := by
          have e : i = n := by omega
          rw [mid_zero, ← e]
          exact Lib.hid HS.out
        clear HS hlt hi
        obtain ⟨wo, rfl⟩ : ∃ wo : World, wo = wr := ⟨wr, rfl⟩
        go_wp2_with fail
        clear hge
        go_loopg [11] n (fun q s11 wv => ∃ (i : Nat) (Fa Fb : List Nat), s11 = .int .i64 i ∧ i ≤ n ∧ q = n - i ∧ Hid (Two w.heap.size w wv ha hb Fa Fb (Lof (mid xs ys i) n) (Lof (fin xs ys) i)))
        case atStart => exact ⟨0, _, _, rfl, Nat.zero_le _, rfl, HS0⟩
        case round =>
          obtain ⟨i, Fa, Fb, rfl, hi, rfl, HT⟩ := hrel
          clear HS0
          by_cases hlt : i < n
          · have hz := at1_some (xs := xs) (i := i) (by omega)
            obtain ⟨g, o, rfl, hg, hc⟩ := HN.out.1 i _ hz
            have wi : I64 (i : Int) := by constructor <;> omega
            have HWX := Lib.hid (HX.out.1 _ (List.mem_of_getElem? hz))
            have k1 : wr.cell? ⟨g, o + i, none⟩ = some (.int .i64 (at1 xs i)) := (HT.out.a.below.cell (p := ⟨g, o + i, none⟩) hg).trans hc
            have qi : (i : Int) < (xs.length : Int) := by omega
            have qn : (i : Int) < ((40 : Int) : Int) := by have := HNI.out; omega
            have HNB : Hid (hasId ((40 : Int) + (i : Int)) (Lof (fin xs ys) i) = false) := Lib.hid (by rw [hasId_Lof]; have := HNI.out; refine decide_eq_false (fun h => ?_); omega)
            have h41 : ((40 : Int) : Int) ≤ 40 ∧ 0 ≤ ((40 : Int) : Int) := by have := HNI.out; omega
            clear hz hc
            by_cases hy : i < ys.length
            · have hz := at1_some (xs := ys) (i := i) hy
              obtain ⟨g1, o1, rfl, hg1, hc1⟩ := HN.out.2.1 i _ hz
              have HWF : Hid (I64 (fin xs ys i)) := Lib.hid (by unfold fin; rw [if_pos hy]; exact HX.out.2 _ (List.mem_of_getElem? hz))
              have hfin : at1 ys i = fin xs ys i := by unfold fin; rw [if_pos hy]
              have k2 : wr.cell? ⟨g1, o1 + i, none⟩ = some (.int .i64 (fin xs ys i)) := by rw [← hfin]; exact (HT.out.a.below.cell (p := ⟨g1, o1 + i, none⟩) hg1).trans hc1
              have qy : (i : Int) < (ys.length : Int) := by omega
              clear hz hc1 hfin
              by_cases hd : i < zs.length
              · have hz : zs[i]? = some zs[i] := List.getElem?_eq_getElem hd
                generalize zs[i] = z at hz
                obtain ⟨g2, o2, rfl, hg2, hc2⟩ := HN.out.2.2 i _ hz
                have k3 : wr.cell? ⟨g2, o2 + i, none⟩ = some (.bool z) := (HT.out.a.below.cell (p := ⟨g2, o2 + i, none⟩) hg2).trans hc2
                have qz : (i : Int) < (zs.length : Int) := by omega
                clear hz hc2
                cases z
                · go_wp2_with fail
                  refine (put1 ha _ (Lof (mid xs ys i) n) (Lof (mid xs ys (i + 1)) n) i (fin xs ys i) false _ HT.out.a.heap ⟨wi, HWF.out⟩ (by rw [length_Lof]; omega) (mid_step hlt) (by rw [hasId_Lof, decide_eq_true (by omega)]; rfl)).mono ?_
                  rintro e w4 ⟨rfl, F4, i4, s4⟩
                  have HT1 := Lib.hid (HT.out.stepA i4 s4)
                  clear i4 s4 HT k1 k2
                  go_wp2_with fail
                  refine (put1 hb _ (Lof (fin xs ys) i) (ins ((40 : Int) + (i : Int), 0) (Lof (fin xs ys) i)) ((40 : Int) + (i : Int)) 0 true _ HT1.out.b.heap ⟨by constructor <;> (dsimp only; omega), by constructor <;> (dsimp only; omega)⟩ (by rw [length_Lof]; omega) (by rw [rem_none HNB.out]) (by rw [HNB.out]; rfl)).mono ?_
                  rintro e w5 ⟨rfl, F5, i5, s5⟩
                  have HT5 := Lib.hid (HT1.out.stepB i5 s5)
                  clear i5 s5 HT1
                  go_wp2_with fail
                  refine (drop1 hb _ (ins ((40 : Int) + (i : Int), 0) (Lof (fin xs ys) i)) (Lof (fin xs ys) i) ((40 : Int) + (i : Int)) true (by constructor <;> omega) _ HT5.out.b.heap (rem_ins (Lof_srt _ _) HNB.out) (hasId_insL _ _ _)).mono ?_
                  rintro e w6 ⟨rfl, F6, i6, s6⟩
                  have HT6 := Lib.hid (HT5.out.stepB i6 s6)
                  clear i6 s6 HT5
                  go_wp2_with fail
                  refine (put1 hb _ (Lof (fin xs ys) i) (Lof (fin xs ys) (i + 1)) i (fin xs ys i) true _ HT6.out.b.heap ⟨wi, HWF.out⟩ (by rw [length_Lof]; omega) rfl (by rw [hasId_Lof]; simp)).mono ?_
                  rintro e w7 ⟨rfl, F7, i7, s7⟩
                  have HT7 := Lib.hid (HT6.out.stepB i7 s7)
                  clear i7 s7 HT6
                  go_wp2_with fail
                  go_roundg (n - (i + 1))
                  case measure => omega
                  case rel => exact ⟨i + 1, _, F7, by go_num, by omega, rfl, HT7⟩
                · go_wp2_with fail
                  refine (drop1 ha _ (Lof (mid xs ys i) n) (rem (i : Int) (Lof (mid xs ys i) n)) i true wi _ HT.out.a.heap rfl (by rw [hasId_Lof]; exact decide_eq_true (by omega))).mono ?_
                  rintro e w3 ⟨rfl, F3, i3, s3⟩
                  have HT0 := Lib.hid (HT.out.stepA i3 s3)
                  clear i3 s3 k1 k2 k3 HT
                  go_wp2_with fail
                  refine (put1 ha _ (rem (i : Int) (Lof (mid xs ys i) n)) (Lof (mid xs ys (i + 1)) n) i (fin xs ys i) true _ HT0.out.a.heap ⟨wi, HWF.out⟩ (Nat.lt_of_le_of_lt (List.length_filter_le _ _) (by rw [length_Lof]; omega)) (by rw [rem_rem]; exact mid_step hlt) (by rw [hasId_rem]; rfl)).mono ?_
                  rintro e w4 ⟨rfl, F4, i4, s4⟩
                  have HT1 := Lib.hid (HT0.out.stepA i4 s4)
                  clear i4 s4 HT0
                  go_wp2_with fail
                  refine (put1 hb _ (Lof (fin xs ys) i) (ins ((40 : Int) + (i : Int), 0) (Lof (fin xs ys) i)) ((40 : Int) + (i : Int)) 0 true _ HT1.out.b.heap ⟨by constructor <;> (dsimp only; omega), by constructor <;> (dsimp only; omega)⟩ (by rw [length_Lof]; omega) (by rw [rem_none HNB.out]) (by rw [HNB.out]; rfl)).mono ?_
                  rintro e w5 ⟨rfl, F5, i5, s5⟩
                  have HT5 := Lib.hid (HT1.out.stepB i5 s5)
                  clear i5 s5 HT1
                  go_wp2_with fail
                  refine (drop1 hb _ (ins ((40 : Int) + (i : Int), 0) (Lof (fin xs ys) i)) (Lof (fin xs ys) i) ((40 : Int) + (i : Int)) true (by constructor <;> omega) _ HT5.out.b.heap (rem_ins (Lof_srt _ _) HNB.out) (hasId_insL _ _ _)).mono ?_
                  rintro e w6 ⟨rfl, F6, i6, s6⟩
                  have HT6 := Lib.hid (HT5.out.stepB i6 s6)
                  clear i6 s6 HT5
                  go_wp2_with fail
                  refine (put1 hb _ (Lof (fin xs ys) i) (Lof (fin xs ys) (i + 1)) i (fin xs ys i) true _ HT6.out.b.heap ⟨wi, HWF.out⟩ (by rw [length_Lof]; omega) rfl (by rw [hasId_Lof]; simp)).mono ?_
                  rintro e w7 ⟨rfl, F7, i7, s7⟩
                  have HT7 := Lib.hid (HT6.out.stepB i7 s7)
                  clear i7 s7 HT6
                  go_wp2_with fail
                  go_roundg (n - (i + 1))
                  case measure => omega
                  case rel => exact ⟨i + 1, _, F7, by go_num, by omega, rfl, HT7⟩
              · have qz : ¬ (i : Int) < (zs.length : Int) := by omega
                go_wp2_with fail
                refine (put1 ha _ (Lof (mid xs ys i) n) (Lof (mid xs ys (i + 1)) n) i (fin xs ys i) false _ HT.out.a.heap ⟨wi, HWF.out⟩ (by rw [length_Lof]; omega) (mid_step hlt) (by rw [hasId_Lof, decide_eq_true (by omega)]; rfl)).mono ?_
                rintro e w4 ⟨rfl, F4, i4, s4⟩
                have HT1 := Lib.hid (HT.out.stepA i4 s4)
                clear i4 s4 HT k1 k2
                go_wp2_with fail
                refine (put1 hb _ (Lof (fin xs ys) i) (ins ((40 : Int) + (i : Int), 0) (Lof (fin xs ys) i)) ((40 : Int) + (i : Int)) 0 true _ HT1.out.b.heap ⟨by constructor <;> (dsimp only; omega), by constructor <;> (dsimp only; omega)⟩ (by rw [length_Lof]; omega) (by rw [rem_none HNB.out]) (by rw [HNB.out]; rfl)).mono ?_
                rintro e w5 ⟨rfl, F5, i5, s5⟩
                have HT5 := Lib.hid (HT1.out.stepB i5 s5)
                clear i5 s5 HT1
                go_wp2_with fail
                refine (drop1 hb _ (ins ((40 : Int) + (i : Int), 0) (Lof (fin xs ys) i)) (Lof (fin xs ys) i) ((40 : Int) + (i : Int)) true (by constructor <;> omega) _ HT5.out.b.heap (rem_ins (Lof_srt _ _) HNB.out) (hasId_insL _ _ _)).mono ?_
                rintro e w6 ⟨rfl, F6, i6, s6⟩
                have HT6 := Lib.hid (HT5.out.stepB i6 s6)
                clear i6 s6 HT5
                go_wp2_with fail
                refine (put1 hb _ (Lof (fin xs ys) i) (Lof (fin xs ys) (i + 1)) i (fin xs ys i) true _ HT6.out.b.heap ⟨wi, HWF.out⟩ (by rw [length_Lof]; omega) rfl (by rw [hasId_Lof]; simp)).mono ?_
                rintro e w7 ⟨rfl, F7, i7, s7⟩
                have HT7 := Lib.hid (HT6.out.stepB i7 s7)
                clear i7 s7 HT6
                go_wp2_with fail
                go_roundg (n - (i + 1))
                case measure => omega
                case rel => exact ⟨i + 1, _, F7, by go_num, by omega, rfl, HT7⟩
            · have HWF : Hid (I64 (fin xs ys i)) := Lib.hid (by unfold fin; rw [if_neg hy]; exact HWX.out)
              have hfin : at1 xs i = fin xs ys i := by unfold fin; rw [if_neg hy]
              rw [hfin] at k1
              have HT1 : Hid (Two w.heap.size w wr ha hb Fa Fb (Lof (mid xs ys (i + 1)) n) (Lof (fin xs ys) i)) := by rw [← mid_same hfin.symm]; exact HT
              have qy : ¬ (i : Int) < (ys.length : Int) := by omega
              clear hfin HT
              go_wp2_with fail
              refine (put1 hb _ (Lof (fin xs ys) i) (ins ((40 : Int) + (i : Int), 0) (Lof (fin xs ys) i)) ((40 : Int) + (i : Int)) 0 true _ HT1.out.b.heap ⟨by constructor <;> (dsimp only; omega), by constructor <;> (dsimp only; omega)⟩ (by rw [length_Lof]; omega) (by rw [rem_none HNB.out]) (by rw [HNB.out]; rfl)).mono ?_
              rintro e w5 ⟨rfl, F5, i5, s5⟩
              have HT5 := Lib.hid (HT1.out.stepB i5 s5)
              clear i5 s5 HT1
              go_wp2_with fail
              refine (drop1 hb _ (ins ((40 : Int) + (i : Int), 0) (Lof (fin xs ys) i)) (Lof (fin xs ys) i) ((40 : Int) + (i : Int)) true (by constructor <;> omega) _ HT5.out.b.heap (rem_ins (Lof_srt _ _) HNB.out) (hasId_insL _ _ _)).mono ?_
              rintro e w6 ⟨rfl, F6, i6, s6⟩
              have HT6 := Lib.hid (HT5.out.stepB i6 s6)
              clear i6 s6 HT5
              go_wp2_with fail
              refine (put1 hb _ (Lof (fin xs ys) i) (Lof (fin xs ys) (i + 1)) i (fin xs ys i) true _ HT6.out.b.heap ⟨wi, HWF.out⟩ (by rw [length_Lof]; omega) rfl (by rw [hasId_Lof]; simp)).mono ?_
              rintro e w7 ⟨rfl, F7, i7, s7⟩
              have HT7 := Lib.hid (HT6.out.stepB i7 s7)
              clear i7 s7 HT6
              go_wp2_with fail
              go_roundg (n - (i + 1))
              case measure => omega
              case rel => exact ⟨i + 1, _, F7, by go_num, by omega, rfl, HT7⟩
          · have hge : ¬ (i : Int) < ((40 : Int) : Int) := by have := HNI.out; omega
            have HT9 : Hid (Two w.heap.size w wr ha hb Fa Fb (Lof (fin xs ys) n) (Lof (fin xs ys) n)) := by
              have e : i = n := by omega
              rw [← mid_all, ← e]
              have := HT.out
              rw [e] at this ⊢
              rw [mid_all] at this ⊢
              exact Lib.hid this
            clear HT hlt hi
            have hlen := length_Lof (fin xs ys) n
            have HLL := Lib.hid hlen
            clear hlen
            go_wp2_with fail
            refine (all14 ha _ (Lof (fin xs ys) n) _ HT9.out.a.heap).mono ?_
            rintro e w8 ⟨v8, rfl, b8, A8, cp8, rfl, hs8⟩
            have HT10 := Lib.hid (HT9.out.of b8)
            have HS8 := Lib.hid hs8
            rw [HLL.out]
            clear b8 hs8 HT9 hge
            go_wp2_with fail
            refine (all14 hb _ (Lof (fin xs ys) n) _ HT10.out.b.heap).mono ?_
            rintro e w9 ⟨v9, rfl, b9, A9, cp9, rfl, hs9⟩
            have HT11 := Lib.hid (HT10.out.of b9)
            have HS9 := Lib.hid hs9
            have HB9 := Lib.hid b9
            rw [HLL.out]
            have hEQ : (n : Int) = (40 : Int) := by first | rfl | exact HNI.out.symm
            clear b9 hs9 HT10
            go_wp2_with fail
            go_loopg [123] n (fun q s wv => ∃ i : Nat, s = .int .i64 i ∧ i ≤ n ∧ q = n - i ∧ Hid (Below w9.heap.size w9 wv))
            case atStart => exact ⟨0, rfl, Nat.zero_le _, rfl, Lib.hid (Below.refl _ _)⟩
            case round =>
              obtain ⟨i, rfl, hi, rfl, HB⟩ := hrel
              by_cases hlt : i < n
              · obtain ⟨g8, rfl, _, hg8, x0, x1⟩ := HS8.out i (by rw [HLL.out]; exact hlt)
                obtain ⟨g9, rfl, _, hg9, y0, y1⟩ := HS9.out i (by rw [HLL.out]; exact hlt)
                revert x0 x1 y0 y1
                generalize (at' (Lof (fin xs ys) n) i).1 = p1
                generalize (at' (Lof (fin xs ys) n) i).2 = p2
                intro x0 x1 y0 y1
                have hg8' := Nat.lt_of_lt_of_le hg8 HB9.out.size
                have u0 := (HB.out.cell (p := ⟨g8, i * 2, none⟩) hg8').trans ((HB9.out.cell (p := ⟨g8, i * 2, none⟩) hg8).trans x0)
                have u1 := (HB.out.cell (p := ⟨g8, i * 2 + 1, none⟩) hg8').trans ((HB9.out.cell (p := ⟨g8, i * 2 + 1, none⟩) hg8).trans x1)
                have u2 := (HB.out.cell (p := ⟨g9, i * 2, none⟩) hg9).trans y0
                have u3 := (HB.out.cell (p := ⟨g9, i * 2 + 1, none⟩) hg9).trans y1
                have qi : (i : Int) < ((40 : Int) : Int) := by have := HNI.out; omega
                have qi' : (i : Int) < (n : Int) := by omega
                clear x0 x1 y0 y1 hg8 hg9 hg8'
                go_wp2_with fail
                go_big_quiet (fail)
                go_wp2_with fail
                go_roundg (n - (i + 1))
                case measure => omega
                case rel => exact ⟨i + 1, by go_num, by omega, rfl, Lib.hid (HB.out.trans ((below_drewN _ _).mono HB.out.size))⟩
              · have hge : ¬ (i : Int) < ((40 : Int) : Int) := by have := HNI.out; omega
                clear hlt hi
                go_wp2_with fail
                refine (len15 ha _ (Lof (fin xs ys) n) _ (HT11.out.of HB.out).a.heap).mono ?_
                rintro e w12 ⟨rfl, rfl⟩
                rw [HLL.out]
                go_wp2_with fail
                go_ret
                exact ⟨by simp, (HT11.out.of HB.out).a.below⟩
end Go.Proofs.Ytfhlipalfebfaaa
