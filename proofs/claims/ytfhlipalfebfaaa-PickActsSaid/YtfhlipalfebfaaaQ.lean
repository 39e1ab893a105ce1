import Derived.Test.YtfhlipalfebfaaaP
import Derived.Test.YtfhlipalfebfaaaR
import Derived.Deep.OwnRows
namespace Go.Proofs.Ytfhlipalfebfaaa
open Go.RowKit Go.Sort

def nth (xs : List Int) (i : Nat) : Int := xs.getD i 0

/-- The items of the first keys, in order. -/
def Sof (xs : List Int) : Nat → List It
  | 0 => []
  | i + 1 => ins ((i : Int), nth xs i) (rem (i : Int) (Sof xs i))

theorem mem_ins (x y : It) (S : List It) : y ∈ ins x S ↔ y = x ∨ y ∈ S := by rw [(ins_perm x S).mem_iff, List.mem_cons]

theorem mem_Sof (xs : List Int) : ∀ (i : Nat) (y : It), y ∈ Sof xs i ↔ ∃ j : Nat, j < i ∧ y = ((j : Int), nth xs j)
  | 0, y => by simp [Sof]
  | i + 1, y => by
    have hno : hasId (i : Int) (Sof xs i) = false := by
      cases e : hasId (i : Int) (Sof xs i)
      · rfl
      · obtain ⟨z, hz, e2⟩ := (hasId_iff _ _).1 e
        obtain ⟨j, hj, rfl⟩ := (mem_Sof xs i z).1 hz
        dsimp only at e2
        omega
    unfold Sof
    rw [mem_ins, rem_none hno, mem_Sof xs i y]
    constructor
    · rintro (rfl | ⟨j, hj, e⟩)
      · exact ⟨i, by omega, rfl⟩
      · exact ⟨j, by omega, e⟩
    · rintro ⟨j, hj, e⟩
      by_cases h : j = i
      · subst h; exact Or.inl e
      · exact Or.inr ⟨j, by omega, e⟩

theorem noId_Sof (xs : List Int) (i : Nat) : hasId (i : Int) (Sof xs i) = false := by
  cases e : hasId (i : Int) (Sof xs i)
  · rfl
  · obtain ⟨z, hz, e2⟩ := (hasId_iff _ _).1 e
    obtain ⟨j, hj, rfl⟩ := (mem_Sof xs i z).1 hz
    dsimp only at e2
    omega

theorem length_Sof (xs : List Int) : ∀ i, (Sof xs i).length = i
  | 0 => rfl
  | i + 1 => by
    unfold Sof
    rw [(ins_perm _ _).length_eq, rem_none (noId_Sof xs i), List.length_cons, length_Sof xs i]

theorem drop_cons (S : List It) (i : Nat) (h : i < S.length) : S.drop i = at' S i :: S.drop (i + 1) := by
  have e : at' S i = S[i] := by unfold at'; rw [List.getD_eq_getElem?_getD, List.getElem?_eq_getElem h]; rfl
  rw [e]
  exact List.drop_eq_getElem_cons h

theorem info4 : (Try.prog.info? 4).map (fun i => (i.zero, i.size, i.bytes)) = some (some (.bool false), 1, 1) := by kernel_rfl

/-- The state of PickDrains' second loop. -/
def lastOf (S : List It) (i : Nat) : It := if i = 0 then (0, 0) else at' S (i - 1)

structure Drain (B : Nat) (w wr : World) (hb lb sb n : Nat) (S : List It) (i : Nat) (F : List Nat) : Prop where
  st : St B w wr hb F (S.drop i)
  last : Loc wr F lb (lastOf S i)
  had : wr.rowIs sb 4 n (fun j => .bool (hasId (j : Int) (S.take i)))
  far : sb ∉ F ∧ sb ≠ lb ∧ B ≤ sb ∧ B ≤ lb

theorem drain_start {B n hb : Nat} {w wr : World} {S : List It} {F : List Nat} (h : St B w wr hb F S) :
    Drain B w ((wr.alloc (.cells #[.int .i64 0, .int .i64 0] 26)).alloc (.cells (madeCells #[.bool false] n) 4)) hb wr.heap.size (wr.heap.size + 1) n S 0 F := by
  have hlt := h.heap.lt
  have hs := h.below.size
  have hle := h.le
  have hr := World.rowIs_made (wr.alloc (.cells #[.int .i64 0, .int .i64 0] 26)) (.bool false) n 4
  rw [World.size_alloc] at hr
  exact ⟨(h.of ((Below.refl _ _).alloc (Nat.le_refl _) _)).of ((Below.refl _ _).alloc (Nat.le_refl _) _), (Loc.new h.heap 0 0).turn (Turn.alloc [] _ _) (by simp), hr, fun e => by have := hlt _ e; omega, by omega, by omega, by omega⟩

theorem take_hasId {S : List It} (h : (S.map (·.1)).Nodup) {i : Nat} (hi : i < S.length) : hasId (at' S i).1 (S.take i) = false := by
  cases e : hasId (at' S i).1 (S.take i)
  · rfl
  · obtain ⟨x, hx, e2⟩ := (hasId_iff _ _).1 e
    have h1 : (S.take i ++ S.drop i).map (·.1) = S.map (·.1) := by rw [List.take_append_drop]
    rw [← h1, drop_cons S i hi, List.map_append, List.map_cons, List.nodup_append] at h
    exact absurd e2 (h.2.2 _ (List.mem_map_of_mem hx) _ List.mem_cons_self)

theorem take_succ' {S : List It} {i : Nat} (hi : i < S.length) : S.take (i + 1) = S.take i ++ [at' S i] := by
  have e : at' S i = S[i] := by unfold at'; rw [List.getD_eq_getElem?_getD, List.getElem?_eq_getElem hi]; rfl
  rw [e, List.take_append_getElem hi]

theorem hasId_snoc (id : Int) (S : List It) (x : It) : hasId id (S ++ [x]) = (hasId id S || x.1 == id) := by simp [hasId]

theorem srt_step {S : List It} (h : Srt S) {i : Nat} (h0 : 0 < i) (hi : i < S.length) : ltIt (at' S (i - 1)) (at' S i) = true := by
  have e : ∀ k, (hk : k < S.length) → at' S k = S[k] := fun k hk => by unfold at'; rw [List.getD_eq_getElem?_getD, List.getElem?_eq_getElem hk]; rfl
  rw [e _ (by omega), e _ hi]
  exact List.pairwise_iff_getElem.1 h _ _ _ _ (by omega)

theorem pop_at {S : List It} {i : Nat} (hi : i < S.length) {a b : Int} (hx : at' S i = (a, b)) : (S.drop i).tail = S.drop (i + 1) ∧ hd (S.drop i) = ((a, b), true) := by
  rw [drop_cons S i hi, hx]
  exact ⟨rfl, rfl⟩

theorem Sof_srt (xs : List Int) : ∀ i, Srt (Sof xs i)
  | 0 => List.Pairwise.nil
  | i + 1 => ins_srt (rem_srt (Sof_srt xs i) _) (fun y hy => by
    have := (List.mem_filter.1 hy).2
    simpa using this)

theorem Sof_nodup (xs : List Int) : ∀ i, ((Sof xs i).map (·.1)).Nodup
  | 0 => List.nodup_nil
  | i + 1 => by
    have p := (ins_perm ((i : Int), nth xs i) (rem (i : Int) (Sof xs i))).map (·.1)
    unfold Sof
    rw [p.nodup_iff, rem_none (noId_Sof xs i), List.map_cons, List.nodup_cons]
    refine ⟨fun e => ?_, Sof_nodup xs i⟩
    obtain ⟨x, hx, e2⟩ := List.mem_map.1 e
    have := (hasId_iff (i : Int) (Sof xs i)).2 ⟨x, hx, e2⟩
    rw [noId_Sof] at this
    cases this

theorem Drain.next {B n hb lb sb i j : Nat} {w wr w3 : World} {S : List It} {F F3 : List Nat} {k : Int} (h : Drain B w wr hb lb sb n S i F) (i3 : IsHeap w3 hb F3 (S.drop (i + 1))) (s3 : Step F F3 wr w3) (hi : i < S.length) (hx : at' S i = ((j : Int), k)) (q : Nat) :
    Drain B w (((((w3.alloc (.cells #[.int .i64 j, .int .i64 k] 26)).drewN q).setCell ⟨sb, j, none⟩ (.bool true)).setCell ⟨lb, 0, none⟩ (.int .i64 j)).setCell ⟨lb, 1, none⟩ (.int .i64 k)) hb lb sb n S (i + 1) F3 := by
  obtain ⟨f1, f2, f3, f4⟩ := h.far
  have hsb := h.had.lt
  have L3 := h.last.step s3
  have f5 : sb ∉ F3 := fun e => by rcases s3.blocks _ e with y | y; exact f1 y; omega
  have T1 : Turn [sb, lb] w3 (((((w3.alloc (.cells #[.int .i64 j, .int .i64 k] 26)).drewN q).setCell ⟨sb, j, none⟩ (.bool true)).setCell ⟨lb, 0, none⟩ (.int .i64 j)).setCell ⟨lb, 1, none⟩ (.int .i64 k)) :=
    ((((Turn.alloc _ _ _).trans (Turn.of (below_drewN q _))).trans (Turn.set _ _ _ _ (by simp))).trans (Turn.set _ _ _ _ (by simp))).trans (Turn.set _ _ _ _ (by simp))
  have R3 := h.had.of_block (s3.turn.block sb hsb f1)
  have hsb3 : sb < w3.heap.size := R3.lt
  have R4 := R3.of_block (w' := (w3.alloc (.cells #[.int .i64 j, .int .i64 k] 26)).drewN q) ((Turn.alloc [] w3 _).block sb hsb3 (by simp))
  have R5 := ((R4.set j (.bool true)).of_block (Below.heap_setCell _ ⟨lb, 0, none⟩ (.int .i64 j) _ f2)).of_block (Below.heap_setCell _ ⟨lb, 1, none⟩ (.int .i64 k) _ f2)
  have L4 := (L3.turn (Turn.alloc [sb] w3 (.cells #[.int .i64 j, .int .i64 k] 26)) (by simp; omega)).turn ((Turn.of (below_drewN q _)).trans (Turn.set [sb] _ ⟨sb, j, none⟩ (.bool true) (by simp))) (by simp; omega)
  refine ⟨(h.st.step i3 s3).turn T1 (fun m hm => ?_) (fun m hm hg => ?_), ?_, R5.congr (fun m hm => ?_), f5, f2, f3, f4⟩
  · simp at hm; rcases hm with rfl | rfl
    · exact f3
    · exact f4
  · simp at hg; rcases hg with rfl | rfl
    · exact f5 hm
    · exact L3.far hm
  · unfold lastOf
    rw [if_neg (by omega), Nat.add_sub_cancel, hx]
    have c0 := set_get L4.c0 (.int .i64 j)
    obtain ⟨u, k1⟩ := cell?_setCell_some (p := ⟨lb, 0, none⟩) (x := .int .i64 j) (q := ⟨lb, 1, none⟩) L4.c1
    have c1 := set_get k1 (.int .i64 k)
    refine ⟨by rw [c1, if_neg (by omega), c0, if_pos rfl], by rw [c1, if_pos rfl], ?_, ?_, L3.far⟩
    · rw [World.frozen?_setCell, World.frozen?_setCell]; exact L4.f0
    · rw [World.frozen?_setCell, World.frozen?_setCell]; exact L4.f1
  · rw [take_succ' hi, hasId_snoc, hx]
    by_cases e : m = j
    · subst e; simp
    · rw [if_neg e]
      have : ((j : Int) == (m : Int)) = false := beq_eq_false_iff_ne.2 (by omega)
      simp [this]

set_option maxHeartbeats 4000000 in
set_option maxRecDepth 100000 in
theorem pickDrains5 (a0 : Option Addr) (xs : List Int) (c0 : Nat) (w : World) (hn : Nums w a0 xs) (hx : ∀ x ∈ xs, I64 x) :
    Calls Try.prog 5 #[.slice a0 xs.length c0] w fun e w' => e = .returned (.bool true) ∧ Below w.heap.size w w' := by
  have HN := Lib.hid hn
  have HX := Lib.hid hx
  clear hn hx
  obtain ⟨n, hn⟩ : ∃ n, min xs.length 60 = n := ⟨_, rfl⟩
  have hmk := run_make_row' (P := Try.prog) 43 4 (.bool false) 1 Try.underlying43 info4 rfl .i64 .i64 n (by omega) (by omega)
  go_enter Try.func5, Try.ntmps5
  go_wp2_with fail
  refine (new8 w).mono ?_
  rintro e w1 ⟨rfl, h1, b1⟩
  have H1 : Hid (St w.heap.size w w1 w.heap.size [w.heap.size] []) := Lib.hid ⟨h1, by simp, b1, Nat.le_refl _⟩
  clear h1 b1
  go_wp2_with fail
  refine (known9 w1).mono ?_
  rintro e w2 ⟨rfl, b2⟩
  have H2 := Lib.hid (H1.out.of b2)
  clear b2 H1
  have hcase : (xs.length : Int) = n ∧ n ≤ 60 ∨ 60 = n ∧ 60 < xs.length := by omega
  clear hn
  rcases hcase with ⟨h1, h2⟩ | ⟨rfl, h2⟩
  · have hd : (xs.length : Int) ≤ 60 := by omega
    go_wp2_with fail
    go_loopg [5] n (fun q s5 wr => ∃ (i : Nat) (F : List Nat), s5 = .int .i64 i ∧ i ≤ n ∧ q = n - i ∧ Hid (St w.heap.size w wr w.heap.size F (Sof xs i)))
    case atStart => exact ⟨0, _, rfl, Nat.zero_le _, by omega, H2⟩
    case round =>
      obtain ⟨i, F, rfl, hi, rfl, HS⟩ := hrel
      clear H2
      by_cases hlt : i < n
      · have hz : xs[i]? = some (nth xs i) := by unfold nth; rw [List.getD_eq_getElem?_getD, List.getElem?_eq_getElem (by omega)]; rfl
        obtain ⟨g, o, rfl, hg, hc⟩ := HN.out i _ hz
        have wx : Wf ((i : Int), nth xs i) := ⟨⟨by dsimp only; omega, by dsimp only; omega⟩, HX.out _ (List.mem_of_getElem? hz)⟩
        have k1 : wr.cell? ⟨g, o + i, none⟩ = some (.int .i64 (nth xs i)) := (HS.out.below.cell (p := ⟨g, o + i, none⟩) hg).trans hc
        have HP := Lib.hid (put1 w.heap.size F (Sof xs i) (Sof xs (i + 1)) i (nth xs i) true wr HS.out.heap wx (by rw [length_Sof]; omega) rfl (by rw [noId_Sof]; rfl))
        have qi : (i : Int) < (xs.length : Int) := by omega
        clear hz wx hc
        go_wp2_with fail
        refine HP.out.mono ?_
        rintro e w3 ⟨rfl, F3, i3, s3⟩
        have HS3 := Lib.hid (HS.out.step i3 s3)
        clear i3 s3
        go_wp2_with fail
        go_roundg (n - (i + 1))
        case measure => omega
        case rel => exact ⟨i + 1, F3, by go_num, by omega, rfl, HS3⟩
      · have hge : ¬ (i : Int) < (n : Int) := by omega
        have HS0 : Hid (St w.heap.size w wr w.heap.size F (Sof xs n)) := by
          have e : i = n := by omega
          rw [← e]
          exact HS
        clear HS hlt hi
        have HF : Hid ((Sof xs n).length = n ∧ Srt (Sof xs n) ∧ ((Sof xs n).map (·.1)).Nodup ∧ ∀ y, y ∈ Sof xs n → ∃ j : Nat, j < n ∧ y = ((j : Int), nth xs j)) :=
          Lib.hid ⟨length_Sof xs n, Sof_srt xs n, Sof_nodup xs n, fun y hy => (mem_Sof xs n y).1 hy⟩
        revert HS0 HF
        generalize Sof xs n = S
        intro HS0 HF
        have HD0 := Lib.hid (drain_start (n := n) HS0.out)
        go_wp2_with fail
        clear HS0 hge
        revert HD0
        generalize hlb : wr.heap.size = lb
        generalize hsb : lb + 1 = sb
        generalize (wr.alloc (.cells #[.int .i64 0, .int .i64 0] 26)).alloc (.cells (madeCells #[.bool false] n) 4) = v0
        intro HD0
        clear hlb hsb
        go_loopg [8] n (fun q s8 wv => ∃ (i : Nat) (F : List Nat), s8 = .int .i64 i ∧ i ≤ n ∧ q = n - i ∧ Hid (Drain w.heap.size w wv w.heap.size lb sb n S i F))
        case atStart => exact ⟨0, _, rfl, Nat.zero_le _, by omega, HD0⟩
        case round =>
          obtain ⟨i, F, rfl, hi, rfl, HD⟩ := hrel
          clear HD0
          by_cases hlt : i < n
          · obtain ⟨j, hj, hx⟩ := HF.out.2.2.2 _ (at_mem S i (by rw [HF.out.1]; exact hlt))
            have hz : xs[j]? = some (nth xs j) := by unfold nth; rw [List.getD_eq_getElem?_getD, List.getElem?_eq_getElem (by omega)]; rfl
            obtain ⟨g, o, rfl, hg, hc⟩ := HN.out j _ hz
            have HX1 := Lib.hid hx
            have hnot : hasId (j : Int) (S.take i) = false := by
              have := take_hasId HF.out.2.2.1 (i := i) (by rw [HF.out.1]; exact hlt)
              rw [hx] at this
              exact this
            have HP := Lib.hid (pop1 w.heap.size F (S.drop i) (S.drop (i + 1)) j (nth xs j) true _ HD.out.st.heap (pop_at (by rw [HF.out.1]; exact hlt) hx).1 (pop_at (by rw [HF.out.1]; exact hlt) hx).2)
            have t1 : decide ((j : Int) < 0) = false := decide_eq_false (by omega)
            have t2 : decide ((n : Int) ≤ (j : Int)) = false := decide_eq_false (by omega)
            have t2' : decide (n ≤ j) = false := decide_eq_false (by omega)
            have qj : (j : Int) < (xs.length : Int) := by omega
            have qn : (j : Int) < (n : Int) := by omega
            clear hx hz
            obtain ⟨la, lk, hla⟩ : ∃ la lk, lastOf S i = (la, lk) := ⟨_, _, rfl⟩
            have HLA := Lib.hid hla
            clear hla
            by_cases h0 : i = 0
            · subst h0
              go_wp2_with fail
              refine HP.out.mono ?_
              rintro e w3 ⟨rfl, F3, i3, s3⟩
              have HN3 := Lib.hid (HD.out.next i3 s3 (by rw [HF.out.1]; exact hlt) HX1.out)
              have HL3 := Lib.hid ((HD.out.last.step s3).turn (Turn.alloc [] w3 (.cells #[.int .i64 j, .int .i64 (nth xs j)] 26)) (by simp))
              have R3 := (HD.out.had.of_block (s3.turn.block sb HD.out.had.lt HD.out.far.1)).of_block ((Turn.alloc [] w3 (.cells #[.int .i64 j, .int .i64 (nth xs j)] 26)).block sb (Nat.lt_of_lt_of_le HD.out.had.lt s3.turn.size) (by simp))
              have b4 := (((HD.out.st.step i3 s3).of ((Below.refl _ _).alloc (Nat.le_refl _) (.cells #[.int .i64 j, .int .i64 (nth xs j)] 26))).below.cell (p := ⟨g, o + j, none⟩) hg).trans hc
              have c1 := R3.cell hj
              have f1 := R3.frozen j
              have x0 : (w3.alloc (.cells #[.int .i64 j, .int .i64 (nth xs j)] 26)).cell? ⟨w3.heap.size, 0, none⟩ = some (.int .i64 j) := by simp [go_sem]
              have x1 : (w3.alloc (.cells #[.int .i64 j, .int .i64 (nth xs j)] 26)).cell? ⟨w3.heap.size, 1, none⟩ = some (.int .i64 (nth xs j)) := by simp [go_sem]
              rw [hnot] at c1
              have l0 := HL3.out.c0
              have l1 := HL3.out.c1
              have g0 := HL3.out.f0
              have g1 := HL3.out.f1
              have hne1 : lb ≠ sb := Ne.symm HD.out.far.2.1
              have hlt3 : lb < w3.heap.size := cell?_lt (HD.out.last.step s3).c0
              have hst3 : sb < w3.heap.size := Nat.lt_of_lt_of_le HD.out.had.lt s3.turn.size
              rw [HLA.out] at l0 l1
              dsimp only at l0 l1
              have HA := Lib.hid (And.intro x0 (And.intro x1 (And.intro c1 (And.intro f1 (And.intro l0 (And.intro l1 (And.intro g0 (And.intro g1 b4))))))))
              clear i3 s3 R3 HL3 x0 x1 c1 f1 l0 l1 g0 g1 b4
              go_wp2_with fail
              revert HA HN3
              generalize hxb : w3.heap.size = xb
              generalize w3.alloc (.cells #[.int .i64 j, .int .i64 (nth xs j)] 26) = v4
              intro HN3 HA
              obtain ⟨x0, x1, c1, f1, l0, l1, g0, g1, b4⟩ := HA.out
              rw [hxb] at hlt3 hst3
              have hne2 : sb ≠ xb := by omega
              have hne3 : lb ≠ xb := by omega
              clear HA hxb
              go_big_quiet (fail)
              go_wp2_with fail
              go_roundg (n - (0 + 1))
              case measure => omega
              case rel => exact ⟨0 + 1, F3, by go_num, by omega, rfl, Lib.hid (HN3.out nq)⟩

            · have hord : lk < nth xs j ∨ lk = nth xs j ∧ la < (j : Int) := by
                have := srt_step HF.out.2.1 (i := i) (by omega) (by rw [HF.out.1]; exact hlt)
                have e := HLA.out
                unfold lastOf at e
                rw [if_neg h0] at e
                rw [e, HX1.out, lt_iff] at this
                exact this
              have t3 : (0 : Int) < (i : Int) := by omega
              have t3' : 0 < i := by omega
              have t6 : decide (nth xs j < lk) = false := decide_eq_false (by omega)
              by_cases h9 : nth xs j = lk
              · have t7 : (nth xs j == lk) = true := beq_iff_eq.2 h9
                have t8 : decide ((j : Int) < la) = false := decide_eq_false (by omega)
                clear h9 hord
                go_wp2_with fail
                refine HP.out.mono ?_
                rintro e w3 ⟨rfl, F3, i3, s3⟩
                have HN3 := Lib.hid (HD.out.next i3 s3 (by rw [HF.out.1]; exact hlt) HX1.out)
                have HL3 := Lib.hid ((HD.out.last.step s3).turn (Turn.alloc [] w3 (.cells #[.int .i64 j, .int .i64 (nth xs j)] 26)) (by simp))
                have R3 := (HD.out.had.of_block (s3.turn.block sb HD.out.had.lt HD.out.far.1)).of_block ((Turn.alloc [] w3 (.cells #[.int .i64 j, .int .i64 (nth xs j)] 26)).block sb (Nat.lt_of_lt_of_le HD.out.had.lt s3.turn.size) (by simp))
                have b4 := (((HD.out.st.step i3 s3).of ((Below.refl _ _).alloc (Nat.le_refl _) (.cells #[.int .i64 j, .int .i64 (nth xs j)] 26))).below.cell (p := ⟨g, o + j, none⟩) hg).trans hc
                have c1 := R3.cell hj
                have f1 := R3.frozen j
                have x0 : (w3.alloc (.cells #[.int .i64 j, .int .i64 (nth xs j)] 26)).cell? ⟨w3.heap.size, 0, none⟩ = some (.int .i64 j) := by simp [go_sem]
                have x1 : (w3.alloc (.cells #[.int .i64 j, .int .i64 (nth xs j)] 26)).cell? ⟨w3.heap.size, 1, none⟩ = some (.int .i64 (nth xs j)) := by simp [go_sem]
                rw [hnot] at c1
                have l0 := HL3.out.c0
                have l1 := HL3.out.c1
                have g0 := HL3.out.f0
                have g1 := HL3.out.f1
                have hne1 : lb ≠ sb := Ne.symm HD.out.far.2.1
                have hlt3 : lb < w3.heap.size := cell?_lt (HD.out.last.step s3).c0
                have hst3 : sb < w3.heap.size := Nat.lt_of_lt_of_le HD.out.had.lt s3.turn.size
                rw [HLA.out] at l0 l1
                dsimp only at l0 l1
                have HA := Lib.hid (And.intro x0 (And.intro x1 (And.intro c1 (And.intro f1 (And.intro l0 (And.intro l1 (And.intro g0 (And.intro g1 b4))))))))
                clear i3 s3 R3 HL3 x0 x1 c1 f1 l0 l1 g0 g1 b4
                go_wp2_with fail
                revert HA HN3
                generalize hxb : w3.heap.size = xb
                generalize w3.alloc (.cells #[.int .i64 j, .int .i64 (nth xs j)] 26) = v4
                intro HN3 HA
                obtain ⟨x0, x1, c1, f1, l0, l1, g0, g1, b4⟩ := HA.out
                rw [hxb] at hlt3 hst3
                have hne2 : sb ≠ xb := by omega
                have hne3 : lb ≠ xb := by omega
                clear HA hxb
                go_big_quiet (fail)
                go_wp2_with fail
                go_roundg (n - (i + 1))
                case measure => omega
                case rel => exact ⟨i + 1, F3, by go_num, by omega, rfl, Lib.hid (HN3.out nq)⟩

              · have t7 : (nth xs j == lk) = false := beq_eq_false_iff_ne.2 h9
                clear h9 hord
                go_wp2_with fail
                refine HP.out.mono ?_
                rintro e w3 ⟨rfl, F3, i3, s3⟩
                have HN3 := Lib.hid (HD.out.next i3 s3 (by rw [HF.out.1]; exact hlt) HX1.out)
                have HL3 := Lib.hid ((HD.out.last.step s3).turn (Turn.alloc [] w3 (.cells #[.int .i64 j, .int .i64 (nth xs j)] 26)) (by simp))
                have R3 := (HD.out.had.of_block (s3.turn.block sb HD.out.had.lt HD.out.far.1)).of_block ((Turn.alloc [] w3 (.cells #[.int .i64 j, .int .i64 (nth xs j)] 26)).block sb (Nat.lt_of_lt_of_le HD.out.had.lt s3.turn.size) (by simp))
                have b4 := (((HD.out.st.step i3 s3).of ((Below.refl _ _).alloc (Nat.le_refl _) (.cells #[.int .i64 j, .int .i64 (nth xs j)] 26))).below.cell (p := ⟨g, o + j, none⟩) hg).trans hc
                have c1 := R3.cell hj
                have f1 := R3.frozen j
                have x0 : (w3.alloc (.cells #[.int .i64 j, .int .i64 (nth xs j)] 26)).cell? ⟨w3.heap.size, 0, none⟩ = some (.int .i64 j) := by simp [go_sem]
                have x1 : (w3.alloc (.cells #[.int .i64 j, .int .i64 (nth xs j)] 26)).cell? ⟨w3.heap.size, 1, none⟩ = some (.int .i64 (nth xs j)) := by simp [go_sem]
                rw [hnot] at c1
                have l0 := HL3.out.c0
                have l1 := HL3.out.c1
                have g0 := HL3.out.f0
                have g1 := HL3.out.f1
                have hne1 : lb ≠ sb := Ne.symm HD.out.far.2.1
                have hlt3 : lb < w3.heap.size := cell?_lt (HD.out.last.step s3).c0
                have hst3 : sb < w3.heap.size := Nat.lt_of_lt_of_le HD.out.had.lt s3.turn.size
                rw [HLA.out] at l0 l1
                dsimp only at l0 l1
                have HA := Lib.hid (And.intro x0 (And.intro x1 (And.intro c1 (And.intro f1 (And.intro l0 (And.intro l1 (And.intro g0 (And.intro g1 b4))))))))
                clear i3 s3 R3 HL3 x0 x1 c1 f1 l0 l1 g0 g1 b4
                go_wp2_with fail
                revert HA HN3
                generalize hxb : w3.heap.size = xb
                generalize w3.alloc (.cells #[.int .i64 j, .int .i64 (nth xs j)] 26) = v4
                intro HN3 HA
                obtain ⟨x0, x1, c1, f1, l0, l1, g0, g1, b4⟩ := HA.out
                rw [hxb] at hlt3 hst3
                have hne2 : sb ≠ xb := by omega
                have hne3 : lb ≠ xb := by omega
                clear HA hxb
                go_big_quiet (fail)
                go_wp2_with fail
                go_roundg (n - (i + 1))
                case measure => omega
                case rel => exact ⟨i + 1, F3, by go_num, by omega, rfl, Lib.hid (HN3.out nq)⟩

          · have hge : ¬ (i : Int) < (n : Int) := by omega
            have HE : Hid (IsHeap wr w.heap.size F []) := by
              have e : i = n := by omega
              have h := HD.out.st.heap
              rw [e, List.drop_eq_nil_of_le (by rw [HF.out.1]; exact Nat.le_refl _)] at h
              exact Lib.hid h
            clear hlt hi
            go_wp2_with fail
            refine (len15 w.heap.size F [] wr HE.out).mono ?_
            rintro e w9 ⟨rfl, rfl⟩
            go_wp2_with fail
            go_ret
            exact ⟨rfl, HD.out.st.below⟩
  · have hd : ¬ (xs.length : Int) ≤ 60 := by omega
    have hmk' : ∀ w : World, (Instr.makeSlice 43 (.int .i64 60) (.int .i64 60)).run Try.prog w = .ok (.slice (some ⟨w.heap.size, 0, none⟩) 60 60) (w.alloc (.cells (madeCells #[.bool false] 60) 4)) := hmk
    clear hmk
    go_wp2_with fail
    go_loopg [5] 60 (fun q s5 wr => ∃ (i : Nat) (F : List Nat), s5 = .int .i64 i ∧ i ≤ 60 ∧ q = 60 - i ∧ Hid (St w.heap.size w wr w.heap.size F (Sof xs i)))
    case atStart => exact ⟨0, _, rfl, Nat.zero_le _, by omega, H2⟩
    case round =>
      obtain ⟨i, F, rfl, hi, rfl, HS⟩ := hrel
      clear H2
      by_cases hlt : i < 60
      · have hz : xs[i]? = some (nth xs i) := by unfold nth; rw [List.getD_eq_getElem?_getD, List.getElem?_eq_getElem (by omega)]; rfl
        obtain ⟨g, o, rfl, hg, hc⟩ := HN.out i _ hz
        have wx : Wf ((i : Int), nth xs i) := ⟨⟨by dsimp only; omega, by dsimp only; omega⟩, HX.out _ (List.mem_of_getElem? hz)⟩
        have k1 : wr.cell? ⟨g, o + i, none⟩ = some (.int .i64 (nth xs i)) := (HS.out.below.cell (p := ⟨g, o + i, none⟩) hg).trans hc
        have HP := Lib.hid (put1 w.heap.size F (Sof xs i) (Sof xs (i + 1)) i (nth xs i) true wr HS.out.heap wx (by rw [length_Sof]; omega) rfl (by rw [noId_Sof]; rfl))
        have qi : (i : Int) < (xs.length : Int) := by omega
        clear hz wx hc
        go_wp2_with fail
        refine HP.out.mono ?_
        rintro e w3 ⟨rfl, F3, i3, s3⟩
        have HS3 := Lib.hid (HS.out.step i3 s3)
        clear i3 s3
        go_wp2_with fail
        go_roundg (60 - (i + 1))
        case measure => omega
        case rel => exact ⟨i + 1, F3, by go_num, by omega, rfl, HS3⟩
      · have hge : ¬ (i : Int) < (60 : Int) := by omega
        have HS0 : Hid (St w.heap.size w wr w.heap.size F (Sof xs 60)) := by
          have e : i = 60 := by omega
          rw [← e]
          exact HS
        clear HS hlt hi
        have HF : Hid ((Sof xs 60).length = 60 ∧ Srt (Sof xs 60) ∧ ((Sof xs 60).map (·.1)).Nodup ∧ ∀ y, y ∈ Sof xs 60 → ∃ j : Nat, j < 60 ∧ y = ((j : Int), nth xs j)) :=
          Lib.hid ⟨length_Sof xs 60, Sof_srt xs 60, Sof_nodup xs 60, fun y hy => (mem_Sof xs 60 y).1 hy⟩
        revert HS0 HF
        generalize Sof xs 60 = S
        intro HS0 HF
        have HD0 := Lib.hid (drain_start (n := 60) HS0.out)
        go_wp2_with fail
        clear HS0 hge
        revert HD0
        generalize hlb : wr.heap.size = lb
        generalize hsb : lb + 1 = sb
        generalize (wr.alloc (.cells #[.int .i64 0, .int .i64 0] 26)).alloc (.cells (madeCells #[.bool false] 60) 4) = v0
        intro HD0
        clear hlb hsb
        go_loopg [8] 60 (fun q s8 wv => ∃ (i : Nat) (F : List Nat), s8 = .int .i64 i ∧ i ≤ 60 ∧ q = 60 - i ∧ Hid (Drain w.heap.size w wv w.heap.size lb sb 60 S i F))
        case atStart => exact ⟨0, _, rfl, Nat.zero_le _, by omega, HD0⟩
        case round =>
          obtain ⟨i, F, rfl, hi, rfl, HD⟩ := hrel
          clear HD0
          by_cases hlt : i < 60
          · obtain ⟨j, hj, hx⟩ := HF.out.2.2.2 _ (at_mem S i (by rw [HF.out.1]; exact hlt))
            have hz : xs[j]? = some (nth xs j) := by unfold nth; rw [List.getD_eq_getElem?_getD, List.getElem?_eq_getElem (by omega)]; rfl
            obtain ⟨g, o, rfl, hg, hc⟩ := HN.out j _ hz
            have HX1 := Lib.hid hx
            have hnot : hasId (j : Int) (S.take i) = false := by
              have := take_hasId HF.out.2.2.1 (i := i) (by rw [HF.out.1]; exact hlt)
              rw [hx] at this
              exact this
            have HP := Lib.hid (pop1 w.heap.size F (S.drop i) (S.drop (i + 1)) j (nth xs j) true _ HD.out.st.heap (pop_at (by rw [HF.out.1]; exact hlt) hx).1 (pop_at (by rw [HF.out.1]; exact hlt) hx).2)
            have t1 : decide ((j : Int) < 0) = false := decide_eq_false (by omega)
            have t2 : decide ((60 : Int) ≤ (j : Int)) = false := decide_eq_false (by omega)
            have t2' : decide (60 ≤ j) = false := decide_eq_false (by omega)
            have qj : (j : Int) < (xs.length : Int) := by omega
            have qn : (j : Int) < (60 : Int) := by omega
            clear hx hz
            obtain ⟨la, lk, hla⟩ : ∃ la lk, lastOf S i = (la, lk) := ⟨_, _, rfl⟩
            have HLA := Lib.hid hla
            clear hla
            by_cases h0 : i = 0
            · subst h0
              go_wp2_with fail
              refine HP.out.mono ?_
              rintro e w3 ⟨rfl, F3, i3, s3⟩
              have HN3 := Lib.hid (HD.out.next i3 s3 (by rw [HF.out.1]; exact hlt) HX1.out)
              have HL3 := Lib.hid ((HD.out.last.step s3).turn (Turn.alloc [] w3 (.cells #[.int .i64 j, .int .i64 (nth xs j)] 26)) (by simp))
              have R3 := (HD.out.had.of_block (s3.turn.block sb HD.out.had.lt HD.out.far.1)).of_block ((Turn.alloc [] w3 (.cells #[.int .i64 j, .int .i64 (nth xs j)] 26)).block sb (Nat.lt_of_lt_of_le HD.out.had.lt s3.turn.size) (by simp))
              have b4 := (((HD.out.st.step i3 s3).of ((Below.refl _ _).alloc (Nat.le_refl _) (.cells #[.int .i64 j, .int .i64 (nth xs j)] 26))).below.cell (p := ⟨g, o + j, none⟩) hg).trans hc
              have c1 := R3.cell hj
              have f1 := R3.frozen j
              have x0 : (w3.alloc (.cells #[.int .i64 j, .int .i64 (nth xs j)] 26)).cell? ⟨w3.heap.size, 0, none⟩ = some (.int .i64 j) := by simp [go_sem]
              have x1 : (w3.alloc (.cells #[.int .i64 j, .int .i64 (nth xs j)] 26)).cell? ⟨w3.heap.size, 1, none⟩ = some (.int .i64 (nth xs j)) := by simp [go_sem]
              rw [hnot] at c1
              have l0 := HL3.out.c0
              have l1 := HL3.out.c1
              have g0 := HL3.out.f0
              have g1 := HL3.out.f1
              have hne1 : lb ≠ sb := Ne.symm HD.out.far.2.1
              have hlt3 : lb < w3.heap.size := cell?_lt (HD.out.last.step s3).c0
              have hst3 : sb < w3.heap.size := Nat.lt_of_lt_of_le HD.out.had.lt s3.turn.size
              rw [HLA.out] at l0 l1
              dsimp only at l0 l1
              have HA := Lib.hid (And.intro x0 (And.intro x1 (And.intro c1 (And.intro f1 (And.intro l0 (And.intro l1 (And.intro g0 (And.intro g1 b4))))))))
              clear i3 s3 R3 HL3 x0 x1 c1 f1 l0 l1 g0 g1 b4
              go_wp2_with fail
              revert HA HN3
              generalize hxb : w3.heap.size = xb
              generalize w3.alloc (.cells #[.int .i64 j, .int .i64 (nth xs j)] 26) = v4
              intro HN3 HA
              obtain ⟨x0, x1, c1, f1, l0, l1, g0, g1, b4⟩ := HA.out
              rw [hxb] at hlt3 hst3
              have hne2 : sb ≠ xb := by omega
              have hne3 : lb ≠ xb := by omega
              clear HA hxb
              go_big_quiet (fail)
              go_wp2_with fail
              go_roundg (60 - (0 + 1))
              case measure => omega
              case rel => exact ⟨0 + 1, F3, by go_num, by omega, rfl, Lib.hid (HN3.out nq)⟩

            · have hord : lk < nth xs j ∨ lk = nth xs j ∧ la < (j : Int) := by
                have := srt_step HF.out.2.1 (i := i) (by omega) (by rw [HF.out.1]; exact hlt)
                have e := HLA.out
                unfold lastOf at e
                rw [if_neg h0] at e
                rw [e, HX1.out, lt_iff] at this
                exact this
              have t3 : (0 : Int) < (i : Int) := by omega
              have t3' : 0 < i := by omega
              have t6 : decide (nth xs j < lk) = false := decide_eq_false (by omega)
              by_cases h9 : nth xs j = lk
              · have t7 : (nth xs j == lk) = true := beq_iff_eq.2 h9
                have t8 : decide ((j : Int) < la) = false := decide_eq_false (by omega)
                clear h9 hord
                go_wp2_with fail
                refine HP.out.mono ?_
                rintro e w3 ⟨rfl, F3, i3, s3⟩
                have HN3 := Lib.hid (HD.out.next i3 s3 (by rw [HF.out.1]; exact hlt) HX1.out)
                have HL3 := Lib.hid ((HD.out.last.step s3).turn (Turn.alloc [] w3 (.cells #[.int .i64 j, .int .i64 (nth xs j)] 26)) (by simp))
                have R3 := (HD.out.had.of_block (s3.turn.block sb HD.out.had.lt HD.out.far.1)).of_block ((Turn.alloc [] w3 (.cells #[.int .i64 j, .int .i64 (nth xs j)] 26)).block sb (Nat.lt_of_lt_of_le HD.out.had.lt s3.turn.size) (by simp))
                have b4 := (((HD.out.st.step i3 s3).of ((Below.refl _ _).alloc (Nat.le_refl _) (.cells #[.int .i64 j, .int .i64 (nth xs j)] 26))).below.cell (p := ⟨g, o + j, none⟩) hg).trans hc
                have c1 := R3.cell hj
                have f1 := R3.frozen j
                have x0 : (w3.alloc (.cells #[.int .i64 j, .int .i64 (nth xs j)] 26)).cell? ⟨w3.heap.size, 0, none⟩ = some (.int .i64 j) := by simp [go_sem]
                have x1 : (w3.alloc (.cells #[.int .i64 j, .int .i64 (nth xs j)] 26)).cell? ⟨w3.heap.size, 1, none⟩ = some (.int .i64 (nth xs j)) := by simp [go_sem]
                rw [hnot] at c1
                have l0 := HL3.out.c0
                have l1 := HL3.out.c1
                have g0 := HL3.out.f0
                have g1 := HL3.out.f1
                have hne1 : lb ≠ sb := Ne.symm HD.out.far.2.1
                have hlt3 : lb < w3.heap.size := cell?_lt (HD.out.last.step s3).c0
                have hst3 : sb < w3.heap.size := Nat.lt_of_lt_of_le HD.out.had.lt s3.turn.size
                rw [HLA.out] at l0 l1
                dsimp only at l0 l1
                have HA := Lib.hid (And.intro x0 (And.intro x1 (And.intro c1 (And.intro f1 (And.intro l0 (And.intro l1 (And.intro g0 (And.intro g1 b4))))))))
                clear i3 s3 R3 HL3 x0 x1 c1 f1 l0 l1 g0 g1 b4
                go_wp2_with fail
                revert HA HN3
                generalize hxb : w3.heap.size = xb
                generalize w3.alloc (.cells #[.int .i64 j, .int .i64 (nth xs j)] 26) = v4
                intro HN3 HA
                obtain ⟨x0, x1, c1, f1, l0, l1, g0, g1, b4⟩ := HA.out
                rw [hxb] at hlt3 hst3
                have hne2 : sb ≠ xb := by omega
                have hne3 : lb ≠ xb := by omega
                clear HA hxb
                go_big_quiet (fail)
                go_wp2_with fail
                go_roundg (60 - (i + 1))
                case measure => omega
                case rel => exact ⟨i + 1, F3, by go_num, by omega, rfl, Lib.hid (HN3.out nq)⟩

              · have t7 : (nth xs j == lk) = false := beq_eq_false_iff_ne.2 h9
                clear h9 hord
                go_wp2_with fail
                refine HP.out.mono ?_
                rintro e w3 ⟨rfl, F3, i3, s3⟩
                have HN3 := Lib.hid (HD.out.next i3 s3 (by rw [HF.out.1]; exact hlt) HX1.out)
                have HL3 := Lib.hid ((HD.out.last.step s3).turn (Turn.alloc [] w3 (.cells #[.int .i64 j, .int .i64 (nth xs j)] 26)) (by simp))
                have R3 := (HD.out.had.of_block (s3.turn.block sb HD.out.had.lt HD.out.far.1)).of_block ((Turn.alloc [] w3 (.cells #[.int .i64 j, .int .i64 (nth xs j)] 26)).block sb (Nat.lt_of_lt_of_le HD.out.had.lt s3.turn.size) (by simp))
                have b4 := (((HD.out.st.step i3 s3).of ((Below.refl _ _).alloc (Nat.le_refl _) (.cells #[.int .i64 j, .int .i64 (nth xs j)] 26))).below.cell (p := ⟨g, o + j, none⟩) hg).trans hc
                have c1 := R3.cell hj
                have f1 := R3.frozen j
                have x0 : (w3.alloc (.cells #[.int .i64 j, .int .i64 (nth xs j)] 26)).cell? ⟨w3.heap.size, 0, none⟩ = some (.int .i64 j) := by simp [go_sem]
                have x1 : (w3.alloc (.cells #[.int .i64 j, .int .i64 (nth xs j)] 26)).cell? ⟨w3.heap.size, 1, none⟩ = some (.int .i64 (nth xs j)) := by simp [go_sem]
                rw [hnot] at c1
                have l0 := HL3.out.c0
                have l1 := HL3.out.c1
                have g0 := HL3.out.f0
                have g1 := HL3.out.f1
                have hne1 : lb ≠ sb := Ne.symm HD.out.far.2.1
                have hlt3 : lb < w3.heap.size := cell?_lt (HD.out.last.step s3).c0
                have hst3 : sb < w3.heap.size := Nat.lt_of_lt_of_le HD.out.had.lt s3.turn.size
                rw [HLA.out] at l0 l1
                dsimp only at l0 l1
                have HA := Lib.hid (And.intro x0 (And.intro x1 (And.intro c1 (And.intro f1 (And.intro l0 (And.intro l1 (And.intro g0 (And.intro g1 b4))))))))
                clear i3 s3 R3 HL3 x0 x1 c1 f1 l0 l1 g0 g1 b4
                go_wp2_with fail
                revert HA HN3
                generalize hxb : w3.heap.size = xb
                generalize w3.alloc (.cells #[.int .i64 j, .int .i64 (nth xs j)] 26) = v4
                intro HN3 HA
                obtain ⟨x0, x1, c1, f1, l0, l1, g0, g1, b4⟩ := HA.out
                rw [hxb] at hlt3 hst3
                have hne2 : sb ≠ xb := by omega
                have hne3 : lb ≠ xb := by omega
                clear HA hxb
                go_big_quiet (fail)
                go_wp2_with fail
                go_roundg (60 - (i + 1))
                case measure => omega
                case rel => exact ⟨i + 1, F3, by go_num, by omega, rfl, Lib.hid (HN3.out nq)⟩

          · have hge : ¬ (i : Int) < (60 : Int) := by omega
            have HE : Hid (IsHeap wr w.heap.size F []) := by
              have e : i = 60 := by omega
              have h := HD.out.st.heap
              rw [e, List.drop_eq_nil_of_le (by rw [HF.out.1]; exact Nat.le_refl _)] at h
              exact Lib.hid h
            clear hlt hi
            go_wp2_with fail
            refine (len15 w.heap.size F [] wr HE.out).mono ?_
            rintro e w9 ⟨rfl, rfl⟩
            go_wp2_with fail
            go_ret
            exact ⟨rfl, HD.out.st.below⟩
end Go.Proofs.Ytfhlipalfebfaaa
