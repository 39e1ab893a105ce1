import Derived.Test.YtfhlipalfebfaaaR
import Derived.Test.YtfhlipalfebfaaaQ
import Derived.Maps.RangeWalk
namespace Go.Proofs.Ytfhlipalfebfaaa
open Go.RowKit Go.Sort

theorem tmod_pos (a m : Int) (hm : 1 ≤ m) (h : 0 ≤ a.tmod m) : a.tmod m = a % m := by
  have h1 := Int.emod_nonneg a (show m ≠ 0 by omega)
  have h2 := Int.emod_lt_of_pos a (show 0 < m by omega)
  have h3 := @Int.tmod_eq_emod a m
  have h4 : (m.natAbs : Int) = m := by omega
  split at h3
  · omega
  · omega
theorem tmod_neg (a m : Int) (hm : 1 ≤ m) (h : a.tmod m < 0) : a.tmod m + m = a % m ∧ -m < a.tmod m := by
  have h1 := Int.emod_nonneg a (show m ≠ 0 by omega)
  have h2 := Int.emod_lt_of_pos a (show 0 < m by omega)
  have h3 := @Int.tmod_eq_emod a m
  have h4 : (m.natAbs : Int) = m := by omega
  split at h3
  · omega
  · omega

theorem pick16 (a m : Int) (hm : 1 ≤ m) (hm2 : m ≤ 1000) (w : World) :
    Calls Try.prog 16 #[.int .i64 a, .int .i64 m] w fun e w' => e = .returned (.int .i64 (a % m)) ∧ w = w' := by
  have hne : ¬ m = 0 := by omega
  by_cases h : 0 ≤ a.tmod m
  · have HP := Lib.hid (tmod_pos a m hm h)
    have h' : ¬ a.tmod m < 0 := by omega
    go_enter Try.func16, Try.ntmps16
    go_wp2
    go_ret
    rw [← HP.out]; exact ⟨rfl, rfl⟩
  · have hlt : a.tmod m < 0 := by omega
    have HP := Lib.hid (tmod_neg a m hm hlt).1
    have hb := (tmod_neg a m hm hlt).2
    go_enter Try.func16, Try.ntmps16
    go_wp2
    go_ret
    rw [← HP.out]; exact ⟨rfl, rfl⟩



/-- What the caller's own map holds. -/
structure MapOf (D : DataW Unit) (S : List It) : Prop where
  tidy : Maps.Tidy D
  size : Maps.size D = S.length
  has : ∀ id, Maps.has D (key id) = hasId id S
  val : ∀ x ∈ S, D.atKey (key x.1) (num 0) = num x.2

theorem MapOf.put {D : DataW Unit} {S S' : List It} (h : MapOf D S) {id k : Int} (hno : hasId id S = false) (p : S'.Perm ((id, k) :: S)) : MapOf (D.put (key id) (num k)) S' := by
  have hI := h.tidy.isMap
  refine ⟨h.tidy.put (isKey _) _, ?_, fun j => ?_, fun x hx => ?_⟩
  · rw [Maps.size_put h.tidy, h.has, hno, p.length_eq]
    simp [h.size]
  · rw [hasId_perm p]
    by_cases e : j = id
    · subst e
      rw [Maps.has_put_same hI (isKey _)]
      simp [hasId]
    · rw [Maps.has_put_other (key_ne e), h.has]
      have : (id == j) = false := beq_eq_false_iff_ne.2 (Ne.symm e)
      simp [hasId, this]
  · rcases List.mem_cons.1 (p.mem_iff.1 hx) with e | hx
    · subst e
      exact Maps.atKey_put_same hI (isKey _) _ _
    · have e : x.1 ≠ id := fun e => by
        have := (hasId_iff id S).2 ⟨x, hx, e⟩
        rw [hno] at this
        cases this
      rw [Maps.atKey_put_other (key_ne e)]
      exact h.val x hx

theorem MapOf.del {D : DataW Unit} {S : List It} {x : It} (h : MapOf D (x :: S)) (hn : ((x :: S).map (·.1)).Nodup) : MapOf (D.del (key x.1)) S := by
  rw [List.map_cons, List.nodup_cons] at hn
  have hne : ∀ y ∈ S, y.1 ≠ x.1 := fun y hy e => hn.1 (e ▸ List.mem_map_of_mem hy)
  refine ⟨h.tidy.del _, ?_, fun j => ?_, fun y hy => ?_⟩
  · have := Maps.size_del (k := key x.1) h.tidy
    rw [h.has, h.size] at this
    simp [hasId] at this
    omega
  · by_cases e : j = x.1
    · rw [e, Maps.has_del_same]
      symm
      cases e2 : hasId x.1 S
      · rfl
      · obtain ⟨y, hy, e3⟩ := (hasId_iff _ _).1 e2
        exact absurd e3 (hne y hy)
    · rw [Maps.has_del_other (key_ne e), h.has]
      have : (x.1 == j) = false := beq_eq_false_iff_ne.2 (Ne.symm e)
      simp [hasId, this]
  · rw [Maps.atKey_del_other (key_ne (hne y hy))]
    exact h.val y (List.mem_cons_of_mem _ hy)

/-- PickMixed's loop. -/
structure Mix (B : Nat) (w wr : World) (hb mb : Nat) (F : List Nat) (S : List It) (D : DataW Unit) (i : Nat) : Prop where
  st : St B w wr hb F S
  own : OwnsI wr mb D
  map : MapOf D S
  ids : ∀ x ∈ S, x.1 < i
  len : S.length ≤ i
  far : mb ∉ F ∧ B ≤ mb

theorem Mix.noId {B : Nat} {w wr : World} {hb mb i : Nat} {F : List Nat} {S : List It} {D : DataW Unit} (h : Mix B w wr hb mb F S D i) : hasId (i : Int) S = false := by
  cases e : hasId (i : Int) S
  · rfl
  · obtain ⟨x, hx, e2⟩ := (hasId_iff _ _).1 e
    have := h.ids x hx
    omega

theorem quo_i64 {x : Int} (h : I64 x) : I64 (x.tdiv 3) := by
  unfold I64 at *
  by_cases h0 : 0 ≤ x
  · rw [Int.tdiv_eq_ediv_of_nonneg h0]; omega
  · have e : x.tdiv 3 = -((-x).tdiv 3) := by rw [Int.neg_tdiv, Int.neg_neg]
    rw [e, Int.tdiv_eq_ediv_of_nonneg (by omega)]
    omega

theorem Mix.put {B : Nat} {w wr w3 w4 : World} {hb mb i n : Nat} {F F3 : List Nat} {S : List It} {D : DataW Unit} {q : Int} (h : Mix B w wr hb mb F S D i) (i3 : IsHeap w3 hb F3 (ins ((i : Int), q) (rem (i : Int) S))) (s3 : Step F F3 wr w3)
    (ho : w4.ownsMap Try.prog 3 (plainElem Try.prog 3) mb n (D.put (key i) (num q))) (ht : w3.mapTurned w4 mb) : Mix B w w4 hb mb F3 (ins ((i : Int), q) (rem (i : Int) S)) (D.put (key i) (num q)) (i + 1) := by
  have hlt := h.own.lt
  have f3 : mb ∉ F3 := fun e => by rcases s3.blocks _ e with y | y; exact h.far.1 y; omega
  have p : (ins ((i : Int), q) (rem (i : Int) S)).Perm (((i : Int), q) :: S) := by
    have := ins_perm ((i : Int), q) (rem (i : Int) S)
    rwa [rem_none h.noId] at this ⊢
  refine ⟨(h.st.step i3 s3).turn (Turn.map (S := [mb]) ht (by simp)) (fun k hk => by rw [List.mem_singleton.1 hk]; exact h.far.2) (fun k hk hm => by rw [List.mem_singleton.1 hm] at hk; exact f3 hk), ownsMap_exact ho, h.map.put h.noId p, fun x hx => ?_, ?_, f3, h.far.2⟩
  · rcases List.mem_cons.1 (p.mem_iff.1 hx) with e | hx
    · subst e; dsimp only; omega
    · have := h.ids x hx; omega
  · rw [p.length_eq, List.length_cons]
    have := h.len
    omega

theorem Mix.pop {B : Nat} {w wr w3 w4 : World} {hb mb i n : Nat} {F F3 : List Nat} {S : List It} {x : It} {D : DataW Unit} (h : Mix B w wr hb mb F (x :: S) D i) (i3 : IsHeap w3 hb F3 S) (s3 : Step F F3 wr w3)
    (ho : w4.ownsMap Try.prog 3 (plainElem Try.prog 3) mb n (D.del (key x.1))) (ht : Turn [mb] w3 w4) : Mix B w w4 hb mb F3 S (D.del (key x.1)) (i + 1) := by
  have hlt := h.own.lt
  have f3 : mb ∉ F3 := fun e => by rcases s3.blocks _ e with y | y; exact h.far.1 y; omega
  refine ⟨(h.st.step i3 s3).turn ht (fun k hk => by rw [List.mem_singleton.1 hk]; exact h.far.2) (fun k hk hm => by rw [List.mem_singleton.1 hm] at hk; exact f3 hk), ownsMap_exact ho, h.map.del h.st.heap.nodup, fun y hy => ?_, ?_, f3, h.far.2⟩
  · have := h.ids y (List.mem_cons_of_mem _ hy); omega
  · have := h.len
    rw [List.length_cons] at this
    omega

theorem Mix.idle {B : Nat} {w wr w3 w4 : World} {hb mb i : Nat} {F F3 : List Nat} {S : List It} {D : DataW Unit} (h : Mix B w wr hb mb F S D i) (i3 : IsHeap w3 hb F3 S) (s3 : Step F F3 wr w3) (b : Below w3.heap.size w3 w4) : Mix B w w4 hb mb F3 S D (i + 1) := by
  have hlt := h.own.lt
  have f3 : mb ∉ F3 := fun e => by rcases s3.blocks _ e with y | y; exact h.far.1 y; omega
  refine ⟨(h.st.step i3 s3).of b, (h.own.keep (s3.turn.block mb hlt h.far.1)).keep (b.block mb (Nat.lt_of_lt_of_le hlt s3.turn.size)), h.map, fun y hy => ?_, ?_, f3, h.far.2⟩
  · have := h.ids y hy; omega
  · have := h.len; omega

/-- What the map tells is among the heap's items, behind the least. -/
theorem MapOf.behind {D : DataW Unit} {S : List It} {x : It} (h : MapOf D (x :: S)) (hs : Srt (x :: S)) {id k : Int} (hat : ∀ zd, D.atKey (.int .i64 id) zd = .lit (.int .i64 k)) : ¬ (k < x.2 ∨ k = x.2 ∧ id < x.1) := by
  have hh := Maps.has_true_of_atKey hat
  rw [show (Lit.int .i64 id) = key id from rfl, h.has] at hh
  obtain ⟨y, hy, rfl⟩ := (hasId_iff _ _).1 hh
  have e : num y.2 = .lit (.int .i64 k) := (h.val y hy).symm.trans (hat (num 0))
  have e2 : y.2 = k := by injection e with e; injection e
  subst e2
  rcases List.mem_cons.1 hy with e | hy
  · subst e; omega
  · have := (List.pairwise_cons.1 hs).1 y hy
    rw [lt_iff] at this
    omega

theorem Turn.row {S : List Nat} {a b : World} {r : Nat} (h : a.grownBy b (some r)) (hr : r ∈ S ∨ a.heap.size ≤ r) : Turn S a b :=
  ⟨h.os, h.tape, h.output, h.size, fun k hk hn => h.block k hk (fun e => by cases e; rcases hr with y | y; exact hn y; omega)⟩

set_option maxHeartbeats 4000000 in
set_option maxRecDepth 100000 in
theorem pickMixed7 (a0 : Option Addr) (xs : List Int) (c0 : Nat) (w : World) (hn : Nums w a0 xs) (hx : ∀ x ∈ xs, I64 x) :
    Calls Try.prog 7 #[.slice a0 xs.length c0] w fun e w' => e = .returned (.bool true) ∧ Below w.heap.size w w' := by
  have HN := Lib.hid hn
  have HX := Lib.hid hx
  clear hn hx
  have hmm := @run_makeMap Try.prog
  go_enter Try.func7, Try.ntmps7
  go_wp2_with fail
  refine (new8 w).mono ?_
  rintro e w1 ⟨rfl, h1, b1⟩
  have H1 : Hid (St w.heap.size w w1 w.heap.size [w.heap.size] []) := Lib.hid ⟨h1, by simp, b1, Nat.le_refl _⟩
  clear h1 b1
  go_wp2_with fail
  refine (known9 w1).mono ?_
  rintro e w2 ⟨rfl, b2⟩
  have H2 := Lib.hid (H1.out.of b2)
  clear b2 H1
  have HM0 : Hid (Mix w.heap.size w (w2.alloc (.map #[] 0)) w.heap.size w2.heap.size [w.heap.size] [] (.map []) 0) := Lib.hid
    ⟨H2.out.of ((Below.refl _ _).alloc (Nat.le_refl _) _), World.ownsMap_made w2 Try.prog 3 (plainElem Try.prog 3), ⟨Maps.tidy_empty, rfl, fun id => rfl, fun x hx => (by cases hx)⟩, fun x hx => (by cases hx), Nat.zero_le _, fun e => by
      have := H2.out.heap.lt _ e
      omega, H2.out.below.size⟩
  go_wp2_with fail
  revert HM0
  generalize w2.alloc (.map #[] 0) = v0
  generalize w2.heap.size = mb
  intro HM0
  clear hmm H2
  go_loopg [5] 90 (fun q s5 wr => ∃ (i : Nat) (F : List Nat) (S : List It) (D : DataW Unit), s5 = .int .i64 i ∧ i ≤ 90 ∧ q = 90 - i ∧ Hid (Mix w.heap.size w wr w.heap.size mb F S D i))
  case atStart => exact ⟨0, _, _, _, rfl, Nat.zero_le _, rfl, HM0⟩
  case round =>
    obtain ⟨i, F, S, D, rfl, hi, rfl, HS⟩ := hrel
    clear HM0
    have HSZ := Lib.hid HS.out.map.size
    have hszm : Maps.size D < maxLen := by have h1 := HS.out.map.size; have h2 := HS.out.len; unfold maxLen; omega
    by_cases hlt : i < xs.length
    · by_cases h90 : i < 90
      · have hz : xs[i]? = some (nth xs i) := by unfold nth; rw [List.getD_eq_getElem?_getD, List.getElem?_eq_getElem hlt]; rfl
        obtain ⟨g, o, rfl, hg, hc⟩ := HN.out i _ hz
        have wx : I64 (nth xs i) := HX.out _ (List.mem_of_getElem? hz)
        generalize nth xs i = x at hz hc wx
        have HCL := Lib.hid hc
        have k1 : wr.cell? ⟨g, o + i, none⟩ = some (.int .i64 x) := (HS.out.st.below.cell (p := ⟨g, o + i, none⟩) hg).trans hc
        have qi : (i : Int) < (xs.length : Int) := by omega
        have wq := quo_i64 wx
        have wi : I64 (i : Int) := by constructor <;> omega
        clear hz hc
        go_wp2_with fail
        refine (pick16 x 3 (by omega) (by omega) _).mono ?_
        rintro e w' ⟨rfl, rfl⟩
        by_cases hp : 0 < x % 3
        · have HP := Lib.hid (put1 w.heap.size F S (ins ((i : Int), x.tdiv 3) (rem (i : Int) S)) i (x.tdiv 3) true _ HS.out.st.heap ⟨wi, wq⟩ (by have := HS.out.len; omega) rfl (by rw [HS.out.noId]; rfl))
          have hwi := wf_of wi
          have hwq := wf_of wq
          clear wx
          go_wp2_with fail
          refine HP.out.mono ?_
          rintro e w3 ⟨rfl, F3, i3, s3⟩
          have k3 : w3.cell? ⟨g, o + i, none⟩ = some (.int .i64 x) := ((HS.out.st.step i3 s3).below.cell (p := ⟨g, o + i, none⟩) hg).trans HCL.out
          have HO3 := Lib.hid (HS.out.own.keep (s3.turn.block mb HS.out.own.lt HS.out.far.1))
          have HI3 := Lib.hid i3
          have HS3 := Lib.hid s3
          clear i3 s3 k1
          go_wp2_with (at_mapUpdate; refine wpList_mapUpdate_in _ rfl _ _ _ 46 rfl 3 3 law3 Try.underlying46 _ mb (Maps.size D) D rfl HO3.out hszm _ _ (key i) rfl rfl (Maps.keyOf_int_mk Try.underlying3 hwi) (num (x.tdiv 3)) [] (plainElem_int Try.underlying3 hwq) ?_; intro w4 hown4 hturn4; have HO4 := Lib.hid hown4; have HT4 := Lib.hid hturn4; clear hown4 hturn4)
          go_roundg (90 - (i + 1))
          case measure => omega
          case rel => exact ⟨i + 1, F3, _, _, by go_num, by omega, rfl, Lib.hid (HS.out.put HI3.out HS3.out HO4.out HT4.out)⟩
        · have hp0 : x % 3 = 0 := by omega
          clear wx wq
          cases S with
          | nil =>
            have HP := Lib.hid (pop1 w.heap.size F [] [] 0 0 false _ HS.out.st.heap rfl rfl)
            have hs0 : Maps.size D = 0 := HSZ.out
            go_wp2_with fail
            refine HP.out.mono ?_
            rintro e w3 ⟨rfl, F3, i3, s3⟩
            have HM := Lib.hid (HS.out.idle i3 s3 ((Below.refl _ _).alloc (Nat.le_refl _) (.cells #[.int .i64 0, .int .i64 0] 26)))
            clear i3 s3 k1
            go_wp2_with (at_len; refine wpList_len_own _ rfl _ 46 rfl 3 3 Try.underlying46 _ mb (Maps.size D) D rfl HM.out.own ?_; rw [hs0])
            go_roundg (90 - (i + 1))
            case measure => omega
            case rel => exact ⟨i + 1, F3, _, _, by go_num, by omega, rfl, HM⟩
          | cons y S =>
            obtain ⟨y1, y2⟩ := y
            have HP := Lib.hid (pop1 w.heap.size F ((y1, y2) :: S) S y1 y2 true _ HS.out.st.heap rfl rfl)
            have hs0 : 0 < Maps.size D := by rw [HSZ.out]; simp
            have hhas : Maps.has D (key y1) = true := by rw [HS.out.map.has]; simp [hasId]
            have HV := Lib.hid (HS.out.map.val (y1, y2) List.mem_cons_self)
            have wy := wf_of (HS.out.st.heap.wf (y1, y2) List.mem_cons_self).1
            have HB := Lib.hid (fun (id k : Int) hat => HS.out.map.behind HS.out.st.heap.srt (id := id) (k := k) hat)
            go_wp2_with fail
            refine HP.out.mono ?_
            rintro e w3 ⟨rfl, F3, i3, s3⟩
            have HI3 := Lib.hid i3
            have HS3 := Lib.hid s3
            have HO3 : Hid (OwnsI (w3.alloc (.cells #[.int .i64 y1, .int .i64 y2] 26)) mb D) := Lib.hid ((HS.out.own.keep (s3.turn.block mb HS.out.own.lt HS.out.far.1)).keep ((Turn.alloc [] w3 _).block mb (Nat.lt_of_lt_of_le HS.out.own.lt s3.turn.size) (by simp)))
            have hmb3 : mb < w3.heap.size := Nat.lt_of_lt_of_le HS.out.own.lt s3.turn.size
            have x0 : (w3.alloc (.cells #[.int .i64 y1, .int .i64 y2] 26)).cell? ⟨w3.heap.size, 0, none⟩ = some (.int .i64 y1) := by simp [go_sem]
            have x1 : (w3.alloc (.cells #[.int .i64 y1, .int .i64 y2] 26)).cell? ⟨w3.heap.size, 1, none⟩ = some (.int .i64 y2) := by simp [go_sem]
            have HT3 := Lib.hid (Turn.alloc [mb] w3 (.cells #[.int .i64 y1, .int .i64 y2] 26))
            have HXX := Lib.hid (And.intro x0 x1)
            have hsz4 : (w3.alloc (.cells #[.int .i64 y1, .int .i64 y2] 26)).heap.size = w3.heap.size + 1 := by simp
            clear i3 s3 k1 x0 x1
            go_wp2_with (first | (at_len; refine wpList_len_own _ rfl _ 46 rfl 3 3 Try.underlying46 _ mb (Maps.size D) D rfl HO3.out ?_) | (at_lookup; refine wpList_lookup_own_ok_int _ rfl _ _ 46 rfl 3 3 .i64 law3 Try.underlying46 Try.underlying3 (zero3 _) mb (Maps.size D) D rfl HO3.out _ (key y1) rfl (Maps.keyOf_int_mk Try.underlying3 wy) ?_; intro c hat hwc; rw [hhas]; obtain rfl : c = y2 := (by have h := HV.out.symm.trans hat; injection h with h; injection h with h1 h2; exact h2.symm)) | (at_range; refine wpList_range_own _ rfl _ 46 rfl 3 3 law3 Try.underlying46 _ mb (Maps.size D) D rfl HO3.out ?_; intro w5 hrg0 hg0 hs0))
            go_frame
            have T5 : Turn [mb] w3 w5 := HT3.out.trans ⟨hg0.os, hg0.tape, hg0.output, hg0.size, fun k hk _ => hg0.block k hk (by simp)⟩
            have HX5 : Hid (w5.cell? ⟨w3.heap.size, 0, none⟩ = some (.int .i64 y1) ∧ w5.cell? ⟨w3.heap.size, 1, none⟩ = some (.int .i64 c)) := Lib.hid
              ⟨(hg0.cell_far ⟨w3.heap.size, 0, none⟩ (by simp) (by simp)).trans HXX.out.1, (hg0.cell_far ⟨w3.heap.size, 1, none⟩ (by simp) (by simp)).trans HXX.out.2⟩
            have HT5 := Lib.hid T5
            have HR0 := Lib.hid hrg0
            clear T5 hrg0 hg0 hs0 HXX HT3 HO3 hat hwc HV HP
            revert HR0
            generalize (w3.alloc (.cells #[.int .i64 y1, .int .i64 c] 26)).heap.size = r at hsz4 ⊢
            intro HR0
            have hr3 : w3.heap.size < r := by omega
            have hwxb : w3.heap.size ≠ r := by omega
            clear hsz4
            go_loopg [10] (Maps.size D) (fun q s10 wv => ∃ left : Lit → Bool, Hid (wv.ranges Try.prog 3 (plainElem Try.prog 3) mb r (Maps.size D) D left q) ∧ Hid (Turn [mb] w3 wv) ∧ Hid (wv.cell? ⟨w3.heap.size, 0, none⟩ = some (.int .i64 y1) ∧ wv.cell? ⟨w3.heap.size, 1, none⟩ = some (.int .i64 c)))
            case atStart => exact ⟨_, HR0, HT5, HX5⟩
            case round =>
              obtain ⟨left, HR, HTv, HXv⟩ := hrel
              obtain ⟨v0, v1⟩ := HXv.out
              clear HR0 HT5 HX5
              go_wp2_with (at_next; refine wpList_next_ranges_ii _ rfl _ rfl 3 3 .i64 .i64 law3 Try.underlying3 Try.underlying3 mb r (Maps.size D) D left _ rfl HR.out ?_ ?_)
              · intro _ hl0
                clear hl0
                go_wp2_with (at_delete; refine wpList_delete_own _ rfl _ _ 46 3 rfl 3 law3 Try.underlying46 _ mb (Maps.size D) D rfl HR.out.owns _ (key y1) rfl (Maps.keyOf_int_mk Try.underlying3 wy) ?_; intro w7 hown7 hturn7; have HO7 := Lib.hid hown7; have HT7 := Lib.hid hturn7; clear hown7 hturn7)
                go_roundg (90 - (i + 1))
                case measure => omega
                case rel => exact ⟨i + 1, F3, S, _, by go_num, by omega, rfl, Lib.hid (HS.out.pop HI3.out HS3.out HO7.out (HTv.out.trans (Turn.map HT7.out (by simp))))⟩
              · intro id k w6 cnt1 hw1 hw2 hl hat hrg1 hlt1 hg1 hs1 hen
                have hb := HB.out id k hat
                have HR1 := Lib.hid hrg1
                have HG1 := Lib.hid hg1
                have u0 := (hg1.cell_far ⟨w3.heap.size, 0, none⟩ (cell?_lt v0) (by simp; omega)).trans v0
                have u1 := (hg1.cell_far ⟨w3.heap.size, 1, none⟩ (cell?_lt v0) (by simp; omega)).trans v1
                have t1 : decide (k < c) = false := decide_eq_false (by omega)
                clear v0 v1 hrg1 hg1 hl hat hs1 hw1 hw2
                by_cases hk : k = c
                · have t2 : (k == c) = true := beq_iff_eq.2 hk
                  have t3 : decide (id < y1) = false := decide_eq_false (by omega)
                  clear hk hb
                  go_wp2_with fail
                  go_roundg cnt1
                  case measure => exact hlt1
                  case rel => exact ⟨_, HR1, Lib.hid (HTv.out.fresh (Turn.row (S := [r]) HG1.out (Or.inl (by simp))) (by simp; omega)), Lib.hid ⟨u0, u1⟩⟩
                · have t2 : (k == c) = false := beq_eq_false_iff_ne.2 hk
                  clear hk hb
                  go_wp2_with fail
                  go_roundg cnt1
                  case measure => exact hlt1
                  case rel => exact ⟨_, HR1, Lib.hid (HTv.out.fresh (Turn.row (S := [r]) HG1.out (Or.inl (by simp))) (by simp; omega)), Lib.hid ⟨u0, u1⟩⟩
      · have hn9 : ¬ (i : Int) < 90 := by omega
        have hn8 : (i : Int) < (xs.length : Int) := by omega
        go_wp2_with fail
        refine (len15 w.heap.size F S _ HS.out.st.heap).mono ?_
        rintro e w9 ⟨rfl, rfl⟩
        go_wp2_with (at_len; refine wpList_len_own _ rfl _ 46 rfl 3 3 Try.underlying46 _ mb (Maps.size D) D rfl HS.out.own ?_; rw [HSZ.out])
        go_ret
        exact ⟨by simp, HS.out.st.below⟩
    · have hn8 : ¬ (i : Int) < (xs.length : Int) := by omega
      go_wp2_with fail
      refine (len15 w.heap.size F S _ HS.out.st.heap).mono ?_
      rintro e w9 ⟨rfl, rfl⟩
      go_wp2_with (at_len; refine wpList_len_own _ rfl _ 46 rfl 3 3 Try.underlying46 _ mb (Maps.size D) D rfl HS.out.own ?_; rw [HSZ.out])
      go_ret
      exact ⟨by simp, HS.out.st.below⟩
end Go.Proofs.Ytfhlipalfebfaaa
