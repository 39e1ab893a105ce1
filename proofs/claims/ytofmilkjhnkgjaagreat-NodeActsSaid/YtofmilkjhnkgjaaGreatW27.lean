import Derived.Test.YtofmilkjhnkgjaaGreatW26
namespace Go.Proofs.YtofmilkjhnkgjaaGreat
open Go.RowKit Go.Sort
set_option maxRecDepth 100000
set_option maxHeartbeats 1000000

/-- corbelref7.in. -/
theorem rin (A : Option Addr) (xs : List Int) (c n : Nat) (w : World) (h : Nums w A xs) (hl : xs.length ≤ 9223372036854775807) (t : Bool) (ht : t = keepF xs n) :
    Calls Tryz.prog 53 #[.slice A xs.length c, .int .i64 (n : Int)] w fun e w' => e = .returned (.bool t) ∧ w' = w := by
  have HT : Hid (t = true ↔ (n : Int) ∈ xs) := Lib.hid (by rw [ht]; simp [keepF])
  obtain ⟨m, hm⟩ : ∃ m, xs.length = m := ⟨_, rfl⟩
  rw [hm] at hl ⊢
  have HM := Lib.hid hm
  have HX := Lib.hid h
  clear h hm ht
  go_enter Tryz.func53, Tryz.ntmps53
  go_wp2_with fail
  go_loopg [5] m (fun q s5 v => ∃ i : Nat, s5 = .int .i64 (i : Int) ∧ i ≤ m ∧ q = m - i ∧ Hid ((n : Int) ∉ xs.take i) ∧ w = v)
  case atStart => exact ⟨0, rfl, by omega, rfl, Lib.hid (by simp), rfl⟩
  case round =>
    obtain ⟨i, rfl, hi, rfl, HS, rfl⟩ := hrel
    by_cases hlt : i < m
    · have t1 : (i : Int) < (m : Int) := by omega
      obtain ⟨x, hx⟩ : ∃ x, xs[i]? = some x := ⟨_, List.getElem?_eq_getElem (by rw [HM.out]; omega)⟩
      obtain ⟨g, o, rfl, hg, hc⟩ := HX.out i x hx
      have HXX := Lib.hid hx
      clear hx hg
      by_cases e : x = (n : Int)
      · have t2 : (x == (n : Int)) = true := by rw [beq_iff_eq]; exact e
        have HF : Hid (t = true) := Lib.hid (HT.out.2 (by rw [← e]; exact List.mem_of_getElem? HXX.out))
        clear e
        go_wp2_with fail
        go_ret
        exact ⟨congrArg (fun b => Ending.returned (Value.bool b)) HF.out.symm, rfl⟩
      · have t2 : (x == (n : Int)) = false := by rw [beq_eq_false_iff_ne]; exact e
        have HE := Lib.hid e
        clear e
        go_wp2_with fail
        go_roundg (m - (i + 1))
        case measure => omega
        case rel => exact ⟨i + 1, by go_num, by omega, rfl, Lib.hid (by
          rw [List.take_add_one, HXX.out]
          simp only [Option.toList, List.mem_append, List.mem_singleton]
          rintro (h | h)
          · exact HS.out h
          · exact HE.out h.symm), rfl⟩
    · obtain rfl : i = m := by omega
      have t1 : ¬ (i : Int) < (i : Int) := by omega
      have HF : Hid (t = false) := Lib.hid (by
        cases t with
        | false => rfl
        | true =>
          have h1 := HT.out.1 rfl
          have h2 := HS.out
          rw [List.take_of_length_le (by rw [HM.out]; omega)] at h2
          exact absurd h1 h2)
      clear hlt
      go_wp2_with fail
      go_ret
      exact ⟨congrArg (fun b => Ending.returned (Value.bool b)) HF.out.symm, rfl⟩

/-- Pend is emptied. -/
theorem rend {w : World} {r N : Nat} {dv pv : Value} {D : Nat → Blk} {l : List (Nat × Blk)} {nw : Nat} (h : RPltV w r N dv pv ⟨D, l⟩ nw) : RPltV (w.setCell ⟨r, 1, none⟩ (.slice none 0 0)) r N dv (.slice none 0 0) ⟨D, []⟩ nw :=
  ⟨set_block h.head 1 _, own_keepB h.done (fun k hk => set_other (by rintro rfl; exact h.ne.1 hk) _ _), World.ownsRow_nil _ _ _ _, h.n1, h.n2, Nat.zero_le _, fun x hx => by simp at hx⟩
/-- What an act of the reference's leaves. -/
def RRet (r : Nat) (S : List Nat) (N : Nat) (d : Disk) (nw : Nat) (w : World) (e : Ending) (w' : World) : Prop := ∃ S', e = .returned (.tuple #[]) ∧ RPlt w' r S' N d nw ∧ Step S S' w w'
theorem rret {w v : World} {r N : Nat} {dv pv dv' : Value} {d : Disk} {D : Nat → Blk} {l : List (Nat × Blk)} {nw : Nat} (h : RPltV v r N dv' pv ⟨D, l⟩ nw) (t : Turn [r] w v) (hd : ∀ j ∈ pb dv', j ∈ pb dv ∨ w.heap.size ≤ j) (hdd : d = ⟨D, []⟩) :
    RRet r ([r] ++ pb dv ++ pb pv) N d nw w (.returned (.tuple #[])) (v.setCell ⟨r, 1, none⟩ (.slice none 0 0)) := by
  subst hdd
  refine ⟨[r] ++ pb dv' ++ pb (.slice none 0 0), rfl, ⟨dv', _, rend h, rfl⟩, (t.trans (Turn.set _ _ _ _ (by simp))).mono (by simp), fun k hk => ?_⟩
  simp only [pb, List.append_nil, List.mem_append, List.mem_cons, List.not_mem_nil, or_false] at hk
  rcases hk with rfl | hk
  · exact Or.inl (by simp)
  · rcases hd k hk with h1 | h1
    · exact Or.inl (by simp [h1])
    · exact Or.inr h1
theorem rflush {w : World} {r : Nat} {S : List Nat} {N : Nat} {d : Disk} {nw : Nat} (h : RPlt w r S N d nw) (hnw : nw ≤ 1000000000) :
    Calls Tryz.prog 46 #[.pointer (some ⟨r, 0, none⟩)] w (RRet r S N d.flush nw w) := by
  obtain ⟨dv, pv, h, rfl⟩ := h
  have hl := h.len
  have HF := h.form
  obtain ⟨n, hn⟩ : ∃ n, d.pend.length = n := ⟨_, rfl⟩
  rw [hn] at HF hl
  obtain ⟨a, cap, rfl, ha⟩ := HF
  have HA := Lib.hid ha
  have HN := Lib.hid hn
  have HP := Lib.hid h
  clear h ha hn
  go_enter Tryz.func46, Tryz.ntmps46
  go_wp2_with fail
  go_loopg [2] n (fun q s2 v => ∃ i : Nat, s2 = .int .i64 (i : Int) ∧ i ≤ n ∧ q = n - i ∧ Hid (∃ dv', RPltV v r N dv' (.slice a n cap) ⟨(d.pend.take i).foldl upd d.done, d.pend⟩ nw ∧ Turn [r] w v ∧ ∀ j ∈ pb dv', j ∈ pb dv ∨ w.heap.size ≤ j))
  case atStart => exact ⟨0, rfl, by omega, rfl, Lib.hid ⟨dv, HP.out, Turn.refl _ _, fun _ h => Or.inl h⟩⟩
  case round =>
    obtain ⟨i, rfl, hi, rfl, HS⟩ := hrel
    obtain ⟨dv', hv, ht, hs⟩ := HS.out
    have HV := Lib.hid hv
    have HT := Lib.hid ht
    have HSS := Lib.hid hs
    clear HS hv ht hs
    generalize wr = v at *
    have c1 := HV.out.c1
    by_cases hlt : i < n
    · have t1 : (i : Int) < (n : Int) := by omega
      obtain ⟨⟨k, F⟩, hx⟩ : ∃ x, d.pend[i]? = some x := ⟨_, List.getElem?_eq_getElem (by rw [HN.out]; exact hlt)⟩
      obtain ⟨q, rfl⟩ := HA.out (by omega)
      obtain ⟨hk, d1, d2⟩ := HV.out.at (show (⟨(d.pend.take i).foldl upd d.done, d.pend⟩ : Disk).pend[i]? = some (k, F) from hx)
      have HX := Lib.hid hx
      have HR := Lib.hid (rset k F HV.out hk)
      clear hx
      go_wp2_with fail
      refine HR.out.mono ?_
      rintro e w4 ⟨dv4, rfl, v4, t4, s4⟩
      try dsimp only
      have HV4 := Lib.hid v4
      have HT4 := Lib.hid (HT.out.trans t4)
      have HS4 : Hid (∀ j ∈ pb dv4, j ∈ pb dv ∨ w.heap.size ≤ j) := Lib.hid (fun j hj => Or.inr (Nat.le_trans HT.out.size (s4 j hj)))
      clear v4 t4 s4
      go_wp2_with fail
      go_roundg (n - (i + 1))
      case measure => omega
      case rel => exact ⟨i + 1, by go_num, by omega, rfl, Lib.hid ⟨dv4, by have := HV4.out; rw [List.take_add_one, HX.out]; simpa [List.foldl_append] using this, HT4.out, HS4.out⟩⟩
    · obtain rfl : i = n := by omega
      have t1 : ¬ (i : Int) < (i : Int) := by omega
      have f1 := HV.out.f 1
      have HE := Lib.hid (rret (d := d.flush) (dv := dv) HV.out HT.out HSS.out (by rw [List.take_of_length_le (by rw [HN.out]; omega)]; rfl))
      clear hlt
      go_wp2_with fail
      go_end0
      exact HE.out
theorem Nums.turn {w w' : World} {S : List Nat} {A : Option Addr} {xs : List Int} (h : Nums w A xs) (t : Turn S w w') (hA : ∀ g o, A = some ⟨g, o, none⟩ → g ∉ S) : Nums w' A xs := fun i x hi => by
  obtain ⟨g, o, e, hg, hc⟩ := h i x hi
  exact ⟨g, o, e, Nat.lt_of_lt_of_le hg t.size, (World.cell?_of_block (w := w) (t.block g hg (hA g o e))).trans hc⟩
theorem Nums.turnN {w w' : World} {S : List Nat} {A : Option Addr} {xs : List Int} (h : Nums w A xs) (t : Turn S w w') (hA : 0 < xs.length → ∀ g o, A = some ⟨g, o, none⟩ → g ∉ S) : Nums w' A xs := fun i x hi => by
  obtain ⟨g, o, e, hg, hc⟩ := h i x hi
  exact ⟨g, o, e, Nat.lt_of_lt_of_le hg t.size, (World.cell?_of_block (w := w) (t.block g hg (hA (Nat.lt_of_le_of_lt (Nat.zero_le _) (List.getElem?_eq_some_iff.1 hi).1) g o e))).trans hc⟩
theorem rcrashN {w : World} {r : Nat} {S : List Nat} {N : Nat} {d : Disk} {nw : Nat} (A : Option Addr) (xs : List Int) (c : Nat) (h : RPlt w r S N d nw) (hxs : Nums w A xs) (hlen : xs.length ≤ 9223372036854775807) (hA : 0 < xs.length → ∀ g o, A = some ⟨g, o, none⟩ → g ∉ [r]) (hnw : nw ≤ 1000000000) :
    Calls Tryz.prog 28 #[.pointer (some ⟨r, 0, none⟩), .slice A xs.length c] w (RRet r S N (d.crash (keepF xs)) nw w) := by
  obtain ⟨dv, pv, h, rfl⟩ := h
  have hl := h.len
  have HF := h.form
  obtain ⟨n, hn⟩ : ∃ n, d.pend.length = n := ⟨_, rfl⟩
  rw [hn] at HF hl
  obtain ⟨a, cap, rfl, ha⟩ := HF
  have HA := Lib.hid ha
  have HN := Lib.hid hn
  have HP := Lib.hid h
  have HXS := Lib.hid hxs
  have HAA := Lib.hid hA
  clear h ha hn hxs hA
  go_enter Tryz.func28, Tryz.ntmps28
  go_wp2_with fail
  go_loopg [4] n (fun q s4 v => ∃ i : Nat, s4 = .int .i64 (i : Int) ∧ i ≤ n ∧ q = n - i ∧ Hid (∃ dv', RPltV v r N dv' (.slice a n cap) ⟨(keptAt (keepF xs) 0 (d.pend.take i)).foldl upd d.done, d.pend⟩ nw ∧ Turn [r] w v ∧ ∀ j ∈ pb dv', j ∈ pb dv ∨ w.heap.size ≤ j))
  case atStart => exact ⟨0, rfl, by omega, rfl, Lib.hid ⟨dv, HP.out, Turn.refl _ _, fun _ h => Or.inl h⟩⟩
  case round =>
    obtain ⟨i, rfl, hi, rfl, HS⟩ := hrel
    obtain ⟨dv', hv, ht, hs⟩ := HS.out
    have HV := Lib.hid hv
    have HT := Lib.hid ht
    have HSS := Lib.hid hs
    clear HS hv ht hs
    generalize wr = v at *
    have c1 := HV.out.c1
    by_cases hlt : i < n
    · have t1 : (i : Int) < (n : Int) := by omega
      obtain ⟨⟨k, F⟩, hx⟩ : ∃ x, d.pend[i]? = some x := ⟨_, List.getElem?_eq_getElem (by rw [HN.out]; exact hlt)⟩
      obtain ⟨q, rfl⟩ := HA.out (by omega)
      obtain ⟨hk, d1, d2⟩ := HV.out.at (show (⟨(keptAt (keepF xs) 0 (d.pend.take i)).foldl upd d.done, d.pend⟩ : Disk).pend[i]? = some (k, F) from hx)
      have HX := Lib.hid hx
      have HI := Lib.hid (rin A xs c i v (HXS.out.turnN HT.out HAA.out) hlen)
      cases hf : keepF xs i
      · have HF := Lib.hid hf
        clear hx hf
        go_wp2_with fail
        refine (HI.out false HF.out.symm).mono ?_
        rintro e w' ⟨rfl, hw⟩
        obtain rfl := hw.symm
        go_wp2_with fail
        go_roundg (n - (i + 1))
        case measure => omega
        case rel => exact ⟨i + 1, by go_num, by omega, rfl, Lib.hid ⟨dv', by have := HV.out; rw [kept_take HX.out, if_neg (by rw [HF.out]; simp)]; exact this, HT.out, HSS.out⟩⟩
      · have HF := Lib.hid hf
        clear hf
        have HR := Lib.hid (rset k F HV.out hk)
        clear hx
        go_wp2_with fail
        refine (HI.out true HF.out.symm).mono ?_
        rintro e w' ⟨rfl, hw⟩
        obtain rfl := hw.symm
        go_wp2_with fail
        refine HR.out.mono ?_
        rintro e w4 ⟨dv4, rfl, v4, t4, s4⟩
        try dsimp only
        have HV4 := Lib.hid v4
        have HT4 := Lib.hid (HT.out.trans t4)
        have HS4 : Hid (∀ j ∈ pb dv4, j ∈ pb dv ∨ w.heap.size ≤ j) := Lib.hid (fun j hj => Or.inr (Nat.le_trans HT.out.size (s4 j hj)))
        clear v4 t4 s4
        go_wp2_with fail
        go_roundg (n - (i + 1))
        case measure => omega
        case rel => exact ⟨i + 1, by go_num, by omega, rfl, Lib.hid ⟨dv4, by have := HV4.out; rw [kept_take HX.out, if_pos HF.out]; exact this, HT4.out, HS4.out⟩⟩
    · obtain rfl : i = n := by omega
      have t1 : ¬ (i : Int) < (i : Int) := by omega
      have f1 := HV.out.f 1
      have HE := Lib.hid (rret (d := d.crash (keepF xs)) (dv := dv) HV.out HT.out HSS.out (by rw [List.take_of_length_le (by rw [HN.out]; omega)]; rfl))
      clear hlt
      go_wp2_with fail
      go_end0
      exact HE.out

theorem rcrash {w : World} {r : Nat} {S : List Nat} {N : Nat} {d : Disk} {nw : Nat} (A : Option Addr) (xs : List Int) (c : Nat) (h : RPlt w r S N d nw) (hxs : Nums w A xs) (hlen : xs.length ≤ 9223372036854775807) (hA : ∀ g o, A = some ⟨g, o, none⟩ → g ∉ [r]) (hnw : nw ≤ 1000000000) :
    Calls Tryz.prog 28 #[.pointer (some ⟨r, 0, none⟩), .slice A xs.length c] w (RRet r S N (d.crash (keepF xs)) nw w) := rcrashN A xs c h hxs hlen (fun _ => hA) hnw
theorem RPltV.congr {w : World} {r N : Nat} {dv pv : Value} {D E : Nat → Blk} {l : List (Nat × Blk)} {nw : Nat} (h : RPltV w r N dv pv ⟨D, l⟩ nw) (e : ∀ k, k < N → D k = E k) : RPltV w r N dv pv ⟨E, l⟩ nw :=
  ⟨h.head, by have := h.done; rwa [show strV N (Disk.mk D l).done = strV N (Disk.mk E l).done from strV_congr e] at this, h.pend, h.n1, h.n2, h.len, h.low⟩
end Go.Proofs.YtofmilkjhnkgjaaGreat
