import Derived.Test.YtajpnbmfeapmcaaJ3
namespace Go.Proofs.Ytajpnbmfeapmcaa
open Go.RowKit Go.Sort
set_option maxRecDepth 100000
set_option maxHeartbeats 4000000

/-- The reference's inverse, entry by entry. -/
def adjM (n : Nat) (A : Mx) : Mx := fun i k => mul (inv (det n A)) (det (n - 1) (wo A k i))
def RInv (n : Nat) (A : Mx) (w : World) (e : Ending) (w' : World) : Prop :=
  (e = .returned (.tuple #[.slice none 0 0, .bool false]) ∧ Hid (det n A = 0 ∧ Below w.heap.size w w')) ∨
  (∃ v G, e = .returned (.tuple #[v, .bool true]) ∧ Hid (det n A ≠ 0 ∧ Rows8 w' w.heap.size v n n G (adjM n A) ∧ Below w.heap.size w w'))

theorem rinverse (n ca oa : Nat) (A : Mx) (w : World) (h : RawC w (some ⟨oa, 0, none⟩) n A) (hA : Bd n n A) (n1 : 1 ≤ n) (n2 : n ≤ 64) :
    Calls Try.prog 37 #[.slice (some ⟨oa, 0, none⟩) n ca] w (RInv n A w) := by
  obtain ⟨i0, hi0, hz0, hz1, hz2⟩ := info_parts infoRow
  obtain ⟨zs, z1, z2⟩ := make8 n (by omega)
  have HZ := Lib.hid z1
  clear z1
  have HI := Lib.hid h
  have HA := Lib.hid hA
  obtain ⟨a1, a2, a3⟩ := rowsOf_facts hA n1 n2 n1 n2
  have hR := rright (some ⟨oa, 0, none⟩) (rowsOf n n A) ca w h.raw (by rw [rowsOf_len]; omega) true ⟨fun _ => a1, fun _ => rfl⟩
  rw [rowsOf_len] at hR
  have HR := Lib.hid hR
  obtain ⟨ab, ao, g, q, cap, e, hab, hg, c1, hcap, _⟩ := h 0 (by omega)
  cases e
  rw [Nat.add_zero] at c1
  clear h hA a1 a2 a3 hR
  obtain ⟨B, hB⟩ : ∃ B, w.heap.size = B := ⟨_, rfl⟩
  have HB := Lib.hid hB
  rw [hB] at hab
  clear hB
  have t1 : ((n : Int) != (n : Int)) = false := by rw [bne_eq_false_iff_eq]
  have m1 : (0 : Int) < (n : Int) := by omega
  have HDL := Lib.hid (det_lt n A)
  obtain ⟨d, hd⟩ : ∃ d, det n A = d := ⟨_, rfl⟩
  have HDE := Lib.hid hd
  clear hd
  rw [HDE.out] at HDL
  go_enter Try.func37, Try.ntmps37
  go_wp2_with fail
  refine HR.out.mono ?_
  rintro e w2 ⟨rfl, b2⟩
  have HB2 : Hid (Below B w w2) := Lib.hid (by rw [← HB.out]; exact b2)
  have c2 := (HB2.out.cell (p := ⟨oa, 0, none⟩) hab).trans c1
  have HI2 := Lib.hid (HI.out.keep b2)
  clear b2
  go_wp2_with fail
  refine (rdet n (some ⟨oa, 0, none⟩) ca A w2 HI2.out HA.out n2).mono ?_
  rintro e w3 ⟨rfl, b3⟩
  have HB3 : Hid (Below B w w3) := Lib.hid (HB2.out.trans (b3.mono (by rw [← HB.out]; exact HB2.out.size)))
  have HI3 := Lib.hid (HI2.out.keep b3)
  clear b3 c2
  rw [HDE.out]
  go_wp2_with fail
  refine (rinv d w3 HDL.out).mono ?_
  rintro e w' ⟨rfl, hw⟩
  obtain rfl := hw.symm
  by_cases h0 : d = 0
  · subst h0
    go_wp2_with fail
    go_ret2
    exact Or.inl ⟨rfl, Lib.hid ⟨HDE.out, by rw [HB.out]; exact HB3.out⟩⟩
  · rw [if_neg h0, decide_eq_true h0]
    have HNZ := Lib.hid h0
    clear h0
    obtain ⟨di, hdi⟩ : ∃ di, di = inv d := ⟨_, rfl⟩
    rw [← hdi]
    have HDI := Lib.hid hdi
    have hdl : di < 256 := by rw [hdi]; exact inv_lt _
    clear hdi
    have H0 : Hid (Rows8 w3 B (.slice none 0 0) 0 n (fun _ => 0) (adjM n A) ∧ Below B w w3) := Lib.hid ⟨Rows8.start _ _ _ _ _, HB3.out⟩
    go_wp2_with fail
    go_loopg [6, 7, 8, 9] n (fun q' s6 s7 s8 s9 v => ∃ (i : Nat) (G : Nat → Nat), s7 = .int .i64 (i : Int) ∧ i ≤ n ∧ q' = n - i ∧ Hid (Rows8 v B s6 i n G (adjM n A) ∧ Below B w v))
    case atStart => exact ⟨0, _, rfl, by omega, rfl, H0⟩
    case round =>
      obtain ⟨i, G, rfl, hi, rfl, HS⟩ := hrel
      clear H0
      by_cases hlt : i < n
      · have hl : (i : Int) < (n : Int) := by omega
        obtain ⟨wr0, rfl⟩ : ∃ wr0 : World, wr0 = wr := ⟨wr, rfl⟩
        go_wp2_with fail
        have HSB : Hid (B ≤ wr0.heap.size) := Lib.hid (by rw [← HB.out]; exact HS.out.2.size)
        have HAB : Hid (Below wr0.heap.size wr0 (wr0.alloc (.cells zs 5))) := Lib.hid ((Below.refl _ _).alloc (Nat.le_refl _) _)
        have HR0 : Hid (Row8 (wr0.alloc (.cells zs 5)) wr0.heap.size n (fun j => if j < 0 then adjM n A i j else 0)) := by
          have hb := alloc_block wr0 (.cells zs 5)
          refine Lib.hid ⟨fun j hj => ?_, fun k => free_of_block hb⟩
          rw [cell_of_block hb, HZ.out j hj, if_neg (Nat.not_lt_zero _)]; rfl
        have HSZ : Hid ((wr0.alloc (.cells zs 5)).heap.size = wr0.heap.size + 1) := Lib.hid (by simp)
        generalize hw1 : wr0.alloc (.cells zs 5) = w1 at *
        clear hw1
        generalize hg : wr0.heap.size = g at *
        have HG := Lib.hid hg
        clear hg
        go_loopg [9] n (fun q' s9 v => ∃ k : Nat, s9 = .int .i64 (k : Int) ∧ k ≤ n ∧ q' = n - k ∧ Hid (Row8 v g n (fun j => if j < k then adjM n A i j else 0) ∧ Below g w1 v))
        case atStart => exact ⟨0, rfl, by omega, rfl, Lib.hid ⟨HR0.out, Below.refl _ _⟩⟩
        case round =>
          obtain ⟨k, rfl, hk, rfl, HK⟩ := hrel
          clear HR0
          by_cases hlk : k < n
          · have hlk' : (k : Int) < (n : Int) := by omega
            have HIW := Lib.hid (HI.out.keep (w' := wr) (by
              have h1 := HS.out.2.trans (HAB.out.mono HSB.out)
              have h2 := h1.trans (HK.out.2.mono HSB.out)
              rw [HB.out]; exact h2))
            have HW := Lib.hid (rwithout (some ⟨oa, 0, none⟩) ca n k i A wr HIW.out hlk hlt n2)
            have gsz : g < wr.heap.size := cell?_lt (HK.out.1.cell 0 (by omega))
            go_wp2_with fail
            refine HW.out.mono ?_
            rintro e w5 ⟨o5, c5, rfl, r5, b5⟩
            have HR5 := Lib.hid r5
            have HB5 := Lib.hid b5
            clear r5 b5
            go_wp2_with fail
            refine (rdet (n - 1) o5 c5 (wo A k i) w5 HR5.out (wo_bd (n := n - 1) (by have := HA.out; rw [show n - 1 + 1 = n by omega]; exact this)) (by omega)).mono ?_
            rintro e w6 ⟨rfl, b6⟩
            have HB6 : Hid (Below wr.heap.size wr w6) := Lib.hid (HB5.out.trans (b6.mono HB5.out.size))
            clear b6
            have hdt := det_lt (n - 1) (wo A k i)
            have HE : Hid (mul di (det (n - 1) (wo A k i)) = adjM n A i k) := Lib.hid (by unfold adjM; rw [HDE.out, HDI.out])
            generalize det (n - 1) (wo A k i) = dd at *
            go_wp2_with fail
            refine (rmul di dd w6 hdl hdt).mono ?_
            rintro e w' ⟨rfl, hw⟩
            obtain rfl := hw.symm
            rw [HE.out]
            have HRW := Lib.hid (HK.out.1.keep (w' := w6) (HB6.out.block g gsz))
            have e1 := HRW.out.cell k hlk
            have f1 := HRW.out.free k
            go_wp2_with fail
            go_roundg (n - (k + 1))
            case measure => omega
            case rel => exact ⟨k + 1, by go_num, by omega, rfl, Lib.hid ⟨(Row8.put (x := adjM n A i k) HRW.out hlk).congr (fun j _ => by
              by_cases e : j = k
              · subst e; rw [if_pos rfl, if_pos (by omega)]
              · rw [if_neg e]
                by_cases h : j < k
                · rw [if_pos h, if_pos (by omega)]
                · rw [if_neg h, if_neg (by omega)]), (HK.out.2.trans (HB6.out.mono (Nat.le_of_lt gsz))).setCell (Nat.le_refl _) _⟩⟩
          · have hge : ¬ (k : Int) < (n : Int) := by omega
            have e : k = n := by omega
            subst e
            have HRW : Hid (Row8 wr g k (adjM k A i)) := Lib.hid (HK.out.1.congr (fun j hj => if_pos hj))
            have HBG : Hid (Below g wr0 wr) := Lib.hid (HAB.out.trans HK.out.2)
            have HRS := Lib.hid (HS.out.1.keep (w' := wr) (by rw [HG.out]; exact HBG.out))
            have HBW : Hid (Below B w wr) := Lib.hid (HS.out.2.trans (HBG.out.mono HSB.out))
            have HGV : Hid (u6.ownBlock ≠ some g ∧ ∀ i', i' < i → G i' ≠ g) := Lib.hid ⟨fun e => by
              obtain ⟨xs, hx, _⟩ := HS.out.1.own
              have := (hx.lt g e).2
              have := HG.out
              omega, fun i' hi' e => by
              have := (HS.out.1.base i' hi').2
              have := HG.out
              omega⟩
            have HGL : Hid (g < wr.heap.size) := Lib.hid (Nat.lt_of_lt_of_le (by have := HSZ.out; omega) HK.out.2.size)
            clear HK HS HAB
            have HB2' : Hid (Below wr.heap.size wr (wr.alloc (.cells #[.slice (some ⟨g, 0, none⟩) k k] 29))) := Lib.hid ((Below.refl _ _).alloc (Nat.le_refl _) _)
            have HRS2 := Lib.hid (HRS.out.keep HB2'.out)
            obtain ⟨xs, hx, hxs⟩ := HRS2.out.own
            have HX := Lib.hid hx
            have HXS := Lib.hid hxs
            have hB2 : B ≤ wr.heap.size := by rw [← HB.out]; exact HBW.out.size
            clear hx hxs
            go_wp2_with (at_builtin; refine append_mine _ rfl _ _ 25 rfl B 29 i0 (.slice none 0 0) 1 24 Try.underlying25 hi0 hz0 hz1 hz2 rfl (by decide) _ i xs rfl HX.out ⟨wr.heap.size, 0, none⟩ 1 1 [.slice (some ⟨g, 0, none⟩) k k] rfl rfl (cell_one_new _ _ _) (by intro u hu; simp at hu; subst hu; rfl) (by unfold maxLen; omega) (by omega) (by simp; omega) (by decide) ?_; intro v' w' own gr hv)
            have HN := Lib.hid (HRS2.out.add HX.out HXS.out (g := g) (HRW.out.keep (HB2'.out.block g HGL.out)) HSB.out (Nat.lt_of_lt_of_le HGL.out HB2'.out.size) HGV.out.1 HGV.out.2 own gr hv)
            have HBN : Hid (Below B w w') := Lib.hid (Below.grown (HBW.out.trans (HB2'.out.mono hB2)) gr (by simp; omega) (fun k hk => (HX.out.lt k hk).1))
            clear own gr hv
            go_wp2_with fail
            go_roundg (k - (i + 1))
            case measure => omega
            case rel => exact ⟨i + 1, _, by go_num, by omega, rfl, Lib.hid ⟨HN.out, HBN.out⟩⟩
      · have hge : ¬ (i : Int) < (n : Int) := by omega
        have e : i = n := by omega
        subst e
        go_wp2_with fail
        go_ret2
        exact Or.inr ⟨_, G, rfl, Lib.hid ⟨by rw [HDE.out]; exact HNZ.out, by rw [HB.out]; exact HS.out.1, by rw [HB.out]; exact HS.out.2⟩⟩
theorem Rows8.matC {w : World} {B n : Nat} {v : Value} {G : Nat → Nat} {A : Mx} (h : Rows8 w B v n n G A) (hn : 1 ≤ n) : ∃ o cap, v = .slice (some ⟨o, 0, none⟩) n cap ∧ RawC w (some ⟨o, 0, none⟩) n A := by
  obtain ⟨xs, hx, hg⟩ := h.own
  rcases hx.2 with ⟨_, h0⟩ | ⟨g, cap, cur, rfl, _, hblk, _⟩
  · omega
  · refine ⟨g, cap, rfl, fun i hi => ⟨g, 0, G i, 0, n, rfl, heap_lt hblk, (h.base i hi).2, ?_, Nat.le_refl _, fun j hj => by rw [Nat.zero_add]; exact (h.row i hi).cell j hj⟩⟩
    have := hx.cells (g := g) rfl i _ (hg i hi)
    rw [addr_add] at this
    exact this
def RInvC (n : Nat) (A : Mx) (w : World) (e : Ending) (w' : World) : Prop :=
  (e = .returned (.tuple #[.slice none 0 0, .bool false]) ∧ Hid (det n A = 0 ∧ Below w.heap.size w w')) ∨
  (∃ o cap, e = .returned (.tuple #[.slice (some ⟨o, 0, none⟩) n cap, .bool true]) ∧ Hid (det n A ≠ 0 ∧ RawIn w' (some ⟨o, 0, none⟩) (rowsOf n n (adjM n A)) ∧ Below w.heap.size w w'))
theorem rinvC (n ca oa : Nat) (A : Mx) (w : World) (h : RawC w (some ⟨oa, 0, none⟩) n A) (hA : Bd n n A) (n1 : 1 ≤ n) (n2 : n ≤ 64) :
    Calls Try.prog 37 #[.slice (some ⟨oa, 0, none⟩) n ca] w (RInvC n A w) := by
  refine (rinverse n ca oa A w h hA n1 n2).mono ?_
  rintro e w' (h | ⟨v, G, rfl, h⟩)
  · exact Or.inl h
  · obtain ⟨o, cap, rfl, h2⟩ := h.out.2.1.mat n1
    exact Or.inr ⟨o, cap, rfl, Lib.hid ⟨h.out.1, h2, h.out.2.2⟩⟩
end Go.Proofs.Ytajpnbmfeapmcaa
