import Derived.Test.YtajpnbmfeapmcaaAd
import Derived.Laws.CopyOwn
import Derived.IntWalk
namespace Go.Proofs.Ytajpnbmfeapmcaa
open Go.RowKit Go.Sort
set_option maxRecDepth 100000
set_option maxHeartbeats 4000000

/-- A stripe of which part p is turned. -/
def turned (F X : Nat → Nat) (p : Nat) : Nat → Nat := fun j => if j < 32 * p then F j else if j < 32 * p + 32 then X (j - 32 * p) else F j
theorem turned_lt {F X : Nat → Nat} (p : Nat) (hF : ∀ j, F j < 256) (hX : ∀ j, X j < 256) (j : Nat) : turned F X p j < 256 := by
  unfold turned
  split
  · exact hF _
  · split
    · exact hX _
    · exact hF _
theorem turned_enc {F X : Nat → Nat} {p : Nat} (hp : p < 4) (hF : ∀ j, F j < 256) (hX : ∀ j, X j < 256) {l k : Nat} (hl : l < 2) (hk : k < 32) :
    enc (parts (turned F X p)) (4 + l) k = enc (parts F) (4 + l) k ^^^ dlt p (fun k => F (p * 32 + k)) X l k := by
  rw [enc_turn (D := parts F) (E := parts (turned F X p)) (n := 32) hp (parts_bd (fun j _ => hF j)) (parts_bd (fun j _ => turned_lt p hF hX j)) (fun j hj hne k hk => by
    unfold parts turned
    by_cases h1 : j * 32 + k < 32 * p
    · rw [if_pos h1]
    · rw [if_neg h1, if_neg (by omega)]) (i := 4 + l) (by omega) hk]
  unfold dlt
  have e : parts (turned F X p) p k = X k := by
    unfold parts turned
    rw [if_neg (by omega), if_pos (by omega), show p * 32 + k - 32 * p = k by omega]
  rw [e]
  rfl
theorem splice_get {α : Type} (L cs : List α) (off j : Nat) (h : off + cs.length ≤ L.length) : (splice L off cs)[j]? = if j < off then L[j]? else if j < off + cs.length then cs[j - off]? else L[j]? := by
  have ht : (L.take off).length = off := by rw [List.length_take]; omega
  unfold splice
  by_cases h1 : j < off
  · rw [if_pos h1, List.getElem?_append_left (by omega), List.getElem?_take, if_pos h1]
  · rw [if_neg h1, List.getElem?_append_right (by omega), ht]
    by_cases h2 : j < off + cs.length
    · rw [if_pos h2, List.getElem?_append_left (by omega)]
    · rw [if_neg h2, List.getElem?_append_right (by omega), List.getElem?_drop, show off + cs.length + (j - off - cs.length) = j by omega]

theorem coderDeltas (x0 x1 x2 : Int) (w : World) : Calls Try.prog 6 #[.int .i64 x0, .int .i64 x1, .int .i64 x2] w fun e w' => e = .returned (.bool true) ∧ Below w.heap.size w w' := by
  obtain ⟨p, lp, _, hp1⟩ := rpickN x1 4 (by omega) (by omega)
  have P1 := Lib.hid hp1
  clear hp1
  have gp : (p : Int) < 4 := by omega
  have np : (0 : Int) ≤ (p : Int) := by omega
  obtain ⟨i0, hi0, hz0, hz1, hz2⟩ := info_parts infoByte
  go_enter Try.func6, Try.ntmps6
  go_wp2_with fail
  refine (cnew w).mono ?_
  rintro e w1 ⟨c, f, o, cap, rfl, hc, hb⟩
  have HB1 := Lib.hid hb
  have HC1 := Lib.hid hc
  clear hc hb
  go_wp2_with fail
  refine (lknown w1).mono ?_
  rintro e w2 ⟨rfl, hb⟩
  have HB2 : Hid (Below w.heap.size w w2) := Lib.hid (HB1.out.trans (hb.mono HB1.out.size))
  have HC2 := Lib.hid (HC1.out.keep hb)
  clear hb HC1 HB1
  go_wp2_with fail
  refine (P1.out _).mono ?_
  rintro e w2' ⟨rfl, hw⟩
  obtain rfl := hw
  go_wp2_with fail
  refine (rbytes x0 128 w2 (by omega)).mono ?_
  rintro e w3 ⟨g, F, rfl, hr, hF, hb, _⟩
  have HB3 : Hid (Below w.heap.size w w3) := Lib.hid (HB2.out.trans (hb.mono HB2.out.size))
  have HC3 := Lib.hid (HC2.out.keep hb)
  have HR3 := Lib.hid hr
  have HF := Lib.hid hF
  clear hb HC2 HB2 hr hF
  have HE := Lib.hid (cencode0 c f o cap g 128 F w3 HC3.out (by omega) HR3.out (fun j _ => HF.out j))
  go_wp2_with fail
  refine HE.out.mono ?_
  rintro e w4 ⟨b1, rfl, ho, _, hb⟩
  have HB4 : Hid (Below w.heap.size w w4) := Lib.hid (HB3.out.trans (hb.mono HB3.out.size))
  have HC4 := Lib.hid (HC3.out.keep hb)
  have HR4 := Lib.hid (HR3.out.on (by omega) hb)
  have HP4 := Lib.hid ho
  clear HE HB3 HC3 HR3 ho hb
  go_wp2_with fail
  refine (rbytes x2 32 w4 (by omega)).mono ?_
  rintro e w5 ⟨gx, X, rfl, hr, hX, hb, _⟩
  have HB5 : Hid (Below w.heap.size w w5) := Lib.hid (HB4.out.trans (hb.mono HB4.out.size))
  have HC5 := Lib.hid (HC4.out.keep hb)
  have HR5 := Lib.hid (HR4.out.on (by omega) hb)
  have HP5 := Lib.hid (HP4.out.on (by omega) (by omega) hb)
  have HS5 := Lib.hid hr
  have HX := Lib.hid hX
  clear HB4 HC4 HR4 HP4 hb hr hX
  have HD : Hid (∀ q n cc, q = p * 32 → n = 32 → Calls Try.prog 14 #[.pointer (some ⟨c, 0, none⟩), .int .i64 (p : Int), .slice (some ⟨g, q, none⟩) n cc, .slice (some ⟨gx, 0, none⟩) 32 32] w5 (EncRet w5 (dlt p (fun k => F (p * 32 + k)) X) 2)) := Lib.hid (by
    rintro q n cc rfl rfl
    exact cdelta c f o cap p g (p * 32) cc gx 0 32 _ _ w5 HC5.out lp (fun j hj => HR5.out.cell (p * 32 + j) (by omega)) (fun j hj => by rw [Nat.zero_add]; exact HS5.out.cell j hj) (fun j _ => HF.out _) (fun j _ => HX.out j))
  go_wp2_with fail
  refine (HD.out _ _ _ rfl (by omega)).mono ?_
  rintro e w6 ⟨b2, rfl, ho, _, hb⟩
  have HB6 : Hid (Below w.heap.size w w6) := Lib.hid (HB5.out.trans (hb.mono HB5.out.size))
  have HC6 := Lib.hid (HC5.out.keep hb)
  have HR6 := Lib.hid (HR5.out.on (by omega) hb)
  have HP6 := Lib.hid (HP5.out.on (by omega) (by omega) hb)
  have HS6 := Lib.hid (HS5.out.on (by omega) hb)
  have HQ6 := Lib.hid ho
  clear HB5 HC5 HR5 HP5 HS5 HD ho hb
  have HE0 := Lib.hid (own_empty (t := 5) (base := w6.heap.size) (alloc_block w6 (.cells #[] 5)) (Nat.le_refl _))
  have HB0 : Hid (Below w6.heap.size w6 (w6.alloc (.cells #[] 5))) := Lib.hid ((Below.refl _ _).alloc (Nat.le_refl _) _)
  have HRR : Hid (∀ j, j < 128 → (w6.alloc (.cells #[] 5)).cell? ⟨g, 0 + j, none⟩ = some (.int .u8 (F j : Nat))) := Lib.hid (fun j hj => by rw [Nat.zero_add]; exact (HR6.out.on (by omega) HB0.out).cell j hj)
  go_wp2_with (at_builtin; refine append_mine _ rfl _ _ 29 rfl w6.heap.size 5 i0 (.int .u8 0) 1 1 Try.underlying29 hi0 hz0 hz1 hz2 rfl (by decide) _ 0 [] rfl HE0.out ⟨g, 0, none⟩ 128 128 (rowL 128 F) rfl (by rw [rowL_len]) (rowL_cells HRR.out) rowL_one (by unfold maxLen; omega) (by omega) HB0.out.size (by omega) ?_; intro v' w7 ho hg hv; rw [Nat.zero_add, List.nil_append] at ho; obtain ⟨gt, capt, rfl⟩ := own_succ ho; have hcp := own_cap6 ho; have HO := Lib.hid ho; have HG := Lib.hid hg; clear ho hg hv)
  have HW7 : Hid (Below w6.heap.size w6 w7) := Lib.hid (Below.grown HB0.out HG.out HB0.out.size (fun k hk => by cases hk; exact Nat.le_refl _))
  have hcur : ∃ cur : Array Value, w7.heap[gt]? = some (.cells cur 5 (0, 0)) ∧ w6.heap.size ≤ gt ∧ 128 ≤ cur.size ∧ cur.toList.take 128 = rowL 128 F := by
    rcases HO.out.2 with ⟨h0, _⟩ | ⟨g', cap', cur, e, hge, hblk, h3, h4, h5, h6⟩
    · cases h0
    · cases e
      exact ⟨cur, hblk, hge, by rw [h5]; omega, by simpa using h6⟩
  obtain ⟨cur, hblk, hge, hsz, htk⟩ := hcur
  have HBLK : Hid (w7.heap[gt]? = some (.cells cur.toList.toArray 5 (0, 0))) := Lib.hid (by rw [Array.toArray_toList]; exact hblk)
  have HTK := Lib.hid (And.intro hsz htk)
  have HS7 : Hid (∀ j v, (rowL 32 X)[j]? = some v → w7.cell? ((⟨gx, 0, none⟩ : Addr).add j) = some v) := Lib.hid (rowL_cells (fun j hj => by rw [Nat.zero_add]; exact (HS6.out.on (by omega) HW7.out).cell j hj))
  have isz : (Try.prog.info? 5).map (·.size) = some 1 := by rw [hi0]; simp [hz1]
  clear hblk hsz htk HO HG HB0 HE0 HRR
  have hmin : (rowL 32 X).length = Nat.min 32 (128 - p * 32) := by rw [rowL_len]; show 32 = min 32 (128 - p * 32); omega
  have hfits : p * 32 + (rowL 32 X).length ≤ cur.toList.length := by rw [rowL_len, Array.length_toList]; have := HTK.out.1; omega
  obtain ⟨w8, hrun, hg8, hb8⟩ : ∃ w8, Sem.run Try.prog (Builtin.copy_ #[29, 29] 3 #[.slice (some ⟨gt, p * 32, none⟩) (128 - p * 32) (capt - p * 32), .slice (some ⟨gx, 0, none⟩) 32 32]) w7 = .ok (.int .i64 32) w8 ∧ w8.heap[gt]? = some (.cells (splice cur.toList (p * 32) (rowL 32 X)).toArray 5 (0, 0)) ∧ Below w6.heap.size w6 w8 := by
    have h := run_copy_row (P := Try.prog) w7 29 29 3 5 gt (p * 32) (128 - p * 32) (capt - p * 32) ⟨gx, 0, none⟩ 32 32 cur.toList.toArray 5 (rowL 32 X) Try.underlying29 isz HBLK.out hmin HS7.out (by simpa using hfits) rowL_one
    refine ⟨_, ?_, setRow_heap w7 gt _ _ 5 _ HBLK.out, below_setRow HW7.out hge _⟩
    rw [h, rowL_len]
    simp only [splice, List.append_assoc, rowL_len]
    rfl
  have HG8 := Lib.hid hg8
  have HW8 := Lib.hid hb8
  clear hg8 hb8
  simp only [hrun, Result.andThen_ok]
  go_wp2_with fail
  have HT8 : Hid (Row8 w8 gt 128 (turned F X p)) := Lib.hid ⟨fun j hj => by
    rw [cell_of_block HG8.out, List.getElem?_toArray, splice_get _ _ _ _ hfits, rowL_len]
    have hcl : cur.toList[j]? = some (.int .u8 (F j : Nat)) := by
      have h1 : (cur.toList.take 128)[j]? = some (.int .u8 (F j : Nat)) := by rw [HTK.out.2, rowL_get hj]
      rwa [List.getElem?_take, if_pos hj] at h1
    have ep : p * 32 = 32 * p := by omega
    unfold turned
    rw [ep]
    by_cases h1 : j < 32 * p
    · simp only [if_pos h1]; exact hcl
    · by_cases h2 : j < 32 * p + 32
      · simp only [if_neg h1, if_pos h2]; exact rowL_get (by omega)
      · simp only [if_neg h1, if_neg h2]; exact hcl, fun j => free_of_block HG8.out⟩
  have HC8 := Lib.hid (HC6.out.keep HW8.out)
  have HB8 : Hid (Below w.heap.size w w8) := Lib.hid (HB6.out.trans (HW8.out.mono HB6.out.size))
  have HP8 := Lib.hid (HP6.out.on (by omega) (by omega) HW8.out)
  have HQ8 := Lib.hid (HQ6.out.on (by omega) (by omega) HW8.out)
  clear HTK hfits HG8 HBLK HS7 HW7 HW8 hge HB6 HC6 HR6 HP6 HS6 HQ6
  have HE8 := Lib.hid (cencode0 c f o cap gt capt (turned F X p) w8 HC8.out hcp HT8.out (fun j _ => turned_lt p HF.out HX.out j))
  refine HE8.out.mono ?_
  rintro e w9 ⟨b3, rfl, ho, _, hb⟩
  have HB9 : Hid (Below w.heap.size w w9) := Lib.hid (HB8.out.trans (hb.mono HB8.out.size))
  have HP9 := Lib.hid (HP8.out.on (by omega) (by omega) hb)
  have HQ9 := Lib.hid (HQ8.out.on (by omega) (by omega) hb)
  have HR9 := Lib.hid ho
  clear HE8 HB8 HC8 HP8 HQ8 HT8 ho hb
  have HPB := Lib.hid (enc_bd 6 32 (parts F))
  have HQB : Hid (Bd 2 32 (dlt p (fun k => F (p * 32 + k)) X)) := Lib.hid (fun l hl k hk => mul_lt _ _)
  have HEQ : Hid (∀ l, l < 2 → ∀ k, k < 32 → enc (parts (turned F X p)) (4 + l) k = enc (parts F) (4 + l) k ^^^ dlt p (fun k => F (p * 32 + k)) X l k) := Lib.hid (fun l hl k hk => turned_enc lp HF.out HX.out hl hk)
  generalize enc (parts F) = A1 at *
  generalize dlt p (fun k => F (p * 32 + k)) X = A2 at *
  generalize enc (parts (turned F X p)) = A3 at *
  go_wp2_with fail
  go_loopg [95] 6 (fun q s95 v => ∃ i : Nat, s95 = .int .i64 (i : Int) ∧ i ≤ 6 ∧ q = 6 - i ∧ Hid (Below w9.heap.size w9 v))
  case atStart => exact ⟨0, rfl, by omega, rfl, Lib.hid (Below.refl _ _)⟩
  case round =>
    obtain ⟨i, rfl, hi, rfl, HI⟩ := hrel
    by_cases hli : i < 6
    · have hli' : (i : Int) < 6 := by omega
      have hi0' : (0 : Int) ≤ (i : Int) := by omega
      have p1 := (HP9.out.on (by omega) (by omega) HI.out).outer i hli
      have p3 := (HR9.out.on (by omega) (by omega) HI.out).outer i hli
      go_wp2_with fail
      go_roundg (6 - (i + 1))
      case measure => omega
      case rel => exact ⟨i + 1, by go_num, by omega, rfl, HI⟩
    · have hge : ¬ (i : Int) < 6 := by omega
      clear hli hi
      obtain ⟨wa, hwa⟩ : ∃ wa, wr = wa := ⟨_, rfl⟩
      rw [hwa] at HI ⊢
      clear hwa
      go_wp2_with fail
      go_loopg [18] 2 (fun q s18 v => ∃ l : Nat, s18 = .int .i64 (l : Int) ∧ l ≤ 2 ∧ q = 2 - l ∧ Hid (Below w9.heap.size w9 v))
      case atStart => exact ⟨0, rfl, by omega, rfl, HI⟩
      case round =>
        obtain ⟨l, rfl, hl, rfl, HL⟩ := hrel
        by_cases hll : l < 2
        · have hll' : (l : Int) < 2 := by omega
          have hl0 : (0 : Int) ≤ (l : Int) := by omega
          have p2 := (HQ9.out.on (by omega) (by omega) HL.out).outer l hll
          obtain ⟨wi, hwi⟩ : ∃ wi, wr = wi := ⟨_, rfl⟩
          rw [hwi] at HL p2 ⊢
          clear hwi
          go_wp2_with fail
          go_loopg [128] 32 (fun q s128 v => ∃ k : Nat, s128 = .int .i64 (k : Int) ∧ k ≤ 32 ∧ q = 32 - k ∧ Hid (Below w9.heap.size w9 v))
          case atStart => exact ⟨0, rfl, by omega, rfl, HL⟩
          case round =>
            obtain ⟨k, rfl, hk, rfl, HK⟩ := hrel
            clear p2
            by_cases hlk : k < 32
            · have hlk' : (k : Int) < 32 := by omega
              have hk0 : (0 : Int) ≤ (k : Int) := by omega
              have p1 := (HP9.out.on (by omega) (by omega) HK.out).outer (4 + l) (by omega)
              have p2 := (HQ9.out.on (by omega) (by omega) HK.out).outer l hll
              have p3 := (HR9.out.on (by omega) (by omega) HK.out).outer (4 + l) (by omega)
              have v1 := (HP9.out.on (by omega) (by omega) HK.out).cell (4 + l) (by omega) k hlk
              have v2 := (HQ9.out.on (by omega) (by omega) HK.out).cell l hll k hlk
              have v3 := (HR9.out.on (by omega) (by omega) HK.out).cell (4 + l) (by omega) k hlk
              have hxor := bits_xor_u8 (A1 (4 + l) k) (A2 l k) (HPB.out (4 + l) (by omega) k hlk) (HQB.out l hll k hlk)
              rw [← HEQ.out l hll k hlk] at hxor
              generalize A1 (4 + l) k = a1 at *
              generalize A2 l k = a2 at *
              generalize A3 (4 + l) k = a3 at *
              have m1 : IntKind.i64.wrap (4 + (l : Int)) = 4 + (l : Int) := IntWalk.i64_in _ (by omega)
              have m2 : (0 : Int) ≤ 4 + (l : Int) := by omega
              have m3 : (4 + (l : Int)).toNat = 4 + l := by omega
              have m4 : 4 + (l : Int) < 6 := by omega
              go_wp2_with fail
              go_big_quiet (fail)
              clear m1 m2 m3 m4
              go_wp2_with fail
              go_roundg (32 - (k + 1))
              case measure => omega
              case rel => exact ⟨k + 1, by go_num, by omega, rfl, Lib.hid (HK.out.trans ((below_drewN nq wr).mono HK.out.size))⟩
            · have hge : ¬ (k : Int) < 32 := by omega
              clear hlk hk
              go_wp2_with fail
              go_roundg (2 - (l + 1))
              case measure => omega
              case rel => exact ⟨l + 1, by go_num, by omega, rfl, HK⟩
        · have hge : ¬ (l : Int) < 2 := by omega
          have HBZ : Hid (Below w.heap.size w wr) := Lib.hid (HB9.out.trans (HL.out.mono HB9.out.size))
          clear hll hl HL
          go_wp2_with fail
          go_ret
          exact ⟨rfl, HBZ.out⟩
end Go.Proofs.Ytajpnbmfeapmcaa
