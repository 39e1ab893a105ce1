import Derived.Test.YtajpnbmfeapmcaaI1
namespace Go.Proofs.Ytajpnbmfeapmcaa
open Go.RowKit Go.Sort
set_option maxRecDepth 100000
set_option maxHeartbeats 1000000

/-- What Inverse answers. -/
def InvRet (n : Nat) (A : Mx) (w : World) (e : Ending) (w' : World) : Prop :=
  ∃ (ok : Bool) (X : Mx) (v : Value), e = .returned (.tuple #[v, .bool ok]) ∧ Found n A X ok ∧ Below w.heap.size w w' ∧
    (ok = false → v = .slice none 0 0) ∧ (ok = true → ∃ b, v = .slice (some ⟨b, 0, none⟩) n n ∧ RawIn w' (some ⟨b, 0, none⟩) (rowsOf n n X))

/-- The elimination under way: k columns are settled. -/
structure Elim (w0 w : World) (H n k : Nat) (A : Mx) (G K : Nat → Nat) (L : Mx) : Prop where
  own : Own w H n (n + n) G K L
  base : ∀ i, i < n → H ≤ G i
  cap : ∀ i, i < n → n + n ≤ K i
  bd : Bd n (n + n) L
  gauss : Gauss n A L (rgt n L)
  dt : Dt n A L
  id : ∀ i, i < n → ∀ j, j < k → L i j = one i j
  below : Below H w0 w
/-- The right halves are being cut out: k of them are. -/
structure Cut (w0 w : World) (H n k : Nat) (G K : Nat → Nat) (R : Mx) : Prop where
  outerN : ∀ i, k ≤ i → i < n → w.cell? ⟨H, i, none⟩ = some (.slice (some ⟨G i, 0, none⟩) (n + n) (K i))
  outerW : ∀ i, i < k → ∃ cap, w.cell? ⟨H, i, none⟩ = some (.slice (some ⟨G i, n, none⟩) n cap)
  cap : ∀ i, i < n → n + n ≤ K i
  cell : ∀ i, i < n → ∀ j, j < n → w.cell? ⟨G i, n + j, none⟩ = some (.int .u8 (R i j : Nat))
  free : ∀ j, w.frozen? ⟨H, j, none⟩ = false
  apart : ∀ i, i < n → G i ≠ H
  below : Below H w0 w
theorem Elim.start {w0 w : World} {H n : Nat} {A : Mx} {G K : Nat → Nat} (h : Cat w H n n A G K) (hA : Bd n n A) (hb : Below H w0 w) : Elim w0 w H n 0 A G K (aug n A) :=
  ⟨h.own, fun i hi => by have := (h.base i hi).1; omega, h.capW, aug_bd hA, gauss_aug hA, dt_aug A, fun _ _ _ hj => absurd hj (Nat.not_lt_zero _), hb⟩
theorem Elim.next {w0 w w' : World} {H n k q : Nat} {A : Mx} {G K : Nat → Nat} {L : Mx} (h : Elim w0 w H n k A G K L) (hA : Bd n n A) (hk : k < n) (hkq : k ≤ q) (hq : q < n) (h0 : L q k ≠ 0)
    (ho : Own w' H n (n + n) (fun i => G (sw k q i)) (fun i => K (sw k q i)) (stepM k q L)) (hb : Below H w0 w') : Elim w0 w' H n (k + 1) A (fun i => G (sw k q i)) (fun i => K (sw k q i)) (stepM k q L) :=
  ⟨ho, fun i hi => h.base _ (sw_lt hk hq hi), fun i hi => h.cap _ (sw_lt hk hq hi), stepM_bd h.bd hk hq, gauss_step hA h.bd h.gauss hk hq (by omega) h0, dt_step h.bd h.dt hk hq h0, id_step h.bd h.id hk hkq hq h0, hb⟩
theorem Elim.found {w0 w : World} {H n : Nat} {A : Mx} {G K : Nat → Nat} {L : Mx} (h : Elim w0 w H n n A G K L) (hA : Bd n n A) : Found n A (rgt n L) Bool.true := Found.of_done hA h.gauss h.dt h.id
theorem Elim.stuck {w0 w : World} {H n k : Nat} {A : Mx} {G K : Nat → Nat} {L : Mx} (h : Elim w0 w H n k A G K L) (hA : Bd n n A) (hk : k < n) (h0 : ∀ i, k ≤ i → i < n → L i k = 0) : Found n A one Bool.false := Found.of_stuck hA h.gauss hk h.id h0
theorem Elim.cutting {w0 w : World} {H n k : Nat} {A : Mx} {G K : Nat → Nat} {L : Mx} (h : Elim w0 w H n k A G K L) : Cut w0 w H n 0 G K (rgt n L) :=
  ⟨fun i _ hi => h.own.outer i hi, fun _ hi => absurd hi (Nat.not_lt_zero _), h.cap, fun i hi j hj => h.own.cell i hi (n + j) (by omega), h.own.free, h.own.apart, h.below⟩
theorem Cut.next {w0 w : World} {H n k : Nat} {G K : Nat → Nat} {R : Mx} (h : Cut w0 w H n k G K R) (hk : k < n) (cap : Nat) : Cut w0 (w.setCell ⟨H, k, none⟩ (.slice (some ⟨G k, n, none⟩) n cap)) H n (k + 1) G K R := by
  refine ⟨fun i h1 h2 => ?_, fun i hi => ?_, h.cap, fun i hi j hj => ?_, fun j => by rw [World.frozen?_setCell]; exact h.free j, h.apart, h.below.setCell (Nat.le_refl _) _⟩
  · rw [cell_far (Or.inr (by omega))]; exact h.outerN i (by omega) h2
  · by_cases e : i = k
    · subst e; exact ⟨cap, World.cell?_setCell_same _ _ _ (h.outerN i (Nat.le_refl _) hk)⟩
    · rw [cell_far (Or.inr e)]; exact h.outerW i (by omega)
  · rw [cell_far (Or.inl (h.apart i hi))]; exact h.cell i hi j hj
theorem Cut.raw {w0 w : World} {H n : Nat} {G K : Nat → Nat} {R : Mx} (h : Cut w0 w H n n G K R) : RawIn w (some ⟨H, 0, none⟩) (rowsOf n n R) :=
  rawIn_of (fun i hi => by
    obtain ⟨cap, hc⟩ := h.outerW i hi
    exact ⟨G i, n, cap, by rw [Nat.zero_add]; exact hc, fun j hj => h.cell i hi j hj⟩)

theorem minverse (f : Nat) (a : Option Addr) (xss : List (List Nat)) (ca : Nat) (w : World) (hf : Fld w f) (hx : RawIn w a xss) (px : RightP xss) (bx : Bytes xss)
    (hm : ∀ (i : Nat) (xs : List Nat), xss[i]? = some xs → xs.length = xss.length) :
    Calls Try.prog 30 #[.pointer (some ⟨f, 0, none⟩), .slice a xss.length ca] w (InvRet xss.length (ent xss) w) := by
  have hr := And.intro px.1 px.2.1
  have HX := Lib.hid hx
  have HF := Lib.hid hf
  have HM := Lib.hid (fun i xs => hm i xs)
  have hA : Bd xss.length xss.length (ent xss) := fun i _ j _ => ent_lt bx i j
  have HA := Lib.hid hA
  obtain ⟨ab, ao, ag, aq, acap, rfl, hab, hag, a0, _⟩ := hx.at (i := 0) (j := 0) (by omega) (fun xs h => hm 0 xs h) (by omega)
  rw [Nat.add_zero] at a0
  have R1 := Lib.hid (mright (some ⟨ab, ao, none⟩) xss ca w hx (by omega) true ⟨fun _ => px, fun _ => rfl⟩)
  have R3 := Lib.hid (midentity xss.length w (by omega) (by omega))
  have hfl := hf.lt
  clear hx hf px bx hm hA
  obtain ⟨n, hnl⟩ : ∃ n, xss.length = n := ⟨_, rfl⟩
  have HNL := Lib.hid hnl
  obtain ⟨H, hH⟩ : ∃ H, w.heap.size = H := ⟨_, rfl⟩
  have HH := Lib.hid hH
  rw [hH] at hab hag hfl
  rw [hnl] at hr R1 HA a0
  rw [hnl, hH] at R3
  rw [hnl]
  clear hH hnl
  obtain ⟨A, hA⟩ : ∃ A, A = ent xss := ⟨_, rfl⟩
  rw [← hA] at HA ⊢
  have HAE := Lib.hid hA
  clear hA
  have t1 : ((n : Int) != (n : Int)) = false := by rw [bne_eq_false_iff_eq]
  have hn0 : (0 : Int) < (n : Int) := by omega
  go_enter Try.func30, Try.ntmps30
  go_wp2_with fail
  refine R1.out.mono ?_
  rintro e w' ⟨rfl, hw⟩
  obtain rfl := hw.symm
  go_wp2_with fail
  refine R3.out.mono ?_
  rintro e w3 ⟨rfl, o3, b3⟩
  have H0 : Hid (∃ G K, Cat w3 H n 0 A G K ∧ Below H w w3) := Lib.hid ⟨fun _ => 0, fun _ => 0, ⟨fun i _ h => o3.outer i h, fun i _ h j hj => o3.cell i h j hj, fun i h => absurd h (Nat.not_lt_zero _), fun i h => absurd h (Nat.not_lt_zero _), fun i h => absurd h (Nat.not_lt_zero _), o3.free, fun i h => absurd h (Nat.not_lt_zero _), fun i h => absurd h (Nat.not_lt_zero _), by
    have := o3.ltG (i := n - 1) (by omega) (by omega); omega⟩, b3⟩
  clear o3 b3 R1 R3
  go_wp2_with fail
  go_loopg [7, 31] n (fun q s7 s31 v => ∃ k : Nat, s31 = .int .i64 (k : Int) ∧ k ≤ n ∧ q = n - k ∧ Hid (∃ G K, Cat v H n k A G K ∧ Below H w v))
  case atStart => exact ⟨0, rfl, by omega, rfl, H0⟩
  case round =>
    obtain ⟨k, rfl, hk, rfl, HS⟩ := hrel
    clear H0
    by_cases hlt : k < n
    · have hl : (k : Int) < (n : Int) := by omega
      obtain ⟨G, K, hs, hbs⟩ := HS.out
      have HC := Lib.hid hs
      have HB := Lib.hid hbs
      clear HS hs hbs
      obtain ⟨ab', ao', g1, q1, cp1, e, _, hg1, x1, _⟩ := HX.out.at (i := k) (j := 0) (c := n) (by rw [HNL.out]; exact hlt) (fun xs h => (HM.out k xs h).trans HNL.out) (by omega)
      cases e
      rw [HH.out] at hg1
      have x1' := (HB.out.cell (p := ⟨ab, ao + k, none⟩) hab).trans x1
      have HZ2 : Hid (∀ j, j < n → wr.cell? ⟨g1, q1 + j, none⟩ = some (.int .u8 (A k j : Nat))) := Lib.hid (fun j hj => by
        obtain ⟨ab', ao', g3, q3, cp3, e, _, hg3, u1, u2⟩ := HX.out.at (i := k) (j := j) (c := n) (by rw [HNL.out]; exact hlt) (fun xs h => (HM.out k xs h).trans HNL.out) hj
        cases e
        have e3 := x1.symm.trans u1
        have eg : g3 = g1 ∧ q3 = q1 := by injection e3 with e3; injection e3 with e3; injection e3 with e3; injection e3 with e3 e4; exact ⟨e3.symm, e4.symm⟩
        obtain ⟨rfl, rfl⟩ := eg
        rw [HAE.out]
        exact (HB.out.cell (p := ⟨g3, q3 + j, none⟩) hg1).trans u2)
      clear x1
      have o1 := HC.out.outerN k (Nat.le_refl _) hlt
      have f1 := HC.out.free k
      have hsz : H < wr.heap.size := by have := HC.out.size; omega
      have HCC : Hid (∀ W : World, W.heap = (wr.alloc (.cells #[.slice (some ⟨g1, q1, none⟩) n cp1, .slice (some ⟨H + 1 + k, 0, none⟩) n n] 29)).heap → Below wr.heap.size wr W →
          Calls Try.prog 31 #[.slice (some ⟨wr.heap.size, 0, none⟩) 2 2] W fun e w5 => ∃ cap, e = .returned (.slice (some ⟨wr.heap.size + 1, 0, none⟩) (n + n) cap) ∧
            w5.cell? ⟨H, k, none⟩ = some (.slice (some ⟨H + 1 + k, 0, none⟩) n n) ∧ w5.frozen? ⟨H, k, none⟩ = false ∧
            Hid (Cat (w5.setCell ⟨H, k, none⟩ (.slice (some ⟨wr.heap.size + 1, 0, none⟩) (n + n) cap)) H n (k + 1) A (fun i => if i = k then wr.heap.size + 1 else G i) (fun i => if i = k then cap else K i) ∧ Below H w (w5.setCell ⟨H, k, none⟩ (.slice (some ⟨wr.heap.size + 1, 0, none⟩) (n + n) cap)))) := Lib.hid (fun W hW hBW => by
        have hb : W.heap[wr.heap.size]? = some (.cells #[.slice (some ⟨g1, q1, none⟩) n cp1, .slice (some ⟨H + 1 + k, 0, none⟩) n n] 29 (0, 0)) := by rw [hW]; exact alloc_block _ _
        have hws : W.heap.size = wr.heap.size + 1 := by rw [hW]; exact alloc_size _ _
        have hg1w : g1 < wr.heap.size := cell?_lt (HZ2.out 0 (by omega))
        have hGw : H + 1 + k < wr.heap.size := by have := HC.out.size; omega
        have := mconcat wr.heap.size g1 q1 cp1 (H + 1 + k) 0 n n n (A k) (one k) W (by omega) (by omega) (by omega) (by omega) ((cell_of_block hb).trans rfl) ((cell_of_block hb).trans rfl)
          (fun j hj => (hBW.cell (p := ⟨g1, q1 + j, none⟩) hg1w).trans (HZ2.out j hj)) (fun j hj => by rw [Nat.zero_add]; exact (hBW.cell (p := ⟨H + 1 + k, j, none⟩) hGw).trans (HC.out.cellN k (Nat.le_refl _) hlt j hj))
        rw [hws] at this
        refine this.mono ?_
        rintro e w5 ⟨cap, rfl, hcap, hr5, hb5⟩
        have hb6 : Below wr.heap.size wr w5 := hBW.trans (hb5.mono (by omega))
        refine ⟨cap, rfl, (hb6.cell (p := ⟨H, k, none⟩) hsz).trans o1, (World.frozen?_of_block (hb6.block H hsz)).trans f1, Lib.hid ⟨HC.out.next hlt (by omega) hcap hr5 hb6, ?_⟩⟩
        exact (HB.out.trans (hb6.mono (by omega))).setCell (Nat.le_refl _) _)
      clear HC HZ2
      have HCD := Lib.hid (HCC.out ((wr.alloc (.cells #[.slice (some ⟨g1, q1, none⟩) n cp1, .slice (some ⟨H + 1 + k, 0, none⟩) n n] 29)).drew) rfl ((Below.refl _ _).alloc (Nat.le_refl _) _).drew)
      clear HCC
      go_wp2_with fail
      go_region_law (first | (go_at_call 31; refine HCD.out.mono ?_; rintro e w5 ⟨cap, rfl, o5, f5, HN⟩) | (go_simp; go_at_call 31; refine HCD.out.mono ?_; rintro e w5 ⟨cap, rfl, o5, f5, HN⟩))
      all_goals
        clear o1 f1 x1' HCD
        go_wp2_with fail
        go_roundg (n - (k + 1))
        case measure => omega
        case rel => exact ⟨k + 1, by go_num, by omega, rfl, Lib.hid ⟨_, _, HN.out⟩⟩
    · have hge : ¬ (k : Int) < (n : Int) := by omega
      have e : k = n := by omega
      have HE0 : Hid (∃ G K L, Elim w wr H n 0 A G K L) := by
        subst e
        obtain ⟨G, K, h1, h2⟩ := HS.out
        exact Lib.hid ⟨G, K, _, Elim.start h1 HA.out h2⟩
      clear HS
      obtain ⟨we, rfl⟩ : ∃ we : World, we = wr := ⟨wr, rfl⟩
      go_wp2_with fail
      go_loopg [8, 50] n (fun q s8 s50 v => ∃ k : Nat, s50 = .int .i64 (k : Int) ∧ k ≤ n ∧ q = n - k ∧ Hid (∃ G K L, Elim w v H n k A G K L))
      case atStart => exact ⟨0, rfl, by omega, rfl, HE0⟩
      case round =>
        obtain ⟨k, rfl, hk, rfl, HS⟩ := hrel
        clear HE0
        by_cases hlt : k < n
        · have hl : (k : Int) < (n : Int) := by omega
          obtain ⟨G, K, L, hs⟩ := HS.out
          have HC := Lib.hid hs
          clear HS hs
          have HT := Lib.hid (msettle H f H n (n + n) k G K L wr (HF.out.of_heap (HC.out.below.block f hfl)) HC.out.own HC.out.bd hlt (by omega) (by omega) (by omega) hfl (Nat.le_refl _) HC.out.base (by
            have := HC.out.own.lt (by omega); omega))
          go_wp2_with fail
          refine HT.out.mono ?_
          intro e w5 hS
          rcases hS with ⟨rfl, h0, hb⟩ | ⟨rfl, q, h1, h2, h3, h4, h5⟩
          · have HRes : Hid (InvRet n A w (.returned (.tuple #[.slice none 0 0, .bool false])) w5) := Lib.hid ⟨false, one, .slice none 0 0, rfl, HC.out.stuck HA.out hlt h0, by rw [HH.out]; exact HC.out.below.trans hb, fun _ => rfl, (fun h => (by cases h))⟩
            clear h0 hb HC HT
            go_wp2_with fail
            go_ret2
            exact HRes.out
          · have HN : Hid (∃ G K L, Elim w w5 H n (k + 1) A G K L) := Lib.hid ⟨_, _, _, HC.out.next HA.out hlt h1 h2 h3 h4 (HC.out.below.trans h5)⟩
            clear h1 h2 h3 h4 h5 HC HT
            go_wp2_with fail
            go_roundg (n - (k + 1))
            case measure => omega
            case rel => exact ⟨k + 1, by go_num, by omega, rfl, HN⟩
        · have hge : ¬ (k : Int) < (n : Int) := by omega
          have e : k = n := by omega
          obtain ⟨G, K, L, hs⟩ := HS.out
          have HFd : Hid (Found n A (rgt n L) true) := Lib.hid (by subst e; exact hs.found HA.out)
          have HC0 := Lib.hid hs.cutting
          obtain ⟨R, hR⟩ : ∃ R, R = rgt n L := ⟨_, rfl⟩
          rw [← hR] at HFd HC0
          clear HS hs hR
          obtain ⟨we, rfl⟩ : ∃ we : World, we = wr := ⟨wr, rfl⟩
          go_wp2_with fail
          go_loopg [9, 61] n (fun q s9 s61 v => ∃ k : Nat, s61 = .int .i64 (k : Int) ∧ k ≤ n ∧ q = n - k ∧ Hid (Cut w v H n k G K R))
          case atStart => exact ⟨0, rfl, by omega, rfl, HC0⟩
          case round =>
            obtain ⟨k, rfl, hk, rfl, HS⟩ := hrel
            clear HC0
            by_cases hlt : k < n
            · have hl : (k : Int) < (n : Int) := by omega
              have c1 := HS.out.outerN k (Nat.le_refl _) hlt
              have f1 := HS.out.free k
              have HN := Lib.hid (HS.out.next hlt)
              have k1 := HS.out.cap k hlt
              have k2 : ¬ K k = n := by omega
              have k3 : n ≤ K k := by omega
              clear HS
              generalize K k = kk at *
              go_wp2_with fail
              go_roundg (n - (k + 1))
              case measure => omega
              case rel => exact ⟨k + 1, by go_num, by omega, rfl, Lib.hid (HN.out _)⟩
            · have hge : ¬ (k : Int) < (n : Int) := by omega
              have HRes : Hid (InvRet n A w (.returned (.tuple #[.slice (some ⟨H, 0, none⟩) n n, .bool true])) wr) := Lib.hid ⟨true, R, _, rfl, HFd.out, by rw [HH.out]; exact HS.out.below, (fun h => (by cases h)), fun _ => ⟨H, rfl, (by
                have e : k = n := by omega
                subst e
                exact HS.out.raw)⟩⟩
              clear HS
              go_wp2_with fail
              go_ret2
              exact HRes.out
end Go.Proofs.Ytajpnbmfeapmcaa
