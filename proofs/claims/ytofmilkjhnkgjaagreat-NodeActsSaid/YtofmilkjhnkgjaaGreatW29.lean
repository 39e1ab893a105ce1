import Derived.Test.YtofmilkjhnkgjaaGreatW28
import Derived.Test.YtofmilkjhnkgjaaGreatW03
namespace Go.Proofs.YtofmilkjhnkgjaaGreat
open Go.RowKit Go.Sort
set_option maxRecDepth 100000
set_option maxHeartbeats 4000000

theorem strV_snoc (i : Nat) (D : Nat → Blk) : strV (i + 1) D = strV i D ++ [.string (bstr (D i))] := by
  unfold strV
  rw [List.range_succ, List.map_append]
  rfl
def RNewRet (N : Nat) (w : World) (e : Ending) (w' : World) : Prop := ∃ r S, e = .returned (.pointer (some ⟨r, 0, none⟩)) ∧ RPlt w' r S N Disk.blank 0 ∧ Below w.heap.size w w' ∧ ∀ k ∈ S, w.heap.size ≤ k
/-- While the list is laid. -/
def RMid (w : World) (r i : Nat) (v : World) : Prop := ∃ dv, v.heap[r]? = some (.cells #[dv, .slice none 0 0, .int .i64 0] 56 (0, 0)) ∧ v.ownsRow w.heap.size 9 1 dv i (strV i (fun _ _ => 0)) ∧ Below w.heap.size w v ∧ w.heap.size ≤ r
theorem mid_ne {w : World} {B g n cap s : Nat} {xs : List Value} {cs : Array Value} (h : w.ownsRow B 9 s (.slice (some ⟨g, 0, none⟩) n cap) n xs) (hc : w.heap[g]? = some (.cells cs 56 (0, 0))) : False := by
  obtain ⟨cs', h1⟩ := own_mem h (k := g) (by simp [pb])
  rw [hc] at h1
  cases h1
theorem mid_grown {w v w4 : World} {dv : Value} {i g r : Nat} {O1 O2 : Obj} {xs : List Value} (ho : v.ownsRow w.heap.size 9 1 dv i xs) (hb : Below w.heap.size w v) (hh : v.heap[r]? = some (.cells #[dv, .slice none 0 0, .int .i64 0] 56 (0, 0)))
    (gr : (((v.alloc O1).alloc O2).drew).grownBy w4 dv.ownBlock) (hl : dv.ownBlock = some g ∨ g = (((v.alloc O1).alloc O2).drew).heap.size) : Below w.heap.size w w4 ∧ w4.heap[r]? = some (.cells #[dv, .slice none 0 0, .int .i64 0] 56 (0, 0)) ∧ w.heap.size ≤ g := by
  have hs := hb.size
  have hB : Below w.heap.size w (((v.alloc O1).alloc O2).drew) := ((hb.alloc hs _).alloc (by simp; omega) _).drew
  refine ⟨Below.grown hB gr hB.size (own_ge ho), (gr.block r (by have := heap_lt hh; simp; omega) (fun e => ?_)).trans ((alloc_old _ _ (by have := heap_lt hh; simp; omega)).trans ((alloc_old _ _ (heap_lt hh)).trans hh)), ?_⟩
  · obtain ⟨cs, hc⟩ := own_mem ho (k := r) (by
      rcases ho.2 with ⟨rfl, _⟩ | ⟨g', cap', cur, rfl, _⟩
      · cases e
      · cases e; simp [pb])
    rw [hh] at hc
    cases hc
  · rcases hl with h | h
    · exact own_ge ho _ h
    · rw [h]; simp; omega
theorem rnew_many (w : World) (N : Nat) (hb1 : 1 < N) (h2 : N < 1000) : Calls Tryz.prog 24 #[.int .i64 (N : Int)] w (RNewRet N w) := by
  obtain ⟨zs, z0, z1, z2⟩ := make8s 160 (by omega)
  have z3 : ∀ W : World, Sem.run Tryz.prog (Instr.makeSlice 35 (.int .i64 160) (.int .i64 160)) W = .ok (.slice (some ⟨W.heap.size, 0, none⟩) 160 160) (W.alloc (.cells zs 5)) := z2
  have HZ : Hid (∀ W : World, Blk8 (W.alloc (.cells zs 5)) W.heap.size 160 (fun _ => 0)) := Lib.hid (fun W => Blk8.new z0 z1)
  obtain ⟨i0, hi0, hz0, hz1, hz2⟩ := info_parts infoStr
  have t1 : ¬ (1000 : Int) < (N : Int) := by omega
  have t3 : ¬ (1000 : Int) ≤ (N : Int) := by omega
  have t4 : (1 : Int) < (N : Int) := by omega
  have h1 : 1 ≤ N := by omega
  clear z0 z1 z2
  have HM : Hid (RMid w w.heap.size 0 (w.alloc (.cells #[.slice none 0 0, .slice none 0 0, .int .i64 0] 56))) := Lib.hid ⟨_, alloc_block _ _, World.ownsRow_nil _ _ _ _, (Below.refl _ _).alloc (Nat.le_refl _) _, Nat.le_refl _⟩
  go_enter Tryz.func24, Tryz.ntmps24
  go_wp2_with fail
  generalize w.alloc (.cells #[.slice none 0 0, .slice none 0 0, .int .i64 0] 56) = w1 at *
  obtain ⟨r, hr⟩ : ∃ r, r = w.heap.size := ⟨_, rfl⟩
  rw [← hr] at HM ⊢
  have HR := Lib.hid hr
  clear hr
  go_loopg [4] N (fun q s4 v => ∃ i : Nat, s4 = .int .i64 (i : Int) ∧ i ≤ N ∧ q = N - i ∧ Hid (RMid w r i v))
  case atStart => exact ⟨0, rfl, by omega, rfl, HM⟩
  case round =>
    obtain ⟨i, rfl, hi, rfl, HS⟩ := hrel
    clear HM
    obtain ⟨dv, hh, ho, hb, hg⟩ := HS.out
    have HO := Lib.hid ho
    have HB := Lib.hid hb
    have HH := Lib.hid hh
    have HG := Lib.hid hg
    clear HS ho hb hg
    generalize wr = v at *
    by_cases hlt : i < N
    · have q1 : (i : Int) < (N : Int) := by omega
      have c0 : v.cell? ⟨r, 0, none⟩ = some dv := cell_of_block hh
      have f0 : v.frozen? ⟨r, 0, none⟩ = false := free_of_block hh
      have zr := heap_lt hh
      have v1 : Sem.run Tryz.prog (convert 35 9 (.slice (some ⟨v.heap.size, 0, none⟩) 160 160)) ((v.alloc (.cells zs 5)).drew) = .ok (.string (bstr (fun _ => 0))) ((v.alloc (.cells zs 5)).drew) := conv_rd (w := (v.alloc (.cells zs 5)).drew) (HZ.out v).rd
      clear hh
      go_wp2_with fail
      go_region_law (refine step_append_lies _ rfl _ _ 53 rfl w.heap.size 9 i0 (.string ⟨#[]⟩) 1 16 Tryz.underlying53 hi0 hz0 hz1 hz2 rfl (by decide) dv i _ rfl ((HO.out.alloc _).alloc _) ⟨v.heap.size + 1, 0, none⟩ 1 1 [.string (bstr (fun _ => 0))] rfl rfl (by intro j u hj; match j, hj with | 0, hj => (simp at hj; subst hj; simp [Addr.add, go_sem])) (by intro u hu; simp at hu; subst hu; rfl) (hm := by omega) (h63 := by unfold maxLen; omega) (hbytes := by omega) (hbase := by have := HB.out.size; simp; omega) _ rfl ?_; intro g' cap' w4 hown4 hgrow4 hlies4 hlt4; have HX4 : Hid (Below w.heap.size w w4 ∧ w4.heap[r]? = some (.cells #[dv, .slice none 0 0, .int .i64 0] 56 (0, 0)) ∧ w.heap.size ≤ g') := Lib.hid (mid_grown HO.out HB.out HH.out hgrow4 hlies4); have y0 : w4.cell? ⟨r, 0, none⟩ = some dv := cell_of_block HX4.out.2.1; have y1 : w4.frozen? ⟨r, 0, none⟩ = false := free_of_block HX4.out.2.1; have HO4 := Lib.hid hown4; clear hown4 hgrow4 hlies4)
      all_goals
        clear c0 f0 v1
        go_wp2_with fail
        go_roundg (N - (i + 1))
        case measure => omega
        case rel => exact ⟨i + 1, by go_num, by omega, rfl, Lib.hid ⟨.slice (some ⟨g', 0, none⟩) (i + 1) cap', set_block HX4.out.2.1 0 _, own_keepB (by rw [strV_snoc]; exact HO4.out) (fun k hk => set_other (by have := HX4.out.2.1; simp [pb] at hk; subst hk; rintro rfl; exact mid_ne HO4.out this) _ _), HX4.out.1.setCell (p := ⟨r, 0, none⟩) HG.out _, HG.out⟩⟩
    · obtain rfl : i = N := by omega
      have q1 : ¬ (i : Int) < (i : Int) := by omega
      obtain ⟨g, cap, rfl⟩ : ∃ g cap, dv = .slice (some ⟨g, 0, none⟩) i cap := by
        rcases HO.out.2 with ⟨_, h0⟩ | ⟨g, cap, cur, e, _⟩
        · omega
        · exact ⟨g, cap, e⟩
      have HE : Hid (RNewRet i w (.returned (.pointer (some ⟨r, 0, none⟩))) v) := Lib.hid ⟨r, _, rfl, ⟨_, _, ⟨HH.out, ⟨HO.out.1, by
        rcases HO.out.2 with ⟨h0, _⟩ | ⟨g', cap', cur, e, _, r2⟩
        · cases h0
        · exact Or.inr ⟨g', cap', cur, e, Nat.zero_le _, r2⟩⟩, World.ownsRow_nil _ _ _ _, h1, by omega, Nat.le_refl _, fun x hx => by simp [Disk.blank] at hx⟩, rfl⟩, HB.out, fun k hk => by
        simp only [pb, List.append_nil, List.mem_append, List.mem_cons, List.not_mem_nil, or_false] at hk
        rcases hk with rfl | rfl
        · exact HG.out
        · exact own_ge HO.out _ rfl⟩
      clear hh
      go_wp2_with fail
      go_ret
      exact HE.out
theorem rnew_one (w : World) : Calls Tryz.prog 24 #[.int .i64 1] w (RNewRet 1 w) := by
  obtain ⟨zs, z0, z1, z2⟩ := make8s 160 (by omega)
  have z3 : ∀ W : World, Sem.run Tryz.prog (Instr.makeSlice 35 (.int .i64 160) (.int .i64 160)) W = .ok (.slice (some ⟨W.heap.size, 0, none⟩) 160 160) (W.alloc (.cells zs 5)) := z2
  have HZ : Hid (∀ W : World, Blk8 (W.alloc (.cells zs 5)) W.heap.size 160 (fun _ => 0)) := Lib.hid (fun W => Blk8.new z0 z1)
  obtain ⟨i0, hi0, hz0, hz1, hz2⟩ := info_parts infoStr
  have h1 : 1 ≤ 1 := by omega
  clear z0 z1 z2
  have HM : Hid (RMid w w.heap.size 0 (w.alloc (.cells #[.slice none 0 0, .slice none 0 0, .int .i64 0] 56))) := Lib.hid ⟨_, alloc_block _ _, World.ownsRow_nil _ _ _ _, (Below.refl _ _).alloc (Nat.le_refl _) _, Nat.le_refl _⟩
  go_enter Tryz.func24, Tryz.ntmps24
  go_wp2_with fail
  generalize w.alloc (.cells #[.slice none 0 0, .slice none 0 0, .int .i64 0] 56) = w1 at *
  obtain ⟨r, hr⟩ : ∃ r, r = w.heap.size := ⟨_, rfl⟩
  rw [← hr] at HM ⊢
  have HR := Lib.hid hr
  clear hr
  go_loopg [4] 1 (fun q s4 v => ∃ i : Nat, s4 = .int .i64 (i : Int) ∧ i ≤ 1 ∧ q = 1 - i ∧ Hid (RMid w r i v))
  case atStart => exact ⟨0, rfl, by omega, rfl, HM⟩
  case round =>
    obtain ⟨i, rfl, hi, rfl, HS⟩ := hrel
    clear HM
    obtain ⟨dv, hh, ho, hb, hg⟩ := HS.out
    have HO := Lib.hid ho
    have HB := Lib.hid hb
    have HH := Lib.hid hh
    have HG := Lib.hid hg
    clear HS ho hb hg
    generalize wr = v at *
    by_cases hlt : i < 1
    · have q1 : (i : Int) < 1 := by omega
      have c0 : v.cell? ⟨r, 0, none⟩ = some dv := cell_of_block hh
      have f0 : v.frozen? ⟨r, 0, none⟩ = false := free_of_block hh
      have zr := heap_lt hh
      have v1 : Sem.run Tryz.prog (convert 35 9 (.slice (some ⟨v.heap.size, 0, none⟩) 160 160)) ((v.alloc (.cells zs 5)).drew) = .ok (.string (bstr (fun _ => 0))) ((v.alloc (.cells zs 5)).drew) := conv_rd (w := (v.alloc (.cells zs 5)).drew) (HZ.out v).rd
      clear hh
      go_wp2_with fail
      go_region_law (refine step_append_lies _ rfl _ _ 53 rfl w.heap.size 9 i0 (.string ⟨#[]⟩) 1 16 Tryz.underlying53 hi0 hz0 hz1 hz2 rfl (by decide) dv i _ rfl ((HO.out.alloc _).alloc _) ⟨v.heap.size + 1, 0, none⟩ 1 1 [.string (bstr (fun _ => 0))] rfl rfl (by intro j u hj; match j, hj with | 0, hj => (simp at hj; subst hj; simp [Addr.add, go_sem])) (by intro u hu; simp at hu; subst hu; rfl) (hm := by omega) (h63 := by unfold maxLen; omega) (hbytes := by omega) (hbase := by have := HB.out.size; simp; omega) _ rfl ?_; intro g' cap' w4 hown4 hgrow4 hlies4 hlt4; have HX4 : Hid (Below w.heap.size w w4 ∧ w4.heap[r]? = some (.cells #[dv, .slice none 0 0, .int .i64 0] 56 (0, 0)) ∧ w.heap.size ≤ g') := Lib.hid (mid_grown HO.out HB.out HH.out hgrow4 hlies4); have y0 : w4.cell? ⟨r, 0, none⟩ = some dv := cell_of_block HX4.out.2.1; have y1 : w4.frozen? ⟨r, 0, none⟩ = false := free_of_block HX4.out.2.1; have HO4 := Lib.hid hown4; clear hown4 hgrow4 hlies4)
      all_goals
        clear c0 f0 v1
        go_wp2_with fail
        go_roundg (1 - (i + 1))
        case measure => omega
        case rel => exact ⟨i + 1, by go_num, by omega, rfl, Lib.hid ⟨.slice (some ⟨g', 0, none⟩) (i + 1) cap', set_block HX4.out.2.1 0 _, own_keepB (by rw [strV_snoc]; exact HO4.out) (fun k hk => set_other (by have := HX4.out.2.1; simp [pb] at hk; subst hk; rintro rfl; exact mid_ne HO4.out this) _ _), HX4.out.1.setCell (p := ⟨r, 0, none⟩) HG.out _, HG.out⟩⟩
    · obtain rfl : i = 1 := by omega
      have q1 : ¬ ((1 : Nat) : Int) < 1 := by omega
      obtain ⟨g, cap, rfl⟩ : ∃ g cap, dv = .slice (some ⟨g, 0, none⟩) 1 cap := by
        rcases HO.out.2 with ⟨_, h0⟩ | ⟨g, cap, cur, e, _⟩
        · omega
        · exact ⟨g, cap, e⟩
      have HE : Hid (RNewRet 1 w (.returned (.pointer (some ⟨r, 0, none⟩))) v) := Lib.hid ⟨r, _, rfl, ⟨_, _, ⟨HH.out, ⟨HO.out.1, by
        rcases HO.out.2 with ⟨h0, _⟩ | ⟨g', cap', cur, e, _, r2⟩
        · cases h0
        · exact Or.inr ⟨g', cap', cur, e, Nat.zero_le _, r2⟩⟩, World.ownsRow_nil _ _ _ _, h1, by omega, Nat.le_refl _, fun x hx => by simp [Disk.blank] at hx⟩, rfl⟩, HB.out, fun k hk => by
        simp only [pb, List.append_nil, List.mem_append, List.mem_cons, List.not_mem_nil, or_false] at hk
        rcases hk with rfl | rfl
        · exact HG.out
        · exact own_ge HO.out _ rfl⟩
      clear hh
      go_wp2_with fail
      go_ret
      exact HE.out
theorem rnew (w : World) (N : Nat) (h1 : 1 ≤ N) (h2 : N < 1000) : Calls Tryz.prog 24 #[.int .i64 (N : Int)] w (RNewRet N w) := by
  by_cases h : N = 1
  · subst h
    exact rnew_one w
  · exact rnew_many w N (by omega) h2
end Go.Proofs.YtofmilkjhnkgjaaGreat
namespace Go.Proofs.YtofmilkjhnkgjaaGreat
open Go.RowKit Go.Sort
set_option maxRecDepth 100000
set_option maxHeartbeats 1000000

theorem own_ge' {w : World} {B n s : Nat} {v : Value} {t : TypeId} {xs : List Value} (h : w.ownsRow B t s v n xs) : ∀ k, v.ownBlock = some k → B ≤ k := by
  intro k hk
  rcases h.2 with ⟨rfl, _⟩ | ⟨g, cap', cur, rfl, hb, _⟩
  · simp [Value.ownBlock] at hk
  · simp [Value.ownBlock] at hk; omega
theorem own_some' {w : World} {B k s : Nat} {v : Value} {t : TypeId} {xs : List Value} (h : w.ownsRow B t s v (k + 1) xs) : v ≠ .slice none 0 0 := by
  rcases h.2 with ⟨_, h0⟩ | ⟨g, cap', cur, rfl, _⟩
  · omega
  · intro e; cases e
/-- corbelref7.Big. -/
theorem rbig (x m : Nat) (s : Int) (hs : s = (m : Int)) (w : World) (h1 : 1 ≤ m) (hm : m ≤ 7) : Calls Tryz.prog 99 #[.int .i64 (x : Int), .int .i64 s] w (FewRet m (byteAt x m) w) := by
  subst hs
  obtain ⟨H, hH⟩ : ∃ H, w.heap.size = H := ⟨_, rfl⟩
  have HH := Lib.hid hH
  clear hH
  go_enter Tryz.func99, Tryz.ntmps99
  go_wp2_with fail
  go_loopg [5, 6] m (fun q s5 s6 v => ∃ k : Nat, s6 = .int .i64 ((m : Int) - 1 - (k : Int)) ∧ k ≤ m ∧ q = m - k ∧ Hid (v.ownsRow H 5 1 s5 k (rowL k (byteAt x m)) ∧ Below H w v ∧ (0 < k → s5 ≠ .slice none 0 0)))
  case atStart => exact ⟨0, by simp, by omega, rfl, Lib.hid ⟨⟨rfl, Or.inl ⟨rfl, rfl⟩⟩, by rw [← HH.out]; exact Below.refl _ _, fun h => absurd h (by omega)⟩⟩
  case round =>
    obtain ⟨k, rfl, hk, rfl, HV⟩ := hrel
    by_cases hlt : k < m
    · obtain ⟨r, hr⟩ : ∃ r, r = m - 1 - k := ⟨_, rfl⟩
      have er : (m : Int) - 1 - (k : Int) = (r : Int) := by omega
      have r7 : r < 7 := by omega
      have HE := Lib.hid (shr_byte x m r (by omega))
      rw [show m - 1 - r = k by omega] at HE
      rw [er]
      have HER := Lib.hid er
      have r0 : (0 : Int) ≤ (r : Int) := by omega
      have b1 : Below wr.heap.size wr (wr.alloc (.cells #[.int .u8 ((x : Int) / 2 ^ (8 * r) % 256)] 5)) := (Below.refl _ _).alloc (Nat.le_refl _) _
      have HO := Lib.hid (own_keep HV.out.1 b1)
      have HR : Hid (Rd (wr.alloc (.cells #[.int .u8 ((x : Int) / 2 ^ (8 * r) % 256)] 5)) (some ⟨wr.heap.size, 0, none⟩) 1 (fun _ => byteAt x m k)) := Lib.hid (by rw [HE.out]; exact lit_rd (by omega) rfl)
      have HB : Hid (Below H w (wr.alloc (.cells #[.int .u8 ((x : Int) / 2 ^ (8 * r) % 256)] 5))) := Lib.hid (HV.out.2.1.trans (b1.mono (by rw [← HH.out]; exact HV.out.2.1.size)))
      have HZ : Hid (H ≤ (wr.alloc (.cells #[.int .u8 ((x : Int) / 2 ^ (8 * r) % 256)] 5)).heap.size) := Lib.hid (by rw [← HH.out]; exact HB.out.size)
      have hk7 : k ≤ 7 := by omega
      clear hr er b1
      go_wp2_with (at_builtin; refine append_rd _ rfl (.tmp 13) (.tmp 20) 35 rfl Tryz.underlying35 H u5 k (byteAt x m) rfl HO.out (some ⟨wr.heap.size, 0, none⟩) 1 1 (fun _ => byteAt x m k) rfl HR.out (by omega) HZ.out ?_; intro v' w' own gr _ hne; have HO' := Lib.hid own; have HG' := Lib.hid gr; have HN' := Lib.hid hne; clear own gr hne)
      go_roundg (m - (k + 1))
      case measure => omega
      case rel => exact ⟨k + 1, by rw [← HER.out]; go_num, by omega, rfl, Lib.hid ⟨own_congr HO'.out (fun j hj => by
        by_cases e : j < k
        · rw [if_pos e]
        · rw [if_neg e, show j = k by omega]), Below.grown HB.out HG'.out HZ.out (own_ge' HV.out.1), fun _ => (own_some' HO'.out)⟩⟩
    · obtain rfl : k = m := by omega
      have hneg : ¬ (0 : Int) ≤ (k : Int) - 1 - (k : Int) := by omega
      go_wp2_with fail
      go_ret
      obtain ⟨g, c, rfl, hg, hgl, hc⟩ := own_some HV.out.1 (HV.out.2.2 (by omega))
      exact ⟨g, c, rfl, by rw [HH.out]; exact HV.out.1, by rw [HH.out]; exact HV.out.2.1, by rw [HH.out]; exact hg, hgl, hc⟩
/-- corbelref7.From. -/
theorem rfrom (A : Option Addr) (n cap : Nat) (F : Nat → Nat) (w : World) (h : Rd w A n F) (hF : ∀ j, j < n → F j < 256) (hn : n ≤ 7) :
    Calls Tryz.prog 84 #[.slice A n cap] w fun e w' => e = .returned (.int .i64 (numF F n : Nat)) ∧ w' = w := by
  have HR := Lib.hid h
  have HF := Lib.hid hF
  clear h hF
  go_enter Tryz.func84, Tryz.ntmps84
  go_wp2_with fail
  go_loopg [3, 4] n (fun q s3 s4 v => ∃ k : Nat, s3 = .int .i64 (numF F k : Nat) ∧ s4 = .int .i64 (k : Int) ∧ k ≤ n ∧ q = n - k ∧ v = w)
  case atStart => exact ⟨0, by unfold numF; rfl, rfl, by omega, rfl, rfl⟩
  case round =>
    obtain ⟨k, rfl, rfl, hk, rfl, rfl⟩ := hrel
    by_cases hlt : k < n
    · have hl : (k : Int) < (n : Int) := by omega
      obtain ⟨g, q, rfl, hg, c1⟩ := HR.out.at hlt
      have HS := Lib.hid (numF_succ F k)
      have hx := HF.out k hlt
      have hs : numF F k < 281474976710656 := by
        have h1 := numF_lt (k := k) (fun j hj => HF.out j (by omega))
        have h2 : (256 : Nat) ^ k ≤ 256 ^ 6 := Nat.pow_le_pow_right (by decide) (by omega)
        omega
      generalize numF F k = s at *
      generalize F k = x at *
      have hor := bits_or_i64 s x (by omega) hx
      go_wp2_with fail
      go_roundg (n - (k + 1))
      case measure => omega
      case rel => exact ⟨k + 1, by rw [HS.out]; congr 1, by go_num, by omega, rfl, rfl⟩
    · obtain rfl : k = n := by omega
      go_wp2_with fail
      go_ret
      exact ⟨rfl, rfl⟩
end Go.Proofs.YtofmilkjhnkgjaaGreat
