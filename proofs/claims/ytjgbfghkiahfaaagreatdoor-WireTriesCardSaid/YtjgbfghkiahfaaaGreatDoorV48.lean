import Derived.Test.YtjgbfghkiahfaaaGreatDoorV20
import Derived.Test.YtjgbfghkiahfaaaGreatDoorV39
import Derived.Test.YtjgbfghkiahfaaaGreatDoorV40
import Derived.Test.YtjgbfghkiahfaaaGreatDoorV47
import Derived.Test.YtjgbfghkiahfaaaGreatDoorV46
namespace Go.Proofs.YtjgbfghkiahfaaaGreatDoor
open Go.RowKit Go.Sort
set_option maxRecDepth 100000
set_option maxHeartbeats 2000000
theorem LI.at3 {w : World} {B : Nat} {v : Value} {l : List It} {i : Nat} {p : It} (h : LI w B v l) (hi : l[i]? = some p) : ∃ b c A d, v = .slice (some ⟨b, 0, none⟩) l.length c ∧ b < w.heap.size ∧ w.cell? ⟨b, i * 3, none⟩ = some (.int .i64 (p.s : Int)) ∧ w.cell? ⟨b, i * 3 + 1, none⟩ = some (.int .i64 (p.g : Int)) ∧ w.cell? ⟨b, i * 3 + 2, none⟩ = some (.slice A 128 d) ∧ DatI w A p.D := by
  rcases h.pl with ⟨rfl, _⟩ | ⟨b, c, cur, rfl, _, hh, hx⟩
  · simp at hi
  · obtain ⟨A, d, a0, a1, a2, ad⟩ := hx i p hi
    have ck : ∀ (k : Nat) (x : Value), cur[k]? = some x → w.cell? ⟨b, k, none⟩ = some x := fun k x hk => by simp [World.cell?, hh, hk]
    exact ⟨b, c, A, d, rfl, heap_lt hh, ck _ _ a0, ck _ _ a1, ck _ _ a2, ad⟩
end Go.Proofs.YtjgbfghkiahfaaaGreatDoor
namespace Go.Proofs.YtjgbfghkiahfaaaGreatDoor
open Go.RowKit Go.Sort
set_option maxRecDepth 100000
set_option maxHeartbeats 4000000

/-- corbelhand.Fates: some fates, at most 60. -/
def FatesRet (w : World) (e : Ending) (w' : World) : Prop := ∃ A c, ∃ F : List Int, e = .returned (.slice A F.length c) ∧ F.length ≤ 60 ∧ F.length ≤ c ∧ Nums w' A F ∧ Below w.heap.size w w'
theorem hfates (a : Option Addr) (L : List Int) (c : Nat) (w : World) (hL : Nums w a L) (_hm : L.length ≤ 9223372036854775807) :
    Calls Tryz.prog 25 #[.slice a L.length c, .int .i64 60] w (FatesRet w) := by
  have hm := _hm
  have HL := Lib.hid hL
  obtain ⟨n0, hn0⟩ : ∃ n0, L.length = n0 := ⟨_, rfl⟩
  have HN0 := Lib.hid hn0
  rw [hn0] at hm ⊢
  have HPK : Hid (∀ a W, Calls Tryz.prog 26 #[.int .i64 a, .int .i64 4] W fun e w' => (∃ p : Nat, p < 4 ∧ e = .returned (.int .i64 (p : Int))) ∧ w' = W) := Lib.hid (fun a W => by
    obtain ⟨p, hp, h⟩ := rpickN a 4 (by omega) (by omega)
    exact (h W).mono (by rintro e w' ⟨rfl, hw⟩; exact ⟨⟨p, hp, rfl⟩, hw⟩))
  clear hL hn0
  go_enter Tryz.func25, Tryz.ntmps25
  go_wp2_with fail
  go_loopg [5, 6] 60 (fun q s5 s6 wr => ∃ (i : Nat) (F : List Int), s6 = .int .i64 (i : Int) ∧ i ≤ 60 ∧ q = 60 - i ∧ F.length = i ∧ Hid (wr.ownsRow w.heap.size 3 1 s5 i (intsV F) ∧ Below w.heap.size w wr))
  case atStart => exact ⟨0, [], rfl, by omega, rfl, rfl, Lib.hid ⟨World.ownsRow_nil _ _ _ _, Below.refl _ _⟩⟩
  case round =>
    obtain ⟨i, F, rfl, hi, rfl, hF, HS⟩ := hrel
    obtain ⟨wo, rfl⟩ : ∃ wo : World, wo = wr := ⟨wr, rfl⟩
    have HFL := Lib.hid hF
    clear hF
    obtain ⟨bb, hbb⟩ : ∃ bb : Bool, (decide (i < n0) && decide (i < 60)) = bb := ⟨_, rfl⟩
    have HBB := Lib.hid hbb
    clear hbb
    go_upto_region 3 with fail
    go_cut [16] from 8 to 16 (fun s16 wx => s16 = .bool bb ∧ wx = wo)
    case first =>
      by_cases g1 : i < n0
      · have g1' : (i : Int) < (n0 : Int) := by omega
        by_cases g2 : i < 60
        · have g2' : (i : Int) < 60 := by omega
          go_wp2_with fail
          go_meet
          exact ⟨by rw [← HBB.out]; simp [g1, g2], rfl⟩
        · have g2' : ¬ (i : Int) < 60 := by omega
          go_wp2_with fail
          go_meet
          exact ⟨by rw [← HBB.out]; simp [g1, g2], rfl⟩
      · have g1' : ¬ (i : Int) < (n0 : Int) := by omega
        go_wp2_with fail
        go_meet
        exact ⟨by rw [← HBB.out]; simp [g1], rfl⟩
    case rest =>
      obtain ⟨rfl, hwc⟩ := hcut
      obtain rfl := hwc.symm
      cases bb with
      | true =>
        have hi2 : i < n0 ∧ i < 60 := by have := HBB.out; simp at this; exact this
        obtain ⟨g1, g2⟩ := hi2
        have g1' : (i : Int) < (n0 : Int) := by omega
        obtain ⟨x, hx⟩ : ∃ x, L[i]? = some x := ⟨_, List.getElem?_eq_getElem (by rw [HN0.out]; exact g1)⟩
        obtain ⟨ga, oa, rfl, hga, hca⟩ := HL.out i x hx
        have hc1 : wo.cell? ⟨ga, oa + i, none⟩ = some (.int .i64 x) := (HS.out.2.cell (p := ⟨ga, oa + i, none⟩) hga).trans hca
        clear hx hca
        obtain ⟨b4, hb4⟩ : ∃ b4, (x.tmod 4 == 0) = b4 := ⟨_, rfl⟩
        go_upto_if 24 with fail
        go_cut [7] from 25 to 30 (fun s7 wx => ∃ f : Int, s7 = .int .i64 f ∧ wx = wo)
        case first =>
          cases b4 with
          | true =>
            go_wp2_with fail
            refine (HPK.out _ wo).mono ?_
            rintro e w4 ⟨⟨p, hp, rfl⟩, hw⟩
            obtain rfl := hw.symm
            try dsimp only
            go_wp2_with fail
            go_meet
            exact ⟨_, rfl, rfl⟩
          | false =>
            go_wp2_with fail
            go_meet
            exact ⟨_, rfl, rfl⟩
        case rest =>
          obtain ⟨f, rfl, hwc⟩ := hcut
          obtain rfl := hwc.symm
          clear hb4 hc1
          have HO := Lib.hid (own_keep HS.out.1 ((Below.refl _ _).alloc (Nat.le_refl _) (.cells #[.int .i64 f] 3)))
          have hge : Hid (w.heap.size ≤ wo.heap.size) := Lib.hid HS.out.2.size
          go_wp2_with (at_builtin; refine append_int _ rfl (.tmp 31) (.tmp 33) rfl w.heap.size _ i F rfl HO.out wo.heap.size f rfl (by simp [go_sem]) (by omega) ?c2 ?_)
          case c2 => have := hge.out; simp; omega
          intro g9 cap9 w9 hown9 hgr9 hor9 hlt9
          have hb9 : Below w.heap.size w w9 := by
            refine (HS.out.2.alloc HS.out.2.size _).grown hgr9 (by have := hge.out; simp; omega) ?_
            exact own_ge HS.out.1
          have H9 := Lib.hid (And.intro hown9 hb9)
          clear hown9 hgr9 hor9 hlt9 hb9 HO
          go_wp2_with fail
          go_roundg (60 - (i + 1))
          case measure => omega
          case rel => exact ⟨i + 1, F ++ [f], by go_num, by omega, rfl, by rw [List.length_append, HFL.out]; rfl, H9⟩
      | false =>
        obtain ⟨A, cap, hv, _⟩ := own_form HS.out.1
        subst hv
        go_wp2_with fail
        go_ret
        have h := HS.out.1
        refine ⟨A, cap, F, by rw [HFL.out]; rfl, by rw [HFL.out]; exact hi, ?_, (own_nums h).1, HS.out.2⟩
        rw [HFL.out]
        rcases h.2 with ⟨_, h0⟩ | ⟨g, cap', cur, e, _, _, h3, _⟩
        · omega
        · cases e; exact h3
theorem KeepW.iv {w w' : World} (h : KeepW w w') {b n c : Nat} {s g : Int} {A : Option Addr} (o : IV w b s g A n c) : IV w' b s g A n c := o.keep (h.cells o (notWi (by decide) (by decide) (by decide) (by decide) (by decide) (by decide) (by decide) (by decide)))
/-- What WireTries knows of its wire, when i intents were told. -/
structure TI (s : Wp) (i : Nat) : Prop where
  dead : s.dead = false
  dn : ∀ j, s.dn j = false
  fuse : s.fuse = -1
  fit : s.Fit (100 * i)
  cnt : ∀ n, n < 8 → cntR (s.N n).R ≤ i ∧ (s.N n).t.done = fun _ => .no
theorem TI.new (F : List Int) : TI { Wp.new with F := F } 0 := ⟨rfl, fun _ => rfl, rfl, Wp.Fit.new.congr rfl rfl rfl, fun n _ => ⟨by show cntR Ns.new.R ≤ 0; rw [new_cnt.1]; exact Nat.le_refl _, rfl⟩⟩
/-- The i-th intent of WireTries, as a request. -/
def logQ (i : Nat) (x : Int) : Rq := ⟨3, (i : Int), 1 + (i : Int) % 9, 0, 128, bytesF x⟩
theorem logQ_ok {i : Nat} (hi : i < 15) (x : Int) : OkQ (logQ i x).k (logQ i x).s (logQ i x).g (logQ i x).i (logQ i x).n ∧ (logQ i x).okI = true := by
  unfold OkQ logQ Rq.okI
  dsimp only
  refine ⟨⟨by omega, by omega, by omega, by omega, by omega, by omega, by omega, by omega, by omega⟩, ?_⟩
  rw [decide_eq_true_eq]
  omega
theorem TI.step {s s' : Wp} {i n : Nat} {x : Int} {a : Ans} (h : TI s i) (hi : i < 15) (hn : n < 8) (e : s.call n (logQ i x) = (s', a)) :
    TI s' (i + 1) ∧ ((a = .err 5 ∧ s'.sent = s.sent + 3) ∨ ∃ y, a = .ok y ∧ hasR (s'.N n).R (logQ i x).it = true ∧ s.sent + 1 ≤ s'.sent ∧ s'.sent ≤ s.sent + 3) := by
  obtain ⟨k1, k2⟩ := tries_log (n := n) (q := logQ i x) (M := i + 1) rfl (logQ_ok hi x).2 rfl (by omega) (by omega) 3 s h.dead (h.dn n) (by rw [h.fuse]; decide) ⟨(h.cnt n hn).2, by have := msr_le (s.N n).R (logQ i x).it; have := (h.cnt n hn).1; omega⟩
  have hf := h.fit.call hn (fun j _ => bytesF_lt x j) e
  have e' : s.tries 3 n (logQ i x) = (s', a) := e
  rw [e'] at k1 k2
  refine ⟨⟨k1.dead, fun j => by rw [k1.dn]; exact h.dn j, by rw [k1.fuse]; exact h.fuse, hf.mono (by omega), fun m hm => ?_⟩, k2⟩
  by_cases e : m = n
  · subst e
    exact ⟨Nat.le_trans (cnt_msr _ _) k1.sm.le, k1.sm.done⟩
  · rw [k1.oth m e]
    exact ⟨by have := (h.cnt m hm).1; omega, (h.cnt m hm).2⟩
end Go.Proofs.YtjgbfghkiahfaaaGreatDoor
