import Derived.Test.YtjgbfghkiahfaaaGreatDoorV31
namespace Go.Proofs.YtjgbfghkiahfaaaGreatDoor
open Go.RowKit Go.Sort
set_option maxRecDepth 100000
set_option maxHeartbeats 2000000

def WRet (w0 v : World) (g : Nat) (nd : Nat → Nat) (s : Wp) (x : Value) (e : Ending) (w' : World) : Prop := e = .returned x ∧ WL w0 w' g nd s ∧ KeepW v w'
def Wp.setD (s : Wp) (n : Nat) (b : Bool) : Wp := { s with dn := fun i => if i = n then b else s.dn i }
section
variable {w0 v : World} {g : Nat} {nd : Nat → Nat} {s : Wp}
theorem wl_fuse (h : WL w0 v g nd s) (k : Int) : Calls Tryz.prog 18 #[.pointer (some ⟨g, 0, none⟩), .int .i64 k] v (WRet w0 v g nd { s with fuse := k } (.tuple #[])) := by
  have c1 := h.cz
  have f1 := h.f 17
  have H := Lib.hid (And.intro (h.put (s' := { s with fuse := k }) 17 (.int .i64 k) rfl rfl (fun _ => rfl)) (h.keepSet 17 (.int .i64 k)))
  clear h
  go_enter Tryz.func18, Tryz.ntmps18
  go_wp2_with fail
  go_end0
  exact ⟨rfl, H.out.1, H.out.2⟩
theorem wl_revive (h : WL w0 v g nd s) : Calls Tryz.prog 20 #[.pointer (some ⟨g, 0, none⟩)] v (WRet w0 v g nd { s with dead := false, fuse := -1 } (.tuple #[])) := by
  have c1 := h.cz
  have f1 := h.f 17
  have c2 := h.ce
  have f2 := h.f 18
  have h2 := h.put (s' := { s with dead := false }) 18 (.bool false) rfl rfl (fun _ => rfl)
  have H := Lib.hid (And.intro (h2.put (s' := { s with dead := false, fuse := -1 }) 17 (.int .i64 (-1)) rfl rfl (fun _ => rfl)) ((h.keepSet 18 (.bool false)).trans (h2.keepSet 17 (.int .i64 (-1)))))
  clear h h2
  go_enter Tryz.func20, Tryz.ntmps20
  go_wp2_with fail
  go_end0
  exact ⟨rfl, H.out.1, H.out.2⟩
theorem whead_setD {nd : Nat → Nat} {s : Wp} {fv : Value} {n : Nat} (hn : n < 8) (b : Bool) : (whead (nptr 8 nd) s.dn fv s.fuse s.dead s.sent).setIfInBounds (8 + n) (.bool b) = whead (nptr 8 nd) (s.setD n b).dn fv s.fuse s.dead s.sent := by
  rcases (by omega : n = 0 ∨ n = 1 ∨ n = 2 ∨ n = 3 ∨ n = 4 ∨ n = 5 ∨ n = 6 ∨ n = 7) with rfl | rfl | rfl | rfl | rfl | rfl | rfl | rfl <;> rfl
theorem wl_down (h : WL w0 v g nd s) {n : Nat} (hn : n < 8) (b : Bool) : Calls Tryz.prog 17 #[.pointer (some ⟨g, 0, none⟩), .int .i64 (n : Int), .bool b] v (WRet w0 v g nd (s.setD n b) (.bool true)) := by
  have H0 := Lib.hid (wl_has h hn)
  have c1 := h.cd hn
  have f1 := h.f (8 + n)
  have H := Lib.hid (And.intro (h.put (s' := s.setD n b) (8 + n) (.bool b) rfl rfl (fun _ => whead_setD hn b)) (h.keepSet (8 + n) (.bool b)))
  have n2 : (n : Int) < 8 := by omega
  clear h
  go_enter Tryz.func17, Tryz.ntmps17
  go_wp2_with fail
  refine H0.out.mono ?_
  rintro e w' ⟨rfl, hw⟩
  obtain rfl := hw.symm
  go_wp2_with fail
  go_ret
  exact ⟨rfl, H.out.1, H.out.2⟩
theorem wl_down_no (h : WL w0 v g nd s) {n : Int} (hn : n < 0 ∨ 8 ≤ n) (b : Bool) : Calls Tryz.prog 17 #[.pointer (some ⟨g, 0, none⟩), .int .i64 n, .bool b] v fun e w' => e = .returned (.bool false) ∧ w' = v := by
  have H0 := Lib.hid (wl_has_no h hn)
  clear h hn
  go_enter Tryz.func17, Tryz.ntmps17
  go_wp2_with fail
  refine H0.out.mono ?_
  rintro e w' ⟨rfl, hw⟩
  obtain rfl := hw.symm
  go_wp2_with fail
  go_ret
  exact ⟨rfl, rfl⟩
theorem wl_leads (h : WL w0 v g nd s) {n : Nat} (hn : n < 8) (hb : s.fuse ≤ 1000000000) (hb2 : -1000000000 ≤ s.fuse) : Calls Tryz.prog 34 #[.pointer (some ⟨g, 0, none⟩), .int .i64 (n : Int)] v (WRet w0 v g nd (s.leads n).1 (.bool (s.leads n).2)) := by
  have c1 := h.ce
  have c2 := h.cd hn
  have c3 := h.cz
  have f3 := h.f 17
  have f1 := h.f 18
  have n2 : (n : Int) < 8 := by omega
  have HS := Lib.hid h
  obtain ⟨N, dn, F, fuse, dead, sent⟩ := s
  dsimp only at c1 c2 c3 hb hb2
  obtain ⟨b, hdb⟩ : ∃ b, dn n = b := ⟨_, rfl⟩
  rw [hdb] at c2
  have HD := Lib.hid hdb
  clear h hdb
  cases dead with
  | true =>
    go_enter Tryz.func34, Tryz.ntmps34
    go_wp2_with fail
    go_ret
    exact ⟨rfl, HS.out, KeepW.refl _⟩
  | false =>
    cases b with
    | true =>
      have hl : (Wp.leads ⟨N, dn, F, fuse, false, sent⟩ n) = (⟨N, dn, F, fuse, false, sent⟩, false) := by simp [Wp.leads, HD.out]
      rw [hl]
      clear hl
      go_enter Tryz.func34, Tryz.ntmps34
      go_wp2_with fail
      go_ret
      exact ⟨rfl, HS.out, KeepW.refl _⟩
    | false =>
      by_cases h0 : fuse = 0
      · subst h0
        have hl : (Wp.leads ⟨N, dn, F, 0, false, sent⟩ n) = (⟨N, dn, F, 0, true, sent⟩, false) := by simp [Wp.leads, HD.out]
        rw [hl]
        clear hl
        go_enter Tryz.func34, Tryz.ntmps34
        go_wp2_with fail
        go_ret
        exact ⟨rfl, HS.out.put 18 (.bool true) rfl rfl (fun _ => rfl), HS.out.keepSet 18 _⟩
      · have e0 : (fuse == 0) = false := by simp [h0]
        by_cases h1 : 0 < fuse
        · have hl : (Wp.leads ⟨N, dn, F, fuse, false, sent⟩ n) = (⟨N, dn, F, fuse - 1, false, sent⟩, true) := by simp [Wp.leads, HD.out, h0, h1]
          rw [hl]
          have wx : IntKind.i64.wrap (fuse - 1) = fuse - 1 := IntWalk.i64_in _ (by omega)
          clear hl h0
          go_enter Tryz.func34, Tryz.ntmps34
          go_wp2_with fail
          go_ret
          exact ⟨rfl, HS.out.put 17 (.int .i64 (fuse - 1)) rfl rfl (fun _ => rfl), HS.out.keepSet 17 _⟩
        · have hl : (Wp.leads ⟨N, dn, F, fuse, false, sent⟩ n) = (⟨N, dn, F, fuse, false, sent⟩, true) := by simp [Wp.leads, HD.out, h0, h1]
          rw [hl]
          clear hl h0
          go_enter Tryz.func34, Tryz.ntmps34
          go_wp2_with fail
          go_ret
          exact ⟨rfl, HS.out, KeepW.refl _⟩
/-- The first fate is taken. -/
theorem FatV.tail {w : World} {v : Value} {x : Int} {F : List Int} (h : FatV w v (x :: F)) : ∃ g o c row, v = .slice (some ⟨g, o, none⟩) (F.length + 1) c ∧ F.length + 1 ≤ c ∧ c ≤ maxLen ∧ w.heap[g]? = some (.cells row 3 (0, 0)) ∧ w.cell? ⟨g, o, none⟩ = some (.int .i64 x) ∧
    ∀ A, (A = some ⟨g, o + 1, none⟩ ∨ c = 1) → FatV w (.slice A F.length (c - 1)) F := by
  obtain ⟨A, c, rfl, h1, h2, h3⟩ := h
  rw [List.length_cons] at h1
  obtain ⟨g, o, row, rfl, r1, r2, r3⟩ := h3 (by omega)
  refine ⟨g, o, c, row, rfl, h1, h2, r1, by rw [cell_of_block r1]; exact r3 0 x rfl, fun A hA => ⟨A, c - 1, rfl, by omega, by omega, fun hc => ?_⟩⟩
  rcases hA with rfl | hA
  · exact ⟨g, o + 1, row, rfl, r1, by omega, fun i y hy => by rw [show o + 1 + i = o + (i + 1) by omega]; exact r3 (i + 1) y hy⟩
  · omega
/-- The wire's fates are others, in the same block or in none. -/
theorem WL.putF (h : WL w0 v g nd s) {fv : Value} {F : List Int} (hf : FatV v fv F) (hb : ∀ k ∈ fatB fv, w0.heap.size ≤ k) : WL w0 (v.setCell ⟨g, 16, none⟩ fv) g nd { s with F := F } := by
  obtain ⟨T, fv0, h1, h2, h3, h4, h5⟩ := h
  exact ⟨T, fv, h1.put (s' := { s with F := F }) 16 fv rfl rfl hf, h2.setCell h3 _, h3, hb, h5⟩
theorem WL.fat (h : WL w0 v g nd s) : ∃ fv, v.cell? ⟨g, 16, none⟩ = some fv ∧ FatV v fv s.F ∧ ∀ k ∈ fatB fv, w0.heap.size ≤ k := by
  obtain ⟨T, fv, h1, h2, h3, h4, _⟩ := h
  exact ⟨fv, h1.cf, h1.fat, h4⟩
theorem wl_fate (h : WL w0 v g nd s) : Calls Tryz.prog 54 #[.pointer (some ⟨g, 0, none⟩)] v (WRet w0 v g nd s.took (.int .i64 s.fate)) := by
  obtain ⟨fv, c1, hf, hb⟩ := h.fat
  have f1 := h.f 16
  have HS := Lib.hid h
  obtain ⟨N, dn, F, fuse, dead, sent⟩ := s
  dsimp only at hf
  clear h
  cases F with
  | nil =>
    obtain ⟨A, c, rfl, _, _, _⟩ := hf
    clear hb
    go_enter Tryz.func54, Tryz.ntmps54
    go_wp2_with fail
    go_ret
    exact ⟨rfl, HS.out, KeepW.refl _⟩
  | cons x F =>
    obtain ⟨gf, o, c, row, rfl, k1, k2, r1, r2, r3⟩ := hf.tail
    have HR := Lib.hid r3
    have HB : Hid (w0.heap.size ≤ gf) := Lib.hid (hb gf (by simp [fatB]; omega))
    have e0 : ((F.length : Int) + 1 == 0) = false := by rw [beq_eq_false_iff_ne]; omega
    obtain ⟨m, hm⟩ : ∃ m, F.length = m := ⟨_, rfl⟩
    rw [hm] at k1 c1 e0
    have HM := Lib.hid hm
    have hc1 : (1 : Int) ≤ (c : Int) := by omega
    have hml : m ≤ 9223372036854775806 := by unfold maxLen at k2; omega
    have hcl : c ≤ 9223372036854775807 := by unfold maxLen at k2; omega
    clear r3 hb hf hm r1 k2
    by_cases hk : c = 1
    · subst hk
      obtain rfl : m = 0 := by omega
      have HL := Lib.hid (HS.out.putF (F := F) (fv := .slice (some ⟨gf, o, none⟩) 0 0) (by have := HR.out (some ⟨gf, o, none⟩) (Or.inr rfl); rw [HM.out] at this; exact this) (fun k hk => by simp [fatB] at hk))
      clear HR
      go_enter Tryz.func54, Tryz.ntmps54
      go_wp2_with fail
      go_ret
      exact ⟨rfl, HL.out, HS.out.keepSet 16 _⟩
    · have HL := Lib.hid (HS.out.putF (F := F) (fv := .slice (some ⟨gf, o + 1, none⟩) m (c - 1)) (by have := HR.out (some ⟨gf, o + 1, none⟩) (Or.inl rfl); rw [HM.out] at this; exact this) (fun k hk' => by
        have : 0 < c - 1 := by omega
        simp [fatB, this] at hk'
        rw [hk']
        exact HB.out))
      clear HR
      go_enter Tryz.func54, Tryz.ntmps54
      go_wp2_with fail
      go_ret
      exact ⟨rfl, HL.out, HS.out.keepSet 16 _⟩
end
end Go.Proofs.YtjgbfghkiahfaaaGreatDoor
namespace Go.Proofs.YtjgbfghkiahfaaaGreatDoor
open Go.RowKit Go.Sort
set_option maxRecDepth 100000
set_option maxHeartbeats 2000000

theorem Wp.setN_at (s : Wp) (n : Nat) (a : Ns) : (s.setN n a).N n = a := by simp [Wp.setN]
theorem Wp.setN_two (s : Wp) (n : Nat) (a b : Ns) : (s.setN n a).setN n b = s.setN n b := by
  unfold Wp.setN
  congr 1
  funext i
  dsimp only
  split <;> rfl
/-- A reply y, as a value. -/
def RepV (w : World) (B : Nat) (y : Ns × Rp) (v : Value) : Prop :=
  ∃ A c A' c', v = rpv (y.2.code : Int) (y.1.boot : Int) (.slice A y.2.ps.length c) (.slice A' y.2.its.length c') ∧ PL w B (.slice A y.2.ps.length c) y.2.ps ∧ LI w B (.slice A' y.2.its.length c') y.2.its
theorem RepV.keep {w w' : World} {B : Nat} {y : Ns × Rp} {v : Value} (h : RepV w B y v) (k : KeepB w w') : RepV w' B y v := by
  obtain ⟨A, c, A', c', e, hp, hl⟩ := h
  exact ⟨A, c, A', c', e, k.pl hp, k.li hl⟩
theorem RepV.mono {w : World} {B B' : Nat} {y : Ns × Rp} {v : Value} (h : RepV w B y v) (hB : B' ≤ B) : RepV w B' y v := by
  obtain ⟨A, c, A', c', e, hp, hl⟩ := h
  exact ⟨A, c, A', c', e, hp.mono hB, hl.mono hB⟩
section
variable {w0 v : World} {g : Nat} {nd : Nat → Nat} {s : Wp}
theorem wl_do (h : WL w0 v g nd s) {n : Nat} (hn : n < 8) (q : Rq) (A : Option Addr) (c : Nat) (hd : DatN v A q.n q.D) (hD : ∀ j, j < q.n → q.D j < 256) (hw : (s.N n).nw ≤ 1000000000) (hl : (s.N n).last ≤ 1000000000) :
    Calls Tryz.prog 55 #[.pointer (some ⟨nd n, 0, none⟩), rqv q.k q.s q.g q.i A q.n c] v fun e w' => ∃ x, e = .returned x ∧ RepV w' v.heap.size ((s.N n).act q) x ∧ WL w0 w' g nd (s.setN n ((s.N n).act q).1) ∧ KeepW v w' := by
  obtain ⟨r, p, sb, S, h1, h2, h3⟩ := h.act hn
  refine (ndo h1 h2 q A c hd hD hw hl).mono ?_
  rintro e w' ⟨S', B, c1, B', c2, rfl, hp, hi, hn', ht, hS⟩
  obtain ⟨k1, k2⟩ := h3 w' r sb S' _ hn' (h2.act hD).1 (ht.mono (fun k hk => List.mem_cons_of_mem _ hk)) (fun k hk => by
    simp only [List.mem_cons] at hk ⊢
    rcases hk with rfl | rfl | hk
    · simp
    · simp
    · rcases hS k hk with h | h
      · simp [h]
      · exact Or.inr h)
  exact ⟨_, rfl, ⟨B, c1, B', c2, rfl, hp, hi⟩, k1, k2⟩
theorem wl_crash (h : WL w0 v g nd s) {n : Nat} (hn : n < 8) (A : Option Addr) (xs : List Int) (c : Nat) (hxs : Nums v A xs) (hlen : xs.length ≤ 9223372036854775807) (hw : (s.N n).nw ≤ 1000000000) (hl : (s.N n).last ≤ 1000000000) (hb : (s.N n).boot ≤ 1000000000) :
    Calls Tryz.prog 56 #[.pointer (some ⟨nd n, 0, none⟩), .slice A xs.length c] v (WRet w0 v g nd (s.setN n ((s.N n).crash xs)) (.tuple #[])) := by
  obtain ⟨r, p, sb, S, h1, h2, h3⟩ := h.act hn
  refine (ncrash h1 h2 A xs c hxs hlen hw hl hb).mono ?_
  rintro e w' ⟨r', sb', S', rfl, hn', ht, k1, k2, hS⟩
  obtain ⟨q1, q2⟩ := h3 w' r' sb' S' _ hn' (h2.crash xs).1 (ht.mono (fun k hk => by simp at hk ⊢; rcases hk with h | h <;> simp [h])) (fun k hk => by
    simp only [List.mem_cons] at hk ⊢
    rcases hk with rfl | rfl | hk
    · exact Or.inr k1
    · exact Or.inr k2
    · rcases hS k hk with h | h
      · simp [h]
      · exact Or.inr h)
  exact ⟨rfl, q1, q2⟩
theorem wl_crash0 (h : WL w0 v g nd s) {n : Nat} (hn : n < 8) (hw : (s.N n).nw ≤ 1000000000) (hl : (s.N n).last ≤ 1000000000) (hb : (s.N n).boot ≤ 1000000000) :
    Calls Tryz.prog 56 #[.pointer (some ⟨nd n, 0, none⟩), .slice none 0 0] v (WRet w0 v g nd (s.setN n ((s.N n).crash [])) (.tuple #[])) :=
  wl_crash h hn none [] 0 (fun i x hi => by simp at hi) (by simp) hw hl hb
theorem wl_boot (h : WL w0 v g nd s) {n : Nat} (hn : n < 8) : Calls Tryz.prog 29 #[.pointer (some ⟨nd n, 0, none⟩)] v fun e w' => e = .returned (.int .i64 ((s.N n).boot : Int)) ∧ w' = v := by
  obtain ⟨r, p, sb, S, h1, h2, h3⟩ := h.act hn
  exact nboot h1.nb
/-- The live intents of a node. -/
theorem wl_live (h : WL w0 v g nd s) {n : Nat} (hn : n < 8) : ∃ r, Calls Tryz.prog 15 #[.pointer (some ⟨nd n, 0, none⟩)] v (fun e w' => e = .returned (.pointer (some ⟨r, 0, none⟩)) ∧ w' = v) ∧ ∀ w, Below v.heap.size v w → Calls Tryz.prog 16 #[.pointer (some ⟨r, 0, none⟩)] w (LiveRet ((liveT (s.N n).R).map (·.2)) w) := by
  obtain ⟨r, p, sb, S, h1, h2, h3⟩ := h.act hn
  exact ⟨r, nring h1.nb, fun w hb => nlive (h1.below hb) h2⟩

def SendRet (w0 v : World) (g : Nat) (nd : Nat → Nat) (x : Wp × Option (Ns × Rp)) (e : Ending) (w' : World) : Prop :=
  ∃ r b, e = .returned (.tuple #[r, .bool b]) ∧ WL w0 w' g nd x.1 ∧ KeepW v w' ∧ ((x.2 = none ∧ b = false ∧ r = rpv 0 0 (.slice none 0 0) (.slice none 0 0)) ∨ ∃ y, x.2 = some y ∧ b = true ∧ RepV w' v.heap.size y r)
/-- A store into a block of another kind. -/
theorem WL.setO (h : WL w0 v g nd s) {b : Nat} {cs : Array Value} {t : TypeId} {fr : Nat × Nat} (hb : v.heap[b]? = some (.cells cs t fr)) (ht : ¬ WiT t) (h8 : t ≠ 5) (hB : w0.heap.size ≤ b) (k : Nat) (u : Value) : WL w0 (v.setCell ⟨b, k, none⟩ u) g nd s := by
  obtain ⟨T, fv, h1, h2, h3, h4, h5⟩ := h
  have hne : ∀ (j : Nat) (cs' : Array Value) (t' : TypeId) (fr' : Nat × Nat), v.heap[j]? = some (.cells cs' t' fr') → WiT t' ∨ t' = 5 → j ≠ b := by
    intro j cs' t' fr' hj hw e
    subst e
    rw [hb] at hj
    cases hj
    rcases hw with hw | hw
    · exact ht hw
    · exact h8 hw
  refine ⟨T, fv, h1.same (fun j hj => set_other ?_ _ _) (fun i hi j hj => set_other ?_ _ _) (fun j cs' hj => set_other ?_ _ _), h2.setCell hB _, h3, h4, h5⟩
  · rw [List.mem_cons] at hj
    rcases hj with rfl | hj
    · exact hne _ _ _ _ h1.hd (Or.inl (Or.inr (Or.inl rfl)))
    · obtain ⟨row, hr⟩ := h1.fat.type j hj
      exact hne _ _ _ _ hr (Or.inl (Or.inr (Or.inr rfl)))
  · obtain ⟨r, p, sb, S, q1, q2, q3⟩ := h1.node i hi
    have hj' : j ∈ nd i :: r :: sb :: S := by
      rw [q3] at hj
      simp only [List.mem_cons] at hj ⊢
      rcases hj with rfl | rfl | rfl | rfl | hj
      · simp
      · simp
      · obtain ⟨db, nb, pv, _, _, hS⟩ := q1.plt
        rw [hS]
        simp
      · simp
      · simp [hj]
    obtain ⟨cs', t', hc, hT⟩ := q1.type j hj'
    exact hne _ _ _ _ hc (Or.inl (Or.inl hT))
  · exact hne _ _ _ _ hj (Or.inr rfl)
theorem rep_notW : ¬ WiT 31 := notWi (by decide) (by decide) (by decide) (by decide) (by decide) (by decide) (by decide) (by decide)
theorem KeepW.setNew {w w' : World} (h : KeepW w w') {b : Nat} (hb : w.heap.size ≤ b) (k : Nat) (u : Value) : KeepW w (w'.setCell ⟨b, k, none⟩ u) := by
  refine ⟨Nat.le_trans h.1 (by simp [World.setCell]), fun j o hj ho => ?_⟩
  rw [set_other (by have := heap_lt hj; omega)]
  exact h.2 j o hj ho
/-- A reply is laid into a variable of that kind: four stores. -/
abbrev set4 (w : World) (b : Nat) (x0 x1 x2 x3 : Value) : World := (((w.setCell ⟨b, 0, none⟩ x0).setCell ⟨b, 1, none⟩ x1).setCell ⟨b, 2, none⟩ x2).setCell ⟨b, 3, none⟩ x3
theorem WL.set4 (h : WL w0 v g nd s) {b : Nat} {k k2 : Int} {u u2 : Value} (hr : RV v b k k2 u u2) (hB : w0.heap.size ≤ b) (x0 x1 x2 x3 : Value) : WL w0 (set4 v b x0 x1 x2 x3) g nd s := by
  have h0 : v.heap[b]? = some (.cells #[.int .i64 k, .int .i64 k2, u, u2] 31 (0, 0)) := hr
  have h1 := set_block h0 0 x0
  have h2 := set_block h1 1 x1
  have h3 := set_block h2 2 x2
  exact (((h.setO h0 rep_notW (by decide) hB 0 x0).setO h1 rep_notW (by decide) hB 1 x1).setO h2 rep_notW (by decide) hB 2 x2).setO h3 rep_notW (by decide) hB 3 x3
theorem KeepW.set4 {w w' : World} (h : KeepW w w') {b : Nat} (hb : w.heap.size ≤ b) (x0 x1 x2 x3 : Value) : KeepW w (set4 w' b x0 x1 x2 x3) := (((h.setNew hb 0 x0).setNew hb 1 x1).setNew hb 2 x2).setNew hb 3 x3
theorem RepV.set4 {w : World} {B b : Nat} {k k2 : Int} {u u2 : Value} {y : Ns × Rp} {x : Value} (h : RepV w B y x) (hr : RV w b k k2 u u2) (x0 x1 x2 x3 : Value) : RepV (set4 w b x0 x1 x2 x3) B y x := by
  have h0 : w.heap[b]? = some (.cells #[.int .i64 k, .int .i64 k2, u, u2] 31 (0, 0)) := hr
  have h1 := set_block h0 0 x0
  have h2 := set_block h1 1 x1
  have h3 := set_block h2 2 x2
  exact h.keep (((KeepB.set h0 (by decide) (by decide) (by decide)).trans (KeepB.set h1 (by decide) (by decide) (by decide))).trans ((KeepB.set h2 (by decide) (by decide) (by decide)).trans (KeepB.set h3 (by decide) (by decide) (by decide))))
end
end Go.Proofs.YtjgbfghkiahfaaaGreatDoor
