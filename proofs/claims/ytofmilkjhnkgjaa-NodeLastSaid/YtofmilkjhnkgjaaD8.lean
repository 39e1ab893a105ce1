import Derived.Test.YtofmilkjhnkgjaaD7
namespace Go.Proofs.Ytofmilkjhnkgjaa
open Go.RowKit Go.Sort
set_option maxRecDepth 100000
set_option maxHeartbeats 1000000

/-- Wipe, of a disk. -/
def DWipeRet (p : Nat) (S : List Nat) (N : Nat) (wr : Nat) (w : World) (e : Ending) (w' : World) : Prop :=
  ∃ S', e = .returned (.tuple #[]) ∧ Plt w' p S' N Disk.blank wr ∧ Step S S' w w'
theorem dwipe {w : World} {p : Nat} {S : List Nat} {N : Nat} {d : Disk} {wr : Nat} (h : Plt w p S N d wr) (hwr : wr ≤ 1000000000) :
    Calls Try.prog 31 #[.pointer (some ⟨p, 0, none⟩)] w (DWipeRet p S N wr w) := by
  obtain ⟨db, nb, pv, h1, _, rfl⟩ := h
  refine (dwipe0 w p db nb N pv d.pend wr ⟨h1.head, h1.rows.arr, h1.arr, h1.ne, h1.pend, h1.n1, h1.n2, h1.len⟩ hwr).mono ?_
  rintro e w' ⟨rfl, a, b, t⟩
  exact ⟨[p, db, nb] ++ pb (.slice none 0 0), rfl, ⟨db, nb, _, a, b, rfl⟩, t.mono (fun k hk => List.mem_append_left _ hk), fun k hk => Or.inl (List.mem_append_left _ (by simpa [pb] using hk))⟩

/-- New. -/
def DNewRet (N : Nat) (w : World) (e : Ending) (w' : World) : Prop :=
  ∃ p S, e = .returned (.pointer (some ⟨p, 0, none⟩)) ∧ Plt w' p S N Disk.blank 0 ∧ Below w.heap.size w w' ∧ ∀ k ∈ S, w.heap.size ≤ k
theorem new_end {W : World} {p db nb N : Nat} {zs ys : Array Value} (hN : 1 ≤ N ∧ N ≤ 1000) (hd : W.heap[db]? = some (.cells zs 35 (0, 0))) (hn : W.heap[nb]? = some (.cells ys 35 (0, 0))) (hz : zs.size = N) (hy : ys.size = N) (hne : db ≠ nb)
    (hh : W.heap[p]? = some (.cells #[.slice (some ⟨db, 0, none⟩) N N, .slice (some ⟨nb, 0, none⟩) N N, .slice none 0 0, .int .i64 0] 71 (0, 0))) : PltW W p db nb N (.slice none 0 0) [] 0 :=
  ⟨hh, ⟨zs, hd, hz⟩, ⟨ys, hn, hy⟩, hne, Pend.nil, hN.1, hN.2, Nat.le_refl _⟩
theorem new_world (w : World) (zs : Array Value) (a b : Value) : Below w.heap.size w ((((w.alloc (.cells zs 35)).alloc (.cells zs 35)).alloc (.cells #[a, b, .slice none 0 0, .int .i64 0] 71)).drew) ∧
    ((((w.alloc (.cells zs 35)).alloc (.cells zs 35)).alloc (.cells #[a, b, .slice none 0 0, .int .i64 0] 71)).drew).heap[w.heap.size]? = some (.cells zs 35 (0, 0)) ∧
    ((((w.alloc (.cells zs 35)).alloc (.cells zs 35)).alloc (.cells #[a, b, .slice none 0 0, .int .i64 0] 71)).drew).heap[w.heap.size + 1]? = some (.cells zs 35 (0, 0)) ∧
    ((((w.alloc (.cells zs 35)).alloc (.cells zs 35)).alloc (.cells #[a, b, .slice none 0 0, .int .i64 0] 71)).drew).heap[w.heap.size + 1 + 1]? = some (.cells #[a, b, .slice none 0 0, .int .i64 0] 71 (0, 0)) := by
  refine ⟨((((Below.refl _ _).alloc (Nat.le_refl _) _).alloc (by simp) _).alloc (by simp; omega) _).drew, ?_, ?_, ?_⟩
  · exact (alloc_old _ _ (by simp; omega)).trans ((alloc_old _ _ (by simp)).trans (alloc_block w _))
  · have := alloc_block (w.alloc (.cells zs 35)) (.cells zs 35)
    rw [alloc_size] at this
    exact (alloc_old _ _ (by simp)).trans this
  · have := alloc_block ((w.alloc (.cells zs 35)).alloc (.cells zs 35)) (.cells #[a, b, .slice none 0 0, .int .i64 0] 71)
    rw [alloc_size, alloc_size] at this
    exact this
theorem dnew_of (w : World) (x : Int) (N : Nat) (hN : 1 ≤ N ∧ N ≤ 1000) (h : (N : Int) = x) : Calls Try.prog 19 #[.int .i64 x] w (DNewRet N w) := by
  obtain ⟨zs, z1, z2⟩ := makeR N (by omega)
  have HZ := Lib.hid z1
  have HN := Lib.hid hN
  subst h
  have t1 : ¬ (N : Int) < 1 := by omega
  have t2 : (N : Int) ≤ 1000 := by omega
  clear z1 hN
  go_enter Try.func19, Try.ntmps19
  go_wp2_with fail
  go_region
  · obtain ⟨HB, n1, n2, n3⟩ := new_world w zs (.slice (some ⟨w.heap.size, 0, none⟩) N N) (.slice (some ⟨w.heap.size + 1, 0, none⟩) N N)
    have HP := Lib.hid (new_end (W := (((w.alloc (.cells zs 35)).alloc (.cells zs 35)).alloc (.cells #[.slice (some ⟨w.heap.size, 0, none⟩) N N, .slice (some ⟨w.heap.size + 1, 0, none⟩) N N, .slice none 0 0, .int .i64 0] 71)).drew) HN.out n1 n2 HZ.out HZ.out (by omega) n3)
    have HW := Lib.hid HB
    clear HB n1 n2 n3
    generalize (((w.alloc (.cells zs 35)).alloc (.cells zs 35)).alloc (.cells #[.slice (some ⟨w.heap.size, 0, none⟩) N N, .slice (some ⟨w.heap.size + 1, 0, none⟩) N N, .slice none 0 0, .int .i64 0] 71)).drew = W at *
    go_wp2_with fail
    refine (dwipe0 W _ _ _ N _ [] 0 HP.out (by omega)).mono ?_
    rintro e w2 ⟨rfl, a, b, t⟩
    have HE : Hid (DNewRet N w (.returned (.pointer (some ⟨w.heap.size + 1 + 1, 0, none⟩))) w2) := Lib.hid ⟨_, _, rfl, ⟨_, _, _, a, b, rfl⟩, Below.of_turn HW.out t (by simp; omega) HW.out.size, by simp [pb]; omega⟩
    clear a b t HP HW
    go_wp2_with fail
    go_ret
    exact HE.out
  · obtain ⟨HB, n1, n2, n3⟩ := new_world w zs (.slice (some ⟨w.heap.size + 1, 0, none⟩) N N) (.slice (some ⟨w.heap.size, 0, none⟩) N N)
    have HP := Lib.hid (new_end (W := (((w.alloc (.cells zs 35)).alloc (.cells zs 35)).alloc (.cells #[.slice (some ⟨w.heap.size + 1, 0, none⟩) N N, .slice (some ⟨w.heap.size, 0, none⟩) N N, .slice none 0 0, .int .i64 0] 71)).drew) HN.out n2 n1 HZ.out HZ.out (by omega) n3)
    have HW := Lib.hid HB
    clear HB n1 n2 n3
    generalize (((w.alloc (.cells zs 35)).alloc (.cells zs 35)).alloc (.cells #[.slice (some ⟨w.heap.size + 1, 0, none⟩) N N, .slice (some ⟨w.heap.size, 0, none⟩) N N, .slice none 0 0, .int .i64 0] 71)).drew = W at *
    go_wp2_with fail
    refine (dwipe0 W _ _ _ N _ [] 0 HP.out (by omega)).mono ?_
    rintro e w2 ⟨rfl, a, b, t⟩
    have HE : Hid (DNewRet N w (.returned (.pointer (some ⟨w.heap.size + 1 + 1, 0, none⟩))) w2) := Lib.hid ⟨_, _, rfl, ⟨_, _, _, a, b, rfl⟩, Below.of_turn HW.out t (by simp; omega) HW.out.size, by simp [pb]; omega⟩
    clear a b t HP HW
    go_wp2_with fail
    go_ret
    exact HE.out
theorem dnew_low (w : World) (x : Int) (h : x < 1) : Calls Try.prog 19 #[.int .i64 x] w (DNewRet 1 w) := by
  obtain ⟨zs, z1, z2⟩ := makeR 1 (by omega)
  have HZ := Lib.hid z1
  have HN : Hid (1 ≤ 1 ∧ 1 ≤ 1000) := Lib.hid (by omega)
  have z3 : ∀ W : World, Sem.run Try.prog (Instr.makeSlice 68 (.int .i64 1) (.int .i64 1)) W = .ok (.slice (some ⟨W.heap.size, 0, none⟩) 1 1) (W.alloc (.cells zs 35)) := z2
  clear z1 z2
  go_enter Try.func19, Try.ntmps19
  go_wp2_with fail
  go_region
  · obtain ⟨HB, n1, n2, n3⟩ := new_world w zs (.slice (some ⟨w.heap.size, 0, none⟩) 1 1) (.slice (some ⟨w.heap.size + 1, 0, none⟩) 1 1)
    have HP := Lib.hid (new_end (W := (((w.alloc (.cells zs 35)).alloc (.cells zs 35)).alloc (.cells #[.slice (some ⟨w.heap.size, 0, none⟩) 1 1, .slice (some ⟨w.heap.size + 1, 0, none⟩) 1 1, .slice none 0 0, .int .i64 0] 71)).drew) HN.out n1 n2 HZ.out HZ.out (by omega) n3)
    have HW := Lib.hid HB
    clear HB n1 n2 n3
    generalize (((w.alloc (.cells zs 35)).alloc (.cells zs 35)).alloc (.cells #[.slice (some ⟨w.heap.size, 0, none⟩) 1 1, .slice (some ⟨w.heap.size + 1, 0, none⟩) 1 1, .slice none 0 0, .int .i64 0] 71)).drew = W at *
    go_wp2_with fail
    refine (dwipe0 W _ _ _ 1 _ [] 0 HP.out (by omega)).mono ?_
    rintro e w2 ⟨rfl, a, b, t⟩
    have HE : Hid (DNewRet 1 w (.returned (.pointer (some ⟨w.heap.size + 1 + 1, 0, none⟩))) w2) := Lib.hid ⟨_, _, rfl, ⟨_, _, _, a, b, rfl⟩, Below.of_turn HW.out t (by simp; omega) HW.out.size, by simp [pb]; omega⟩
    clear a b t HP HW
    go_wp2_with fail
    go_ret
    exact HE.out
  · obtain ⟨HB, n1, n2, n3⟩ := new_world w zs (.slice (some ⟨w.heap.size + 1, 0, none⟩) 1 1) (.slice (some ⟨w.heap.size, 0, none⟩) 1 1)
    have HP := Lib.hid (new_end (W := (((w.alloc (.cells zs 35)).alloc (.cells zs 35)).alloc (.cells #[.slice (some ⟨w.heap.size + 1, 0, none⟩) 1 1, .slice (some ⟨w.heap.size, 0, none⟩) 1 1, .slice none 0 0, .int .i64 0] 71)).drew) HN.out n2 n1 HZ.out HZ.out (by omega) n3)
    have HW := Lib.hid HB
    clear HB n1 n2 n3
    generalize (((w.alloc (.cells zs 35)).alloc (.cells zs 35)).alloc (.cells #[.slice (some ⟨w.heap.size + 1, 0, none⟩) 1 1, .slice (some ⟨w.heap.size, 0, none⟩) 1 1, .slice none 0 0, .int .i64 0] 71)).drew = W at *
    go_wp2_with fail
    refine (dwipe0 W _ _ _ 1 _ [] 0 HP.out (by omega)).mono ?_
    rintro e w2 ⟨rfl, a, b, t⟩
    have HE : Hid (DNewRet 1 w (.returned (.pointer (some ⟨w.heap.size + 1 + 1, 0, none⟩))) w2) := Lib.hid ⟨_, _, rfl, ⟨_, _, _, a, b, rfl⟩, Below.of_turn HW.out t (by simp; omega) HW.out.size, by simp [pb]; omega⟩
    clear a b t HP HW
    go_wp2_with fail
    go_ret
    exact HE.out
theorem dnew_high (w : World) (x : Int) (h : 1000 < x) : Calls Try.prog 19 #[.int .i64 x] w (DNewRet 1000 w) := by
  obtain ⟨zs, z1, z2⟩ := makeR 1000 (by omega)
  have HZ := Lib.hid z1
  have HN : Hid (1 ≤ 1000 ∧ 1000 ≤ 1000) := Lib.hid (by omega)
  have z3 : ∀ W : World, Sem.run Try.prog (Instr.makeSlice 68 (.int .i64 1000) (.int .i64 1000)) W = .ok (.slice (some ⟨W.heap.size, 0, none⟩) 1000 1000) (W.alloc (.cells zs 35)) := z2
  have t1 : ¬ x < 1 := by omega
  have t2 : ¬ x ≤ 1000 := by omega
  clear z1 z2
  go_enter Try.func19, Try.ntmps19
  go_wp2_with fail
  go_region
  · obtain ⟨HB, n1, n2, n3⟩ := new_world w zs (.slice (some ⟨w.heap.size, 0, none⟩) 1000 1000) (.slice (some ⟨w.heap.size + 1, 0, none⟩) 1000 1000)
    have HP := Lib.hid (new_end (W := (((w.alloc (.cells zs 35)).alloc (.cells zs 35)).alloc (.cells #[.slice (some ⟨w.heap.size, 0, none⟩) 1000 1000, .slice (some ⟨w.heap.size + 1, 0, none⟩) 1000 1000, .slice none 0 0, .int .i64 0] 71)).drew) HN.out n1 n2 HZ.out HZ.out (by omega) n3)
    have HW := Lib.hid HB
    clear HB n1 n2 n3
    generalize (((w.alloc (.cells zs 35)).alloc (.cells zs 35)).alloc (.cells #[.slice (some ⟨w.heap.size, 0, none⟩) 1000 1000, .slice (some ⟨w.heap.size + 1, 0, none⟩) 1000 1000, .slice none 0 0, .int .i64 0] 71)).drew = W at *
    go_wp2_with fail
    refine (dwipe0 W _ _ _ 1000 _ [] 0 HP.out (by omega)).mono ?_
    rintro e w2 ⟨rfl, a, b, t⟩
    have HE : Hid (DNewRet 1000 w (.returned (.pointer (some ⟨w.heap.size + 1 + 1, 0, none⟩))) w2) := Lib.hid ⟨_, _, rfl, ⟨_, _, _, a, b, rfl⟩, Below.of_turn HW.out t (by simp; omega) HW.out.size, by simp [pb]; omega⟩
    clear a b t HP HW
    go_wp2_with fail
    go_ret
    exact HE.out
  · obtain ⟨HB, n1, n2, n3⟩ := new_world w zs (.slice (some ⟨w.heap.size + 1, 0, none⟩) 1000 1000) (.slice (some ⟨w.heap.size, 0, none⟩) 1000 1000)
    have HP := Lib.hid (new_end (W := (((w.alloc (.cells zs 35)).alloc (.cells zs 35)).alloc (.cells #[.slice (some ⟨w.heap.size + 1, 0, none⟩) 1000 1000, .slice (some ⟨w.heap.size, 0, none⟩) 1000 1000, .slice none 0 0, .int .i64 0] 71)).drew) HN.out n2 n1 HZ.out HZ.out (by omega) n3)
    have HW := Lib.hid HB
    clear HB n1 n2 n3
    generalize (((w.alloc (.cells zs 35)).alloc (.cells zs 35)).alloc (.cells #[.slice (some ⟨w.heap.size + 1, 0, none⟩) 1000 1000, .slice (some ⟨w.heap.size, 0, none⟩) 1000 1000, .slice none 0 0, .int .i64 0] 71)).drew = W at *
    go_wp2_with fail
    refine (dwipe0 W _ _ _ 1000 _ [] 0 HP.out (by omega)).mono ?_
    rintro e w2 ⟨rfl, a, b, t⟩
    have HE : Hid (DNewRet 1000 w (.returned (.pointer (some ⟨w.heap.size + 1 + 1, 0, none⟩))) w2) := Lib.hid ⟨_, _, rfl, ⟨_, _, _, a, b, rfl⟩, Below.of_turn HW.out t (by simp; omega) HW.out.size, by simp [pb]; omega⟩
    clear a b t HP HW
    go_wp2_with fail
    go_ret
    exact HE.out
end Go.Proofs.Ytofmilkjhnkgjaa
