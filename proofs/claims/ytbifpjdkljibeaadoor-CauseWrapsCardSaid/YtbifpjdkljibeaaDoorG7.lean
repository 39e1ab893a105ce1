import Derived.Test.YtbifpjdkljibeaaDoorG6
import Derived.Test.YtbifpjdkljibeaaDoorG4
namespace Go.Proofs.YtbifpjdkljibeaaDoor
open Go.RowKit Go.Extern.Stop Go.Stop Go.Extern Go.Extern.Rtype

theorem two_all {α : Type} {P : α → Prop} {p q : α} (hp : P p) (hq : P q) : ∀ (i : Nat) (z : α), [p, q][i]? = some z → P z
  | 0, z, h => by cases h; exact hp
  | 1, z, h => by cases h; exact hq
  | i + 2, z, h => by simp at h

set_option maxRecDepth 100000 in
set_option maxHeartbeats 4000000 in
theorem causeWraps5 (a : Option Addr) (xs : List (Int × Int)) (c : Nat) (node stripe : Int) (w : World) (hE : ErrType w) (hn : Raws w a xs) :
    Calls Tryd.prog 5 #[.slice a xs.length c, .int .i64 node, .int .i64 stripe] w fun e w' => e = .returned (.bool true) ∧ Below w.heap.size w w' := by
  have HN := Lib.hid (And.intro hn hE)
  clear hn hE
  have q1 := eqlNil
  have q2 := eqlNilNil
  go_enter Tryd.func5, Tryd.ntmps5
  go_wp2_with fail
  refine (known8 _ HN.out.2).mono ?_
  rintro e w1 ⟨rfl, hb1⟩
  have HB1 := Lib.hid hb1
  clear hb1
  go_wp2_with fail
  refine (grow19 a xs c _ (HN.out.1.below HB1.out)).mono ?_
  rintro e w2 ⟨hb2, rfl | ⟨k, d, ⟨t, x, hkv⟩, rfl, hf, hn25, ht⟩⟩
  · have hb3 := (HB1.out.trans (hb2.mono HB1.out.size)).trans ((alloc_below w2 (.cells #[.int .i64 0, .slice none 0 0, .int .i64 0, .bool false, .string ⟨#[]⟩] 48)).mono (Nat.le_trans HB1.out.size hb2.size))
    clear hb2
    go_wp2_with fail
    obtain ⟨w3, hw3⟩ : ∃ w3, w2.alloc (.cells #[.int .i64 0, .slice none 0 0, .int .i64 0, .bool false, .string ⟨#[]⟩] 48) = w3 := ⟨_, rfl⟩
    rw [hw3] at hb3 ⊢
    clear hw3
    have HB3 := Lib.hid hb3
    clear hb3
    refine (atNode_nil node _).mono ?_
    rintro e w4 ⟨rfl, rfl⟩
    go_wp2_with fail
    refine (ofStripe_nil stripe _).mono ?_
    rintro e w4 ⟨rfl, rfl⟩
    go_wp2_with fail
    have hj := join_row (made_row w3 #[.nilIface, .nilIface] (by decide)) (by decide) (fun x hx => .inl (by simpa using hx))
    refine Calls.mono hj ?_
    rintro e w4 ⟨hb4, ⟨_, rfl⟩ | ⟨y, hy, _⟩ | ⟨h2, _⟩⟩
    · have HB4 := Lib.hid (HB3.out.trans (((alloc_below w3 _).trans (hb4.mono (by simp))).mono HB3.out.size))
      clear hb4 hj
      go_wp2_with fail
      go_ret
      exact ⟨rfl, HB4.out⟩
    · simp [alive] at hy
    · simp [alive] at h2
  · obtain ⟨an, cn, hnv⟩ := own_form hf.nod.1
    have hb3 := (HB1.out.trans (hb2.mono HB1.out.size)).trans ((alloc_below w2 (.cells #[.int .i64 (codeZ k.cs), .slice an (nodesOf k.ns).length cn, .int .i64 (stripeOf k.st), .bool (stripeIs k.st), .string ⟨k.tx.toArray⟩] 48)).mono (Nat.le_trans HB1.out.size hb2.size))
    have T3 := hf.tree.next (alloc_below w2 (.cells #[.int .i64 (codeZ k.cs), .slice an (nodesOf k.ns).length cn, .int .i64 (stripeOf k.st), .bool (stripeIs k.st), .string ⟨k.tx.toArray⟩] 48))
    rw [hkv] at T3
    rw [hkv, hnv]
    clear hb2 hf hn25 ht hkv hnv
    go_wp2_with fail
    obtain ⟨w3, hw3⟩ : ∃ w3, w2.alloc (.cells #[.int .i64 (codeZ k.cs), .slice an (nodesOf k.ns).length cn, .int .i64 (stripeOf k.st), .bool (stripeIs k.st), .string ⟨k.tx.toArray⟩] 48) = w3 := ⟨_, rfl⟩
    rw [hw3] at hb3 T3 ⊢
    clear hw3
    have H3 := Lib.hid (And.intro hb3 T3)
    clear hb3 T3
    refine (atNode_err d node _ _ _ _ _ H3.out.2).mono ?_
    rintro e w4 ⟨b1, rfl, g1, hb4, hh1, T4⟩
    have H4 := Lib.hid (And.intro hb4 (And.intro T4 (And.intro hh1 (H3.out.2.next hb4))))
    clear hb4 hh1 T4 g1
    go_wp2_with fail
    refine (ofStripe_err (d + 1) stripe _ _ _ _ _ H4.out.2.1).mono ?_
    rintro e w5 ⟨b2, rfl, g2, hb5, hh2, T5⟩
    have H5 := Lib.hid (And.intro hb5 (And.intro T5 (And.intro hh2 (And.intro (H4.out.2.2.2.next hb5) (And.intro ((hb5.block b1 (heap_lt H4.out.2.2.1)).trans H4.out.2.2.1) (H3.out.1.trans ((H4.out.1.trans (hb5.mono H4.out.1.size)).mono H3.out.1.size)))))))
    clear hb5 hh2 T5 g2
    go_wp2_with fail
    have hb7 : Below w5.heap.size w5 ((w5.alloc (.cells #[.pointer none] 32)).alloc (.cells #[.pointer none] 55)) := (alloc_below w5 _).trans ((alloc_below _ _).mono (by simp))
    have c11 : ((w5.alloc (.cells #[.pointer none] 32)).alloc (.cells #[.pointer none] 55)).heap[w5.heap.size]? = some (.cells #[.pointer none] 32 (0, 0)) := by rw [Below.heap_alloc _ _ _ (by simp)]; exact heap_new _ _
    have c12 : ((w5.alloc (.cells #[.pointer none] 32)).alloc (.cells #[.pointer none] 55)).heap[w5.heap.size + 1]? = some (.cells #[.pointer none] 55 (0, 0)) := heap_new2 _ _ _
    obtain ⟨w7, hw7⟩ : ∃ w7, (w5.alloc (.cells #[.pointer none] 32)).alloc (.cells #[.pointer none] 55) = w7 := ⟨_, rfl⟩
    rw [hw7] at hb7 c11 c12 ⊢
    clear hw7
    have T7 := Err.below hb7 _ H5.out.2.1
    have hB7 : Below w.heap.size w w7 := H5.out.2.2.2.2.2.trans (hb7.mono H5.out.2.2.2.2.2.size)
    refine (As17_32 (d + 1 + 1) _ _ _ _ w7 w5.heap.size w5.heap.size T7 (Nat.le_refl _) (by simp [World.cell?, c11]) (by simp [World.frozen?, c11]) (HN.out.2.below hB7)).mono ?_
    rintro e w8 (⟨hl, _⟩ | ⟨n8, r8, hl, rfl, hb8, y1, z1, hy1, hc8, hh8⟩)
    · simp [nodesOf] at hl
    have e8 : n8 = node := by simp [nodesOf] at hl; exact hl.1.symm
    subst e8
    have hb8' := hb8.below (Nat.le_refl _) (Nat.le_of_lt (heap_lt c11))
    have T8 := Err.below hb8' _ T7
    have c12' : w8.heap[w5.heap.size + 1]? = some (.cells #[.pointer none] 55 (0, 0)) := by rw [hb8.block _ (heap_lt c12) (by omega)]; exact c12
    have H8 := Lib.hid (And.intro hb8' (And.intro T8 (And.intro hB7 (And.intro hb8 (And.intro hb7 c12')))))
    clear hl hb8 hb8' T8 T7 hB7 hb7 c11 c12 c12'
    go_wp2_with fail
    have hB8 : Below w.heap.size w w8 := H8.out.2.2.1.trans (H8.out.1.mono H5.out.2.2.2.2.2.size)
    refine (As17_55 (d + 1 + 1) _ _ _ _ w8 w5.heap.size (w5.heap.size + 1) H8.out.2.1 (by omega) (by simp [World.cell?, H8.out.2.2.2.2.2]) (by simp [World.frozen?, H8.out.2.2.2.2.2]) (HN.out.2.below hB8)).mono ?_
    rintro e w9 (⟨hl, _⟩ | ⟨n9, r9, hl, rfl, hb9, y2, z2, hy2, hc9, hh9⟩)
    · cases hl
    have e9 : n9 = stripe := by injection hl with h _; exact h.symm
    subst e9
    have hb9' := hb9.below (B := w5.heap.size) (by omega) (Nat.le_of_lt (Nat.lt_of_succ_lt (heap_lt H8.out.2.2.2.2.2)))
    have k1 : w9.cell? ⟨w5.heap.size, 0, none⟩ = some (.pointer (some ⟨y1, 0, none⟩)) := (hb9.cell (p := ⟨w5.heap.size, 0, none⟩) (cell?_lt hc8) (by show w5.heap.size ≠ w5.heap.size + 1; omega)).trans hc8
    have k2 : w9.cell? ⟨y1, 0, none⟩ = some (.int .i64 n8) := by
      have h : w9.heap[y1]? = some (.cells #[.int .i64 n8, z1] 42 (0, 0)) := by rw [hb9.block y1 (heap_lt hh8) (by omega)]; exact hh8
      simp [World.cell?, h]
    have k4 : w9.cell? ⟨y2, 0, none⟩ = some (.int .i64 n9) := by simp [World.cell?, hh9]
    have hB9 : Below w5.heap.size w5 w9 := (H8.out.2.2.2.2.1.trans H8.out.1).trans hb9'
    have H9 := Lib.hid (And.intro hB9 (And.intro ((Err.below hB9 _ H5.out.2.1).mono hB9.size) (And.intro ((Err.below hB9 _ H5.out.2.2.2.1).mono hB9.size) (H8.out.2.2.1.trans ((H8.out.1.trans hb9').mono H5.out.2.2.2.2.2.size)))))
    clear hl hb9 hb9' hB9 hh9 hh8 hc8 hB8
    have qn1 := neqSelf H4.out.2.1
    have qn2 := neqSelf H4.out.2.2.2
    have qe1 := eqlSelf H5.out.2.1
    go_wp2_with fail
    refine (is_part (d + 1 + 1) _ _ _ _ w9 H9.out.2.1 d _ _ _ _ H9.out.2.2.1 (by
      obtain ⟨o, ho⟩ := H3.out.2.root
      exact ⟨o, List.mem_cons_of_mem _ (List.mem_cons_of_mem _ ho)⟩)).mono ?_
    rintro e w10 ⟨rfl, hb10⟩
    have hb510 : Below w5.heap.size w5 w10 := H9.out.1.trans (hb10.mono H9.out.1.size)
    have H10 := Lib.hid (And.intro hb510 (And.intro (H9.out.2.1.next hb10) (And.intro (H9.out.2.2.1.next hb10) (H9.out.2.2.2.trans (hb10.mono H9.out.2.2.2.size)))))
    clear hb10 hb510 k1 k2 k4 hc9
    go_wp2_with fail
    refine (unwrapF b2 _ _ _ ((H10.out.1.block b2 (heap_lt H5.out.2.2.1)).trans H5.out.2.2.1)).mono ?_
    rintro e w11 ⟨rfl, rfl⟩
    go_wp2_with fail
    refine (unwrapN b1 _ _ _ ((H10.out.1.block b1 (heap_lt H5.out.2.2.2.2.1)).trans H5.out.2.2.2.2.1)).mono ?_
    rintro e w11 ⟨rfl, rfl⟩
    go_wp2_with fail
    have hj := join_row (made_row w10 #[.iface 55 (.pointer (some ⟨b2, 0, none⟩)), .nilIface, .iface t x] (by simp)) (by simp) (fun u hu => by simp at hu; rcases hu with rfl | rfl | rfl <;> simp)
    refine Calls.mono hj ?_
    intro e w11 hj2
    have hj3 : JPost [.iface 55 (.pointer (some ⟨b2, 0, none⟩)), .iface t x] (w10.alloc (.cells #[.iface 55 (.pointer (some ⟨b2, 0, none⟩)), .nilIface, .iface t x] 24)) e w11 := hj2
    have hb11 := hj3.1
    have hbB : Below w10.heap.size w10 w11 := (alloc_below w10 _).trans (hb11.mono (by simp))
    have htr := hj3.tree [((.iface 55 (.pointer (some ⟨b2, 0, none⟩)) : Value), k.cs, (.iface 55 (.pointer (some ⟨b2, 0, none⟩)), none) :: (.iface 32 (.pointer (some ⟨b1, 0, none⟩)), some n8) :: k.ns, n9 :: k.st), (.iface t x, k.cs, k.ns, k.st)] rfl (by simp) (d + 1 + 1) (two_all (P := fun z : Value × List Int × List Nd × List Int => Err (w10.alloc (.cells #[.iface 55 (.pointer (some ⟨b2, 0, none⟩)), .nilIface, .iface t x] 24)) _ (d + 1 + 1) z.1 z.2.1 z.2.2.1 z.2.2.2) (H10.out.2.1.next (alloc_below _ _)) ((H10.out.2.2.1.next (alloc_below _ _)).deep (by omega))) (by simp)
    clear hj hj2 hj3
    obtain ⟨jv, jns, rfl, TJ, _, hmem⟩ := htr
    obtain ⟨jt, jx, rfl⟩ := TJ.iface
    have H11 := Lib.hid (And.intro TJ (And.intro hmem (And.intro (H10.out.2.1.next hbB) (And.intro (H10.out.2.2.1.next hbB) (H10.out.2.2.2.trans (hbB.mono H10.out.2.2.2.size))))))
    clear hb11 hbB TJ hmem
    go_wp2_with fail
    refine (is_part _ _ _ _ _ w11 H11.out.1 _ _ _ _ _ H11.out.2.2.1 ⟨_, H11.out.2.1 _ (by simp only [List.map_cons, List.flatten_cons]; exact List.mem_append_left _ List.mem_cons_self)⟩).mono ?_
    rintro e w12 ⟨rfl, hb12⟩
    have H12 := Lib.hid hb12
    clear hb12
    go_wp2_with fail
    refine (is_part _ _ _ _ _ w12 (H11.out.1.next H12.out) _ _ _ _ _ (H11.out.2.2.2.1.next H12.out) (by
      obtain ⟨o, ho⟩ := H3.out.2.root
      refine ⟨o, H11.out.2.1 _ ?_⟩
      simp only [List.map_cons, List.flatten_cons]
      exact List.mem_append_left _ (List.mem_cons_of_mem _ (List.mem_cons_of_mem _ ho)))).mono ?_
    rintro e w13 ⟨rfl, hb13⟩
    have H13 := Lib.hid (H12.out.trans (hb13.mono H12.out.size))
    clear hb13
    have hB13 := H11.out.2.2.2.2.trans (H13.out.mono H11.out.2.2.2.2.size)
    have HE13 := Lib.hid (And.intro hB13 (HN.out.2.below hB13))
    clear hB13
    go_wp2_with fail
    refine (code_any _ _ _ _ _ w13 (H11.out.1.next H13.out) HE13.out.2).mono ?_
    rintro e w14 ⟨he14, hb14⟩
    have ec : (List.map (fun z : Value × List Int × List Nd × List Int => z.2.1) [((.iface 55 (.pointer (some ⟨b2, 0, none⟩)) : Value), k.cs, (.iface 55 (.pointer (some ⟨b2, 0, none⟩)), none) :: (.iface 32 (.pointer (some ⟨b1, 0, none⟩)), some n8) :: k.ns, n9 :: k.st), (.iface t x, k.cs, k.ns, k.st)]).flatten = k.cs ++ k.cs := by simp
    have he14' : e = .returned (.int .i64 (codeOf k.cs)) := by rw [he14]; exact congrArg (fun n => Ending.returned (.int .i64 n)) (by rw [← codeOf_twice k.cs, ← ec])
    subst he14'
    have H14 := Lib.hid (And.intro (H13.out.trans (hb14.mono H13.out.size)) (HE13.out.1.trans (hb14.mono HE13.out.1.size)))
    clear he14 hb14 ec
    go_wp2_with fail
    refine (code_any _ _ _ _ _ w14 (H11.out.2.2.2.1.next H14.out.1) (HN.out.2.below H14.out.2)).mono ?_
    rintro e w15 ⟨rfl, hb15⟩
    have H15 := Lib.hid (H14.out.2.trans (hb15.mono H14.out.2.size))
    clear hb15
    go_wp2_with fail
    have hj := join_row (made_row w15 #[.nilIface, .iface 55 (.pointer (some ⟨b2, 0, none⟩))] (by simp)) (by simp) (fun u hu => by simp at hu; rcases hu with rfl | rfl <;> simp)
    refine Calls.mono hj ?_
    intro e w16 hj2
    have hj3 : JPost [.iface 55 (.pointer (some ⟨b2, 0, none⟩))] (w15.alloc (.cells #[.nilIface, .iface 55 (.pointer (some ⟨b2, 0, none⟩))] 24)) e w16 := hj2
    obtain ⟨hb16, ⟨h0, _⟩ | ⟨y, h1, rfl⟩ | ⟨h2, _⟩⟩ := hj3
    · cases h0
    · cases h1
      have H16 := Lib.hid (H15.out.trans (((alloc_below w15 _).trans (hb16.mono (by simp))).mono H15.out.size))
      clear hj hj2 hb16
      go_wp2_with fail
      go_ret
      exact ⟨rfl, H16.out⟩
    · simp at h2

end Go.Proofs.YtbifpjdkljibeaaDoor
