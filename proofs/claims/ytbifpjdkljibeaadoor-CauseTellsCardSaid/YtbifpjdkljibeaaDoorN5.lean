import Derived.Test.YtbifpjdkljibeaaDoorN4
import Derived.Test.YtbifpjdkljibeaaDoorX
namespace Go.Proofs.YtbifpjdkljibeaaDoor
open Go.RowKit Go.Extern.Stop Go.Stop Go.Extern Go.Extern.Rtype

theorem mErN (a : Addr) (w : World) : (method 262 32 (.pointer (some a)) "Error").run Tryd.prog w = .ok (82, .pointer (some a)) w := by kernel_rfl
theorem mErA (a : Addr) (w : World) : (method 262 33 (.pointer (some a)) "Error").run Tryd.prog w = .ok (16, .pointer (some a)) w := by kernel_rfl
theorem naErN (a : Addr) (w : World) : (nilAhead 262 32 (.pointer (some a)) "Error").run Tryd.prog w = .ok (some false) w := by kernel_rfl
theorem naErA (a : Addr) (w : World) : (nilAhead 262 33 (.pointer (some a)) "Error").run Tryd.prog w = .ok (some false) w := by kernel_rfl

def tA : List UInt8 := [110, 111, 100, 101, 32, 51, 58, 32, 101, 114, 114, 110, 111, 32, 56]
def tB : List UInt8 := [110, 111, 100, 101, 32, 51, 58, 32, 101, 114, 114, 110, 111, 32, 56, 59, 32, 115, 116, 114, 105, 112, 101, 32, 50, 58, 32, 120]
def tO : List UInt8 := [110, 111, 110, 101, 59, 32, 101, 114, 114, 110, 111, 32, 49]

/-- What is there behind CauseKnown's first lines: a (an On at ba), b (an All at bb), odd (an All at bo). -/
structure St (w : World) (ba bb gb cap bo go : Nat) : Prop where
  et : ErrType w
  ea : ∃ ns, Err w w.heap.size 2 (.iface 32 (.pointer (some ⟨ba, 0, none⟩))) [8] ns []
  eb : ∃ ns, Err w w.heap.size 4 (.iface 33 (.pointer (some ⟨bb, 0, none⟩))) [8] ns [2] ∧ nodesOf ns = [3]
  ta : Txt w w.heap.size 2 (.iface 32 (.pointer (some ⟨ba, 0, none⟩))) tA
  tb : Txt w w.heap.size 4 (.iface 33 (.pointer (some ⟨bb, 0, none⟩))) tB
  hb : w.heap[bb]? = some (.cells #[.slice (some ⟨gb, 0, none⟩) 2 cap] 35 (0, 0))
  od : Odd bo go w
  tod : Txt w w.heap.size 2 (.iface 33 (.pointer (some ⟨bo, 0, none⟩))) tO

theorem St.below {w w' : World} {ba bb gb cap bo go : Nat} (h : St w ba bb gb cap bo go) (hb : Below w.heap.size w w') : St w' ba bb gb cap bo go :=
  ⟨h.et.below hb, h.ea.imp fun _ e => (e.below hb).mono hb.size, h.eb.imp fun _ e => ⟨(e.1.below hb).mono hb.size, e.2⟩, h.ta.below hb hb.size, h.tb.below hb hb.size, Rest_any hb h.hb, h.od.below hb (heap_lt h.od.1) (heap_lt h.od.2), h.tod.below hb hb.size⟩

/-- .. and the two variables that errors.As fills. -/
structure Kn (base : Nat) (w0 : World) (ba bb gb cap bo go bn bv : Nat) (von val : Value) (w : World) : Prop where
  st : St w ba bb gb cap bo go
  on : w.heap[bn]? = some (.cells #[von] 32 (0, 0))
  al : w.heap[bv]? = some (.cells #[val] 33 (0, 0))
  bl : Below base w0 w
  en : ∃ ns, Err w bn 4 (.iface 33 (.pointer (some ⟨bb, 0, none⟩))) [8] ns [2] ∧ nodesOf ns = [3]
  ge : base ≤ bn
  bbn : bb < bn
  ne : bn < bv ∧ bv < go ∧ go < bo

theorem Kn.below {base : Nat} {w0 w w' : World} {ba bb gb cap bo go bn bv : Nat} {von val : Value} (h : Kn base w0 ba bb gb cap bo go bn bv von val w) (hs : base ≤ w0.heap.size) (hb : Below w.heap.size w w') : Kn base w0 ba bb gb cap bo go bn bv von val w' :=
  ⟨h.st.below hb, Rest_any hb h.on, Rest_any hb h.al, h.bl.trans (hb.mono (Nat.le_trans hs h.bl.size)), h.en.imp fun _ e => ⟨e.1.below (hb.mono (Nat.le_of_lt (heap_lt h.on))), e.2⟩, h.ge, h.bbn, h.ne⟩

set_option maxRecDepth 100000 in
set_option maxHeartbeats 4000000 in
theorem known3 (w : World) (hE : ErrType w) : Calls Tryd.prog 3 #[] w fun e w' => e = .returned (.bool true) ∧ Below w.heap.size w w' := by
  have HE := Lib.hid hE
  have q1 := eqlNilNil
  clear hE
  go_enter Tryd.func3, Tryd.ntmps3
  go_wp2_with fail
  refine (known8 _ HE.out).mono ?_
  rintro e w1 ⟨rfl, hb1⟩
  have H1 := Lib.hid (And.intro hb1 (HE.out.below hb1))
  clear hb1
  go_wp2_with fail
  refine (atNode_err 1 3 _ _ _ _ _ (errno_err _ _ 8)).mono ?_
  rintro e w2 ⟨ba, rfl, hba, hw2, hh2, he2⟩
  have H2 := Lib.hid (And.intro (H1.out.1.trans (hw2.mono H1.out.1.size)) (And.intro (H1.out.2.below hw2) (And.intro hh2 he2)))
  clear hba hw2 hh2 he2
  go_wp2_with fail
  refine (new12 _ _).mono ?_
  rintro e w3 ⟨rfl, hw3⟩
  have hb3 : Below w2.heap.size w2 w3 := by rw [hw3]; exact (Below.refl _ _).alloc (Nat.le_refl _) _
  have hx3 : w3.heap[w2.heap.size]? = some (.cells #[.string ⟨#[120]⟩] 66 (0, 0)) := by rw [hw3]; exact heap_new _ _
  generalize w2.heap.size = bx at hx3
  have hex : Err w3 w3.heap.size 1 (.iface 64 (.pointer (some ⟨bx, 0, none⟩))) [] [(.iface 64 (.pointer (some ⟨bx, 0, none⟩)), none)] [] := .inr (.inl ⟨bx, _, rfl, heap_lt hx3, hx3, rfl, rfl, rfl⟩)
  have H3 := Lib.hid (And.intro (H2.out.1.trans (hb3.mono H2.out.1.size)) (And.intro (H2.out.2.1.below hb3) (And.intro (Rest_any hb3 H2.out.2.2.1) (And.intro ((H2.out.2.2.2.below hb3).mono hb3.size) (And.intro hx3 hex)))))
  clear hb3 hx3 hex hw3
  go_wp2_with fail
  refine (ofStripe_err 1 2 _ _ _ _ _ H3.out.2.2.2.2.2).mono ?_
  rintro e w4 ⟨bf, rfl, hbf, hw4, hh4, he4⟩
  have H4 := Lib.hid (And.intro (H3.out.1.trans (hw4.mono H3.out.1.size)) (And.intro (H3.out.2.1.below hw4) (And.intro (Rest_any hw4 H3.out.2.2.1) (And.intro ((H3.out.2.2.2.1.below hw4).mono hw4.size) (And.intro (Rest_any hw4 H3.out.2.2.2.2.1) (And.intro hh4 he4))))))
  clear hbf hw4 hh4 he4
  go_wp2_with fail
  have hj0 := join10 (some ⟨w4.heap.size, 0, none⟩) [.iface 32 (.pointer (some ⟨ba, 0, none⟩)), .iface 55 (.pointer (some ⟨bf, 0, none⟩))] 2 (w4.alloc (.cells #[.iface 32 (.pointer (some ⟨ba, 0, none⟩)), .iface 55 (.pointer (some ⟨bf, 0, none⟩))] 24)) (by simp) (by
      intro x hx
      simp only [List.mem_cons, List.not_mem_nil, or_false] at hx
      rcases hx with rfl | rfl
      · exact .inr ⟨_, _, rfl⟩
      · exact .inr ⟨_, _, rfl⟩) (by
      intro i x hx
      refine ⟨w4.heap.size, 0, rfl, by simp, ?_⟩
      rcases i with _ | _ | i
      · cases hx; simp [go_sem]
      · cases hx; simp [go_sem]
      · simp at hx)
  refine Calls.mono hj0 ?_
  clear hj0
  intro e w5 hj
  have hnew : Below w4.heap.size w4 (w4.alloc (.cells #[.iface 32 (.pointer (some ⟨ba, 0, none⟩)), .iface 55 (.pointer (some ⟨bf, 0, none⟩))] 24)) := (Below.refl _ _).alloc (Nat.le_refl _) _
  have hw45 : Below w4.heap.size w4 w5 := hnew.trans (hj.1.mono hnew.size)
  obtain ⟨v5, ns5, he5, herr5, hn5, _⟩ := JPost.tree hj
    [(.iface 32 (.pointer (some ⟨ba, 0, none⟩)), [8], [(.iface 32 (.pointer (some ⟨ba, 0, none⟩)), some 3), (.iface 26 (.int .i64 8), none)], []),
     (.iface 55 (.pointer (some ⟨bf, 0, none⟩)), [], [(.iface 55 (.pointer (some ⟨bf, 0, none⟩)), none), (.iface 64 (.pointer (some ⟨bx, 0, none⟩)), none)], [2])] rfl (by simp) 2 (by
      intro i z hz
      rcases i with _ | _ | i
      · cases hz; exact (H4.out.2.2.2.1.below hnew).mono hnew.size
      · cases hz; exact (H4.out.2.2.2.2.2.2.below hnew).mono hnew.size
      · simp at hz) (by simp)
  have hal : alive [.iface 32 (.pointer (some ⟨ba, 0, none⟩)), .iface 55 (.pointer (some ⟨bf, 0, none⟩))] = [.iface 32 (.pointer (some ⟨ba, 0, none⟩)), .iface 55 (.pointer (some ⟨bf, 0, none⟩))] := rfl
  rw [hal] at hj
  obtain ⟨_, ⟨h0, _⟩ | ⟨y, h1, _⟩ | ⟨_, bb, gb, cap, row, hev, _, _, hhb, hrow, hcap, htake⟩⟩ := hj
  · cases h0
  · cases h1
  subst hev
  obtain rfl : v5 = .iface 33 (.pointer (some ⟨bb, 0, none⟩)) := by cases he5; rfl
  have hta : Txt w5 w5.heap.size 2 (.iface 32 (.pointer (some ⟨ba, 0, none⟩))) tA := .inr (.inr (.inr (.inl ⟨ba, 3, .iface 26 (.int .i64 8), tErr 8, rfl, heap_lt (Rest_any hw45 H4.out.2.2.1), Rest_any hw45 H4.out.2.2.1, by omega, by omega, .inr (.inl ⟨8, rfl, by omega, by omega, rfl⟩), rfl⟩)))
  have htf : Txt w5 w5.heap.size 2 (.iface 55 (.pointer (some ⟨bf, 0, none⟩))) [115, 116, 114, 105, 112, 101, 32, 50, 58, 32, 120] :=
    .inr (.inr (.inr (.inr (.inl ⟨bf, 2, _, [120], rfl, heap_lt (Rest_any hw45 H4.out.2.2.2.2.2.1), Rest_any hw45 H4.out.2.2.2.2.2.1, by omega, by omega, .inr (.inr (.inl ⟨bx, ⟨#[120]⟩, rfl, heap_lt (Rest_any hw45 H4.out.2.2.2.2.1), Rest_any hw45 H4.out.2.2.2.2.1, rfl⟩)), rfl⟩))))
  have htb : Txt w5 w5.heap.size 4 (.iface 33 (.pointer (some ⟨bb, 0, none⟩))) tB := by
    refine .inr (.inr (.inr (.inr (.inr ⟨bb, gb, 2, cap, row, [(.iface 32 (.pointer (some ⟨ba, 0, none⟩)), tA), (.iface 55 (.pointer (some ⟨bf, 0, none⟩)), [115, 116, 114, 105, 112, 101, 32, 50, 58, 32, 120])], rfl, heap_lt hhb, heap_lt hrow, hhb, hrow, ⟨by omega, by omega⟩, rfl, ?_, rfl⟩))))
    intro i z hz
    rcases i with _ | _ | i
    · cases hz
      have := congrArg (fun l : List Value => l[0]?) htake
      exact ⟨by simpa [List.getElem?_take] using this, hta.deeper⟩
    · cases hz
      have := congrArg (fun l : List Value => l[1]?) htake
      exact ⟨by simpa [List.getElem?_take] using this, htf.deeper⟩
    · simp at hz
  have H5 := Lib.hid (And.intro (H4.out.1.trans (hw45.mono H4.out.1.size)) (And.intro (H4.out.2.1.below hw45) (And.intro ((H4.out.2.2.2.1.below hw45).mono hw45.size) (And.intro herr5 (And.intro hn5 (And.intro hta (And.intro htb hhb)))))))
  clear hnew hw45 he5 herr5 hn5 hal hhb hrow hcap htake hta htf htb
  go_wp2_with fail
  refine (stripe_any 2 _ _ _ _ _ H5.out.2.2.1 H5.out.2.1).mono ?_
  rintro e w6 ⟨he6, hb6⟩
  obtain rfl : e = .returned (.tuple #[.int .i64 0, .bool false]) := he6
  have H6 := Lib.hid hb6
  clear hb6
  go_wp2_with fail
  have hnew : Below w6.heap.size w6 ((((w6.alloc (.cells #[.pointer none] 32)).alloc (.cells #[.pointer none] 33)).alloc (.cells #[.nilIface, .iface 26 (.int .i64 1)] 24)).alloc (.cells #[.slice (some ⟨w6.heap.size + 1 + 1, 0, none⟩) 2 2] 35)) :=
    ((((Below.refl _ w6).alloc (Nat.le_refl _) _).alloc (by simp) _).alloc (by simp; try omega) _).alloc (by simp; try omega) _
  have hn0 : ((((w6.alloc (.cells #[.pointer none] 32)).alloc (.cells #[.pointer none] 33)).alloc (.cells #[.nilIface, .iface 26 (.int .i64 1)] 24)).alloc (.cells #[.slice (some ⟨w6.heap.size + 1 + 1, 0, none⟩) 2 2] 35)).heap[w6.heap.size]? = some (.cells #[.pointer none] 32 (0, 0)) := by
    rw [Below.heap_alloc _ _ _ (by simp; try omega), Below.heap_alloc _ _ _ (by simp; try omega), Below.heap_alloc _ _ _ (by simp)]; exact heap_new _ _
  have hn1 : ((((w6.alloc (.cells #[.pointer none] 32)).alloc (.cells #[.pointer none] 33)).alloc (.cells #[.nilIface, .iface 26 (.int .i64 1)] 24)).alloc (.cells #[.slice (some ⟨w6.heap.size + 1 + 1, 0, none⟩) 2 2] 35)).heap[w6.heap.size + 1]? = some (.cells #[.pointer none] 33 (0, 0)) := by
    rw [Below.heap_alloc _ _ _ (by simp; try omega), Below.heap_alloc _ _ _ (by simp)]; exact heap_new2 _ _ _
  have hn2 : ((((w6.alloc (.cells #[.pointer none] 32)).alloc (.cells #[.pointer none] 33)).alloc (.cells #[.nilIface, .iface 26 (.int .i64 1)] 24)).alloc (.cells #[.slice (some ⟨w6.heap.size + 1 + 1, 0, none⟩) 2 2] 35)).heap[w6.heap.size + 1 + 1]? = some (.cells #[.nilIface, .iface 26 (.int .i64 1)] 24 (0, 0)) := by
    rw [Below.heap_alloc _ _ _ (by simp)]
    have := heap_new2 (w6.alloc (.cells #[.pointer none] 32)) (.cells #[.pointer none] 33) (.cells #[.nilIface, .iface 26 (.int .i64 1)] 24)
    rw [World.size_alloc] at this; exact this
  have hn3 : ((((w6.alloc (.cells #[.pointer none] 32)).alloc (.cells #[.pointer none] 33)).alloc (.cells #[.nilIface, .iface 26 (.int .i64 1)] 24)).alloc (.cells #[.slice (some ⟨w6.heap.size + 1 + 1, 0, none⟩) 2 2] 35)).heap[w6.heap.size + 1 + 1 + 1]? = some (.cells #[.slice (some ⟨w6.heap.size + 1 + 1, 0, none⟩) 2 2] 35 (0, 0)) := by
    have := heap_new2 ((w6.alloc (.cells #[.pointer none] 32)).alloc (.cells #[.pointer none] 33)) (.cells #[.nilIface, .iface 26 (.int .i64 1)] 24) (.cells #[.slice (some ⟨w6.heap.size + 1 + 1, 0, none⟩) 2 2] 35)
    rw [World.size_alloc, World.size_alloc] at this; exact this
  generalize ((((w6.alloc (.cells #[.pointer none] 32)).alloc (.cells #[.pointer none] 33)).alloc (.cells #[.nilIface, .iface 26 (.int .i64 1)] 24)).alloc (.cells #[.slice (some ⟨w6.heap.size + 1 + 1, 0, none⟩) 2 2] 35)) = w7 at *
  have hw57 : Below w5.heap.size w5 w7 := H6.out.trans (hnew.mono H6.out.size)
  have hto : Txt w7 w7.heap.size 2 (.iface 33 (.pointer (some ⟨w6.heap.size + 1 + 1 + 1, 0, none⟩))) tO := by
    refine .inr (.inr (.inr (.inr (.inr ⟨w6.heap.size + 1 + 1 + 1, w6.heap.size + 1 + 1, 2, 2, #[.nilIface, .iface 26 (.int .i64 1)], [(.nilIface, tNone), (.iface 26 (.int .i64 1), tErr 1)], rfl, heap_lt hn3, heap_lt hn2, hn3, hn2, ⟨by omega, by omega⟩, rfl, ?_, rfl⟩))))
    intro i z hz
    rcases i with _ | _ | i
    · cases hz; exact ⟨rfl, .inl ⟨rfl, rfl⟩⟩
    · cases hz; exact ⟨rfl, .inr (.inl ⟨1, rfl, by omega, by omega, rfl⟩)⟩
    · simp at hz
  have K7 := Lib.hid (show Kn w.heap.size w ba bb gb cap (w6.heap.size + 1 + 1 + 1) (w6.heap.size + 1 + 1) w6.heap.size (w6.heap.size + 1) (.pointer none) (.pointer none) w7 from
    ⟨⟨H5.out.2.1.below hw57, ⟨_, (H5.out.2.2.1.below hw57).mono hw57.size⟩, ⟨_, ((H5.out.2.2.2.1.below hw57).mono hw57.size).deeper, H5.out.2.2.2.2.1⟩, H5.out.2.2.2.2.2.1.below hw57 hw57.size, H5.out.2.2.2.2.2.2.1.below hw57 hw57.size, Rest_any hw57 H5.out.2.2.2.2.2.2.2, ⟨hn3, hn2⟩, hto⟩, hn0, hn1, H5.out.1.trans (hw57.mono H5.out.1.size), ⟨_, ((H5.out.2.2.2.1.below hw57).mono H6.out.size).deeper, H5.out.2.2.2.2.1⟩, Nat.le_trans H5.out.1.size H6.out.size, Nat.lt_of_lt_of_le (heap_lt H5.out.2.2.2.2.2.2.2) H6.out.size, by omega, by omega, by omega⟩)
  have hbn : w6.heap.size < w6.heap.size + 1 := by omega
  clear hnew hn0 hn1 hn2 hn3 hw57 hto H1 H2 H3 H4 H5 H6
  generalize w6.heap.size + 1 + 1 + 1 = bo at *
  generalize w6.heap.size + 1 + 1 = go' at *
  generalize w6.heap.size + 1 = bv at *
  generalize w6.heap.size = bn at *
  refine (atNode_nil 1 _).mono ?_
  rintro e w' ⟨rfl, rfl⟩
  go_wp2_with fail
  refine (ofStripe_nil 1 _).mono ?_
  rintro e w' ⟨rfl, rfl⟩
  go_wp2_with fail
  refine (join_none _).mono ?_
  rintro e w' ⟨he, hb⟩
  obtain rfl : e = .returned .nilIface := he
  have K8 := Lib.hid (K7.out.below (Nat.le_refl _) hb)
  clear hb
  go_wp2_with fail
  have hj0 := join10 (some ⟨w'.heap.size, 0, none⟩) [.nilIface, .iface 32 (.pointer (some ⟨ba, 0, none⟩)), .nilIface] 3 (w'.alloc (.cells #[.nilIface, .iface 32 (.pointer (some ⟨ba, 0, none⟩)), .nilIface] 24)) (by simp) (by
      intro x hx
      simp only [List.mem_cons, List.not_mem_nil, or_false] at hx
      rcases hx with rfl | rfl | rfl
      · exact .inl rfl
      · exact .inr ⟨_, _, rfl⟩
      · exact .inl rfl) (by
      intro i x hx
      refine ⟨w'.heap.size, 0, rfl, by simp, ?_⟩
      rcases i with _ | _ | _ | i
      · cases hx; simp [go_sem]
      · cases hx; simp [go_sem]
      · cases hx; simp [go_sem]
      · simp at hx)
  refine Calls.mono hj0 ?_
  clear hj0
  have hal : alive [.nilIface, .iface 32 (.pointer (some ⟨ba, 0, none⟩)), .nilIface] = [.iface 32 (.pointer (some ⟨ba, 0, none⟩))] := rfl
  rw [hal]
  clear hal
  rintro e w9 ⟨hb, ⟨h0, _⟩ | ⟨y, h1, rfl⟩ | ⟨h2, _⟩⟩
  · cases h0
  case inr.inr => simp at h2
  cases h1
  have K9 := Lib.hid (K8.out.below (Nat.le_refl _) (((Below.refl _ w').alloc (Nat.le_refl _) _).trans (hb.mono (by simp))))
  clear hb
  have q2 := ptrT32.same
  go_wp2_with fail
  refine (code_nil _).mono ?_
  rintro e w' ⟨rfl, rfl⟩
  go_wp2_with fail
  refine (new12 _ _).mono ?_
  rintro e w10 ⟨rfl, hw10⟩
  have hx10 : w10.heap[w9.heap.size]? = some (.cells #[.string ⟨#[121]⟩] 66 (0, 0)) := by rw [hw10]; exact heap_new _ _
  have K10 := Lib.hid (K9.out.below (Nat.le_refl _) (show Below w9.heap.size w9 w10 by rw [hw10]; exact (Below.refl _ _).alloc (Nat.le_refl _) _))
  have E10 := Lib.hid (show Err w10 w10.heap.size 1 (.iface 64 (.pointer (some ⟨w9.heap.size, 0, none⟩))) [] [(.iface 64 (.pointer (some ⟨w9.heap.size, 0, none⟩)), none)] [] from .inr (.inl ⟨w9.heap.size, _, rfl, heap_lt hx10, hx10, rfl, rfl, rfl⟩))
  clear hx10 hw10
  generalize w9.heap.size = by' at *
  go_wp2_with fail
  refine (code_any 1 _ _ _ _ _ E10.out K10.out.st.et).mono ?_
  rintro e w' ⟨he, hb⟩
  obtain rfl : e = .returned (.int .i64 8) := he
  have K11 := Lib.hid (K10.out.below (Nat.le_refl _) hb)
  clear hb
  go_wp2_with fail
  refine (cis_nil _ 8).mono ?_
  rintro e w' ⟨he, hb⟩
  obtain rfl : e = .returned (.bool false) := he
  have K12 := Lib.hid (K11.out.below (Nat.le_refl _) hb)
  clear hb
  go_wp2_with fail
  obtain ⟨nsb, heb, hnb⟩ := K12.out.st.eb
  refine (cis_any 4 _ _ _ _ _ 8 heb).mono ?_
  rintro e w' ⟨he, hb⟩
  obtain rfl : e = .returned (.bool true) := he
  have K13 := Lib.hid (K12.out.below (Nat.le_refl _) hb)
  clear hb
  go_wp2_with fail
  clear heb hnb
  have m1 := mErN
  have m2 := mErA
  have m3 := naErN
  have m4 := naErA
  obtain ⟨nsb2, heb, hnb⟩ := K13.out.st.eb
  refine (cis_any 4 _ _ _ _ _ 1 heb).mono ?_
  rintro e w' ⟨he, hb⟩
  obtain rfl : e = .returned (.bool false) := he
  have K14 := Lib.hid (K13.out.below (Nat.le_refl _) hb)
  clear hb
  go_wp2_with fail
  clear heb hnb
  refine (onError 2 _ tA _ K14.out.st.ta (by decide)).mono ?_
  rintro e w' ⟨he, hb⟩
  obtain rfl : e = .returned (.string ⟨#[110, 111, 100, 101, 32, 51, 58, 32, 101, 114, 114, 110, 111, 32, 56]⟩) := he
  have K15 := Lib.hid (K14.out.below (Nat.le_refl _) hb)
  clear hb
  go_wp2_with fail
  refine (allError 4 _ tB _ K15.out.st.tb (by decide)).mono ?_
  rintro e w' ⟨he, hb⟩
  obtain rfl : e = .returned (.string ⟨#[110, 111, 100, 101, 32, 51, 58, 32, 101, 114, 114, 110, 111, 32, 56, 59, 32, 115, 116, 114, 105, 112, 101, 32, 50, 58, 32, 120]⟩) := he
  have K16 := Lib.hid (K15.out.below (Nat.le_refl _) hb)
  clear hb
  go_wp2_with fail
  refine (allError 2 _ tO _ K16.out.st.tod (by decide)).mono ?_
  rintro e w' ⟨he, hb⟩
  obtain rfl : e = .returned (.string ⟨#[110, 111, 110, 101, 59, 32, 101, 114, 114, 110, 111, 32, 49]⟩) := he
  have K17 := Lib.hid (K16.out.below (Nat.le_refl _) hb)
  clear hb
  go_wp2_with fail
  obtain ⟨nsn, hen, hnn⟩ := K17.out.en
  have hbase : 0 < w.heap.size := cell?_lt HE.out
  have hnef := K17.out.ne
  have hge := K17.out.ge
  have hbbn := K17.out.bbn
  refine (As17_32 4 _ _ _ _ _ bn bn hen (Nat.le_refl _) (by simp [World.cell?, K17.out.on]) (by simp [World.frozen?, K17.out.on]) K17.out.st.et).mono ?_
  rw [hnn]
  clear hen hnn
  rintro e w18 (⟨hl, _, _⟩ | ⟨n, r, hl, rfl, hbut, bq, y, hbq, hcq, hhq⟩)
  · cases hl
  cases hl
  have S18 := Lib.hid (show ErrType w18 ∧ w18.heap[bv]? = some (.cells #[.pointer none] 33 (0, 0)) ∧ w18.heap[bb]? = some (.cells #[.slice (some ⟨gb, 0, none⟩) 2 cap] 35 (0, 0)) ∧ Odd bo go' w18 ∧ Below w.heap.size w w18 from
    ⟨by unfold ErrType; rw [hbut.cell (p := ⟨0, 0, none⟩) (cell?_lt K17.out.st.et) (by show 0 ≠ bn; omega)]; exact K17.out.st.et,
     by rw [hbut.block bv (heap_lt K17.out.al) (by omega)]; exact K17.out.al, by rw [hbut.block bb (heap_lt K17.out.st.hb) (by omega)]; exact K17.out.st.hb,
     ⟨by rw [hbut.block bo (heap_lt K17.out.st.od.1) (by omega)]; exact K17.out.st.od.1, by rw [hbut.block go' (heap_lt K17.out.st.od.2) (by omega)]; exact K17.out.st.od.2⟩,
     K17.out.bl.trans (hbut.below hge (Nat.le_trans hge (Nat.le_of_lt (heap_lt K17.out.on))))⟩)
  have hc3 : w18.cell? ⟨bq, 0, none⟩ = some (.int .i64 3) := by simp [World.cell?, hhq]
  clear hbut hhq
  go_wp2_with fail
  refine (As17_33 bb _ bv (by simp [World.cell?, S18.out.2.1]) (by simp [World.frozen?, S18.out.2.1]) S18.out.1).mono ?_
  rintro e w19 ⟨rfl, hbut, hcv⟩
  have hcb : w19.cell? ⟨bb, 0, none⟩ = some (.slice (some ⟨gb, 0, none⟩) 2 cap) := by
    rw [hbut.cell (p := ⟨bb, 0, none⟩) (heap_lt S18.out.2.2.1) (by show bb ≠ bv; omega)]; simp [World.cell?, S18.out.2.2.1]
  have S19 := Lib.hid (show ErrType w19 ∧ Odd bo go' w19 ∧ Below w.heap.size w w19 from
    ⟨by unfold ErrType; rw [hbut.cell (p := ⟨0, 0, none⟩) (cell?_lt S18.out.1) (by show 0 ≠ bv; omega)]; exact S18.out.1,
     ⟨by rw [hbut.block bo (heap_lt S18.out.2.2.2.1.1) (by omega)]; exact S18.out.2.2.2.1.1, by rw [hbut.block go' (heap_lt S18.out.2.2.2.1.2) (by omega)]; exact S18.out.2.2.2.1.2⟩,
     S18.out.2.2.2.2.trans (hbut.below (by omega) (Nat.le_trans (Nat.le_of_lt (Nat.lt_of_le_of_lt hge hnef.1)) (Nat.le_of_lt (heap_lt S18.out.2.1))))⟩)
  clear hbut
  go_wp2_with fail
  refine (nodes_nil _).mono ?_
  rintro e w20 ⟨rfl, hb⟩
  have S20 := Lib.hid (show ErrType w20 ∧ Odd bo go' w20 ∧ Below w.heap.size w w20 from ⟨S19.out.1.below hb, S19.out.2.1.below hb (heap_lt S19.out.2.1.1) (heap_lt S19.out.2.1.2), S19.out.2.2.trans (hb.mono S19.out.2.2.size)⟩)
  clear hb
  go_wp2_with fail
  refine (code_odd bo go' _ S20.out.2.1 S20.out.1).mono ?_
  rintro e w21 ⟨rfl, hb⟩
  have S21 := Lib.hid (S20.out.2.2.trans (hb.mono S20.out.2.2.size))
  clear hb
  go_wp2_with fail
  go_ret
  exact ⟨rfl, S21.out⟩

end Go.Proofs.YtbifpjdkljibeaaDoor
