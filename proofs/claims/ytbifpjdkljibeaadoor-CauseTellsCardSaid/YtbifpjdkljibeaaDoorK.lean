import Derived.Test.YtbifpjdkljibeaaDoorJ
namespace Go.Proofs.YtbifpjdkljibeaaDoor
open Go.RowKit Go.Extern.Stop Go.Stop Go.Extern Go.Extern.Rtype

def codeOf : List Int → Int
  | [] => 8
  | n :: _ => n

set_option maxRecDepth 100000 in
set_option maxHeartbeats 1000000 in
theorem code_nil (w : World) : Calls Tryd.prog 14 #[.nilIface] w fun e w' => e = .returned (.int .i64 0) ∧ w = w' := by
  have q := eqlNilNil
  go_enter Tryd.func14, Tryd.ntmps14
  go_wp2
  go_ret
  exact ⟨rfl, rfl⟩

set_option maxRecDepth 100000 in
set_option maxHeartbeats 1000000 in
theorem code_any (d : Nat) (v : Value) (cs : List Int) (ns : List Nd) (ss : List Int) (w : World) (herr : Err w w.heap.size d v cs ns ss) (hE : ErrType w) :
    Calls Tryd.prog 14 #[v] w fun e w' => e = .returned (.int .i64 (codeOf cs)) ∧ Below w.heap.size w w' := by
  obtain ⟨t, u, rfl⟩ := herr.iface
  have h0 : 0 < w.heap.size := cell?_lt hE
  have q1 := eqlNil
  have HE := Lib.hid (And.intro herr hE)
  clear herr hE
  go_enter Tryd.func14, Tryd.ntmps14
  go_wp2_with fail
  refine (find26 d _ cs ns ss _ w.heap.size w.heap.size (HE.out.1.below ((Below.refl _ w).alloc (Nat.le_refl _) _)) (Nat.le_refl _) ?_ ?_ ?_).mono ?_
  · simp [go_sem]
  · simp [go_sem]
  · show World.cell? _ _ = _
    rw [World.cell?_alloc_past _ _ _ h0]; exact HE.out.2
  rintro e w' (⟨rfl, rfl, hb⟩ | ⟨n, r, rfl, rfl, hb, h2⟩)
  · have HB := Lib.hid hb
    clear hb
    go_wp2
    go_ret
    exact ⟨rfl, ((Below.refl _ w).alloc (Nat.le_refl _) _).trans (HB.out.mono (by simp))⟩
  · have HB := Lib.hid hb
    clear hb
    go_wp2
    go_ret
    exact ⟨rfl, ((Below.refl _ w).alloc (Nat.le_refl _) _).trans (HB.out.below (Nat.le_refl _) (by simp))⟩

def stripeOf : List Int → Int
  | [] => 0
  | n :: _ => n
def stripeIs : List Int → Bool
  | [] => false
  | _ :: _ => true

set_option maxRecDepth 100000 in
set_option maxHeartbeats 1000000 in
theorem stripe_any (d : Nat) (v : Value) (cs : List Int) (ns : List Nd) (ss : List Int) (w : World) (herr : Err w w.heap.size d v cs ns ss) (hE : ErrType w) :
    Calls Tryd.prog 13 #[v] w fun e w' => e = .returned (.tuple #[.int .i64 (stripeOf ss), .bool (stripeIs ss)]) ∧ Below w.heap.size w w' := by
  obtain ⟨t, u, rfl⟩ := herr.iface
  have h0 : 0 < w.heap.size := cell?_lt hE
  have q1 := eqlNil
  have HE := Lib.hid (And.intro herr hE)
  clear herr hE
  go_enter Tryd.func13, Tryd.ntmps13
  go_wp2_with fail
  refine (find55 d _ cs ns ss _ w.heap.size w.heap.size (HE.out.1.below ((Below.refl _ w).alloc (Nat.le_refl _) _)) (Nat.le_refl _) ?_ ?_ ?_).mono ?_
  · simp [go_sem]
  · simp [go_sem]
  · show World.cell? _ _ = _
    rw [World.cell?_alloc_past _ _ _ h0]; exact HE.out.2
  rintro e w' (⟨rfl, rfl, hb⟩ | ⟨n, r, rfl, rfl, hb, b, y, h3, h2, h4⟩)
  · have HB := Lib.hid hb
    clear hb
    go_wp2
    go_ret2
    exact ⟨rfl, ((Below.refl _ w).alloc (Nat.le_refl _) _).trans (HB.out.mono (by simp))⟩
  · have HB := Lib.hid hb
    have h5 : w'.cell? ⟨b, 0, none⟩ = some (.int .i64 n) := by simp [World.cell?, h4]
    clear hb h4
    go_wp2
    go_ret2
    exact ⟨rfl, ((Below.refl _ w).alloc (Nat.le_refl _) _).trans (HB.out.below (Nat.le_refl _) (by simp))⟩

end Go.Proofs.YtbifpjdkljibeaaDoor
