import Derived.Test.YtbifpjdkljibeaaDoorK3
import Derived.Deep.RegionHeld3
namespace Go.Proofs.YtbifpjdkljibeaaDoor
open Go.RowKit Go.Extern.Stop Go.Stop Go.Extern Go.Extern.Rtype

theorem taO32 (t : TypeId) (ht : t ≠ 32) (v : Value) (xT : TypeId) (w : World) : (Instr.typeAssert (.iface t v) xT 32 true).run Tryd.prog w = .ok (.tuple #[.pointer none, .bool false]) w := by
  have hz : (zeroValue 32).run Tryd.prog w = .ok (.pointer none) w := by kernel_rfl
  simp [Instr.typeAssert, run_underlying Tryd.underlying32, ht, hz]
theorem taO55 (t : TypeId) (ht : t ≠ 55) (v : Value) (xT : TypeId) (w : World) : (Instr.typeAssert (.iface t v) xT 55 true).run Tryd.prog w = .ok (.tuple #[.pointer none, .bool false]) w := by
  have hz : (zeroValue 55).run Tryd.prog w = .ok (.pointer none) w := by kernel_rfl
  simp [Instr.typeAssert, run_underlying Tryd.underlying55, ht, hz]
theorem taO33 (t : TypeId) (ht : t ≠ 33) (v : Value) (xT : TypeId) (w : World) : (Instr.typeAssert (.iface t v) xT 33 true).run Tryd.prog w = .ok (.tuple #[.pointer none, .bool false]) w := by
  have hz : (zeroValue 33).run Tryd.prog w = .ok (.pointer none) w := by kernel_rfl
  simp [Instr.typeAssert, run_underlying Tryd.underlying33, ht, hz]
theorem taY32 (v : Value) (xT : TypeId) (w : World) : (Instr.typeAssert (.iface 32 v) xT 32 true).run Tryd.prog w = .ok (.tuple #[v, .bool true]) w := by kernel_rfl
theorem taY55 (v : Value) (xT : TypeId) (w : World) : (Instr.typeAssert (.iface 55 v) xT 55 true).run Tryd.prog w = .ok (.tuple #[v, .bool true]) w := by kernel_rfl
theorem taY33 (v : Value) (xT : TypeId) (w : World) : (Instr.typeAssert (.iface 33 v) xT 33 true).run Tryd.prog w = .ok (.tuple #[v, .bool true]) w := by kernel_rfl
theorem taN32 (xT : TypeId) (w : World) : (Instr.typeAssert .nilIface xT 32 true).run Tryd.prog w = .ok (.tuple #[.pointer none, .bool false]) w := by kernel_rfl
theorem taN55 (xT : TypeId) (w : World) : (Instr.typeAssert .nilIface xT 55 true).run Tryd.prog w = .ok (.tuple #[.pointer none, .bool false]) w := by kernel_rfl
theorem taN33 (xT : TypeId) (w : World) : (Instr.typeAssert .nilIface xT 33 true).run Tryd.prog w = .ok (.tuple #[.pointer none, .bool false]) w := by kernel_rfl

/-- How what writes t into the builder at b ends. -/
def Wrote (B b : Nat) (l t : List UInt8) (w : World) (e : Ending) (w' : World) : Prop :=
  e = .returned (.tuple #[]) ∧ Lib.BuilderAt 94 5 B b (.pointer (some ⟨b, 0, none⟩)) (Lib.byteCells (l ++ t)) w' ∧ Below B w w'

def Tell37 (d : Nat) : Prop := ∀ v t w B b l, Txt w B d v t → Lib.IsBuilder 94 5 B b (Lib.byteCells l) w → B ≤ w.heap.size → l.length + t.length ≤ 1000000 →
  Calls Tryd.prog 37 #[.pointer (some ⟨b, 0, none⟩), v] w (Wrote B b l t w)

theorem dec_dig (n : Nat) (h : n ≤ 9) : Lib.decDigits n = [dig n] := by
  unfold Lib.decDigits
  rw [dif_pos (by omega)]; rfl

/-- WriteString of a list of bytes. -/
theorem write_list (B b : Nat) (l s : List UInt8) (w : World) (h : Lib.IsBuilder 94 5 B b (Lib.byteCells l) w) (hlen : l.length + s.length ≤ 1000000) (hBw : B ≤ w.heap.size) :
    Calls Tryd.prog 42 #[.pointer (some ⟨b, 0, none⟩), .string ⟨s.toArray⟩] w fun e w' => ∃ k : Int, e = .returned (.tuple #[.int .i64 k, .nilIface]) ∧ Lib.BuilderAt 94 5 B b (.pointer (some ⟨b, 0, none⟩)) (Lib.byteCells (l ++ s)) w' ∧ Below B w w' := by
  have hs : (⟨s.toArray⟩ : ByteArray).size = s.length := by show s.toArray.size = _; simp
  refine (writeString B b (Lib.byteCells l) ⟨s.toArray⟩ w h (by rw [Lib.byteCells_length, hs]; omega) hBw).mono ?_
  rintro e w' ⟨he, h1, h2⟩
  refine ⟨_, he, ?_, h2⟩
  rw [Lib.strCells_eq, ← Lib.byteCells_append] at h1
  exact h1

set_option maxHeartbeats 2000000 in
set_option maxRecDepth 100000 in
theorem tellUnder43 (d : Nat) (ih : Tell37 d) (what : List UInt8) (n : Int) (h0 : 0 ≤ n) (h9 : n ≤ 9) (v : Value) (t : List UInt8) (w : World) (B b : Nat) (l : List UInt8) (ht : Txt w B d v t) (hb : Lib.IsBuilder 94 5 B b (Lib.byteCells l) w) (hB : B ≤ w.heap.size)
    (hlen : l.length + what.length + 3 + t.length ≤ 1000000) :
    Calls Tryd.prog 43 #[.pointer (some ⟨b, 0, none⟩), .string ⟨what.toArray⟩, .int .i64 n, v] w (Wrote B b l (what ++ [dig n] ++ [58, 32] ++ t) w) := by
  obtain ⟨k, rfl⟩ := Int.eq_ofNat_of_zero_le h0
  have hk : k ≤ 9 := by omega
  have HT := Lib.hid (And.intro ht (And.intro hb ih))
  clear ht hb ih
  go_enter Tryd.func43, Tryd.ntmps43
  go_wp2_with fail
  refine (write_list B b l what _ HT.out.2.1 (by omega) hB).mono ?_
  rintro e w1 ⟨k1, rfl, hb1, hw1⟩
  have H1 := Lib.hid (And.intro hb1 hw1)
  clear hb1 hw1
  go_wp2_with fail
  refine (Tryd.strconv_Itoa_small k (by omega) _).mono ?_
  rw [dec_dig k hk]
  rintro e w2 ⟨rfl, rfl⟩
  have hs1 := H1.out.2.size
  go_wp2_with fail
  refine (write_list B b (l ++ what) [dig k] _ (.inr H1.out.1) (by simp; omega) (by omega)).mono ?_
  rintro e w3 ⟨k3, rfl, hb3, hw3⟩
  have H3 := Lib.hid (And.intro hb3 (H1.out.2.trans hw3))
  clear hb3 hw3
  have hs3 := H3.out.2.size
  go_wp2_with fail
  refine (write_list B b (l ++ what ++ [dig k]) [58, 32] _ (.inr H3.out.1) (by simp; omega) (by omega)).mono ?_
  rintro e w4 ⟨k4, rfl, hb4, hw4⟩
  have H4 := Lib.hid (And.intro hb4 (H3.out.2.trans hw4))
  clear hb4 hw4
  have hs4 := H4.out.2.size
  go_wp2_with fail
  refine (HT.out.2.2 v t _ B b (l ++ what ++ [dig k] ++ [58, 32]) (HT.out.1.below H4.out.2 (Nat.le_refl _)) (.inr H4.out.1) (by omega) (by simp; omega)).mono ?_
  rintro e w5 ⟨rfl, hb5, hw5⟩
  have H5 := Lib.hid (And.intro hb5 (H4.out.2.trans hw5))
  clear hb5 hw5
  go_wp2_with fail
  go_end0
  refine ⟨rfl, ?_, H5.out.2⟩
  have := H5.out.1
  simpa [List.append_assoc] using this

end Go.Proofs.YtbifpjdkljibeaaDoor
