import Derived.Test.YtbifpjdkljibeaaDoorK1
import Derived.Test.YtbifpjdkljibeaaDoorR
namespace Go.Proofs.YtbifpjdkljibeaaDoor
open Go.RowKit Go.Extern.Stop Go.Stop Go.Extern Go.Extern.Rtype

theorem mErE (n : Int) (w : World) : (method 262 26 (.int .i64 n) "Error").run Tryd.prog w = .ok (81, .int .i64 n) w := by kernel_rfl
theorem mErS (a : Addr) (w : World) : (method 262 64 (.pointer (some a)) "Error").run Tryd.prog w = .ok (87, .pointer (some a)) w := by kernel_rfl
theorem naErS (a : Addr) (w : World) : (nilAhead 262 64 (.pointer (some a)) "Error").run Tryd.prog w = .ok (some false) w := by kernel_rfl
/-- A digit. -/
def dig (n : Int) : UInt8 := UInt8.ofNat (48 + n.toNat)
theorem dig_val (n : Int) (h0 : 0 ≤ n) (h9 : n ≤ 9) : ((dig n).toNat : Int) = 48 + n := by
  unfold dig
  have : (UInt8.ofNat (48 + n.toNat)).toNat = 48 + n.toNat := by rw [UInt8.toNat_ofNat']; omega
  rw [this]; omega

def tErr (n : Int) : List UInt8 := [101, 114, 114, 110, 111, 32, dig n]

set_option maxHeartbeats 1000000 in
set_option maxRecDepth 100000 in
theorem errno81 (n : Int) (h0 : 0 ≤ n) (h9 : n ≤ 9) (w : World) : Calls Tryd.prog 81 #[.int .i64 n] w fun e w' => e = .returned (.string ⟨(tErr n).toArray⟩) ∧ Below w.heap.size w w' := by
  have hconv : (convert 92 9 (.slice (some ⟨w.heap.size, 0, none⟩) 1 1)).run Tryd.prog (w.alloc (.cells #[.int .u8 (48 + n)] 5)) = .ok (.string ⟨[dig n].toArray⟩) (w.alloc (.cells #[.int .u8 (48 + n)] 5)) := by
    refine run_convert_bytes_back _ 92 9 5 ⟨w.heap.size, 0, none⟩ 1 [dig n] Tryd.underlying92 Tryd.underlying5 Tryd.underlying9 ?_
    intro j hj
    have hj0 : j = 0 := by simpa using hj
    subst hj0
    rw [List.getElem_cons_zero, dig_val n h0 h9]
    simp [Addr.add, go_sem]
  go_enter Tryd.func81, Tryd.ntmps81
  go_wp2
  refine wp_loop_rounds 1 ?_
  rw [rounds_succ]
  go_wp2
  go_ret
  exact ⟨congrArg (fun s => Ending.returned (Value.string s)) (ByteArray.ext (by simp [ByteArray.data_append, tErr])), (Below.refl _ _).alloc (Nat.le_refl _) _⟩

set_option maxHeartbeats 1000000 in
set_option maxRecDepth 100000 in
theorem str87 (b : Nat) (s : ByteArray) (w : World) (hc : w.cell? ⟨b, 0, none⟩ = some (.string s)) : Calls Tryd.prog 87 #[.pointer (some ⟨b, 0, none⟩)] w fun e w' => e = .returned (.string s) ∧ w = w' := by
  go_enter Tryd.func87, Tryd.ntmps87
  go_wp2
  go_ret
  exact ⟨rfl, rfl⟩
end Go.Proofs.YtbifpjdkljibeaaDoor
