import Derived.Test.YtkdnliogoobgmaaF1
import Derived.Test.YtkdnliogoobgmaaF2
import Derived.Test.YtkdnliogoobgmaaF3
import Derived.Test.YtkdnliogoobgmaaF4
namespace Go.Proofs.Ytkdnliogoobgmaa
open Go.RowKit Go.Sort
set_option maxRecDepth 100000
set_option maxHeartbeats 8000000

theorem fieldLaws5 (a b c : Nat) (n m : Int) (w : World) (ha : a < 256) (hb : b < 256) (hc : c < 256) : Calls Try.prog 5 #[.int .u8 (a : Int), .int .u8 (b : Int), .int .u8 (c : Int), .int .i64 n, .int .i64 m] w fun e w' => e = .returned (.bool true) ∧ Below w.heap.size w w' := by
  by_cases h0 : a = 0
  · subst h0
    by_cases h1 : b = 0
    · subst h1; exact fieldLaws5zz c n m w (Lib.hid hc)
    · exact fieldLaws5zn b c n m w h1 (Lib.hid hb) (Lib.hid hc)
  · by_cases h1 : b = 0
    · subst h1; exact fieldLaws5nz a c n m w h0 (Lib.hid ha) (Lib.hid hc)
    · exact fieldLaws5nn a b c n m w h0 (Lib.hid ha) h1 (Lib.hid hb) (Lib.hid hc)
end Go.Proofs.Ytkdnliogoobgmaa
