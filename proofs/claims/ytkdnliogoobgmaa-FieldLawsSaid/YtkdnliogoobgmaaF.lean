import Derived.Test.YtkdnliogoobgmaaE
namespace Go.Proofs.Ytkdnliogoobgmaa
open Go.RowKit Go.Sort
set_option maxRecDepth 100000
set_option maxHeartbeats 8000000

theorem div_mul {a b : Nat} (ha : a < 256) (hb : b < 256) (h1 : b ≠ 0) : mul (mul a (inv b)) b = a := by
  rw [← mul_assoc ha (inv_lt b) hb, mul_comm (inv b), mul_inv hb h1, mul_one ha]
theorem pw_sum (n m : Int) : mul (pw (n % 255).toNat) (pw (m % 255).toNat) = pw ((n + m) % 255).toNat := by
  rw [mul_pw, ← pw_mod]
  congr 1
  omega
theorem pw_lg {a : Nat} (ha : a < 256) (h0 : a ≠ 0) : pw ((lg a : Int) % 255).toNat = a := by
  have := lg_ok ha h0
  have e : ((lg a : Int) % 255).toNat = lg a := by omega
  rw [e, this.1]

end Go.Proofs.Ytkdnliogoobgmaa
