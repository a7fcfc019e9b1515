/-
  Limb: sums, differences, products and quotients, digit by digit.
-/
import Derived.Test.YtikfnopccneijaaLimbDigits
namespace Go.Eng
set_option exponentiation.threshold 600

/-! ### sums -/
/-! ### differences -/
/-! ### products -/
/-! ### quotients -/
theorem half_step (w i : Nat) : w / 2 ^ i = 2 * (w / 2 ^ (i + 1)) + w / 2 ^ i % 2 := by
  rw [Nat.pow_succ, ← Nat.div_div_eq_div_mul]; omega
end Go.Eng
namespace Go.Eng
end Go.Eng
