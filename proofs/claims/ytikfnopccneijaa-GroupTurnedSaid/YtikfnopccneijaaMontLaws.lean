/-
  Mont: its laws, as numbers.
-/
import Derived.Test.YtikfnopccneijaaMontDefs
namespace Go.Eng
set_option exponentiation.threshold 600

theorem e4 (z : N4) : eq4 z z = true := (eq4_iff z z).2 rfl
theorem timesM_val {m : N4} (h : OddM m) (a b : N4) : (timesM m a b).val = a.val * b.val % m.val := ofNat_mod h.pos _
theorem powM_val {m : N4} (h : OddM m) (a n : N4) : (powM m a n).val = a.val ^ n.val % m.val := ofNat_mod h.pos _
theorem small_v (n : UInt64) : (N4.mk n 0 0 0).val = n.toNat := by
  have e0 : (0 : UInt64).toNat = 0 := rfl
  simp only [N4.val, e0]; omega
theorem pow_add {m : N4} (h : OddM m) (a : N4) (n k : UInt64) (hn : n.toNat < 2 ^ 62) (hk : k.toNat < 2 ^ 62) : powM m a (N4.mk (n + k) 0 0 0) = timesM m (powM m a (N4.mk n 0 0 0)) (powM m a (N4.mk k 0 0 0)) := by
  apply N4.eq_of_val
  rw [powM_val h, timesM_val h, powM_val h, powM_val h, small_v, small_v, small_v, UInt64.toNat_add, Nat.mod_eq_of_lt (show n.toNat + k.toNat < 2 ^ 64 by omega), ← Nat.mul_mod, Nat.pow_add]
theorem checkE_ne (m : N4) : (checkE m != 0) = true := by unfold checkE; split <;> rfl
end Go.Eng
