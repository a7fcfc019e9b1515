/-
  Mont: its laws, as numbers.
-/
import Derived.Test.YtfeepilncjplmaaMontDefs
namespace Go.Eng

theorem e4 (z : N4) : eq4 z z = true := (eq4_iff z z).2 rfl
theorem eq4_ofm {m : N4} {x y : Nat} (e : x % m.val = y % m.val) : eq4 (N4.ofNat (x % m.val)) (N4.ofNat (y % m.val)) = true := by rw [e]; exact e4 _
theorem minusM_val {m : N4} (h : OddM m) (a b : N4) : (minusM m a b).val = (a.val + (m.val - b.val % m.val)) % m.val := ofNat_mod h.pos _
theorem plusM_val {m : N4} (h : OddM m) (a b : N4) : (plusM m a b).val = (a.val + b.val) % m.val := ofNat_mod h.pos _
theorem timesM_val {m : N4} (h : OddM m) (a b : N4) : (timesM m a b).val = a.val * b.val % m.val := ofNat_mod h.pos _
theorem mulM_val {m : N4} (h : OddM m) (a b : N4) : (mulM m a b).val = a.val * b.val * rinv m.val % m.val := ofNat_mod h.pos _
theorem fromM_val {m : N4} (h : OddM m) (a : N4) : (fromM m a).val = a.val * rinv m.val % m.val := ofNat_mod h.pos _
theorem powM_val {m : N4} (h : OddM m) (a n : N4) : (powM m a n).val = a.val ^ n.val % m.val := ofNat_mod h.pos _
theorem add_mod_l (a b m : Nat) : (a % m + b) % m = (a + b) % m := by rw [Nat.add_mod, Nat.mod_mod, ← Nat.add_mod]

theorem sub_add_mod {m b : Nat} (hm : 0 < m) (a : Nat) : (a + (m - b % m) + b) % m = a % m := by
  have h1 := Nat.mod_lt b hm
  have h2 := Nat.div_add_mod b m
  have : a + (m - b % m) + b = a + m * (b / m + 1) := by rw [Nat.mul_succ]; omega
  rw [this, Nat.add_mul_mod_self_left]
theorem signs_back {m : N4} (h : OddM m) (a b : N4) : plusM m (minusM m a b) b = plusM m a ⟨0, 0, 0, 0⟩ := by
  apply N4.eq_of_val
  rw [plusM_val h, plusM_val h, minusM_val h, add_mod_l, sub_add_mod h.pos, val_zero, Nat.add_zero]
theorem signs_zero {m : N4} (h : OddM m) (a b : N4) : plusM m (minusM m a b) (minusM m b a) = ⟨0, 0, 0, 0⟩ := by
  apply N4.eq_of_val
  rw [plusM_val h, minusM_val h, minusM_val h, ← Nat.add_mod, val_zero]
  have h1 := Nat.mod_lt a.val h.pos
  have h2 := Nat.mod_lt b.val h.pos
  have d1 := Nat.div_add_mod a.val m.val
  have d2 := Nat.div_add_mod b.val m.val
  have : a.val + (m.val - b.val % m.val) + (b.val + (m.val - a.val % m.val)) = m.val * (a.val / m.val + b.val / m.val + 2) := by
    rw [Nat.mul_add, Nat.mul_add]; omega
  rw [this, Nat.mul_mod_right]
theorem mulM_comm (m a b : N4) : mulM m a b = mulM m b a := by unfold mulM; rw [Nat.mul_comm a.val]
theorem mulM_assoc {m : N4} (h : OddM m) (a b c : N4) : mulM m (mulM m a b) c = mulM m a (mulM m b c) := by
  apply N4.eq_of_val
  rw [mulM_val h, mulM_val h, mulM_val h, mulM_val h]
  have e1 : a.val * b.val * rinv m.val % m.val * c.val * rinv m.val % m.val = a.val * b.val * rinv m.val * (c.val * rinv m.val) % m.val := by rw [Nat.mul_assoc (a.val * b.val * rinv m.val % m.val), mod_mul_l]
  have e2 : a.val * (b.val * c.val * rinv m.val % m.val) * rinv m.val % m.val = a.val * rinv m.val * (b.val * c.val * rinv m.val) % m.val := by
    rw [Nat.mul_right_comm, mod_mul_r]
  rw [e1, e2]
  congr 1; ac_rfl
theorem times_plus {m : N4} (h : OddM m) (a b c : N4) : timesM m a (plusM m b c) = plusM m (timesM m a b) (timesM m a c) := by
  apply N4.eq_of_val
  rw [timesM_val h, plusM_val h, plusM_val h, timesM_val h, timesM_val h, mod_mul_r, ← Nat.add_mod, Nat.mul_add]
theorem times_assoc {m : N4} (h : OddM m) (a b c : N4) : timesM m a (timesM m b c) = timesM m (timesM m a b) c := by
  apply N4.eq_of_val
  rw [timesM_val h, timesM_val h, timesM_val h, timesM_val h, mod_mul_r, mod_mul_l, Nat.mul_assoc]
theorem from_to {m : N4} (h : OddM m) (a : N4) : fromM m (toM m a) = timesM m a ⟨1, 0, 0, 0⟩ := by
  apply N4.eq_of_val
  rw [fromM_val h, toM_val h, mod_mul_l, rinv_back h.odd h.big, timesM_val h, val_one', Nat.mul_one]
theorem mul_to {m : N4} (h : OddM m) (a b : N4) : mulM m (toM m a) (toM m b) = toM m (timesM m a b) := by
  apply N4.eq_of_val
  rw [mulM_img h (toM_val h a) (toM_val h b), toM_val h, timesM_val h, mod_mul_l]
theorem plus_to {m : N4} (h : OddM m) (a b : N4) : plusM m (toM m a) (toM m b) = toM m (plusM m a b) := by
  apply N4.eq_of_val
  rw [plusM_val h, toM_val h, toM_val h, toM_val h, plusM_val h, mod_mul_l, ← Nat.add_mod, Nat.add_mul]
theorem small_v (n : UInt64) : (N4.mk n 0 0 0).val = n.toNat := by
  have e0 : (0 : UInt64).toNat = 0 := rfl
  simp only [N4.val, e0]; omega
theorem pow_add {m : N4} (h : OddM m) (a : N4) (n k : UInt64) (hn : n.toNat < 2 ^ 62) (hk : k.toNat < 2 ^ 62) : powM m a (N4.mk (n + k) 0 0 0) = timesM m (powM m a (N4.mk n 0 0 0)) (powM m a (N4.mk k 0 0 0)) := by
  apply N4.eq_of_val
  rw [powM_val h, timesM_val h, powM_val h, powM_val h, small_v, small_v, small_v, UInt64.toNat_add, Nat.mod_eq_of_lt (show n.toNat + k.toNat < 2 ^ 64 by omega), ← Nat.mul_mod, Nat.pow_add]
theorem pow_pow {m : N4} (h : OddM m) (a : N4) (n k : N4) : powM m (powM m a n) k = powM m (powM m a k) n := by
  apply N4.eq_of_val
  rw [powM_val h, powM_val h, powM_val h, powM_val h, ← Nat.pow_mod, ← Nat.pow_mod, ← Nat.pow_mul, ← Nat.pow_mul, Nat.mul_comm]
theorem checkE_ne (m : N4) : (checkE m != 0) = true := by unfold checkE; split <;> rfl
theorem checkE_ne' (m : N4) : ¬ checkE m = 0 := by unfold checkE; split <;> omega
theorem lt_of_nle {n : UInt64} {c : Nat} (h : ¬ c ≤ n.toNat) : n.toNat < c := by omega
end Go.Eng
