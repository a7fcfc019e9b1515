/-
  Mont: the document's answers, as numbers.
-/
import Derived.Test.YtikfnopccneijaaMontLaws
namespace Go.Eng
set_option exponentiation.threshold 600

theorem times_ref (m a b : N4) : N4.ofNat ((mul8 a b).val % m.val) = timesM m a b := by rw [mul8_val']; rfl
theorem powr_begin {m a n : N4} (h : OddM m) : (belowM m ⟨1, 0, 0, 0⟩).val = a.val ^ (n.val / 2 ^ bitLen n.val) % m.val := by
  rw [belowM_val m _ h.pos, val_one', Nat.div_eq_of_lt (bitLen_lt n.val), Nat.pow_zero]
theorem powr_one {m q a n : N4} {k : Nat} (h : OddM m) (hk : 0 < k) (hk2 : k ≤ 256) (hq : q.val = a.val ^ (n.val / 2 ^ k) % m.val) (hb : (bitI n ((k - 1 : Nat) : Int) == 1) = true) :
    (timesM m (timesM m q q) a).val = a.val ^ (n.val / 2 ^ (k - 1)) % m.val := by
  have hb := beq_one hb
  rw [bitI_nat n _ (by omega)] at hb
  obtain ⟨i, rfl⟩ : ∃ i, k = i + 1 := ⟨k - 1, by omega⟩
  rw [Nat.add_sub_cancel] at *
  rw [timesM_val h, timesM_val h, hq, ← Nat.mul_mod, mod_mul_l, half_step n.val i, hb, Nat.two_mul, Nat.pow_add _ _ 1, Nat.pow_one]
  congr 2
  exact (Nat.pow_add _ _ _).symm
theorem powr_none {m q a n : N4} {k : Nat} (h : OddM m) (hk : 0 < k) (hk2 : k ≤ 256) (hq : q.val = a.val ^ (n.val / 2 ^ k) % m.val) (hb : (bitI n ((k - 1 : Nat) : Int) == 1) = false) :
    (timesM m q q).val = a.val ^ (n.val / 2 ^ (k - 1)) % m.val := by
  have hb := bne_one hb
  rw [bitI_nat n _ (by omega)] at hb
  obtain ⟨i, rfl⟩ : ∃ i, k = i + 1 := ⟨k - 1, by omega⟩
  rw [Nat.add_sub_cancel] at *
  rw [timesM_val h, hq, ← Nat.mul_mod, half_step n.val i, show n.val / 2 ^ i % 2 = 0 by omega, Nat.add_zero, Nat.two_mul]
  congr 1
  exact (Nat.pow_add _ _ _).symm
theorem powr_end {m q a n : N4} (hq : q.val = a.val ^ (n.val / 2 ^ 0) % m.val) : q = powM m a n := by
  rw [Nat.pow_zero, Nat.div_one] at hq
  exact N4.eq_ofNat hq
theorem bitLen_256 (n : N4) : bitLen n.val ≤ 256 := bitLen_le_of_lt n.val_lt

/-! ### halves -/
end Go.Eng
