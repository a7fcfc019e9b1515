/-
  Limb: what the laws on lengths and places say, as numbers.
-/
import Derived.Test.YtikfnopccneijaaLimbShift
namespace Go.Eng
set_option exponentiation.threshold 600

theorem val_zero : (N4.mk 0 0 0 0).val = 0 := rfl
theorem div_step (a m q r : N4) (L i : Nat) (hL : L ≤ 256) (hi : i < L) (hm : 0 < m.val) (hr : r.val = a.val / 2 ^ (L - i) % m.val) (hq : q.val = a.val / 2 ^ (L - i) / m.val * 2 ^ (L - i)) :
    (bringR r (bit4 a (L - 1 - i)) m).val = a.val / 2 ^ (L - (i + 1)) % m.val ∧
    (q.set ((L - 1 - i) / 64) (q.get ((L - 1 - i) / 64) ||| shl64 (bringQ r (bit4 a (L - 1 - i)) m) ((L - 1 - i) % 64))).val = a.val / 2 ^ (L - (i + 1)) / m.val * 2 ^ (L - (i + 1)) := by
  obtain ⟨k, hk⟩ : ∃ k, L - 1 - i = k := ⟨_, rfl⟩
  have e1 : L - i = k + 1 := by omega
  have e2 : L - (i + 1) = k := by omega
  rw [e1] at hr hq
  rw [hk, e2]
  have hb := bit4_val a k (by omega)
  have hrm : r.val < m.val := by rw [hr]; exact Nat.mod_lt _ hm
  obtain ⟨b1, b2⟩ := bring_val r (bit4 a k) m (by omega) hrm
  rw [hb, hr] at b1 b2
  constructor
  · rw [b1]; exact (rest_step _ _ _).symm
  · have hs := quo_step a.val m.val k hm
    rw [← b2] at hs
    have hQ : (bringQ r (bit4 a k) m).toNat ≤ 1 := by
      unfold bringQ; cases bringF r (bit4 a k) m <;> decide
    rw [setbit_val q k _ (by omega) hQ (by rw [hq]; exact Nat.mul_mod_left _ _), hq, hs, Nat.add_mul, Nat.pow_succ, Nat.mul_comm 2 (a.val / (2 ^ k * 2) / m.val), Nat.mul_assoc, Nat.mul_comm 2 (2 ^ k)]

end Go.Eng
