/-
  Limb: a number's bytes, the lowest one first.
-/
import Derived.Test.YtikfnopccneijaaLimbLaws
namespace Go.Eng

/-! ### the number of digits, one by one -/
def N8.set (x : N8) (i : Nat) (v : UInt64) : N8 := match decide (i < 4) with
  | true => { x with lo := x.lo.set i v }
  | false => { x with hi := x.hi.set (i - 4) v }
theorem N8.get_lo (x : N8) {i : Nat} (h : i < 4) : x.get i = x.lo.get i := by rcases i with _ | _ | _ | _ | i <;> first | rfl | omega
theorem N8.get_hi (x : N8) {i : Nat} (h : i < 4) : x.get (i + 4) = x.hi.get i := by rcases i with _ | _ | _ | _ | i <;> first | rfl | omega
theorem N8.set_val (q : N8) (j : Nat) (v : UInt64) (hj : j < 8) : (q.set j v).val + 2 ^ (64 * j) * (q.get j).toNat = q.val + 2 ^ (64 * j) * v.toNat := by
  unfold N8.set N8.val
  by_cases h : j < 4
  · rw [decide_eq_true h, q.get_lo h]
    have := q.lo.set_val j v h
    simp only
    omega
  · obtain ⟨k, rfl⟩ : ∃ k, j = k + 4 := ⟨j - 4, by omega⟩
    rw [decide_eq_false h, q.get_hi (show k < 4 by omega), Nat.add_sub_cancel]
    have := q.hi.set_val k v (by omega)
    simp only
    rw [show 64 * (k + 4) = 256 + 64 * k by omega, Nat.pow_add, Nat.mul_assoc, Nat.mul_assoc]
    omega

def N8.ofNat (n : Nat) : N8 := ⟨N4.ofNat n, N4.ofNat (n / 2 ^ 256)⟩
theorem N8.val_ofNat (n : Nat) : (N8.ofNat n).val = n % 2 ^ 512 := by
  simp only [N8.ofNat, N8.val, N4.val_ofNat]
  omega
theorem N4.eq_of_val {x y : N4} (h : x.val = y.val) : x = y := N4.ext_val h
theorem N8.eq_of_val {x y : N8} (h : x.val = y.val) : x = y := N8.ext_val h
theorem N8.eq_ofNat {x : N8} {n : Nat} (h : x.val = n) : x = N8.ofNat n := N8.eq_of_val (by rw [N8.val_ofNat, Nat.mod_eq_of_lt (by rw [← h]; exact x.val_lt), h])

end Go.Eng
