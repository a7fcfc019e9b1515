/-
  Limb: bits, lengths and shifts, bit by bit.
-/
import Derived.Test.YtikfnopccneijaaLimbRef
import Derived.Test.YtikfnopccneijaaEngP
namespace Go.Eng
set_option exponentiation.threshold 600

def bitI (a : N4) (i : Int) : UInt64 := if 0 ≤ i ∧ i ≤ 255 then .ofNat (a.val / 2 ^ i.toNat % 2) else 0
theorem ofNat_small {n : Nat} (h : n ≤ 1) : (UInt64.ofNat n).toNat = n := by rw [UInt64.toNat_ofNat', Nat.mod_eq_of_lt (by omega)]
theorem bitI_nat (a : N4) (n : Nat) (hn : n ≤ 255) : (bitI a n).toNat = a.val / 2 ^ n % 2 := by
  unfold bitI
  rw [if_pos (by omega), Int.toNat_natCast, ofNat_small (by omega)]
theorem bitI_out {a : N4} {i : Int} (h : i < 0 ∨ 255 < i) : bitI a i = 0 := by unfold bitI; rw [if_neg (by omega)]
theorem bitI_bit4 (a : N4) (n : Nat) (hn : n ≤ 255) : bit4 a n = bitI a n := UInt64.toNat_inj.1 (by rw [bit4_val a n (by omega), bitI_nat a n hn])
theorem beq_one {x : UInt64} (h : (x == 1) = true) : x.toNat = 1 := by rw [beq_iff_eq] at h; rw [h]; rfl
theorem bne_one {x : UInt64} (h : (x == 1) = false) : ¬ x.toNat = 1 := fun e => by
  have : x = 1 := UInt64.toNat_inj.1 e
  rw [this] at h; cases h

theorem eq4_of {x y : N4} (h : eq4 x y = true) : x = y := (eq4_iff x y).1 h
theorem ne4_of {x y : N4} (h : eq4 x y = false) : x.val ≠ y.val := fun e => by
  rw [eq4_val, e] at h; simp at h
end Go.Eng
