/-
  Limb: bits, lengths and shifts, bit by bit.
-/
import Derived.Test.YtikfnopccneijaaLimbRef
import Derived.Test.YtikfnopccneijaaEngP
namespace Go.Eng
set_option exponentiation.threshold 600

theorem is_rem64 {P : Program} {t t' : TypeId} {x y : Operand} (a b : UInt64) (hb : b.toNat ≠ 0) : IsOp P (.binOp .rem t x y t') [u64 a, u64 b] (u64 (a % b)) := isOp_bin guard_int (by
  show pureRun P (Op.intDiv .rem .u64 (a.toNat : Int) (b.toNat : Int)) = _
  unfold Op.intDiv
  rw [if_neg (by omega)]
  show some (Value.int .u64 ((a.toNat : Int).tmod b.toNat)) = _
  have : ((a.toNat : Int).tmod b.toNat) = (((a % b).toNat : Nat) : Int) := by rw [Int.tmod_eq_emod_of_nonneg (by omega), UInt64.toNat_mod]; push_cast; rfl
  rw [this]; rfl)

def bitI (a : N4) (i : Int) : UInt64 := if 0 ≤ i ∧ i ≤ 255 then .ofNat (a.val / 2 ^ i.toNat % 2) else 0
theorem ofNat_small {n : Nat} (h : n ≤ 1) : (UInt64.ofNat n).toNat = n := by rw [UInt64.toNat_ofNat', Nat.mod_eq_of_lt (by omega)]
theorem bitI_nat (a : N4) (n : Nat) (hn : n ≤ 255) : (bitI a n).toNat = a.val / 2 ^ n % 2 := by
  unfold bitI
  rw [if_pos (by omega), Int.toNat_natCast, ofNat_small (by omega)]
theorem bitI_out {a : N4} {i : Int} (h : i < 0 ∨ 255 < i) : bitI a i = 0 := by unfold bitI; rw [if_neg (by omega)]
theorem bitI_bit4 (a : N4) (n : Nat) (hn : n ≤ 255) : bit4 a n = bitI a n := UInt64.toNat_inj.1 (by rw [bit4_val a n (by omega), bitI_nat a n hn])
theorem bitI_ref (a : N4) (n : Nat) (hn : n ≤ 255) : (shr64 (a.get (n / 64)) (n % 64)) % 2 = bitI a n := UInt64.toNat_inj.1 (by
  rw [bitI_nat a n hn, ← bit4_val a n (by omega), bit4, and_one, UInt64.toNat_mod]; rfl)

theorem mod2_succ (v i : Nat) : v % 2 ^ (i + 1) = v % 2 ^ i + v / 2 ^ i % 2 * 2 ^ i := by
  rw [Nat.pow_succ, Nat.mod_mul, Nat.mul_comm]
theorem len_one {v i : Nat} (h : v / 2 ^ i % 2 = 1) : i + 1 = bitLen (v % 2 ^ (i + 1)) := by
  have h1 := Nat.mod_lt v (Nat.two_pow_pos i)
  have h2 := mod2_succ v i
  rw [h, Nat.one_mul] at h2
  exact (bitLen_unique (Nat.mod_lt _ (Nat.two_pow_pos _)) (by omega)).symm
theorem len_none {v i : Nat} (h : ¬ v / 2 ^ i % 2 = 1) : bitLen (v % 2 ^ i) = bitLen (v % 2 ^ (i + 1)) := by
  have h2 := mod2_succ v i
  rw [show v / 2 ^ i % 2 = 0 by omega, Nat.zero_mul] at h2
  rw [h2]; rfl
theorem beq_one {x : UInt64} (h : (x == 1) = true) : x.toNat = 1 := by rw [beq_iff_eq] at h; rw [h]; rfl
theorem bne_one {x : UInt64} (h : (x == 1) = false) : ¬ x.toNat = 1 := fun e => by
  have : x = 1 := UInt64.toNat_inj.1 e
  rw [this] at h; cases h

theorem mul_lt512 (x y : N4) : x.val * y.val < 2 ^ 512 := by
  have h1 := x.val_lt
  have h2 := y.val_lt
  have : x.val * y.val ≤ (2 ^ 256 - 1) * (2 ^ 256 - 1) := Nat.mul_le_mul (by omega) (by omega)
  omega
theorem ord_lt {a b : Nat} (h : decide (a < b) = true) : ord a b = -1 := by unfold ord; rw [if_pos (of_decide_eq_true h)]
theorem ord_gt {a b : Nat} (h : decide (a < b) = false) (h2 : a ≠ b) : ord a b = 1 := by
  have := of_decide_eq_false h
  unfold ord; rw [if_neg this, if_pos (by omega)]
theorem ord_self (a : Nat) : ord a a = 0 := by unfold ord; rw [if_neg (by omega), if_neg (by omega)]
theorem eq4_of {x y : N4} (h : eq4 x y = true) : x = y := (eq4_iff x y).1 h
theorem ne4_of {x y : N4} (h : eq4 x y = false) : x.val ≠ y.val := fun e => by
  rw [eq4_val, e] at h; simp at h
theorem sub_less (x y : N4) : N4.ofNat (lessN x.val y.val) = sub4 x y := by
  apply N4.ext_val
  have h := sub4_val x y
  have h1 := x.val_lt
  have h2 := y.val_lt
  have h3 := (sub4 x y).val_lt
  rw [N4.val_ofNat, lessN]
  have e : (256 : Nat) ^ 64 = 2 ^ 256 * 2 ^ 256 := by decide
  rw [e]
  cases hc : sub4c x y with
  | true => rw [hc] at h; simp only [Bool.toNat_true] at h; omega
  | false => rw [hc] at h; simp only [Bool.toNat_false] at h; omega
end Go.Eng
