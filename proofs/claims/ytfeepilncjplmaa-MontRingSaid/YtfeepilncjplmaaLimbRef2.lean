/-
  Limb: bits, lengths and shifts, bit by bit.
-/
import Derived.Test.YtfeepilncjplmaaLimbRef
import Derived.Test.YtfeepilncjplmaaEngP
namespace Go.Eng

theorem is_rem64 {P : Program} {t t' : TypeId} {x y : Operand} (a b : UInt64) (hb : b.toNat ≠ 0) : IsOp P (.binOp .rem t x y t') [u64 a, u64 b] (u64 (a % b)) := isOp_bin guard_int (by
  show pureRun P (Op.intDiv .rem .u64 (a.toNat : Int) (b.toNat : Int)) = _
  unfold Op.intDiv
  rw [if_neg (by omega)]
  show some (Value.int .u64 ((a.toNat : Int).tmod b.toNat)) = _
  have : ((a.toNat : Int).tmod b.toNat) = (((a % b).toNat : Nat) : Int) := by rw [Int.tmod_eq_emod_of_nonneg (by omega), UInt64.toNat_mod]; push_cast; rfl
  rw [this]; rfl)

def bitI (a : N4) (i : Int) : UInt64 := if 0 ≤ i ∧ i ≤ 255 then .ofNat (a.val / 2 ^ i.toNat % 2) else 0
theorem ofNat_small {n : Nat} (h : n ≤ 1) : (UInt64.ofNat n).toNat = n := by rw [UInt64.toNat_ofNat', Nat.mod_eq_of_lt (by omega)]
theorem bitI_nat (a : N4) (n : Nat) (hn : n ≤ 255) : (bitI a n).toNat = a.val / 2 ^ n % 2 := by
  unfold bitI
  rw [if_pos (by omega), Int.toNat_natCast, ofNat_small (by omega)]
theorem bitI_out {a : N4} {i : Int} (h : i < 0 ∨ 255 < i) : bitI a i = 0 := by unfold bitI; rw [if_neg (by omega)]
theorem bitI_le (a : N4) (i : Int) : (bitI a i).toNat ≤ 1 := by
  unfold bitI; split
  · rw [ofNat_small] <;> omega
  · exact Nat.zero_le _
theorem bitI_bit4 (a : N4) (n : Nat) (hn : n ≤ 255) : bit4 a n = bitI a n := UInt64.toNat_inj.1 (by rw [bit4_val a n (by omega), bitI_nat a n hn])
theorem bitI_ref (a : N4) (n : Nat) (hn : n ≤ 255) : (shr64 (a.get (n / 64)) (n % 64)) % 2 = bitI a n := UInt64.toNat_inj.1 (by
  rw [bitI_nat a n hn, ← bit4_val a n (by omega), bit4, and_one, UInt64.toNat_mod]; rfl)

theorem mod2_succ (v i : Nat) : v % 2 ^ (i + 1) = v % 2 ^ i + v / 2 ^ i % 2 * 2 ^ i := by
  rw [Nat.pow_succ, Nat.mod_mul, Nat.mul_comm]
theorem len_one {v i : Nat} (h : v / 2 ^ i % 2 = 1) : i + 1 = bitLen (v % 2 ^ (i + 1)) := by
  have h1 := Nat.mod_lt v (Nat.two_pow_pos i)
  have h2 := mod2_succ v i
  rw [h, Nat.one_mul] at h2
  exact (bitLen_unique (Nat.mod_lt _ (Nat.two_pow_pos _)) (by omega)).symm
theorem len_none {v i : Nat} (h : ¬ v / 2 ^ i % 2 = 1) : bitLen (v % 2 ^ i) = bitLen (v % 2 ^ (i + 1)) := by
  have h2 := mod2_succ v i
  rw [show v / 2 ^ i % 2 = 0 by omega, Nat.zero_mul] at h2
  rw [h2]; rfl
theorem beq_one {x : UInt64} (h : (x == 1) = true) : x.toNat = 1 := by rw [beq_iff_eq] at h; rw [h]; rfl
theorem bne_one {x : UInt64} (h : (x == 1) = false) : ¬ x.toNat = 1 := fun e => by
  have : x = 1 := UInt64.toNat_inj.1 e
  rw [this] at h; cases h

def shN (a : N4) (n : Int) : Nat := if 0 ≤ n then a.val * 2 ^ n.toNat else a.val / 2 ^ (-n).toNat
theorem bitI_shift (a : N4) (i : Nat) (n : Int) (hi : i ≤ 255) : (bitI a ((i : Int) - n)).toNat = shN a n / 2 ^ i % 2 := by
  have ha := a.val_lt
  by_cases hn : 0 ≤ n
  · obtain ⟨k, rfl⟩ : ∃ k : Nat, n = k := ⟨n.toNat, by omega⟩
    unfold shN
    rw [if_pos hn, Int.toNat_natCast]
    by_cases hk : i < k
    · rw [bitI_out (by omega)]
      obtain ⟨t, rfl⟩ : ∃ t, k = i + (t + 1) := ⟨k - i - 1, by omega⟩
      rw [Nat.pow_add, Nat.mul_left_comm, Nat.mul_div_cancel_left _ (Nat.two_pow_pos i), Nat.pow_succ, ← Nat.mul_assoc, Nat.mul_mod_left]
      rfl
    · obtain ⟨t, rfl⟩ : ∃ t, i = k + t := ⟨i - k, by omega⟩
      rw [show ((k + t : Nat) : Int) - (k : Int) = (t : Nat) by omega, bitI_nat a t (by omega), Nat.pow_add, ← Nat.div_div_eq_div_mul, Nat.mul_div_cancel _ (Nat.two_pow_pos k)]
  · obtain ⟨k, rfl⟩ : ∃ k : Nat, n = -(k : Int) := ⟨(-n).toNat, by omega⟩
    unfold shN
    rw [if_neg hn, Int.neg_neg, Int.toNat_natCast, Nat.div_div_eq_div_mul, ← Nat.pow_add]
    by_cases hk : k + i ≤ 255
    · rw [show (i : Int) - (-(k : Int)) = ((k + i : Nat) : Int) by omega, bitI_nat a _ hk]
    · rw [bitI_out (by omega), Nat.div_eq_of_lt (Nat.lt_of_lt_of_le ha (Nat.pow_le_pow_right (by omega) (by omega)))]
      rfl

theorem addbit {g b : UInt64} {s : Nat} (hs : s ≤ 63) (hb : b.toNat ≤ 1) (hg : g.toNat < 2 ^ s) : (g + shl64 b s).toNat = g.toNat + b.toNat * 2 ^ s := by
  have hp : 2 ^ s ≤ 2 ^ 63 := Nat.pow_le_pow_right (by omega) hs
  have h1 : b.toNat * 2 ^ s ≤ 1 * 2 ^ s := Nat.mul_le_mul_right _ hb
  rw [UInt64.toNat_add, shl64_toNat, Nat.mod_eq_of_lt (show b.toNat * 2 ^ s < 18446744073709551616 by omega), Nat.mod_eq_of_lt (by omega)]
theorem addbit_step (o : N4) (V i : Nat) (b : UInt64) (hi : i ≤ 255) (ho : o.val = V % 2 ^ i) (hb : b.toNat = V / 2 ^ i % 2) :
    (o.set (i / 64) (o.get (i / 64) + shl64 b (i % 64))).val = V % 2 ^ (i + 1) := by
  have hj : i / 64 < 4 := by omega
  obtain ⟨q, hq⟩ := word_of o (i / 64) hj
  have ei : i = 64 * (i / 64) + i % 64 := by omega
  have hlt : o.val < 2 ^ (64 * (i / 64)) * 2 ^ (i % 64) := by
    rw [ho, ← Nat.pow_add, ← ei]; exact Nat.mod_lt _ (Nat.two_pow_pos _)
  have hdiv : o.val / 2 ^ (64 * (i / 64)) < 2 ^ (i % 64) := Nat.div_lt_of_lt_mul hlt
  have hg : (o.get (i / 64)).toNat < 2 ^ (i % 64) := by omega
  have hs := o.set_val (i / 64) (o.get (i / 64) + shl64 b (i % 64)) hj
  rw [addbit (by omega) (by omega) hg, Nat.mul_add] at hs
  have e : 2 ^ (64 * (i / 64)) * (b.toNat * 2 ^ (i % 64)) = b.toNat * 2 ^ i := by
    rw [Nat.mul_left_comm, ← Nat.pow_add, ← ei]
  rw [e] at hs
  rw [mod2_succ, ← hb]
  omega

theorem shN_up (a : N4) (n : Nat) : shN a n = a.val * 2 ^ n := by unfold shN; rw [if_pos (by omega), Int.toNat_natCast]
theorem shN_down (a : N4) (n : Nat) : shN a (-(n : Int)) = a.val / 2 ^ n := by
  rcases Nat.eq_zero_or_pos n with rfl | h
  · rw [show -((0 : Nat) : Int) = ((0 : Nat) : Int) by omega, shN_up]; simp
  · unfold shN; rw [if_neg (by omega), Int.neg_neg, Int.toNat_natCast]
theorem shN_out (a : N4) (n : Int) (h : n ≤ -256 ∨ 256 ≤ n) : N4.ofNat (shN a n) = ⟨0, 0, 0, 0⟩ := by
  apply N4.ext_val
  rw [N4.val_ofNat, val_zero]
  rcases h with h | h
  · obtain ⟨k, rfl⟩ : ∃ k : Nat, n = -(k : Int) := ⟨(-n).toNat, by omega⟩
    rw [shN_down, Nat.div_eq_of_lt (Nat.lt_of_lt_of_le a.val_lt (Nat.pow_le_pow_right (by omega) (by omega)))]
  · obtain ⟨k, rfl⟩ : ∃ k : Nat, n = k := ⟨n.toNat, by omega⟩
    rw [shN_up]
    obtain ⟨t, rfl⟩ : ∃ t, k = t + 256 := ⟨k - 256, by omega⟩
    rw [Nat.pow_add, ← Nat.mul_assoc, Nat.mul_mod_left]
theorem val_lt512 (x : N4) : x.val < 2 ^ 512 := by have h := x.val_lt; omega
theorem mul_lt512 (x y : N4) : x.val * y.val < 2 ^ 512 := by
  have h1 := x.val_lt
  have h2 := y.val_lt
  have : x.val * y.val ≤ (2 ^ 256 - 1) * (2 ^ 256 - 1) := Nat.mul_le_mul (by omega) (by omega)
  omega
theorem ord_lt {a b : Nat} (h : decide (a < b) = true) : ord a b = -1 := by unfold ord; rw [if_pos (of_decide_eq_true h)]
theorem ord_gt {a b : Nat} (h : decide (a < b) = false) (h2 : a ≠ b) : ord a b = 1 := by
  have := of_decide_eq_false h
  unfold ord; rw [if_neg this, if_pos (by omega)]
theorem ord_self (a : Nat) : ord a a = 0 := by unfold ord; rw [if_neg (by omega), if_neg (by omega)]
theorem eq4_of {x y : N4} (h : eq4 x y = true) : x = y := (eq4_iff x y).1 h
theorem ne4_of {x y : N4} (h : eq4 x y = false) : x.val ≠ y.val := fun e => by
  rw [eq4_val, e] at h; simp at h
theorem sub_less (x y : N4) : N4.ofNat (lessN x.val y.val) = sub4 x y := by
  apply N4.ext_val
  have h := sub4_val x y
  have h1 := x.val_lt
  have h2 := y.val_lt
  have h3 := (sub4 x y).val_lt
  rw [N4.val_ofNat, lessN]
  have e : (256 : Nat) ^ 64 = 2 ^ 256 * 2 ^ 256 := by decide
  rw [e]
  cases hc : sub4c x y with
  | true => rw [hc] at h; simp only [Bool.toNat_true] at h; omega
  | false => rw [hc] at h; simp only [Bool.toNat_false] at h; omega
theorem add_plus (x y : N4) : N4.ofNat (x.val + y.val) = add4 x y := by
  apply N4.ext_val
  have h := add4_val x y
  have h3 := (add4 x y).val_lt
  rw [N4.val_ofNat]
  cases hc : add4c x y with
  | true => rw [hc] at h; simp only [Bool.toNat_true] at h; omega
  | false => rw [hc] at h; simp only [Bool.toNat_false] at h; omega
theorem carry_dig (x y : N4) : UInt64.ofNat (dig (x.val + y.val) 32) = b2u (add4c x y) := by
  apply UInt64.toNat_inj.1
  have h1 := x.val_lt
  have h2 := y.val_lt
  rw [b2u_toNat, add4c_eq, UInt64.toNat_ofNat', dig]
  have e : (256 : Nat) ^ 32 = 2 ^ 256 := by decide
  rw [e]
  by_cases h : 2 ^ 256 ≤ x.val + y.val
  · rw [decide_eq_true h]; simp only [Bool.toNat_true]; omega
  · rw [decide_eq_false h]; simp only [Bool.toNat_false]; omega
end Go.Eng
