/-
  Limb: what the laws on lengths and places say, as numbers.
-/
import Derived.Test.YtfeepilncjplmaaLimbShift
namespace Go.Eng

theorem val_one : (N4.mk 1 0 0 0).val = 1 := rfl
theorem val_zero : (N4.mk 0 0 0 0).val = 0 := rfl
theorem u64_eq {x y : UInt64} (h : x.toNat = y.toNat) : (x == y) = true := by rw [beq_iff_eq]; exact UInt64.toNat_inj.1 h

theorem long_zero (x : N4) (h : (eq4 x (N4.mk 0 0 0 0)) = true) : (decide ((len4 x) = 0)) = true := by
  rw [(eq4_iff _ _).1 h]; rfl

theorem len4_pos {x : N4} (h : (eq4 x (N4.mk 0 0 0 0)) = false) : 0 < x.val ∧ 1 ≤ len4 x := by
  rw [eq4_val] at h
  have h0 := of_decide_eq_false h
  rw [val_zero] at h0
  rw [len4_val, bitLen_pos h0]
  exact ⟨by omega, by omega⟩

theorem long_no (x : N4) (h1 : (eq4 x (N4.mk 0 0 0 0)) = false) (h2 : ((decide ((len4 x) < 1)) || (decide (256 < (len4 x)))) = true) : false = true := by
  have h := (len4_pos h1).2
  have h3 := len4_le x
  simp only [Bool.or_eq_true, decide_eq_true_eq] at h2
  omega

theorem long_yes (x : N4) (h1 : (eq4 x (N4.mk 0 0 0 0)) = false) :
    ((((decide (((cmp4 x (N4.ofNat ((N4.mk 1 0 0 0).val * 2 ^ ((len4 x) - 1)))) : Int) ≥ 0)) && ((b2u (sub4c x (N4.ofNat ((N4.mk 1 0 0 0).val * 2 ^ ((len4 x) - 1))))) == 0)) &&
      (decide ((len4 (sub4 x (N4.ofNat ((N4.mk 1 0 0 0).val * 2 ^ ((len4 x) - 1))))) < (len4 x)))) && ((bit4 x ((len4 x) - 1)) == 1)) = true := by
  obtain ⟨h0, hl⟩ := len4_pos h1
  have h256 := len4_le x
  have hlt := bitLen_lt x.val
  have hle := bitLen_le (n := x.val) (by omega)
  rw [← len4_val] at hlt hle
  obtain ⟨k, hk⟩ : ∃ k, len4 x = k + 1 := ⟨len4 x - 1, by omega⟩
  rw [hk] at hlt hle ⊢
  rw [Nat.add_sub_cancel] at hle ⊢
  rw [val_one, Nat.one_mul]
  have hp : (N4.ofNat (2 ^ k)).val = 2 ^ k := by
    rw [N4.val_ofNat, Nat.mod_eq_of_lt]
    exact Nat.pow_lt_pow_right (by omega) (by omega)
  have hs := sub4_val x (N4.ofNat (2 ^ k))
  rw [cmp4_eq, sub4c_eq, len4_val, b2u_zero]
  rw [sub4c_eq] at hs
  rw [hp] at hs ⊢
  have hn : ¬ x.val < 2 ^ k := by omega
  rw [decide_eq_false hn] at hs ⊢
  have ho : (0 : Int) ≤ ord x.val (2 ^ k) := by
    unfold ord; rw [if_neg hn]; split <;> omega
  have hb : bitLen (sub4 x (N4.ofNat (2 ^ k))).val < k + 1 := by
    have : bitLen (sub4 x (N4.ofNat (2 ^ k))).val ≤ k := bitLen_le_of_lt (by
      simp only [Bool.toNat_false, Nat.mul_zero, Nat.add_zero] at hs
      rw [Nat.pow_succ] at hlt
      omega)
    omega
  have hbit : (bit4 x k == 1) = true := u64_eq (by
    rw [bit4_val _ _ (by omega)]
    have : x.val / 2 ^ k = 1 := by
      rw [Nat.div_eq_iff (Nat.two_pow_pos k)]
      rw [Nat.pow_succ] at hlt
      omega
    rw [this]; rfl)
  rw [hbit, decide_eq_true hb]
  simp only [Bool.not_false, Bool.and_true, decide_eq_true_eq]
  exact ho

theorem double_ofNat (x : N4) (i : Nat) : add4 (N4.ofNat (x.val * 2 ^ i)) (N4.ofNat (x.val * 2 ^ i)) = N4.ofNat (x.val * 2 ^ (i + 1)) := by
  refine N4.ext_val ?_
  have h := add4_val (N4.ofNat (x.val * 2 ^ i)) (N4.ofNat (x.val * 2 ^ i))
  have hl := (add4 (N4.ofNat (x.val * 2 ^ i)) (N4.ofNat (x.val * 2 ^ i))).val_lt
  rw [N4.val_ofNat] at h
  rw [N4.val_ofNat, Nat.pow_succ, ← Nat.mul_assoc]
  generalize x.val * 2 ^ i = v at *
  generalize (add4c (N4.ofNat v) (N4.ofNat v)).toNat = c at *
  omega

theorem moved_yes (x : N4) (n : Nat) (hn : n ≤ 255) (d : N4) (hd : d = N4.ofNat (x.val * 2 ^ n)) :
    (((eq4 (N4.ofNat (x.val * 2 ^ n)) d) && ((decide (256 < ((len4 x) + n))) || (eq4 (N4.ofNat ((N4.ofNat (x.val * 2 ^ n)).val / 2 ^ n)) x))) &&
      (decide ((len4 (N4.ofNat ((N4.ofNat (x.val * 2 ^ n)).val / 2 ^ n))) ≤ (256 - n)))) = true := by
  rw [hd, eq4_self, Bool.true_and, Bool.and_eq_true]
  have hp := Nat.two_pow_pos n
  constructor
  · by_cases h : 256 < len4 x + n
    · rw [decide_eq_true h, Bool.true_or]
    · rw [decide_eq_false h, Bool.false_or]
      have hlt := bitLen_lt x.val
      rw [← len4_val] at hlt
      have h2 : x.val * 2 ^ n < 2 ^ 256 := by
        have h3 : x.val * 2 ^ n < 2 ^ len4 x * 2 ^ n := (Nat.mul_lt_mul_right hp).2 hlt
        rw [← Nat.pow_add] at h3
        exact Nat.lt_of_lt_of_le h3 (Nat.pow_le_pow_right (by omega) (by omega))
      rw [N4.val_ofNat, Nat.mod_eq_of_lt h2, Nat.mul_div_cancel _ hp, N4.ofNat_val, eq4_self]
  · refine decide_eq_true ?_
    rw [len4_val]
    refine bitLen_le_of_lt ?_
    rw [N4.val_ofNat, N4.val_ofNat]
    refine Nat.lt_of_le_of_lt (Nat.mod_le _ _) ?_
    rw [Nat.div_lt_iff_lt_mul hp, ← Nat.pow_add, show 256 - n + n = 256 by omega]
    exact Nat.mod_lt _ (Nat.two_pow_pos 256)

theorem div_step (a m q r : N4) (L i : Nat) (hL : L ≤ 256) (hi : i < L) (hm : 0 < m.val) (hr : r.val = a.val / 2 ^ (L - i) % m.val) (hq : q.val = a.val / 2 ^ (L - i) / m.val * 2 ^ (L - i)) :
    (bringR r (bit4 a (L - 1 - i)) m).val = a.val / 2 ^ (L - (i + 1)) % m.val ∧
    (q.set ((L - 1 - i) / 64) (q.get ((L - 1 - i) / 64) ||| shl64 (bringQ r (bit4 a (L - 1 - i)) m) ((L - 1 - i) % 64))).val = a.val / 2 ^ (L - (i + 1)) / m.val * 2 ^ (L - (i + 1)) := by
  obtain ⟨k, hk⟩ : ∃ k, L - 1 - i = k := ⟨_, rfl⟩
  have e1 : L - i = k + 1 := by omega
  have e2 : L - (i + 1) = k := by omega
  rw [e1] at hr hq
  rw [hk, e2]
  have hb := bit4_val a k (by omega)
  have hrm : r.val < m.val := by rw [hr]; exact Nat.mod_lt _ hm
  obtain ⟨b1, b2⟩ := bring_val r (bit4 a k) m (by omega) hrm
  rw [hb, hr] at b1 b2
  constructor
  · rw [b1]; exact (rest_step _ _ _).symm
  · have hs := quo_step a.val m.val k hm
    rw [← b2] at hs
    have hQ : (bringQ r (bit4 a k) m).toNat ≤ 1 := by
      unfold bringQ; cases bringF r (bit4 a k) m <;> decide
    rw [setbit_val q k _ (by omega) hQ (by rw [hq]; exact Nat.mul_mod_left _ _), hq, hs, Nat.add_mul, Nat.pow_succ, Nat.mul_comm 2 (a.val / (2 ^ k * 2) / m.val), Nat.mul_assoc, Nat.mul_comm 2 (2 ^ k)]

end Go.Eng
