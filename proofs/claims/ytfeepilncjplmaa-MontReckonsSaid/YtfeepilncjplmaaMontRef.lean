/-
  Mont: the document's answers, as numbers.
-/
import Derived.Test.YtfeepilncjplmaaMontLaws
namespace Go.Eng

theorem times_ref (m a b : N4) : N4.ofNat ((mul8 a b).val % m.val) = timesM m a b := by rw [mul8_val']; rfl
theorem below_lt {m : N4} (h : OddM m) (b : N4) : (belowM m b).val < m.val := by rw [belowM_val m b h.pos]; exact Nat.mod_lt _ h.pos
theorem minus_ref {m : N4} (h : OddM m) (a b : N4) : N4.ofNat (((belowM m a).val + m.val - (belowM m b).val) % m.val) = minusM m a b := by
  apply N4.eq_of_val
  have hb := below_lt h b
  have hb2 := belowM_val m b h.pos
  rw [ofNat_mod h.pos, minusM_val h, belowM_val m a h.pos, show a.val % m.val + m.val - (belowM m b).val = a.val % m.val + (m.val - (belowM m b).val) by omega, hb2, add_mod_l]
theorem to_ref {m : N4} (a : N4) : N4.ofNat ((N8.mk ⟨0, 0, 0, 0⟩ a).val % m.val) = toM m a := by
  have e : (N8.mk ⟨0, 0, 0, 0⟩ a).val = a.val * RR := by
    show (N4.mk 0 0 0 0).val + 2 ^ 256 * a.val = _
    rw [val_zero, Nat.mul_comm]; show 0 + a.val * RR = _; omega
  rw [e]; rfl
theorem powr_begin {m a n : N4} (h : OddM m) : (belowM m ⟨1, 0, 0, 0⟩).val = a.val ^ (n.val / 2 ^ bitLen n.val) % m.val := by
  rw [belowM_val m _ h.pos, val_one', Nat.div_eq_of_lt (bitLen_lt n.val), Nat.pow_zero]
theorem powr_one {m q a n : N4} {k : Nat} (h : OddM m) (hk : 0 < k) (hk2 : k ≤ 256) (hq : q.val = a.val ^ (n.val / 2 ^ k) % m.val) (hb : (bitI n ((k - 1 : Nat) : Int) == 1) = true) :
    (timesM m (timesM m q q) a).val = a.val ^ (n.val / 2 ^ (k - 1)) % m.val := by
  have hb := beq_one hb
  rw [bitI_nat n _ (by omega)] at hb
  obtain ⟨i, rfl⟩ : ∃ i, k = i + 1 := ⟨k - 1, by omega⟩
  rw [Nat.add_sub_cancel] at *
  rw [timesM_val h, timesM_val h, hq, ← Nat.mul_mod, mod_mul_l, half_step n.val i, hb, Nat.two_mul, Nat.pow_add _ _ 1, Nat.pow_one]
  congr 2
  exact (Nat.pow_add _ _ _).symm
theorem powr_none {m q a n : N4} {k : Nat} (h : OddM m) (hk : 0 < k) (hk2 : k ≤ 256) (hq : q.val = a.val ^ (n.val / 2 ^ k) % m.val) (hb : (bitI n ((k - 1 : Nat) : Int) == 1) = false) :
    (timesM m q q).val = a.val ^ (n.val / 2 ^ (k - 1)) % m.val := by
  have hb := bne_one hb
  rw [bitI_nat n _ (by omega)] at hb
  obtain ⟨i, rfl⟩ : ∃ i, k = i + 1 := ⟨k - 1, by omega⟩
  rw [Nat.add_sub_cancel] at *
  rw [timesM_val h, hq, ← Nat.mul_mod, half_step n.val i, show n.val / 2 ^ i % 2 = 0 by omega, Nat.add_zero, Nat.two_mul]
  congr 1
  exact (Nat.pow_add _ _ _).symm
theorem powr_end {m q a n : N4} (hq : q.val = a.val ^ (n.val / 2 ^ 0) % m.val) : q = powM m a n := by
  rw [Nat.pow_zero, Nat.div_one] at hq
  exact N4.eq_ofNat hq
theorem bitLen_256 (n : N4) : bitLen n.val ≤ 256 := bitLen_le_of_lt n.val_lt

/-! ### halves -/
def halfD (m a : N4) : Nat := match (a.a % 2 == 1) with
  | true => a.val + m.val
  | false => a.val
theorem halfD_lt (m a : N4) : halfD m a < 2 ^ 257 := by
  have := m.val_lt; have := a.val_lt
  unfold halfD; split <;> omega
def halfM (m a : N4) : N4 := N4.ofNat (halfD m a / 2)
theorem carry_step {D k : Nat} (hk : 0 < k) : ((D / 256 ^ k % 2) * 256 + dig D (k - 1)) / 2 = dig (D / 2) (k - 1) ∧ ((D / 256 ^ k % 2) * 256 + dig D (k - 1)) % 2 = D / 256 ^ (k - 1) % 2 := by
  obtain ⟨i, rfl⟩ : ∃ i, k = i + 1 := ⟨k - 1, by omega⟩
  rw [Nat.add_sub_cancel]
  unfold dig
  rw [Nat.pow_succ, ← Nat.div_div_eq_div_mul, Nat.div_div_eq_div_mul D 2, Nat.mul_comm 2, ← Nat.div_div_eq_div_mul D _ 2]
  generalize D / 256 ^ i = q
  omega
theorem half_begin (m a : N4) : 0 = halfD m a / 256 ^ 64 % 2 := by
  have := halfD_lt m a
  rw [Nat.div_eq_of_lt (by omega)]
theorem half_out {f : Nat → Nat} {D k v : Nat} (hk : 0 < k) (h : ∀ j, f j = if k ≤ j ∧ j < 64 then dig (D / 2) j else 0) (hv : v = dig (D / 2) (k - 1)) (hk2 : k ≤ 64) :
    ∀ j, upd f (k - 1) v j = if k - 1 ≤ j ∧ j < 64 then dig (D / 2) j else 0 := fun j => by
  unfold upd
  by_cases hj : j = k - 1
  · subst hj; rw [if_pos rfl, if_pos (by omega), hv]
  · rw [if_neg hj, h j]
    by_cases h1 : k ≤ j ∧ j < 64
    · rw [if_pos h1, if_pos (by omega)]
    · rw [if_neg h1, if_neg (by omega)]
theorem half_end {f : Nat → Nat} {D : Nat} (h : ∀ j, f j = if 0 ≤ j ∧ j < 64 then dig (D / 2) j else 0) : vecV 64 (fun k => nat (f k)) = digV (D / 2) := vecV_ext fun k hk => by
  rw [h k, if_pos (by omega)]
theorem halfM_val {m a : N4} (h : OddM m) (ha : a.val < m.val) : (halfM m a).val < m.val ∧ (halfM m a).val * 2 % m.val = a.val := by
  have hm := m.val_lt
  have ho := h.odd
  have hlow : (a.a % 2).toNat = a.val % 2 := low_even a
  unfold halfM halfD
  rw [N4.val_ofNat]
  cases hx : (a.a % 2 == 1) with
  | true =>
    have := beq_one hx
    simp only
    rw [Nat.mod_eq_of_lt (show (a.val + m.val) / 2 < 2 ^ 256 by omega)]
    refine ⟨by omega, ?_⟩
    rw [show (a.val + m.val) / 2 * 2 = a.val + m.val by omega, Nat.add_mod_right, Nat.mod_eq_of_lt ha]
  | false =>
    have := bne_one hx
    simp only
    rw [Nat.mod_eq_of_lt (show a.val / 2 < 2 ^ 256 by omega)]
    refine ⟨by omega, ?_⟩
    rw [show a.val / 2 * 2 = a.val by omega, Nat.mod_eq_of_lt ha]
theorem from_step {m r a : N4} {i : Nat} (h : OddM m) (hr : r.val < m.val) (he : r.val * 2 ^ i % m.val = a.val % m.val) : (halfM m r).val < m.val ∧ (halfM m r).val * 2 ^ (i + 1) % m.val = a.val % m.val := by
  obtain ⟨h1, h2⟩ := halfM_val h hr
  refine ⟨h1, ?_⟩
  rw [Nat.pow_succ, Nat.mul_comm (2 ^ i), ← Nat.mul_assoc, ← mod_mul_l, h2, he]
theorem from_end {m r a : N4} (h : OddM m) (hr : r.val < m.val) (he : r.val * 2 ^ 256 % m.val = a.val % m.val) : r = fromM m a := N4.eq_ofNat (redc_unique h.odd h.big hr he)
theorem mul_ref {m : N4} (h : OddM m) (a b : N4) : fromM m (timesM m a b) = mulM m a b := by
  apply N4.eq_of_val
  rw [fromM_val h, timesM_val h, mod_mul_l, mulM_val h]
end Go.Eng
