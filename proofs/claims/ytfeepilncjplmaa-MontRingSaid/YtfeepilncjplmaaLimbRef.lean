/-
  Limb: sums, differences, products and quotients, digit by digit.
-/
import Derived.Test.YtfeepilncjplmaaLimbDigits
namespace Go.Eng

theorem p256 (k : Nat) : 0 < 256 ^ k := Nat.pow_pos (by omega)
theorem mod_succ (x k : Nat) : x % 256 ^ (k + 1) = x % 256 ^ k + dig x k * 256 ^ k := by
  rw [Nat.pow_succ, Nat.mod_mul, dig, Nat.mul_comm]

/-! ### sums -/
def carryN (x y k : Nat) : Nat := (x % 256 ^ k + y % 256 ^ k) / 256 ^ k
theorem carry_zero (x y : Nat) : carryN x y 0 = 0 := by simp [carryN, Nat.mod_one]
theorem carry_le (x y k : Nat) : carryN x y k ≤ 1 := by
  have h1 := Nat.mod_lt x (p256 k)
  have h2 := Nat.mod_lt y (p256 k)
  unfold carryN
  have : (x % 256 ^ k + y % 256 ^ k) / 256 ^ k < 2 := Nat.div_lt_of_lt_mul (by omega)
  omega
theorem plus_dig (x y k : Nat) : dig (x + y) k = (dig x k + dig y k + carryN x y k) % 256 := by
  have hp := p256 k
  have e1 := Nat.div_add_mod x (256 ^ k)
  have e2 := Nat.div_add_mod y (256 ^ k)
  have key : (x + y) / 256 ^ k = x / 256 ^ k + y / 256 ^ k + carryN x y k := by
    have : x + y = (x % 256 ^ k + y % 256 ^ k) + 256 ^ k * (x / 256 ^ k + y / 256 ^ k) := by rw [Nat.mul_add]; omega
    rw [this, Nat.add_mul_div_left _ _ hp, carryN]; omega
  unfold dig
  rw [key]
  omega
theorem plus_carry (x y k : Nat) : carryN x y (k + 1) = (dig x k + dig y k + carryN x y k) / 256 := by
  have hp := p256 k
  show (x % 256 ^ (k + 1) + y % 256 ^ (k + 1)) / 256 ^ (k + 1) = _
  rw [mod_succ, mod_succ, Nat.pow_succ, ← Nat.div_div_eq_div_mul]
  have : x % 256 ^ k + dig x k * 256 ^ k + (y % 256 ^ k + dig y k * 256 ^ k) = (x % 256 ^ k + y % 256 ^ k) + 256 ^ k * (dig x k + dig y k) := by
    rw [Nat.mul_add, Nat.mul_comm (256 ^ k), Nat.mul_comm (256 ^ k)]; omega
  rw [this, Nat.add_mul_div_left _ _ hp]
  show (carryN x y k + (dig x k + dig y k)) / 256 = _
  congr 1; omega

/-! ### differences -/
def lessN (x y : Nat) : Nat := x + 256 ^ 64 - y
def borrowN (x y k : Nat) : Nat := if x % 256 ^ k < y % 256 ^ k then 1 else 0
theorem borrow_zero (x y : Nat) : borrowN x y 0 = 0 := by simp [borrowN, Nat.mod_one]
theorem borrow_le (x y k : Nat) : borrowN x y k ≤ 1 := by unfold borrowN; split <;> omega
theorem less_dig (x y k : Nat) (hk : k < 64) (hy : y < 256 ^ 64) : dig (lessN x y) k = (dig x k + 256 - dig y k - borrowN x y k) % 256 := by
  have hp := p256 k
  obtain ⟨t, ht⟩ : ∃ t, 256 ^ 64 = 256 ^ k * (256 * t) := ⟨256 ^ (63 - k), by
    rw [← Nat.mul_assoc, Nat.mul_comm (256 ^ k) 256, ← Nat.pow_succ', ← Nat.pow_add]; congr 1; omega⟩
  have e1 := Nat.div_add_mod x (256 ^ k)
  have e2 := Nat.div_add_mod y (256 ^ k)
  have hY : y / 256 ^ k < 256 * t := Nat.div_lt_of_lt_mul (by rw [← ht]; exact hy)
  have hx := Nat.mod_lt x hp
  have hym := Nat.mod_lt y hp
  unfold lessN dig borrowN
  rw [ht]
  generalize x / 256 ^ k = X at *
  generalize y / 256 ^ k = Y at *
  generalize x % 256 ^ k = x' at *
  generalize y % 256 ^ k = y' at *
  generalize 256 ^ k = p at *
  have hle : p * (Y + 1) ≤ p * (256 * t) := Nat.mul_le_mul_left _ hY
  have hs : p * (X + (256 * t - (Y + 1))) = p * X + p * (256 * t) - p * (Y + 1) := by
    rw [Nat.mul_add, Nat.mul_sub]; omega
  have hYp : p * (Y + 1) = p * Y + p := Nat.mul_succ _ _
  by_cases hb : x' < y'
  · rw [if_pos hb]
    have : x + p * (256 * t) - y = (x' + p - y') + p * (X + (256 * t - (Y + 1))) := by omega
    rw [this, Nat.add_mul_div_left _ _ hp, Nat.div_eq_of_lt (by omega)]
    omega
  · rw [if_neg hb]
    have : x + p * (256 * t) - y = (x' - y') + p * (X + (256 * t - (Y + 1)) + 1) := by rw [Nat.mul_succ]; omega
    rw [this, Nat.add_mul_div_left _ _ hp, Nat.div_eq_of_lt (by omega)]
    omega
theorem less_borrow (x y k : Nat) : borrowN x y (k + 1) = 1 - (dig x k + 256 - dig y k - borrowN x y k) / 256 := by
  have hp := p256 k
  have hx := Nat.mod_lt x hp
  have hy := Nat.mod_lt y hp
  have h1 := dig_lt x k
  have h2 := dig_lt y k
  unfold borrowN
  rw [mod_succ, mod_succ]
  generalize x % 256 ^ k = x' at *
  generalize y % 256 ^ k = y' at *
  generalize dig x k = X at *
  generalize dig y k = Y at *
  generalize 256 ^ k = p at *
  rcases Nat.lt_trichotomy X Y with h | h | h
  · have : (X + 1) * p ≤ Y * p := Nat.mul_le_mul_right _ h
    rw [Nat.succ_mul] at this
    rw [if_pos (by omega)]
    split <;> omega
  · subst h
    by_cases hb : x' < y'
    · rw [if_pos (by omega), if_pos hb]; omega
    · rw [if_neg (by omega), if_neg hb]; omega
  · have : (Y + 1) * p ≤ X * p := Nat.mul_le_mul_right _ h
    rw [Nat.succ_mul] at this
    rw [if_neg (by omega)]
    split <;> omega
theorem digV_congr {x y : Nat} (h : x % 256 ^ 64 = y % 256 ^ 64) : digV x = digV y := vecV_ext fun k hk => by
  have key : ∀ z, dig (z % 256 ^ 64) k = dig z k := fun z => by
    unfold dig
    have e : 256 ^ 64 = 256 ^ k * 256 ^ (64 - k) := by rw [← Nat.pow_add]; congr 1; omega
    rw [e, Nat.mod_mul_right_div_self, Nat.mod_mod_of_dvd]
    exact ⟨256 ^ (63 - k), by rw [← Nat.pow_succ']; congr 1; omega⟩
  rw [← key x, h, key y]
theorem digV_less {x y : Nat} (h : y ≤ x) : digV (lessN x y) = digV (x - y) := digV_congr (by
  unfold lessN
  rw [show x + 256 ^ 64 - y = (x - y) + 256 ^ 64 by omega, Nat.add_mod_right])
theorem dig_zero_eq (n : Nat) : dig n 0 = n % 256 := by simp [dig]

/-! ### products -/
theorem numOf_upd (f : Nat → Nat) (p v : Nat) : ∀ m, p < m → numOf (upd f p v) m + f p * 256 ^ p = numOf f m + v * 256 ^ p := by
  have low : ∀ m, m ≤ p → numOf (upd f p v) m = numOf f m := fun m hm => numOf_congr fun i hi => by
    unfold upd; rw [if_neg (by omega)]
  intro m
  induction m with
  | zero => omega
  | succ m ih =>
    intro hp
    simp only [numOf]
    by_cases h : p = m
    · subst h
      rw [low p (Nat.le_refl _)]
      have : upd f p v p = v := by simp [upd]
      rw [this]; omega
    · have h1 := ih (by omega)
      have : upd f p v m = f m := by unfold upd; rw [if_neg (by omega)]
      rw [this]; omega
theorem upd_lt {f : Nat → Nat} {p v b : Nat} (h : ∀ k, f k < b) (hv : v < b) : ∀ k, upd f p v k < b := fun k => by
  unfold upd; split
  · exact hv
  · exact h k
theorem times_step {f : Nat → Nat} {p a b c N : Nat} (hp : p < 64) (hn : numOf f 64 + c * 256 ^ p = N) :
    numOf (upd f p ((f p + a * b + c) % 256)) 64 + (f p + a * b + c) / 256 * 256 ^ (p + 1) = N + a * b * 256 ^ p := by
  have h1 := numOf_upd f p ((f p + a * b + c) % 256) 64 hp
  have h2 := Nat.div_add_mod (f p + a * b + c) 256
  generalize (f p + a * b + c) / 256 = q at *
  generalize (f p + a * b + c) % 256 = r at *
  have h3 : (256 * q + r) * 256 ^ p = (f p + a * b + c) * 256 ^ p := by rw [h2]
  rw [Nat.add_mul, Nat.add_mul, Nat.add_mul] at h3
  have h4 : q * 256 ^ (p + 1) = 256 * q * 256 ^ p := by rw [Nat.pow_succ, Nat.mul_comm _ 256, ← Nat.mul_assoc, Nat.mul_comm q 256]
  rw [h4]
  omega
theorem times_lt {o a b c : Nat} (ho : o < 256) (ha : a < 256) (hb : b < 256) (hc : c < 256) : o + a * b + c ≤ 65535 := by
  have : a * b ≤ 255 * 255 := Nat.mul_le_mul (by omega) (by omega)
  omega
theorem times_in {N a y i j : Nat} : N + a * (y % 256 ^ j) * 256 ^ i + a * dig y j * 256 ^ (i + j) = N + a * (y % 256 ^ (j + 1)) * 256 ^ i := by
  rw [mod_succ, Nat.mul_add, Nat.add_mul, Nat.pow_add]
  have : a * dig y j * (256 ^ i * 256 ^ j) = a * (dig y j * 256 ^ j) * 256 ^ i := by
    rw [Nat.mul_comm (256 ^ i), ← Nat.mul_assoc, ← Nat.mul_assoc]
  omega
theorem times_out {f : Nat → Nat} {x y i c N : Nat} (hi : i < 64) (hN : N = x % 256 ^ i * y % 256 ^ 64) (hf : ∀ k, f k < 256)
    (h : numOf f 64 + c * 256 ^ 64 = N + dig x i * (y % 256 ^ (64 - i)) * 256 ^ i) : numOf f 64 = x % 256 ^ (i + 1) * y % 256 ^ 64 := by
  have hlt : numOf f 64 < 256 ^ 64 := numOf_lt fun k _ => hf k
  rw [← Nat.mod_eq_of_lt hlt, ← Nat.add_mul_mod_self_right _ c, h, hN, Nat.mod_add_mod, mod_succ x i, Nat.add_mul]
  have e := Nat.div_add_mod y (256 ^ (64 - i))
  have e2 : 256 ^ 64 = 256 ^ i * 256 ^ (64 - i) := by rw [← Nat.pow_add]; congr 1; omega
  have : x % 256 ^ i * y + dig x i * 256 ^ i * y = x % 256 ^ i * y + dig x i * (y % 256 ^ (64 - i)) * 256 ^ i + dig x i * (y / 256 ^ (64 - i)) * 256 ^ 64 := by
    have h3 : dig x i * 256 ^ i * y = dig x i * 256 ^ i * (256 ^ (64 - i) * (y / 256 ^ (64 - i))) + dig x i * 256 ^ i * (y % 256 ^ (64 - i)) := by
      rw [← Nat.mul_add, e]
    rw [h3, e2]
    generalize y / 256 ^ (64 - i) = q
    generalize y % 256 ^ (64 - i) = r
    generalize dig x i = d
    generalize 256 ^ i = p
    generalize 256 ^ (64 - i) = s
    have a1 : d * p * (s * q) = d * q * (p * s) := by
      rw [Nat.mul_assoc, Nat.mul_assoc]; congr 1
      rw [← Nat.mul_assoc, Nat.mul_comm q]
    have a2 : d * p * r = d * r * p := by rw [Nat.mul_assoc, Nat.mul_comm p, ← Nat.mul_assoc]
    omega
  rw [this, Nat.add_mul_mod_self_right]
theorem times_skip {f : Nat → Nat} {x y i N : Nat} (h0 : dig x i = 0) (hN : N = x % 256 ^ i * y % 256 ^ 64) (h : numOf f 64 = N) : numOf f 64 = x % 256 ^ (i + 1) * y % 256 ^ 64 := by
  rw [h, hN, mod_succ x i, h0, Nat.zero_mul, Nat.add_zero]
theorem times_end {f : Nat → Nat} {x y : Nat} (hx : x < 256 ^ 64) (hf : ∀ k, f k < 256) (h : numOf f 64 = x % 256 ^ 64 * y % 256 ^ 64) : vecV 64 (fun k => nat (f k)) = digV (x * y) := by
  rw [Nat.mod_eq_of_lt hx] at h
  have : digV (x * y) = digV (x * y % 256 ^ 64) := digV_congr (by rw [Nat.mod_mod])
  rw [this]
  exact vecV_ext fun k hk => by rw [dig_of_num (fun i _ => hf i) h k hk]
theorem numOf_zero : ∀ k, numOf (fun _ => 0) k = 0
  | 0 => rfl
  | k + 1 => by simp [numOf, numOf_zero k]

/-! ### quotients -/
theorem bit_dig (w i : Nat) : dig w (i / 8) / 2 ^ (i % 8) % 2 = w / 2 ^ i % 2 := by
  have e : i = 8 * (i / 8) + i % 8 := by omega
  have hr : i % 8 < 8 := Nat.mod_lt _ (by omega)
  have e2 : w / 2 ^ i = w / 256 ^ (i / 8) / 2 ^ (i % 8) := by
    rw [pow256, Nat.div_div_eq_div_mul, ← Nat.pow_add, ← e]
  rw [e2]
  unfold dig
  generalize w / 256 ^ (i / 8) = W
  generalize i % 8 = r at hr
  have : 256 = 2 ^ r * 2 ^ (8 - r) := by rw [← Nat.pow_add]; rw [show r + (8 - r) = 8 by omega]
  rw [this, Nat.mod_mul_right_div_self, Nat.mod_mod_of_dvd]
  exact ⟨2 ^ (7 - r), by rw [← Nat.pow_succ']; congr 1; omega⟩
theorem half_step (w i : Nat) : w / 2 ^ i = 2 * (w / 2 ^ (i + 1)) + w / 2 ^ i % 2 := by
  rw [Nat.pow_succ, ← Nat.div_div_eq_div_mul]; omega
theorem rest_lt {u m b : Nat} (h : 2 * (u % m) + b < m) : (2 * u + b) % m = 2 * (u % m) + b ∧ (2 * u + b) / m = 2 * (u / m) := by
  have e := Nat.div_add_mod u m
  have e2 : 2 * u + b = (2 * (u % m) + b) + m * (2 * (u / m)) := by rw [Nat.mul_left_comm]; omega
  rw [e2, Nat.add_mul_mod_self_left, Nat.mod_eq_of_lt h, Nat.add_mul_div_left _ _ (by omega), Nat.div_eq_of_lt h]
  omega
theorem rest_ge {u m b : Nat} (hm : 0 < m) (hb : b ≤ 1) (h : m ≤ 2 * (u % m) + b) : (2 * u + b) % m = 2 * (u % m) + b - m ∧ (2 * u + b) / m = 2 * (u / m) + 1 := by
  have e := Nat.div_add_mod u m
  have hl := Nat.mod_lt u hm
  have e2 : 2 * u + b = (2 * (u % m) + b - m) + m * (2 * (u / m) + 1) := by rw [Nat.mul_succ, Nat.mul_left_comm]; omega
  rw [e2, Nat.add_mul_mod_self_left, Nat.mod_eq_of_lt (by omega), Nat.add_mul_div_left _ _ (by omega), Nat.div_eq_of_lt (by omega)]
  omega
theorem set_low {n b : Nat} (hn : n % 2 = 0) (hb : b ≤ 1) : ∀ k, upd (dig n) 0 (dig n 0 + b) k = dig (n + b) k := fun k => by
  unfold upd
  by_cases hk : k = 0
  · subst hk; rw [if_pos rfl, dig_zero_eq, dig_zero_eq]; omega
  · rw [if_neg hk]
    obtain ⟨j, rfl⟩ : ∃ j, k = j + 1 := ⟨k - 1, by omega⟩
    unfold dig
    rw [Nat.pow_succ', ← Nat.div_div_eq_div_mul, ← Nat.div_div_eq_div_mul]
    congr 2
    omega
end Go.Eng
namespace Go.Eng
theorem rest_down {w m k r q : Nat} (hm : 0 < m) (hk : 0 < k) (B1 : r = w / 2 ^ k % m) (B2 : q = w / 2 ^ k / m) :
    (r + r + dig w ((k - 1) / 8) / 2 ^ ((k - 1) % 8) % 2 < m → r + r + dig w ((k - 1) / 8) / 2 ^ ((k - 1) % 8) % 2 = w / 2 ^ (k - 1) % m ∧ q + q = w / 2 ^ (k - 1) / m) ∧
    (¬ r + r + dig w ((k - 1) / 8) / 2 ^ ((k - 1) % 8) % 2 < m → r + r + dig w ((k - 1) / 8) / 2 ^ ((k - 1) % 8) % 2 - m = w / 2 ^ (k - 1) % m ∧ q + q + 1 = w / 2 ^ (k - 1) / m) := by
  rw [bit_dig]
  obtain ⟨i, rfl⟩ : ∃ i, k = i + 1 := ⟨k - 1, by omega⟩
  rw [Nat.add_sub_cancel]
  have hs := half_step w i
  have hb : w / 2 ^ i % 2 ≤ 1 := by omega
  generalize w / 2 ^ i % 2 = b at *
  rw [hs]
  subst B1; subst B2
  refine ⟨fun h => ?_, fun h => ?_⟩
  · have := rest_lt (u := w / 2 ^ (i + 1)) (m := m) (b := b) (by omega)
    omega
  · have := rest_ge (u := w / 2 ^ (i + 1)) (m := m) (b := b) hm hb (by omega)
    omega
theorem rest_none {w m k r q : Nat} {b : Bool} (hk : 0 < k) (hb : b = false) (h0 : ¬ dig w ((k - 1) / 8) / 2 ^ ((k - 1) % 8) % 2 = 1) (B1 : r = w / 2 ^ k % m) (B2 : q = w / 2 ^ k / m) (B3 : b = false → w / 2 ^ k = 0) :
    r = w / 2 ^ (k - 1) % m ∧ q = w / 2 ^ (k - 1) / m ∧ w / 2 ^ (k - 1) = 0 := by
  rw [bit_dig] at h0
  obtain ⟨i, rfl⟩ : ∃ i, k = i + 1 := ⟨k - 1, by omega⟩
  rw [Nat.add_sub_cancel] at *
  have h3 := B3 hb
  have hs := half_step w i
  have : w / 2 ^ i = 0 := by omega
  rw [B1, B2, h3, this]
  exact ⟨rfl, rfl, rfl⟩
end Go.Eng
