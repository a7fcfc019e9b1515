/-
  Mont: what a Mod is, and what its methods hand back.
-/
import Derived.Test.YtfeepilncjplmaaMontMath
namespace Go.Eng

def vN (m : N4) : Nat → N4
  | 0 => m
  | k + 1 => (mul8 (vN m k) (sub4 ⟨2, 0, 0, 0⟩ (mul8 m (vN m k)).lo)).lo
theorem vN_dvd {m : N4} (h : OddM m) : ∀ k, k ≤ 7 → ((2 : Int) ^ nE k) ∣ (m.val : Int) * (vN m k).val - 1
  | 0, _ => newton_begin h
  | k + 1, hk => newton_step m (vN m k) k (by omega) (vN_dvd h k (by omega))
def lackW (m : N4) : N4 := sub4 ⟨0, 0, 0, 0⟩ (vN m 7)
theorem lackW_ok {m : N4} (h : OddM m) : ((lackW m).val * m.val + 1) % RR = 0 := lack_of (vN_dvd h 7 (by omega))
def twoW (m : N4) : N4 := N4.ofNat ((mul8 (oneM m) (oneM m)).val % m.val)
theorem oneM_val {m : N4} (h : OddM m) : (oneM m).val = RR % m.val := ofNat_mod h.pos _
theorem twoW_val {m : N4} (h : OddM m) : (twoW m).val = RR * RR % m.val := by
  rw [twoW, ofNat_mod h.pos, mul8_val', oneM_val h, mod_mul_l, mod_mul_r]

/-- A Mod's cells, made or not. -/
def doneS (s : Bool) : UInt32 := match s with
  | true => 1
  | false => 0
def lackS (m : N4) (s : Bool) : N4 := match s with
  | true => lackW m
  | false => ⟨0, 0, 0, 0⟩
def oneS (m : N4) (s : Bool) : N4 := match s with
  | true => oneM m
  | false => ⟨0, 0, 0, 0⟩
def twoS (m : N4) (s : Bool) : N4 := match s with
  | true => twoW m
  | false => ⟨0, 0, 0, 0⟩

theorem mul_red {m a b : N4} (h : OddM m) : redM m (lackW m) (mul8 (belowM m a) b) = mulM m a b := by
  have hb := belowM_val m a h.pos
  have hlt := Nat.mod_lt a.val h.pos
  have hw : (mul8 (belowM m a) b).val < m.val * RR := by
    rw [mul8_val', hb]
    have h2 := b.val_lt
    calc a.val % m.val * b.val ≤ a.val % m.val * RR := Nat.mul_le_mul_left _ (Nat.le_of_lt h2)
      _ < m.val * RR := Nat.mul_lt_mul_of_pos_right hlt (by decide)
  rw [redM_val h (lackW_ok h) hw, mul8_val', hb, mulM, Nat.mul_assoc, mod_mul_l, Nat.mul_assoc]
theorem from_red {m a : N4} (h : OddM m) : redM m (lackW m) ⟨a, ⟨0, 0, 0, 0⟩⟩ = fromM m a := by
  have hv : (N8.mk a ⟨0, 0, 0, 0⟩).val = a.val := by
    show a.val + 2 ^ 256 * (N4.mk 0 0 0 0).val = _
    rw [val_zero]; omega
  have hw : (N8.mk a ⟨0, 0, 0, 0⟩).val < m.val * RR := by
    rw [hv]
    have h1 := a.val_lt
    have h2 := h.pos
    calc a.val < RR := h1
      _ = 1 * RR := (Nat.one_mul _).symm
      _ ≤ m.val * RR := Nat.mul_le_mul_right _ h2
  rw [redM_val h (lackW_ok h) hw, hv]; rfl
theorem to_mul {m a : N4} (h : OddM m) : mulM m (twoW m) a = toM m a := by
  unfold mulM toM
  congr 1
  have e : RR * RR % m.val * a.val * rinv m.val % m.val = a.val * RR * RR * rinv m.val % m.val := by
    rw [Nat.mul_assoc, mod_mul_l, (fun (R x y : Nat) => (show R * R * (x * y) = x * R * R * y by ac_rfl)) RR a.val (rinv m.val)]
  rw [twoW_val h, e, rinv_back h.odd h.big]
theorem plus_less {m : N4} (h : OddM m) (x y : N4) : lessM m (add4 (belowM m x) (belowM m y)) (b2u (add4c (belowM m x) (belowM m y))) = plusM m x y := by
  have hx := belowM_val m x h.pos
  have hy := belowM_val m y h.pos
  have lx := Nat.mod_lt x.val h.pos
  have ly := Nat.mod_lt y.val h.pos
  have ha := add4_val (belowM m x) (belowM m y)
  have hc := toNat_le (add4c (belowM m x) (belowM m y))
  have e : (add4 (belowM m x) (belowM m y)).val + RR * (b2u (add4c (belowM m x) (belowM m y))).toNat = x.val % m.val + y.val % m.val := by
    rw [b2u_toNat]; unfold RR; omega
  apply N4.eq_of_val
  rw [lessM_val m _ _ h.pos (by rw [b2u_toNat]; exact hc) (by rw [e]; omega), e, plusM, ofNat_mod h.pos, ← Nat.add_mod]
theorem minus_yes {m : N4} (h : OddM m) (x y : N4) (hb : (b2u (sub4c (belowM m x) (belowM m y)) == 1) = true) : add4 (sub4 (belowM m x) (belowM m y)) m = minusM m x y := by
  rw [b2u_one] at hb
  have hx := belowM_val m x h.pos
  have hy := belowM_val m y h.pos
  have lx := Nat.mod_lt x.val h.pos
  have ly := Nat.mod_lt y.val h.pos
  have hs := sub4_val (belowM m x) (belowM m y)
  have ha := add4_val (sub4 (belowM m x) (belowM m y)) m
  have h1 := (add4 (sub4 (belowM m x) (belowM m y)) m).val_lt
  have h2 := m.val_lt
  have h3 := toNat_le (add4c (sub4 (belowM m x) (belowM m y)) m)
  have hlt := sub4c_eq (belowM m x) (belowM m y)
  rw [hb] at hs hlt
  have hlt := of_decide_eq_true hlt.symm
  simp only [Bool.toNat_true] at hs
  apply N4.eq_of_val
  rw [minusM, ofNat_mod h.pos, Nat.add_mod, Nat.mod_eq_of_lt (show m.val - y.val % m.val < m.val by omega), Nat.mod_eq_of_lt (show x.val % m.val + (m.val - y.val % m.val) < m.val by omega)]
  cases hc : add4c (sub4 (belowM m x) (belowM m y)) m with
  | true => rw [hc] at ha; simp only [Bool.toNat_true] at ha; omega
  | false => rw [hc] at ha; simp only [Bool.toNat_false] at ha; omega
theorem minus_no {m : N4} (h : OddM m) (x y : N4) (hb : (b2u (sub4c (belowM m x) (belowM m y)) == 1) = false) : sub4 (belowM m x) (belowM m y) = minusM m x y := by
  rw [b2u_one] at hb
  have hx := belowM_val m x h.pos
  have hy := belowM_val m y h.pos
  have lx := Nat.mod_lt x.val h.pos
  have ly := Nat.mod_lt y.val h.pos
  have hs := sub4_val (belowM m x) (belowM m y)
  rw [hb] at hs
  simp only [Bool.toNat_false] at hs
  apply N4.eq_of_val
  rw [minusM, ofNat_mod h.pos, Nat.add_mod]
  have : (x.val % m.val + (m.val - y.val % m.val) % m.val) % m.val = (sub4 (belowM m x) (belowM m y)).val := by
    rw [Nat.add_mod_mod, show x.val % m.val + (m.val - y.val % m.val) = (sub4 (belowM m x) (belowM m y)).val + m.val by omega, Nat.add_mod_right, Nat.mod_eq_of_lt (by omega)]
  exact this.symm

/-! ### powers -/
theorem mulM_img {m x y : N4} (h : OddM m) {A B : Nat} (hx : x.val = A * RR % m.val) (hy : y.val = B * RR % m.val) : (mulM m x y).val = A * B * RR % m.val := by
  rw [mulM, ofNat_mod h.pos, hx, hy]
  have e : A * RR % m.val * (B * RR % m.val) * rinv m.val % m.val = A * B * RR * RR * rinv m.val % m.val := by
    rw [Nat.mul_assoc, mod_mul_l, ← Nat.mul_assoc, Nat.mul_comm (A * RR), Nat.mul_assoc, mod_mul_l,
      (fun (R x y z : Nat) => (show y * R * (x * R * z) = x * y * R * R * z by ac_rfl)) RR A B (rinv m.val)]
  rw [e, rinv_back h.odd h.big]
theorem toM_val {m : N4} (h : OddM m) (a : N4) : (toM m a).val = a.val * RR % m.val := ofNat_mod h.pos _
theorem pow_down {n L i : Nat} (hi : i < L) : n / 2 ^ (L - (i + 1)) = 2 * (n / 2 ^ (L - i)) + n / 2 ^ (L - 1 - i) % 2 := by
  have h := half_step n (L - 1 - i)
  rw [show L - 1 - i + 1 = L - i by omega] at h
  rw [show L - (i + 1) = L - 1 - i by omega]
  exact h
theorem pow_one {m q a n : N4} (h : OddM m) {i : Nat} (hi : i < len4 n) (hq : q.val = a.val ^ (n.val / 2 ^ (len4 n - i)) * RR % m.val) (hb : (bit4 n (len4 n - 1 - i) == 1) = true) :
    (mulM m (mulM m q q) (toM m a)).val = a.val ^ (n.val / 2 ^ (len4 n - (i + 1))) * RR % m.val := by
  have hl := len4_le n
  have hb := beq_one hb
  rw [bit4_val n _ (by omega)] at hb
  rw [pow_down hi, hb, mulM_img h (mulM_img h hq hq) (toM_val h a), ← Nat.pow_add, ← Nat.pow_succ]
  congr 3
  omega
theorem pow_none {m q a n : N4} (h : OddM m) {i : Nat} (hi : i < len4 n) (hq : q.val = a.val ^ (n.val / 2 ^ (len4 n - i)) * RR % m.val) (hb : (bit4 n (len4 n - 1 - i) == 1) = false) :
    (mulM m q q).val = a.val ^ (n.val / 2 ^ (len4 n - (i + 1))) * RR % m.val := by
  have hl := len4_le n
  have hb := bne_one hb
  rw [bit4_val n _ (by omega)] at hb
  rw [pow_down hi, show n.val / 2 ^ (len4 n - 1 - i) % 2 = 0 by omega, mulM_img h hq hq, ← Nat.pow_add]
  congr 3
  omega
theorem pow_begin {m a n : N4} (h : OddM m) : (oneS m true).val = a.val ^ (n.val / 2 ^ (len4 n - 0)) * RR % m.val := by
  show (oneM m).val = _
  rw [oneM_val h, Nat.sub_zero, len4_val, Nat.div_eq_of_lt (bitLen_lt n.val), Nat.pow_zero, Nat.one_mul]
theorem pow_end {m q a n : N4} (h : OddM m) (hq : q.val = a.val ^ (n.val / 2 ^ (len4 n - len4 n)) * RR % m.val) : fromM m q = powM m a n := by
  rw [Nat.sub_self, Nat.pow_zero, Nat.div_one] at hq
  rw [fromM, powM, hq, mod_mul_l, rinv_back h.odd h.big]
theorem times_mul {m : N4} (h : OddM m) (a b : N4) : mulM m (toM m a) b = timesM m a b := by
  apply N4.eq_of_val
  rw [mulM, timesM, ofNat_mod h.pos, ofNat_mod h.pos, toM_val h, Nat.mul_assoc, mod_mul_l,
    (fun (R x y z : Nat) => (show x * R * (y * z) = x * y * R * z by ac_rfl)) RR a.val b.val (rinv m.val), rinv_back h.odd h.big]

/-! ### which numbers may be -/
def checkE (m : N4) : Int := if m.val ≤ 1 then 11 else 12
theorem val_one' : (N4.mk 1 0 0 0).val = 1 := rfl
theorem few_yes {m : N4} (h : ((eq4 m (N4.mk 0 0 0 0)) || (eq4 m (N4.mk 1 0 0 0))) = true) : m.val ≤ 1 := by
  rcases bor_t h with h | h
  · rw [eq4_of h, val_zero]; omega
  · rw [eq4_of h, val_one']; omega
theorem few_no {m : N4} (h : ((eq4 m (N4.mk 0 0 0 0)) || (eq4 m (N4.mk 1 0 0 0))) = false) : 1 < m.val := by
  have h0 := ne4_of (bor_l h)
  have h1 := ne4_of (bor_r h)
  rw [val_zero] at h0
  rw [val_one'] at h1
  omega
theorem few_odd {m : N4} (h : OddM m) : ((eq4 m (N4.mk 0 0 0 0)) || (eq4 m (N4.mk 1 0 0 0))) = false := by
  cases hx : ((eq4 m (N4.mk 0 0 0 0)) || (eq4 m (N4.mk 1 0 0 0))) with
  | false => rfl
  | true => have := few_yes hx; have := h.big; omega
theorem bit0_val (m : N4) : (bitI m 0).toNat = m.val % 2 := by
  have := bitI_nat m 0 (by omega)
  rw [Nat.pow_zero, Nat.div_one] at this; exact this
theorem bit0_odd {m : N4} (h : OddM m) : (bitI m 0 == 0) = false := by
  cases hx : (bitI m 0 == 0) with
  | false => rfl
  | true =>
    have e := bit0_val m
    rw [beq_iff_eq.1 hx, h.odd] at e
    cases e
theorem odd_of {m : N4} (h1 : ((eq4 m (N4.mk 0 0 0 0)) || (eq4 m (N4.mk 1 0 0 0))) = false) (h2 : (bitI m 0 == 0) = false) : OddM m := by
  refine ⟨?_, few_no h1⟩
  have e := bit0_val m
  have : (bitI m 0).toNat ≠ 0 := fun h => by
    have : bitI m 0 = 0 := UInt64.toNat_inj.1 h
    rw [this] at h2; cases h2
  omega
theorem even_of {m : N4} (h2 : (bitI m 0 == 0) = true) : m.val % 2 = 0 := by rw [← bit0_val, beq_iff_eq.1 h2]; rfl
theorem checkE_11 {m : N4} (h : ((eq4 m (N4.mk 0 0 0 0)) || (eq4 m (N4.mk 1 0 0 0))) = true) : checkE m = 11 := if_pos (few_yes h)
theorem checkE_12 {m : N4} (h : ((eq4 m (N4.mk 0 0 0 0)) || (eq4 m (N4.mk 1 0 0 0))) = false) : checkE m = 12 := if_neg (by have := few_no h; omega)
theorem low_even (m : N4) : (m.a % 2).toNat = m.val % 2 := by
  rw [UInt64.toNat_mod]
  show m.a.toNat % 2 = _
  unfold N4.val; omega
theorem low0_odd {m : N4} (h : OddM m) : (m.a % 2 == 0) = false := by
  cases hx : (m.a % 2 == 0) with
  | false => rfl
  | true =>
    have e := low_even m
    rw [beq_iff_eq.1 hx, h.odd] at e
    cases e
theorem low_odd_of {m : N4} (h1 : ((eq4 m (N4.mk 0 0 0 0)) || (eq4 m (N4.mk 1 0 0 0))) = false) (h2 : (m.a % 2 == 0) = false) : OddM m := by
  refine ⟨?_, few_no h1⟩
  have e := low_even m
  have : (m.a % 2).toNat ≠ 0 := fun h => by
    have : m.a % 2 = 0 := UInt64.toNat_inj.1 h
    rw [this] at h2; cases h2
  omega
end Go.Eng
