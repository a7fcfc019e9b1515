/-
  Mont: products modulo an odd number, as numbers.
-/
import Derived.Test.YtfeepilncjplmaaLimbRef2
namespace Go.Eng

def RR : Nat := 2 ^ 256
theorem RR_eq : RR = 115792089237316195423570985008687907853269984665640564039457584007913129639936 := by decide
structure OddM (m : N4) : Prop where
  odd : m.val % 2 = 1
  big : 1 < m.val

/-! ### the inverse modulo 2^256 -/
def nE (k : Nat) : Nat := if k = 0 then 3 else if k = 1 then 6 else if k = 2 then 12 else if k = 3 then 24 else if k = 4 then 48 else if k = 5 then 96 else if k = 6 then 192 else 256
theorem nE_step (k : Nat) (hk : k < 7) : nE (k + 1) ≤ 2 * nE k ∧ nE (k + 1) ≤ 256 := by
  rcases k with _ | _ | _ | _ | _ | _ | _ | k <;> first | decide | omega
theorem pow_dvd2 {a b : Nat} (h : a ≤ b) : ((2 : Int) ^ a) ∣ 2 ^ b := ⟨2 ^ (b - a), by rw [← Int.pow_add]; congr 1; omega⟩

def lowN (w : N8) : N4 := w.lo
theorem lo_mod (w : N8) : w.lo.val = w.val % RR := by
  have := w.lo.val_lt
  unfold N8.val RR
  omega
theorem hi_div (w : N8) : w.hi.val = w.val / RR := by
  have := w.lo.val_lt
  unfold N8.val RR
  omega
theorem mul8_val' (x y : N4) : (mul8 x y).val = x.val * y.val := mul8_val x y

theorem mod_int (a : Nat) : ∃ s : Int, ((a % RR : Nat) : Int) = (a : Int) + RR * s := ⟨-((a / RR : Nat) : Int), by
  have := Nat.div_add_mod a RR
  generalize a / RR = q at *
  generalize a % RR = r at *
  have h2 : ((RR * q + r : Nat) : Int) = (a : Int) := by rw [this]
  push_cast at h2
  rw [Int.mul_neg]; omega⟩

theorem newton_step (m v : N4) (k : Nat) (hk : k < 7) (h : ((2 : Int) ^ nE k) ∣ (m.val : Int) * v.val - 1) :
    ((2 : Int) ^ nE (k + 1)) ∣ (m.val : Int) * (mul8 v (sub4 ⟨2, 0, 0, 0⟩ (mul8 m v).lo)).lo.val - 1 := by
  have e1 : (mul8 m v).lo.val = m.val * v.val % RR := by rw [lo_mod, mul8_val']
  have hs := sub4_val ⟨2, 0, 0, 0⟩ (mul8 m v).lo
  have e2 : (mul8 v (sub4 ⟨2, 0, 0, 0⟩ (mul8 m v).lo)).lo.val = v.val * (sub4 ⟨2, 0, 0, 0⟩ (mul8 m v).lo).val % RR := by rw [lo_mod, mul8_val']
  generalize (sub4 ⟨2, 0, 0, 0⟩ (mul8 m v).lo) = l at *
  generalize (mul8 v l).lo = v' at *
  generalize sub4c ⟨2, 0, 0, 0⟩ (mul8 m v).lo = c at *
  generalize (mul8 m v).lo = p at *
  have v2 : (N4.mk 2 0 0 0).val = 2 := rfl
  rw [v2] at hs
  obtain ⟨s1, h1⟩ := mod_int (m.val * v.val)
  obtain ⟨s2, h2⟩ := mod_int (v.val * l.val)
  rw [← e1] at h1
  rw [← e2] at h2
  push_cast at h1 h2
  have h3 : (l.val : Int) + p.val = 2 + RR * (c.toNat : Int) := by
    have : l.val + p.val = 2 + RR * c.toNat := hs
    have := congrArg (fun n : Nat => (n : Int)) this
    push_cast at this; exact this
  -- l = 2 - m v + RR * (c - s1)
  obtain ⟨d, hd⟩ := h
  have hl : (l.val : Int) = 2 - (m.val : Int) * v.val + RR * ((c.toNat : Int) - s1) := by rw [Int.mul_sub]; omega
  have key : (m.val : Int) * v'.val - 1 = -((m.val : Int) * v.val - 1) * ((m.val : Int) * v.val - 1) + RR * ((m.val : Int) * v.val * ((c.toNat : Int) - s1) + m.val * s2) := by
    rw [h2, hl]
    generalize (m.val : Int) = M
    generalize (v.val : Int) = V
    generalize (c.toNat : Int) - s1 = t
    generalize (RR : Int) = R
    rw [Int.mul_add M, Int.mul_add V, Int.mul_sub V, Int.mul_add M]
    rw [Int.mul_sub M]
    have a1 : M * (V * 2) = 2 * (M * V) := by rw [← Int.mul_assoc, Int.mul_comm]
    have a2 : M * (V * (M * V)) = M * V * (M * V) := by rw [← Int.mul_assoc]
    have a3 : M * (V * (R * t)) = R * (M * V * t) := by rw [← Int.mul_assoc, Int.mul_left_comm]
    have a4 : M * (R * s2) = R * (M * s2) := Int.mul_left_comm _ _ _
    rw [a1, a2, a3, a4]
    generalize M * V = x
    have a5 : -(x - 1) * (x - 1) = 2 * x - x * x - 1 := by
      rw [Int.neg_mul, Int.sub_mul, Int.mul_sub, Int.one_mul, Int.mul_one]; omega
    rw [a5, Int.mul_add R]
    omega
  rw [key]
  obtain ⟨s1, s2⟩ := nE_step k hk
  refine Int.dvd_add ?_ ?_
  · rw [hd, Int.neg_mul]
    refine Int.dvd_neg.2 ?_
    have : ((2 : Int) ^ nE k * d) * (2 ^ nE k * d) = 2 ^ (2 * nE k) * (d * d) := by
      rw [show 2 * nE k = nE k + nE k by omega, Int.pow_add, Int.mul_assoc, Int.mul_assoc]
      congr 1
      rw [← Int.mul_assoc d, Int.mul_comm d, Int.mul_assoc]
    rw [this]
    exact Int.dvd_trans (pow_dvd2 s1) (Int.dvd_mul_right _ _)
  · have : (RR : Int) = 2 ^ 256 := Int.natCast_pow 2 256
    rw [this]
    exact Int.dvd_trans (pow_dvd2 s2) (Int.dvd_mul_right _ _)

theorem newton_begin {m : N4} (h : OddM m) : ((2 : Int) ^ nE 0) ∣ (m.val : Int) * m.val - 1 := by
  have ho := h.odd
  obtain ⟨q, hq⟩ : ∃ q, m.val = 2 * q + 1 := ⟨m.val / 2, by omega⟩
  have e : q * (q + 1) % 2 = 0 := by
    rcases Nat.mod_two_eq_zero_or_one q with h0 | h0
    · rw [Nat.mul_mod, h0]; simp
    · rw [Nat.mul_mod, show (q + 1) % 2 = 0 by omega]; simp
  refine ⟨((q * (q + 1) / 2 : Nat) : Int), ?_⟩
  have e2 : q * (q + 1) = 2 * (q * (q + 1) / 2) := (fun (t : Nat) (h : t % 2 = 0) => (show t = 2 * (t / 2) by omega)) _ e
  have e3 : m.val * m.val = 4 * (q * (q + 1)) + 1 := by
    have h1 : (2 * q + 1) * (2 * q + 1) = 2 * q * (2 * q) + 2 * q + 2 * q + 1 := by rw [Nat.add_mul, Nat.mul_add, Nat.one_mul, Nat.mul_one]; omega
    have h2 : 2 * q * (2 * q) = 4 * (q * q) := by rw [Nat.mul_mul_mul_comm]
    have h3 : q * (q + 1) = q * q + q := Nat.mul_succ q q
    rw [hq, h1, h2, h3]; omega
  have e5 : m.val * m.val = 8 * (q * (q + 1) / 2) + 1 := by
    rw [e3]; exact (fun (t : Nat) (h : t = 2 * (t / 2)) => (show 4 * t + 1 = 8 * (t / 2) + 1 by omega)) _ e2
  have e4 : ((m.val * m.val : Nat) : Int) = ((8 * (q * (q + 1) / 2) + 1 : Nat) : Int) := by rw [e5]
  clear e2 e5 e3 e
  generalize q * (q + 1) / 2 = t at *
  push_cast at e4
  have : (2 : Int) ^ nE 0 = 8 := by decide
  rw [this]
  rw [e4]
  omega

/-- What by m is -1. -/
theorem lack_of {m v : N4} (h : ((2 : Int) ^ nE 7) ∣ (m.val : Int) * v.val - 1) : ((sub4 ⟨0, 0, 0, 0⟩ v).val * m.val + 1) % RR = 0 := by
  have hs := sub4_val ⟨0, 0, 0, 0⟩ v
  generalize sub4 ⟨0, 0, 0, 0⟩ v = l at *
  generalize sub4c ⟨0, 0, 0, 0⟩ v = c at *
  rw [val_zero] at hs
  obtain ⟨d, hd⟩ := h
  have hR : (2 : Int) ^ nE 7 = RR := (Int.natCast_pow 2 256).symm
  rw [hR] at hd
  have h3 : (l.val : Int) + v.val = RR * (c.toNat : Int) := by
    have : l.val + v.val = 0 + RR * c.toNat := hs
    have := congrArg (fun n : Nat => (n : Int)) this
    push_cast at this; omega
  have key : ((l.val * m.val + 1 : Nat) : Int) = RR * ((c.toNat : Int) * m.val - d) := by
    push_cast
    have : (l.val : Int) = RR * (c.toNat : Int) - v.val := by omega
    rw [this, Int.sub_mul, Int.mul_sub, Int.mul_comm (v.val : Int), Int.mul_assoc]
    omega
  have hdvd : (RR : Int) ∣ ((l.val * m.val + 1 : Nat) : Int) := ⟨_, key⟩
  exact Nat.mod_eq_zero_of_dvd (Int.natCast_dvd_natCast.1 hdvd)

/-! ### what is divided by 2^256 modulo m -/
def rinv (m : Nat) : Nat := ((m + 1) / 2) ^ 256 % m
theorem rinv_spec {m : Nat} (ho : m % 2 = 1) (hb : 1 < m) : RR * rinv m % m = 1 := by
  unfold rinv RR
  rw [Nat.mul_mod, Nat.mod_mod, ← Nat.mul_mod, ← Nat.mul_pow]
  have : 2 * ((m + 1) / 2) = m + 1 := by omega
  rw [this, Nat.pow_mod, Nat.add_mod_left, Nat.mod_eq_of_lt hb, Nat.one_pow, Nat.mod_eq_of_lt hb]
theorem mod_mul_l (a b m : Nat) : a % m * b % m = a * b % m := by rw [Nat.mul_mod, Nat.mod_mod, ← Nat.mul_mod]
theorem mod_mul_r (a b m : Nat) : a * (b % m) % m = a * b % m := by rw [Nat.mul_mod, Nat.mod_mod, ← Nat.mul_mod]
theorem redc_unique {m r w : Nat} (ho : m % 2 = 1) (hb : 1 < m) (hr : r < m) (h : r * RR % m = w % m) : r = w * rinv m % m := by
  have h1 := rinv_spec ho hb
  calc r = r % m := (Nat.mod_eq_of_lt hr).symm
    _ = r * (RR * rinv m % m) % m := by rw [h1, Nat.mul_one]
    _ = r * RR * rinv m % m := by rw [mod_mul_r, Nat.mul_assoc]
    _ = (r * RR % m) * rinv m % m := (mod_mul_l _ _ _).symm
    _ = (w % m) * rinv m % m := by rw [h]
    _ = w * rinv m % m := mod_mul_l _ _ _
theorem rinv_back {m a : Nat} (ho : m % 2 = 1) (hb : 1 < m) : a * RR * rinv m % m = a % m := by
  rw [Nat.mul_assoc, Nat.mul_mod, rinv_spec ho hb, Nat.mul_one, Nat.mod_mod]

/-- 'less': m is taken away once. -/
def lessM (m a : N4) (c : UInt64) : N4 := match (c == 0) && (b2u (sub4c a m) == 1) with
  | true => a
  | false => sub4 a m
theorem lessM_val (m a : N4) (c : UInt64) (hm : 0 < m.val) (hc : c.toNat ≤ 1) (h : a.val + RR * c.toNat < 2 * m.val) : (lessM m a c).val = (a.val + RR * c.toNat) % m.val := by
  have hs := sub4_val a m
  have h1 := a.val_lt
  have h2 := m.val_lt
  have h3 := (sub4 a m).val_lt
  unfold lessM RR at *
  rw [b2u_one]
  by_cases hz : c = 0
  · subst hz
    have e0 : (0 : UInt64).toNat = 0 := rfl
    rw [e0] at *
    simp only [BEq.rfl, Bool.true_and]
    cases hb : sub4c a m with
    | true =>
      simp only
      rw [hb] at hs; simp only [Bool.toNat_true] at hs
      rw [Nat.mod_eq_of_lt (by omega)]; omega
    | false =>
      simp only
      rw [hb] at hs; simp only [Bool.toNat_false] at hs
      rw [show a.val + 2 ^ 256 * 0 = (sub4 a m).val + m.val by omega, Nat.add_mod_right, Nat.mod_eq_of_lt (by omega)]
  · have : (c == 0) = false := by simpa using hz
    rw [this]
    simp only [Bool.false_and]
    have hc1 : c.toNat = 1 := by
      have : c.toNat ≠ 0 := fun e => hz (UInt64.toNat_inj.1 (by rw [e]; rfl))
      omega
    rw [hc1] at h
    rw [hc1]
    have hsc : (sub4c a m).toNat ≤ 1 := toNat_le _
    have hsc1 : sub4c a m = true := by
      cases hb : sub4c a m with
      | true => rfl
      | false => rw [hb] at hs; simp only [Bool.toNat_false] at hs; omega
    rw [hsc1] at hs; simp only [Bool.toNat_true] at hs
    have e : a.val + 2 ^ 256 * 1 = (sub4 a m).val + m.val := by omega
    rw [e, Nat.add_mod_right, Nat.mod_eq_of_lt (by omega)]

/-- 'below'. -/
def belowM (m a : N4) : N4 := N4.ofNat (a.val % m.val)
theorem belowM_val (m a : N4) (hm : 0 < m.val) : (belowM m a).val = a.val % m.val := by
  have h1 := m.val_lt
  have := Nat.mod_lt a.val hm
  rw [belowM, N4.val_ofNat, Nat.mod_eq_of_lt (by omega)]
theorem belowM_yes {m a : N4} (h : decide (cmp4 a m < 0) = true) : a = belowM m a := by
  have h := of_decide_eq_true h
  rw [cmp4_eq, ord] at h
  have : a.val < m.val := by
    by_cases h1 : a.val < m.val
    · exact h1
    · rw [if_neg h1] at h; split at h <;> omega
  exact N4.eq_ofNat (Nat.mod_eq_of_lt this).symm

/-- 'reduce', of a wide number w. -/
def redM (m lack : N4) (w : N8) : N4 :=
  lessM m (add4 (add4 w.hi (mul8 (mul8 w.lo lack).lo m).hi) ⟨b2u (add4c w.lo (mul8 (mul8 w.lo lack).lo m).lo), 0, 0, 0⟩)
    (b2u (add4c w.hi (mul8 (mul8 w.lo lack).lo m).hi) + b2u (add4c (add4 w.hi (mul8 (mul8 w.lo lack).lo m).hi) ⟨b2u (add4c w.lo (mul8 (mul8 w.lo lack).lo m).lo), 0, 0, 0⟩))
theorem redM_val {m lack : N4} {w : N8} (hm : OddM m) (hl : (lack.val * m.val + 1) % RR = 0) (hw : w.val < m.val * RR) : redM m lack w = N4.ofNat (w.val * rinv m.val % m.val) := by
  apply N4.eq_ofNat
  unfold redM
  have hP := mul8_val' (mul8 w.lo lack).lo m
  have ho : (mul8 w.lo lack).lo.val = w.lo.val * lack.val % RR := by rw [lo_mod, mul8_val']
  have hol := (mul8 w.lo lack).lo.val_lt
  generalize (mul8 w.lo lack).lo = o at *
  have hPv : (mul8 o m).val = (mul8 o m).lo.val + RR * (mul8 o m).hi.val := rfl
  rw [hPv] at hP
  generalize (mul8 o m).lo = pl at *
  generalize (mul8 o m).hi = ph at *
  have hw2 : w.val = w.lo.val + RR * w.hi.val := rfl
  rw [hw2] at hw ⊢
  generalize w.lo = L at *
  generalize w.hi = H at *
  have a1 := add4_val L pl
  have a2 := add4_val H ph
  have b1 := (add4 L pl).val_lt
  have c1 := toNat_le (add4c L pl)
  have c2 := toNat_le (add4c H ph)
  -- what is below is 0
  have hz : (L.val + pl.val) % RR = 0 := by
    have h1 : (L.val + (pl.val + RR * ph.val)) % RR = 0 := by
      rw [hP, ho, Nat.add_mod, mod_mul_l, ← Nat.add_mod, Nat.mul_assoc]
      have : L.val + L.val * (lack.val * m.val) = L.val * (lack.val * m.val + 1) := by rw [Nat.mul_add]; omega
      rw [this, Nat.mul_mod, hl, Nat.mul_zero, Nat.zero_mod]
    rw [← Nat.add_assoc, Nat.add_mul_mod_self_left] at h1
    exact h1
  have hzero : (add4 L pl).val = 0 := by
    have h2 : L.val + pl.val = (add4 L pl).val + RR * (add4c L pl).toNat := by unfold RR; omega
    rw [h2, Nat.add_mul_mod_self_left, Nat.mod_eq_of_lt (by unfold RR; exact b1)] at hz
    exact hz
  have hc : L.val + pl.val = RR * (add4c L pl).toNat := by rw [hzero] at a1; unfold RR; omega
  generalize add4 L pl = dead at *
  generalize hcc : add4c L pl = c at *
  have hcv : (N4.mk (b2u c) 0 0 0).val = c.toNat := by rw [small_val]
  have a3 := add4_val (add4 H ph) ⟨b2u c, 0, 0, 0⟩
  rw [hcv] at a3
  have c3 := toNat_le (add4c (add4 H ph) ⟨b2u c, 0, 0, 0⟩)
  generalize hS : add4 (add4 H ph) ⟨b2u c, 0, 0, 0⟩ = S at *
  generalize add4c (add4 H ph) ⟨b2u c, 0, 0, 0⟩ = d2 at *
  generalize add4 H ph = s1 at *
  generalize add4c H ph = d1 at *
  have hmlt := m.val_lt
  -- the sum is below twice m
  have hT : RR * (H.val + ph.val + c.toNat) = L.val + RR * H.val + o.val * m.val := by
    rw [Nat.mul_add, Nat.mul_add, ← hc, ← hP]; omega
  have hT2 : H.val + ph.val + c.toNat < 2 * m.val := by
    have h1 : o.val * m.val ≤ RR * m.val := Nat.mul_le_mul_right _ (Nat.le_of_lt hol)
    have h2 : RR * (H.val + ph.val + c.toNat) < RR * (2 * m.val) := by
      rw [hT, Nat.mul_left_comm, Nat.two_mul]
      have : m.val * RR = RR * m.val := Nat.mul_comm _ _
      omega
    exact Nat.lt_of_mul_lt_mul_left h2
  have hsum : S.val + RR * (d1.toNat + d2.toNat) = H.val + ph.val + c.toNat := by
    rw [Nat.mul_add]; unfold RR; omega
  have hd : d1.toNat + d2.toNat ≤ 1 := by
    have h1 := S.val_lt
    unfold RR at hsum
    omega
  have hdv : (b2u d1 + b2u d2).toNat = d1.toNat + d2.toNat := by
    rw [UInt64.toNat_add, b2u_toNat, b2u_toNat, Nat.mod_eq_of_lt (by omega)]
  have hm0 : 0 < m.val := by have := hm.big; omega
  rw [lessM_val m S (b2u d1 + b2u d2) hm0 (by omega) (by rw [hdv, hsum]; exact hT2), hdv, hsum]
  apply redc_unique hm.odd hm.big (Nat.mod_lt _ hm0)
  rw [mod_mul_l, Nat.mul_comm, hT, Nat.add_mul_mod_self_right]

/-! ### what Mod does, as numbers -/

def oneM (m : N4) : N4 := N4.ofNat (RR % m.val)
def twoM (m : N4) : N4 := N4.ofNat (RR * RR % m.val)
def toM (m a : N4) : N4 := N4.ofNat (a.val * RR % m.val)
def fromM (m a : N4) : N4 := N4.ofNat (a.val * rinv m.val % m.val)
def mulM (m a b : N4) : N4 := N4.ofNat (a.val * b.val * rinv m.val % m.val)
def timesM (m a b : N4) : N4 := N4.ofNat (a.val * b.val % m.val)
def plusM (m a b : N4) : N4 := N4.ofNat ((a.val + b.val) % m.val)
def minusM (m a b : N4) : N4 := N4.ofNat ((a.val + (m.val - b.val % m.val)) % m.val)
def powM (m a n : N4) : N4 := N4.ofNat (a.val ^ n.val % m.val)
theorem ofNat_mod {m : N4} (hm : 0 < m.val) (x : Nat) : (N4.ofNat (x % m.val)).val = x % m.val := by
  have := Nat.mod_lt x hm
  have := m.val_lt
  rw [N4.val_ofNat, Nat.mod_eq_of_lt (by omega)]
theorem OddM.pos {m : N4} (h : OddM m) : 0 < m.val := by have := h.big; omega
end Go.Eng
