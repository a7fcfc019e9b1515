/-
  What limb's plain functions are as numbers.
-/
import Derived.Test.YtikfnopccneijaaLimbDefs
namespace Go.Eng

theorem add_limb (x y : UInt64) (c : Bool) : (addS x y c).toNat + 18446744073709551616 * (addC x y c).toNat = x.toNat + y.toNat + c.toNat := by
  rw [addS_toNat, addC_toNat]; omega

theorem sub_limb (x y : UInt64) (c : Bool) : (subS x y c).toNat + y.toNat + c.toNat = x.toNat + 18446744073709551616 * (subC x y c).toNat := by
  have h1 := x.toNat_lt
  have h2 := y.toNat_lt
  rw [subS_toNat]
  unfold subC
  have hc : c.toNat ≤ 1 := by cases c <;> simp
  by_cases h : x.toNat < y.toNat + c.toNat
  · simp only [h, decide_true, Bool.toNat_true]; omega
  · simp only [h, decide_false, Bool.toNat_false]; omega

theorem N4.val_lt (x : N4) : x.val < 2 ^ 256 := by
  have := x.a.toNat_lt; have := x.b.toNat_lt; have := x.c.toNat_lt; have := x.d.toNat_lt
  unfold N4.val; omega

theorem N4.ext_val {x y : N4} (h : x.val = y.val) : x = y := by
  have := x.a.toNat_lt; have := x.b.toNat_lt; have := x.c.toNat_lt; have := x.d.toNat_lt
  have := y.a.toNat_lt; have := y.b.toNat_lt; have := y.c.toNat_lt; have := y.d.toNat_lt
  unfold N4.val at h
  have h1 : x.a.toNat = y.a.toNat := by omega
  have h2 : x.b.toNat = y.b.toNat := by omega
  have h3 : x.c.toNat = y.c.toNat := by omega
  have h4 : x.d.toNat = y.d.toNat := by omega
  cases x; cases y
  simp only at h1 h2 h3 h4
  rw [UInt64.toNat_inj.1 h1, UInt64.toNat_inj.1 h2, UInt64.toNat_inj.1 h3, UInt64.toNat_inj.1 h4]

theorem eq4_iff (x y : N4) : eq4 x y = true ↔ x = y := by
  unfold eq4
  constructor
  · intro h
    simp only [Bool.and_eq_true, beq_iff_eq] at h
    obtain ⟨h1, h2, h3, h4⟩ := h
    cases x; cases y
    simp only at h1 h2 h3 h4
    rw [h1, h2, h3, h4]
  · rintro rfl; simp

theorem eq4_val (x y : N4) : eq4 x y = decide (x.val = y.val) := by
  rw [Bool.eq_iff_iff, eq4_iff, decide_eq_true_iff]
  exact ⟨fun h => by rw [h], N4.ext_val⟩

theorem add4_val (x y : N4) : (add4 x y).val + 2 ^ 256 * (add4c x y).toNat = x.val + y.val := by
  have h1 := add_limb x.a y.a false
  have h2 := add_limb x.b y.b (addC x.a y.a false)
  have h3 := add_limb x.c y.c (addC x.b y.b (addC x.a y.a false))
  have h4 := add_limb x.d y.d (addC x.c y.c (addC x.b y.b (addC x.a y.a false)))
  simp only [Bool.toNat_false] at h1
  simp only [N4.val, add4, add4c]
  omega

theorem sub4_val (x y : N4) : (sub4 x y).val + y.val = x.val + 2 ^ 256 * (sub4c x y).toNat := by
  have h1 := sub_limb x.a y.a false
  have h2 := sub_limb x.b y.b (subC x.a y.a false)
  have h3 := sub_limb x.c y.c (subC x.b y.b (subC x.a y.a false))
  have h4 := sub_limb x.d y.d (subC x.c y.c (subC x.b y.b (subC x.a y.a false)))
  simp only [Bool.toNat_false] at h1
  simp only [N4.val, sub4, sub4c]
  omega

theorem toNat_le (b : Bool) : b.toNat ≤ 1 := by cases b <;> simp
theorem toNat_inj {a b : Bool} (h : a.toNat = b.toNat) : a = b := by cases a <;> cases b <;> simp_all

theorem sub4c_eq (x y : N4) : sub4c x y = decide (x.val < y.val) := by
  have h := sub4_val x y
  have h1 := (sub4 x y).val_lt
  have h2 := x.val_lt
  have h3 := y.val_lt
  cases hc : sub4c x y with
  | true => rw [hc] at h; simp only [Bool.toNat_true] at h; exact (decide_eq_true (by omega)).symm
  | false => rw [hc] at h; simp only [Bool.toNat_false] at h; exact (decide_eq_false (by omega)).symm

theorem cmp3_eq (x y : UInt64) : cmp3 x y = if x.toNat < y.toNat then -1 else if y.toNat < x.toNat then 1 else 0 := by
  unfold cmp3
  by_cases h : x.toNat < y.toNat
  · have : decide (x < y) = true := decide_eq_true (UInt64.lt_iff_toNat_lt.2 h)
    rw [this, if_pos h]
  · have : decide (x < y) = false := decide_eq_false (fun h' => h (UInt64.lt_iff_toNat_lt.1 h'))
    rw [this, if_neg h]
    by_cases h2 : y.toNat < x.toNat
    · have : decide (y < x) = true := decide_eq_true (UInt64.lt_iff_toNat_lt.2 h2)
      rw [this, if_pos h2]
    · have : decide (y < x) = false := decide_eq_false (fun h' => h2 (UInt64.lt_iff_toNat_lt.1 h'))
      rw [this, if_neg h2]

/-- Order as a number. -/
def ord (a b : Nat) : Int := if a < b then -1 else if b < a then 1 else 0

theorem cmp4_eq (x y : N4) : cmp4 x y = ord x.val y.val := by
  have := x.a.toNat_lt; have := x.b.toNat_lt; have := x.c.toNat_lt; have := x.d.toNat_lt
  have := y.a.toNat_lt; have := y.b.toNat_lt; have := y.c.toNat_lt; have := y.d.toNat_lt
  unfold cmp4 ord N4.val
  simp only [cmp3_eq]
  by_cases hd : x.d.toNat < y.d.toNat
  · rw [if_pos hd, if_pos (by omega), if_pos (by omega)]
  · by_cases hd' : y.d.toNat < x.d.toNat
    · rw [if_neg hd, if_pos hd', if_pos (by omega), if_neg (by omega), if_pos (by omega)]
    · rw [if_neg hd, if_neg hd', if_neg (by omega)]
      by_cases hc : x.c.toNat < y.c.toNat
      · rw [if_pos hc, if_pos (by omega), if_pos (by omega)]
      · by_cases hc' : y.c.toNat < x.c.toNat
        · rw [if_neg hc, if_pos hc', if_pos (by omega), if_neg (by omega), if_pos (by omega)]
        · rw [if_neg hc, if_neg hc', if_neg (by omega)]
          by_cases hb : x.b.toNat < y.b.toNat
          · rw [if_pos hb, if_pos (by omega), if_pos (by omega)]
          · by_cases hb' : y.b.toNat < x.b.toNat
            · rw [if_neg hb, if_pos hb', if_pos (by omega), if_neg (by omega), if_pos (by omega)]
            · rw [if_neg hb, if_neg hb', if_neg (by omega)]
              by_cases ha : x.a.toNat < y.a.toNat
              · rw [if_pos ha, if_pos (by omega)]
              · by_cases ha' : y.a.toNat < x.a.toNat
                · rw [if_neg ha, if_pos ha', if_neg (by omega), if_pos (by omega)]
                · rw [if_neg ha, if_neg ha', if_neg (by omega), if_neg (by omega)]

theorem b2u_one (b : Bool) : (b2u b == 1) = b := by cases b <;> rfl

/-! ### products -/
theorem mul_le64 (a b : UInt64) : a.toNat * b.toNat ≤ 340282366920938463426481119284349108225 :=
  Nat.mul_le_mul (Nat.le_of_lt_succ a.toNat_lt) (Nat.le_of_lt_succ b.toNat_lt)

theorem gather_val (a b c d : UInt64) : (gatherLo a b c d).toNat + 18446744073709551616 * (gatherHi a b c d).toNat = a.toNat * b.toNat + c.toNat + d.toNat := by
  have hm := mul_le64 a b
  have hc := c.toNat_lt
  have hd := d.toNat_lt
  have h0 : (a * b).toNat = a.toNat * b.toNat % 18446744073709551616 := UInt64.toNat_mul a b
  have h1 : (mulHi a b).toNat = a.toNat * b.toNat / 18446744073709551616 := by
    rw [mulHi, UInt64.toNat_ofNat', Nat.mod_eq_of_lt (by omega)]
  have h2 := add_limb (a * b) c false
  have h3 := add_limb (addS (a * b) c false) d false
  simp only [Bool.toNat_false, Nat.add_zero] at h2 h3
  have h4 := toNat_le (addC (a * b) c false)
  have h5 := toNat_le (addC (addS (a * b) c false) d false)
  unfold gatherLo gatherHi
  rw [UInt64.toNat_add, UInt64.toNat_add, b2u_toNat, b2u_toNat, h1]
  generalize a.toNat * b.toNat = m at *
  omega

theorem row_val (x : UInt64) (y : N4) (w0 w1 w2 w3 : UInt64) :
    (mulRow x y w0 w1 w2 w3).a.toNat + 18446744073709551616 * ((mulRow x y w0 w1 w2 w3).b.toNat + 18446744073709551616 * ((mulRow x y w0 w1 w2 w3).c.toNat + 18446744073709551616 * ((mulRow x y w0 w1 w2 w3).d.toNat + 18446744073709551616 * (mulRow x y w0 w1 w2 w3).e.toNat))) =
      x.toNat * y.val + (w0.toNat + 18446744073709551616 * (w1.toNat + 18446744073709551616 * (w2.toNat + 18446744073709551616 * w3.toNat))) := by
  have h1 := gather_val x y.a w0 0
  have h2 := gather_val x y.b w1 (gatherHi x y.a w0 0)
  have h3 := gather_val x y.c w2 (gatherHi x y.b w1 (gatherHi x y.a w0 0))
  have h4 := gather_val x y.d w3 (gatherHi x y.c w2 (gatherHi x y.b w1 (gatherHi x y.a w0 0)))
  have h0 : (0 : UInt64).toNat = 0 := rfl
  rw [h0] at h1
  have hv : x.toNat * y.val = x.toNat * y.a.toNat + 2 ^ 64 * (x.toNat * y.b.toNat) + 2 ^ 128 * (x.toNat * y.c.toNat) + 2 ^ 192 * (x.toNat * y.d.toNat) := by
    unfold N4.val
    rw [Nat.mul_add, Nat.mul_add, Nat.mul_add, Nat.mul_left_comm, Nat.mul_left_comm _ (2 ^ 128), Nat.mul_left_comm _ (2 ^ 192)]
  rw [hv]
  simp only [mulRow]
  omega

theorem mul8_val (x y : N4) : (mul8 x y).lo.val + 2 ^ 256 * (mul8 x y).hi.val = x.val * y.val := by
  have h1 := row_val x.a y 0 0 0 0
  have h2 := row_val x.b y (row1 x y).b (row1 x y).c (row1 x y).d (row1 x y).e
  have h3 := row_val x.c y (row2 x y).b (row2 x y).c (row2 x y).d (row2 x y).e
  have h4 := row_val x.d y (row3 x y).b (row3 x y).c (row3 x y).d (row3 x y).e
  have h0 : (0 : UInt64).toNat = 0 := rfl
  rw [h0] at h1
  have e1 : mulRow x.a y 0 0 0 0 = row1 x y := rfl
  have e2 : mulRow x.b y (row1 x y).b (row1 x y).c (row1 x y).d (row1 x y).e = row2 x y := rfl
  have e3 : mulRow x.c y (row2 x y).b (row2 x y).c (row2 x y).d (row2 x y).e = row3 x y := rfl
  have e4 : mulRow x.d y (row3 x y).b (row3 x y).c (row3 x y).d (row3 x y).e = row4 x y := rfl
  rw [e1] at h1; rw [e2] at h2; rw [e3] at h3; rw [e4] at h4
  have hv : x.val * y.val = x.a.toNat * y.val + 2 ^ 64 * (x.b.toNat * y.val) + 2 ^ 128 * (x.c.toNat * y.val) + 2 ^ 192 * (x.d.toNat * y.val) := by
    have : x.val = x.a.toNat + 2 ^ 64 * x.b.toNat + 2 ^ 128 * x.c.toNat + 2 ^ 192 * x.d.toNat := rfl
    rw [this, Nat.add_mul, Nat.add_mul, Nat.add_mul, Nat.mul_assoc, Nat.mul_assoc, Nat.mul_assoc]
  rw [hv]
  have hlo : (mul8 x y).lo.val = (row1 x y).a.toNat + 2 ^ 64 * (row2 x y).a.toNat + 2 ^ 128 * (row3 x y).a.toNat + 2 ^ 192 * (row4 x y).a.toNat := rfl
  have hhi : (mul8 x y).hi.val = (row4 x y).b.toNat + 2 ^ 64 * (row4 x y).c.toNat + 2 ^ 128 * (row4 x y).d.toNat + 2 ^ 192 * (row4 x y).e.toNat := rfl
  rw [hlo, hhi]
  generalize x.a.toNat * y.val = p1 at *
  generalize x.b.toNat * y.val = p2 at *
  generalize x.c.toNat * y.val = p3 at *
  generalize x.d.toNat * y.val = p4 at *
  omega

theorem N8.ext_val {x y : N8} (h : x.lo.val + 2 ^ 256 * x.hi.val = y.lo.val + 2 ^ 256 * y.hi.val) : x = y := by
  have h1 := x.lo.val_lt
  have h2 := y.lo.val_lt
  have e1 : x.lo = y.lo := N4.ext_val (by omega)
  have e2 : x.hi = y.hi := N4.ext_val (by omega)
  cases x; cases y
  simp only at e1 e2
  rw [e1, e2]

theorem small_val (b : Bool) : (N4.mk (b2u b) 0 0 0).val = b.toNat := by
  cases b <;> rfl

end Go.Eng
