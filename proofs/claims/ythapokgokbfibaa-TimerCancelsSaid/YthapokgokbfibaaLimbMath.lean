/-
  What limb's plain functions are as numbers.
-/
import Derived.Test.YthapokgokbfibaaLimbDefs
namespace Go.Eng

theorem add_limb (x y : UInt64) (c : Bool) : (addS x y c).toNat + 18446744073709551616 * (addC x y c).toNat = x.toNat + y.toNat + c.toNat := by
  rw [addS_toNat, addC_toNat]; omega

theorem sub_limb (x y : UInt64) (c : Bool) : (subS x y c).toNat + y.toNat + c.toNat = x.toNat + 18446744073709551616 * (subC x y c).toNat := by
  have h1 := x.toNat_lt
  have h2 := y.toNat_lt
  rw [subS_toNat]
  unfold subC
  have hc : c.toNat ≤ 1 := by cases c <;> simp
  by_cases h : x.toNat < y.toNat + c.toNat
  · simp only [h, decide_true, Bool.toNat_true]; omega
  · simp only [h, decide_false, Bool.toNat_false]; omega

theorem N4.val_lt (x : N4) : x.val < 2 ^ 256 := by
  have := x.a.toNat_lt; have := x.b.toNat_lt; have := x.c.toNat_lt; have := x.d.toNat_lt
  unfold N4.val; omega

theorem N4.ext_val {x y : N4} (h : x.val = y.val) : x = y := by
  have := x.a.toNat_lt; have := x.b.toNat_lt; have := x.c.toNat_lt; have := x.d.toNat_lt
  have := y.a.toNat_lt; have := y.b.toNat_lt; have := y.c.toNat_lt; have := y.d.toNat_lt
  unfold N4.val at h
  have h1 : x.a.toNat = y.a.toNat := by omega
  have h2 : x.b.toNat = y.b.toNat := by omega
  have h3 : x.c.toNat = y.c.toNat := by omega
  have h4 : x.d.toNat = y.d.toNat := by omega
  cases x; cases y
  simp only at h1 h2 h3 h4
  rw [UInt64.toNat_inj.1 h1, UInt64.toNat_inj.1 h2, UInt64.toNat_inj.1 h3, UInt64.toNat_inj.1 h4]

theorem eq4_iff (x y : N4) : eq4 x y = true ↔ x = y := by
  unfold eq4
  constructor
  · intro h
    simp only [Bool.and_eq_true, beq_iff_eq] at h
    obtain ⟨h1, h2, h3, h4⟩ := h
    cases x; cases y
    simp only at h1 h2 h3 h4
    rw [h1, h2, h3, h4]
  · rintro rfl; simp

theorem eq4_val (x y : N4) : eq4 x y = decide (x.val = y.val) := by
  rw [Bool.eq_iff_iff, eq4_iff, decide_eq_true_iff]
  exact ⟨fun h => by rw [h], N4.ext_val⟩

theorem add4_val (x y : N4) : (add4 x y).val + 2 ^ 256 * (add4c x y).toNat = x.val + y.val := by
  have h1 := add_limb x.a y.a false
  have h2 := add_limb x.b y.b (addC x.a y.a false)
  have h3 := add_limb x.c y.c (addC x.b y.b (addC x.a y.a false))
  have h4 := add_limb x.d y.d (addC x.c y.c (addC x.b y.b (addC x.a y.a false)))
  simp only [Bool.toNat_false] at h1
  simp only [N4.val, add4, add4c]
  omega

theorem sub4_val (x y : N4) : (sub4 x y).val + y.val = x.val + 2 ^ 256 * (sub4c x y).toNat := by
  have h1 := sub_limb x.a y.a false
  have h2 := sub_limb x.b y.b (subC x.a y.a false)
  have h3 := sub_limb x.c y.c (subC x.b y.b (subC x.a y.a false))
  have h4 := sub_limb x.d y.d (subC x.c y.c (subC x.b y.b (subC x.a y.a false)))
  simp only [Bool.toNat_false] at h1
  simp only [N4.val, sub4, sub4c]
  omega

theorem toNat_le (b : Bool) : b.toNat ≤ 1 := by cases b <;> simp
theorem toNat_inj {a b : Bool} (h : a.toNat = b.toNat) : a = b := by cases a <;> cases b <;> simp_all

theorem sub4c_eq (x y : N4) : sub4c x y = decide (x.val < y.val) := by
  have h := sub4_val x y
  have h1 := (sub4 x y).val_lt
  have h2 := x.val_lt
  have h3 := y.val_lt
  cases hc : sub4c x y with
  | true => rw [hc] at h; simp only [Bool.toNat_true] at h; exact (decide_eq_true (by omega)).symm
  | false => rw [hc] at h; simp only [Bool.toNat_false] at h; exact (decide_eq_false (by omega)).symm

theorem add4c_eq (x y : N4) : add4c x y = decide (2 ^ 256 ≤ x.val + y.val) := by
  have h := add4_val x y
  have h1 := (add4 x y).val_lt
  cases hc : add4c x y with
  | true => rw [hc] at h; simp only [Bool.toNat_true] at h; exact (decide_eq_true (by omega)).symm
  | false => rw [hc] at h; simp only [Bool.toNat_false] at h; exact (decide_eq_false (by omega)).symm

theorem cmp3_eq (x y : UInt64) : cmp3 x y = if x.toNat < y.toNat then -1 else if y.toNat < x.toNat then 1 else 0 := by
  unfold cmp3
  by_cases h : x.toNat < y.toNat
  · have : decide (x < y) = true := decide_eq_true (UInt64.lt_iff_toNat_lt.2 h)
    rw [this, if_pos h]
  · have : decide (x < y) = false := decide_eq_false (fun h' => h (UInt64.lt_iff_toNat_lt.1 h'))
    rw [this, if_neg h]
    by_cases h2 : y.toNat < x.toNat
    · have : decide (y < x) = true := decide_eq_true (UInt64.lt_iff_toNat_lt.2 h2)
      rw [this, if_pos h2]
    · have : decide (y < x) = false := decide_eq_false (fun h' => h2 (UInt64.lt_iff_toNat_lt.1 h'))
      rw [this, if_neg h2]

/-- Order as a number. -/
def ord (a b : Nat) : Int := if a < b then -1 else if b < a then 1 else 0

theorem cmp4_eq (x y : N4) : cmp4 x y = ord x.val y.val := by
  have := x.a.toNat_lt; have := x.b.toNat_lt; have := x.c.toNat_lt; have := x.d.toNat_lt
  have := y.a.toNat_lt; have := y.b.toNat_lt; have := y.c.toNat_lt; have := y.d.toNat_lt
  unfold cmp4 ord N4.val
  simp only [cmp3_eq]
  by_cases hd : x.d.toNat < y.d.toNat
  · rw [if_pos hd, if_pos (by omega), if_pos (by omega)]
  · by_cases hd' : y.d.toNat < x.d.toNat
    · rw [if_neg hd, if_pos hd', if_pos (by omega), if_neg (by omega), if_pos (by omega)]
    · rw [if_neg hd, if_neg hd', if_neg (by omega)]
      by_cases hc : x.c.toNat < y.c.toNat
      · rw [if_pos hc, if_pos (by omega), if_pos (by omega)]
      · by_cases hc' : y.c.toNat < x.c.toNat
        · rw [if_neg hc, if_pos hc', if_pos (by omega), if_neg (by omega), if_pos (by omega)]
        · rw [if_neg hc, if_neg hc', if_neg (by omega)]
          by_cases hb : x.b.toNat < y.b.toNat
          · rw [if_pos hb, if_pos (by omega), if_pos (by omega)]
          · by_cases hb' : y.b.toNat < x.b.toNat
            · rw [if_neg hb, if_pos hb', if_pos (by omega), if_neg (by omega), if_pos (by omega)]
            · rw [if_neg hb, if_neg hb', if_neg (by omega)]
              by_cases ha : x.a.toNat < y.a.toNat
              · rw [if_pos ha, if_pos (by omega)]
              · by_cases ha' : y.a.toNat < x.a.toNat
                · rw [if_neg ha, if_pos ha', if_neg (by omega), if_pos (by omega)]
                · rw [if_neg ha, if_neg ha', if_neg (by omega), if_neg (by omega)]

theorem add4_comm (x y : N4) : add4 x y = add4 y x ∧ add4c x y = add4c y x := by
  have h1 := add4_val x y
  have h2 := add4_val y x
  have h3 := (add4 x y).val_lt
  have h4 := (add4 y x).val_lt
  have h5 := toNat_le (add4c x y)
  have h6 := toNat_le (add4c y x)
  exact ⟨N4.ext_val (by omega), toNat_inj (by omega)⟩

theorem sub_add (x y : N4) : sub4 (add4 x y) y = x ∧ sub4c (add4 x y) y = add4c x y := by
  have h1 := add4_val x y
  have h2 := sub4_val (add4 x y) y
  have h3 := (add4 x y).val_lt
  have h4 := (sub4 (add4 x y) y).val_lt
  have h5 := toNat_le (add4c x y)
  have h6 := toNat_le (sub4c (add4 x y) y)
  have h7 := x.val_lt
  exact ⟨N4.ext_val (by omega), toNat_inj (by omega)⟩

theorem ord_neg (a b : Nat) : ord a b = -ord b a := by
  unfold ord
  split <;> split <;> first | omega | rfl | (split <;> first | omega | rfl)

theorem limbBack_true (x y : N4) : limbBack x y = true := by
  unfold limbBack
  obtain ⟨h1, h2⟩ := sub_add x y
  obtain ⟨h3, h4⟩ := add4_comm x y
  rw [h1, h2, ← h3, ← h4]
  have e1 : ∀ z, eq4 z z = true := fun z => (eq4_iff z z).2 rfl
  have e2 : ∀ z : UInt64, (z == z) = true := fun z => beq_self_eq_true z
  rw [e1, e1, e2, sub4c_eq, cmp4_eq, cmp4_eq, ord_neg x.val y.val, eq4_val]
  have e3 : ∀ z : Int, (z == z) = true := fun z => beq_self_eq_true z
  rw [e3]
  have e4 : (b2u (decide (x.val < y.val)) == 1) = decide (-ord y.val x.val < 0) := by
    by_cases h : x.val < y.val
    · have : -ord y.val x.val < 0 := by unfold ord; rw [if_neg (by omega), if_pos h]; omega
      rw [decide_eq_true h, decide_eq_true this]; rfl
    · have : ¬ -ord y.val x.val < 0 := by unfold ord; split <;> first | omega | (split <;> omega)
      rw [decide_eq_false h, decide_eq_false this]; rfl
  have e5 : (-ord y.val x.val == 0) = decide (x.val = y.val) := by
    rw [Bool.eq_iff_iff, beq_iff_eq, decide_eq_true_iff]
    unfold ord
    constructor
    · intro h; split at h <;> first | omega | (split at h <;> omega)
    · intro h; rw [if_neg (by omega), if_neg (by omega)]; rfl
  rw [e4, e5]
  simp

theorem b2u_one (b : Bool) : (b2u b == 1) = b := by cases b <;> rfl

theorem limbOrder_no (x y z : N4) (h : (((decide (((cmp4 x y) : Int) ≤ 0)) && (decide (((cmp4 y z) : Int) ≤ 0))) && (decide (((cmp4 x z) : Int) > 0))) = true) : False := by
  simp only [Bool.and_eq_true, decide_eq_true_eq, cmp4_eq] at h
  unfold ord at h
  obtain ⟨⟨h1, h2⟩, h3⟩ := h
  split at h1 <;> split at h2 <;> split at h3 <;> (try split at h1) <;> (try split at h2) <;> (try split at h3) <;> omega

theorem ord_add (a b c : Nat) : ord (a + c) (b + c) = ord a b := by
  unfold ord
  by_cases h : a < b
  · rw [if_pos (by omega), if_pos h]
  · rw [if_neg (by omega), if_neg h]
    by_cases h2 : b < a
    · rw [if_pos (by omega), if_pos h2]
    · rw [if_neg (by omega), if_neg h2]

theorem limbOrder_yes (x y z : N4) : ((((b2u (add4c x z)) == 1) || ((b2u (add4c y z)) == 1)) || (((cmp4 (add4 x z) (add4 y z)) : Int) == (cmp4 x y))) = true := by
  rw [b2u_one, b2u_one, cmp4_eq, cmp4_eq]
  have h1 := add4_val x z
  have h2 := add4_val y z
  cases hc1 : add4c x z with
  | true => rfl
  | false =>
    cases hc2 : add4c y z with
    | true => rfl
    | false =>
      rw [hc1] at h1; rw [hc2] at h2
      simp only [Bool.toNat_false, Nat.mul_zero, Nat.add_zero] at h1 h2
      rw [h1, h2, ord_add]
      simp

/-! ### products -/
theorem mul_le64 (a b : UInt64) : a.toNat * b.toNat ≤ 340282366920938463426481119284349108225 :=
  Nat.mul_le_mul (Nat.le_of_lt_succ a.toNat_lt) (Nat.le_of_lt_succ b.toNat_lt)

theorem gather_val (a b c d : UInt64) : (gatherLo a b c d).toNat + 18446744073709551616 * (gatherHi a b c d).toNat = a.toNat * b.toNat + c.toNat + d.toNat := by
  have hm := mul_le64 a b
  have hc := c.toNat_lt
  have hd := d.toNat_lt
  have h0 : (a * b).toNat = a.toNat * b.toNat % 18446744073709551616 := UInt64.toNat_mul a b
  have h1 : (mulHi a b).toNat = a.toNat * b.toNat / 18446744073709551616 := by
    rw [mulHi, UInt64.toNat_ofNat', Nat.mod_eq_of_lt (by omega)]
  have h2 := add_limb (a * b) c false
  have h3 := add_limb (addS (a * b) c false) d false
  simp only [Bool.toNat_false, Nat.add_zero] at h2 h3
  have h4 := toNat_le (addC (a * b) c false)
  have h5 := toNat_le (addC (addS (a * b) c false) d false)
  unfold gatherLo gatherHi
  rw [UInt64.toNat_add, UInt64.toNat_add, b2u_toNat, b2u_toNat, h1]
  generalize a.toNat * b.toNat = m at *
  omega

theorem row_val (x : UInt64) (y : N4) (w0 w1 w2 w3 : UInt64) :
    (mulRow x y w0 w1 w2 w3).a.toNat + 18446744073709551616 * ((mulRow x y w0 w1 w2 w3).b.toNat + 18446744073709551616 * ((mulRow x y w0 w1 w2 w3).c.toNat + 18446744073709551616 * ((mulRow x y w0 w1 w2 w3).d.toNat + 18446744073709551616 * (mulRow x y w0 w1 w2 w3).e.toNat))) =
      x.toNat * y.val + (w0.toNat + 18446744073709551616 * (w1.toNat + 18446744073709551616 * (w2.toNat + 18446744073709551616 * w3.toNat))) := by
  have h1 := gather_val x y.a w0 0
  have h2 := gather_val x y.b w1 (gatherHi x y.a w0 0)
  have h3 := gather_val x y.c w2 (gatherHi x y.b w1 (gatherHi x y.a w0 0))
  have h4 := gather_val x y.d w3 (gatherHi x y.c w2 (gatherHi x y.b w1 (gatherHi x y.a w0 0)))
  have h0 : (0 : UInt64).toNat = 0 := rfl
  rw [h0] at h1
  have hv : x.toNat * y.val = x.toNat * y.a.toNat + 2 ^ 64 * (x.toNat * y.b.toNat) + 2 ^ 128 * (x.toNat * y.c.toNat) + 2 ^ 192 * (x.toNat * y.d.toNat) := by
    unfold N4.val
    rw [Nat.mul_add, Nat.mul_add, Nat.mul_add, Nat.mul_left_comm, Nat.mul_left_comm _ (2 ^ 128), Nat.mul_left_comm _ (2 ^ 192)]
  rw [hv]
  simp only [mulRow]
  omega

theorem mul8_val (x y : N4) : (mul8 x y).lo.val + 2 ^ 256 * (mul8 x y).hi.val = x.val * y.val := by
  have h1 := row_val x.a y 0 0 0 0
  have h2 := row_val x.b y (row1 x y).b (row1 x y).c (row1 x y).d (row1 x y).e
  have h3 := row_val x.c y (row2 x y).b (row2 x y).c (row2 x y).d (row2 x y).e
  have h4 := row_val x.d y (row3 x y).b (row3 x y).c (row3 x y).d (row3 x y).e
  have h0 : (0 : UInt64).toNat = 0 := rfl
  rw [h0] at h1
  have e1 : mulRow x.a y 0 0 0 0 = row1 x y := rfl
  have e2 : mulRow x.b y (row1 x y).b (row1 x y).c (row1 x y).d (row1 x y).e = row2 x y := rfl
  have e3 : mulRow x.c y (row2 x y).b (row2 x y).c (row2 x y).d (row2 x y).e = row3 x y := rfl
  have e4 : mulRow x.d y (row3 x y).b (row3 x y).c (row3 x y).d (row3 x y).e = row4 x y := rfl
  rw [e1] at h1; rw [e2] at h2; rw [e3] at h3; rw [e4] at h4
  have hv : x.val * y.val = x.a.toNat * y.val + 2 ^ 64 * (x.b.toNat * y.val) + 2 ^ 128 * (x.c.toNat * y.val) + 2 ^ 192 * (x.d.toNat * y.val) := by
    have : x.val = x.a.toNat + 2 ^ 64 * x.b.toNat + 2 ^ 128 * x.c.toNat + 2 ^ 192 * x.d.toNat := rfl
    rw [this, Nat.add_mul, Nat.add_mul, Nat.add_mul, Nat.mul_assoc, Nat.mul_assoc, Nat.mul_assoc]
  rw [hv]
  have hlo : (mul8 x y).lo.val = (row1 x y).a.toNat + 2 ^ 64 * (row2 x y).a.toNat + 2 ^ 128 * (row3 x y).a.toNat + 2 ^ 192 * (row4 x y).a.toNat := rfl
  have hhi : (mul8 x y).hi.val = (row4 x y).b.toNat + 2 ^ 64 * (row4 x y).c.toNat + 2 ^ 128 * (row4 x y).d.toNat + 2 ^ 192 * (row4 x y).e.toNat := rfl
  rw [hlo, hhi]
  generalize x.a.toNat * y.val = p1 at *
  generalize x.b.toNat * y.val = p2 at *
  generalize x.c.toNat * y.val = p3 at *
  generalize x.d.toNat * y.val = p4 at *
  omega

theorem eq4_self (x : N4) : eq4 x x = true := (eq4_iff x x).2 rfl
theorem eq8_self (x : N8) : eq8 x x = true := by unfold eq8; rw [eq4_self, eq4_self]; rfl

theorem N8.ext_val {x y : N8} (h : x.lo.val + 2 ^ 256 * x.hi.val = y.lo.val + 2 ^ 256 * y.hi.val) : x = y := by
  have h1 := x.lo.val_lt
  have h2 := y.lo.val_lt
  have e1 : x.lo = y.lo := N4.ext_val (by omega)
  have e2 : x.hi = y.hi := N4.ext_val (by omega)
  cases x; cases y
  simp only at e1 e2
  rw [e1, e2]

theorem mul8_comm (x y : N4) : mul8 x y = mul8 y x := N8.ext_val (by rw [mul8_val, mul8_val, Nat.mul_comm])

theorem limbThrough_one (x y : N4) : (eq8 (mul8 x y) (mul8 y x)) = true := by rw [mul8_comm x y]; exact eq8_self _

theorem small_val (b : Bool) : (N4.mk (b2u b) 0 0 0).val = b.toNat := by
  cases b <;> rfl

theorem limbThrough_two (x y z : N4) (h1 : ((b2u (add4c y z)) == 1) = false) :
    (((eq8 (mul8 x y) (mul8 y x)) && (eq4 (add4 (mul8 x y).lo (mul8 x z).lo) (mul8 x (add4 y z)).lo)) &&
      (eq4 (add4 (add4 (mul8 x y).hi (mul8 x z).hi) (N4.mk (b2u (add4c (mul8 x y).lo (mul8 x z).lo)) 0 0 0)) (mul8 x (add4 y z)).hi)) = true := by
  rw [b2u_one] at h1
  have hs := add4_val y z
  rw [h1] at hs
  simp only [Bool.toNat_false, Nat.mul_zero, Nat.add_zero] at hs
  have hA := mul8_val x y
  have hB := mul8_val x z
  have hC := mul8_val x (add4 y z)
  rw [hs, Nat.mul_add, ← hA, ← hB] at hC
  have l1 := (mul8 x y).lo.val_lt
  have l2 := (mul8 x z).lo.val_lt
  have l3 := (mul8 x (add4 y z)).lo.val_lt
  have l4 := (mul8 x (add4 y z)).hi.val_lt
  have a1 := add4_val (mul8 x y).lo (mul8 x z).lo
  have b1 := (add4 (mul8 x y).lo (mul8 x z).lo).val_lt
  have c1 := toNat_le (add4c (mul8 x y).lo (mul8 x z).lo)
  have a2 := add4_val (mul8 x y).hi (mul8 x z).hi
  have b2 := (add4 (mul8 x y).hi (mul8 x z).hi).val_lt
  have c2 := toNat_le (add4c (mul8 x y).hi (mul8 x z).hi)
  have a3 := add4_val (add4 (mul8 x y).hi (mul8 x z).hi) (N4.mk (b2u (add4c (mul8 x y).lo (mul8 x z).lo)) 0 0 0)
  rw [small_val] at a3
  have b3 := (add4 (add4 (mul8 x y).hi (mul8 x z).hi) (N4.mk (b2u (add4c (mul8 x y).lo (mul8 x z).lo)) 0 0 0)).val_lt
  have c3 := toNat_le (add4c (add4 (mul8 x y).hi (mul8 x z).hi) (N4.mk (b2u (add4c (mul8 x y).lo (mul8 x z).lo)) 0 0 0))
  have e1 : add4 (mul8 x y).lo (mul8 x z).lo = (mul8 x (add4 y z)).lo := N4.ext_val (by omega)
  have e2 : add4 (add4 (mul8 x y).hi (mul8 x z).hi) (N4.mk (b2u (add4c (mul8 x y).lo (mul8 x z).lo)) 0 0 0) = (mul8 x (add4 y z)).hi := N4.ext_val (by omega)
  rw [limbThrough_one, e1, e2, eq4_self, eq4_self]
  rfl

end Go.Eng
