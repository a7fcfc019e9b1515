/-
  What limb reckons, as plain functions.
-/
import Derived.Test.YthapokgokbfibaaEngM
namespace Go.Eng

def gatherLo (a b c d : UInt64) : UInt64 := addS (addS (a * b) c false) d false
def gatherHi (a b c d : UInt64) : UInt64 := mulHi a b + b2u (addC (a * b) c false) + b2u (addC (addS (a * b) c false) d false)

structure Row where
  a : UInt64
  b : UInt64
  c : UInt64
  d : UInt64
  e : UInt64

/-- One word by a number, and four words: five words. -/
def mulRow (x : UInt64) (y : N4) (w0 w1 w2 w3 : UInt64) : Row :=
  ⟨gatherLo x y.a w0 0, gatherLo x y.b w1 (gatherHi x y.a w0 0), gatherLo x y.c w2 (gatherHi x y.b w1 (gatherHi x y.a w0 0)),
    gatherLo x y.d w3 (gatherHi x y.c w2 (gatherHi x y.b w1 (gatherHi x y.a w0 0))),
    gatherHi x y.d w3 (gatherHi x y.c w2 (gatherHi x y.b w1 (gatherHi x y.a w0 0)))⟩

def row1 (x y : N4) : Row := mulRow x.a y 0 0 0 0
def row2 (x y : N4) : Row := mulRow x.b y (row1 x y).b (row1 x y).c (row1 x y).d (row1 x y).e
def row3 (x y : N4) : Row := mulRow x.c y (row2 x y).b (row2 x y).c (row2 x y).d (row2 x y).e
def row4 (x y : N4) : Row := mulRow x.d y (row3 x y).b (row3 x y).c (row3 x y).d (row3 x y).e

def mul8 (x y : N4) : N8 := ⟨⟨(row1 x y).a, (row2 x y).a, (row3 x y).a, (row4 x y).a⟩, ⟨(row4 x y).b, (row4 x y).c, (row4 x y).d, (row4 x y).e⟩⟩

def cmp3 (x y : UInt64) : Int := match decide (x < y) with
  | true => -1
  | false => match decide (y < x) with
    | true => 1
    | false => 0
def cmp4 (x y : N4) : Int :=
  if cmp3 x.d y.d ≠ 0 then cmp3 x.d y.d else if cmp3 x.c y.c ≠ 0 then cmp3 x.c y.c else if cmp3 x.b y.b ≠ 0 then cmp3 x.b y.b else cmp3 x.a y.a

theorem lo32 (x : UInt64) : (x &&& 4294967295).toNat = x.toNat % 4294967296 := by
  rw [UInt64.toNat_and]
  exact Nat.and_two_pow_sub_one_eq_mod x.toNat 32

theorem mul_lt32 {a b : Nat} (ha : a < 4294967296) (hb : b < 4294967296) : a * b ≤ 18446744065119617025 :=
  Nat.mul_le_mul (Nat.le_of_lt_succ ha) (Nat.le_of_lt_succ hb)

theorem mulHi_eq (x y : UInt64) : (shr64 x 32) * (shr64 y 32) + shr64 (((shr64 x 32) * (y &&& 4294967295)) + (shr64 ((x &&& 4294967295) * (y &&& 4294967295)) 32)) 32 +
    shr64 (((((shr64 x 32) * (y &&& 4294967295)) + (shr64 ((x &&& 4294967295) * (y &&& 4294967295)) 32)) &&& 4294967295) + ((x &&& 4294967295) * (shr64 y 32))) 32 = mulHi x y := by
  apply UInt64.toNat_inj.1
  have hx := x.toNat_lt
  have hy := y.toNat_lt
  have x0 : (x &&& 4294967295).toNat = x.toNat % 4294967296 := lo32 x
  have y0 : (y &&& 4294967295).toNat = y.toNat % 4294967296 := lo32 y
  have x1 : (shr64 x 32).toNat = x.toNat / 4294967296 := shr64_toNat x 32
  have y1 : (shr64 y 32).toNat = y.toNat / 4294967296 := shr64_toNat y 32
  have b00 := mul_lt32 (Nat.mod_lt x.toNat (show 0 < 4294967296 by omega)) (Nat.mod_lt y.toNat (show 0 < 4294967296 by omega))
  have hx1 : x.toNat / 4294967296 < 4294967296 := by omega
  have hy1 : y.toNat / 4294967296 < 4294967296 := by omega
  have b10 := mul_lt32 hx1 (Nat.mod_lt y.toNat (show 0 < 4294967296 by omega))
  have b01 := mul_lt32 (Nat.mod_lt x.toNat (show 0 < 4294967296 by omega)) hy1
  have b11 := mul_lt32 hx1 hy1
  have key : x.toNat * y.toNat = 18446744073709551616 * (x.toNat / 4294967296 * (y.toNat / 4294967296)) + 4294967296 * (x.toNat / 4294967296 * (y.toNat % 4294967296)) +
      4294967296 * (x.toNat % 4294967296 * (y.toNat / 4294967296)) + x.toNat % 4294967296 * (y.toNat % 4294967296) := by
    have e1 := Nat.div_add_mod x.toNat 4294967296
    have e2 := Nat.div_add_mod y.toNat 4294967296
    generalize x.toNat / 4294967296 = p at *
    generalize x.toNat % 4294967296 = q at *
    generalize y.toNat / 4294967296 = r at *
    generalize y.toNat % 4294967296 = s at *
    rw [← e1, ← e2, Nat.add_mul, Nat.mul_add, Nat.mul_add]
    have h1 : 4294967296 * p * (4294967296 * r) = 18446744073709551616 * (p * r) := by
      rw [Nat.mul_mul_mul_comm]
    have h2 : 4294967296 * p * s = 4294967296 * (p * s) := Nat.mul_assoc _ _ _
    have h3 : q * (4294967296 * r) = 4294967296 * (q * r) := Nat.mul_left_comm _ _ _
    omega
  have hi : (mulHi x y).toNat = x.toNat * y.toNat / 18446744073709551616 := by
    have : x.toNat * y.toNat / 18446744073709551616 < 18446744073709551616 := by rw [key]; omega
    rw [mulHi, UInt64.toNat_ofNat', Nat.mod_eq_of_lt this]
  rw [hi, key]
  have m00 : ((x &&& 4294967295) * (y &&& 4294967295)).toNat = x.toNat % 4294967296 * (y.toNat % 4294967296) := by
    rw [UInt64.toNat_mul, x0, y0]; omega
  have m10 : ((shr64 x 32) * (y &&& 4294967295)).toNat = x.toNat / 4294967296 * (y.toNat % 4294967296) := by
    rw [UInt64.toNat_mul, x1, y0]; omega
  have m01 : ((x &&& 4294967295) * (shr64 y 32)).toNat = x.toNat % 4294967296 * (y.toNat / 4294967296) := by
    rw [UInt64.toNat_mul, x0, y1]; omega
  have m11 : ((shr64 x 32) * (shr64 y 32)).toNat = x.toNat / 4294967296 * (y.toNat / 4294967296) := by
    rw [UInt64.toNat_mul, x1, y1]; omega
  clear key hi x0 y0 x1 y1
  generalize x.toNat % 4294967296 * (y.toNat % 4294967296) = p00 at *
  generalize x.toNat / 4294967296 * (y.toNat % 4294967296) = p10 at *
  generalize x.toNat % 4294967296 * (y.toNat / 4294967296) = p01 at *
  generalize x.toNat / 4294967296 * (y.toNat / 4294967296) = p11 at *
  have s1 : (shr64 ((x &&& 4294967295) * (y &&& 4294967295)) 32).toNat = p00 / 4294967296 := by rw [shr64_toNat, m00]
  have t1 : (((shr64 x 32) * (y &&& 4294967295)) + (shr64 ((x &&& 4294967295) * (y &&& 4294967295)) 32)).toNat = p10 + p00 / 4294967296 := by
    rw [UInt64.toNat_add, m10, s1]; omega
  have t2 : (shr64 (((shr64 x 32) * (y &&& 4294967295)) + (shr64 ((x &&& 4294967295) * (y &&& 4294967295)) 32)) 32).toNat = (p10 + p00 / 4294967296) / 4294967296 := by rw [shr64_toNat, t1]
  have t3 : ((((shr64 x 32) * (y &&& 4294967295)) + (shr64 ((x &&& 4294967295) * (y &&& 4294967295)) 32)) &&& 4294967295).toNat = (p10 + p00 / 4294967296) % 4294967296 := by rw [lo32, t1]
  have t4 : (((((shr64 x 32) * (y &&& 4294967295)) + (shr64 ((x &&& 4294967295) * (y &&& 4294967295)) 32)) &&& 4294967295) + ((x &&& 4294967295) * (shr64 y 32))).toNat =
      (p10 + p00 / 4294967296) % 4294967296 + p01 := by
    rw [UInt64.toNat_add, t3, m01]; omega
  have t5 : (shr64 (((((shr64 x 32) * (y &&& 4294967295)) + (shr64 ((x &&& 4294967295) * (y &&& 4294967295)) 32)) &&& 4294967295) + ((x &&& 4294967295) * (shr64 y 32))) 32).toNat =
      ((p10 + p00 / 4294967296) % 4294967296 + p01) / 4294967296 := by rw [shr64_toNat, t4]
  rw [UInt64.toNat_add, UInt64.toNat_add, m11, t2, t5]
  omega
end Go.Eng
namespace Go.Eng
def limbBack (x y : N4) : Bool := (((((((eq4 (sub4 (add4 x y) y) x) && ((b2u (add4c x y)) == (b2u (sub4c (add4 x y) y)))) && (eq4 (add4 x y) (add4 y x))) && ((b2u (add4c x y)) == (b2u (add4c y x)))) && (((b2u (sub4c x y)) == 1) == (decide (((cmp4 x y) : Int) < 0)))) && (((cmp4 x y) : Int) == (-(cmp4 y x)))) && ((((cmp4 x y) : Int) == 0) == (eq4 x y)))
end Go.Eng
namespace Go.Eng
theorem cmp3_bd (x y : UInt64) : -1 ≤ cmp3 x y ∧ cmp3 x y ≤ 1 := by
  unfold cmp3; split
  · omega
  · split <;> omega
theorem cmp4_bd (x y : N4) : -1 ≤ cmp4 x y ∧ cmp4 x y ≤ 1 := by
  have h1 := cmp3_bd x.a y.a
  have h2 := cmp3_bd x.b y.b
  have h3 := cmp3_bd x.c y.c
  have h4 := cmp3_bd x.d y.d
  unfold cmp4
  split
  · exact h4
  · split
    · exact h3
    · split
      · exact h2
      · exact h1
end Go.Eng
