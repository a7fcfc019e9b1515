/-
  Limb: bits moved, as numbers.
-/
import Derived.Test.YthapokgokbfibaaLimbDiv
namespace Go.Eng

theorem or_parts {h l k : Nat} (hl : l < 2 ^ k) : l ||| (2 ^ k * h) = l + 2 ^ k * h := by
  rw [Nat.or_comm, ← Nat.two_pow_add_eq_or_of_lt hl h, Nat.add_comm]

/-- A word's lower bits, moved up: what is left of it, beside what came from the word below. -/
theorem shl_split (y : UInt64) (r : Nat) (hr : r ≤ 64) : (shl64 y r).toNat = 2 ^ r * (y.toNat % 2 ^ (64 - r)) := by
  rw [shl64_toNat, show (18446744073709551616 : Nat) = 2 ^ r * 2 ^ (64 - r) by rw [← Nat.pow_add, show r + (64 - r) = 64 by omega], Nat.mul_comm, Nat.mul_mod_mul_left]

theorem word_up (x y : UInt64) (r : Nat) (hr : r ≤ 64) : ((shr64 x (64 - r)) ||| (shl64 y r)).toNat = x.toNat / 2 ^ (64 - r) + 2 ^ r * (y.toNat % 2 ^ (64 - r)) := by
  rw [UInt64.toNat_or, shl_split y r hr, shr64_toNat]
  have hx := x.toNat_lt
  refine or_parts ?_
  rw [Nat.div_lt_iff_lt_mul (Nat.two_pow_pos _), ← Nat.pow_add, show r + (64 - r) = 64 by omega]
  exact hx

theorem word_down (x y : UInt64) (r : Nat) (hr : r ≤ 64) : ((shr64 x r) ||| (shl64 y (64 - r))).toNat = x.toNat / 2 ^ r + 2 ^ (64 - r) * (y.toNat % 2 ^ r) := by
  have h := word_up x y (64 - r) (by omega)
  rw [show 64 - (64 - r) = r by omega] at h
  exact h

theorem word_zero (y : UInt64) (r : Nat) (hr : r ≤ 64) : ((0 : UInt64) ||| (shl64 y r)).toNat = 2 ^ r * (y.toNat % 2 ^ (64 - r)) := by
  rw [UInt64.toNat_or, shl_split y r hr]
  show 0 ||| _ = _
  exact Nat.zero_or _

/-- A word is two parts, of which one leaves it. -/
theorem word_parts (x : Nat) (r : Nat) (hr : r ≤ 64) : 2 ^ r * x = 2 ^ r * (x % 2 ^ (64 - r)) + 18446744073709551616 * (x / 2 ^ (64 - r)) := by
  have h := Nat.div_add_mod x (2 ^ (64 - r))
  conv => lhs; rw [← h]
  rw [Nat.mul_add, ← Nat.mul_assoc, ← Nat.pow_add, show r + (64 - r) = 64 by omega]
  omega

def upR (a : N4) (r : Nat) : N4 := ⟨0 ||| shl64 a.a r, shr64 a.a (64 - r) ||| shl64 a.b r, shr64 a.b (64 - r) ||| shl64 a.c r, shr64 a.c (64 - r) ||| shl64 a.d r⟩
def downR (a : N4) (r : Nat) : N4 := ⟨shr64 a.a r ||| shl64 a.b (64 - r), shr64 a.b r ||| shl64 a.c (64 - r), shr64 a.c r ||| shl64 a.d (64 - r), shr64 a.d r⟩

theorem upR_val (a : N4) (r : Nat) (hr : r ≤ 64) : (upR a r).val + 2 ^ 256 * (a.d.toNat / 2 ^ (64 - r)) = 2 ^ r * a.val := by
  unfold upR N4.val
  simp only
  rw [word_zero _ _ hr, word_up _ _ _ hr, word_up _ _ _ hr, word_up _ _ _ hr]
  have h1 := word_parts a.a.toNat r hr
  have h2 := word_parts a.b.toNat r hr
  have h3 := word_parts a.c.toNat r hr
  have h4 := word_parts a.d.toNat r hr
  have e : 2 ^ r * (a.a.toNat + 2 ^ 64 * a.b.toNat + 2 ^ 128 * a.c.toNat + 2 ^ 192 * a.d.toNat) =
      2 ^ r * a.a.toNat + 2 ^ 64 * (2 ^ r * a.b.toNat) + 2 ^ 128 * (2 ^ r * a.c.toNat) + 2 ^ 192 * (2 ^ r * a.d.toNat) := by
    rw [Nat.mul_add, Nat.mul_add, Nat.mul_add, Nat.mul_left_comm (2 ^ r) (2 ^ 64), Nat.mul_left_comm (2 ^ r) (2 ^ 128), Nat.mul_left_comm (2 ^ r) (2 ^ 192)]
  rw [e]
  omega

theorem down_parts (x : Nat) (r : Nat) : x = 2 ^ r * (x / 2 ^ r) + x % 2 ^ r := (Nat.div_add_mod x (2 ^ r)).symm

theorem downR_val (a : N4) (r : Nat) (hr : r ≤ 64) : 2 ^ r * (downR a r).val + a.a.toNat % 2 ^ r = a.val := by
  unfold downR N4.val
  simp only
  rw [word_down _ _ _ hr, word_down _ _ _ hr, word_down _ _ _ hr, shr64_toNat]
  have h1 := down_parts a.a.toNat r
  have h2 := down_parts a.b.toNat r
  have h3 := down_parts a.c.toNat r
  have h4 := down_parts a.d.toNat r
  have e : ∀ z, 2 ^ r * (2 ^ (64 - r) * z) = 18446744073709551616 * z := fun z => by
    rw [← Nat.mul_assoc, ← Nat.pow_add, show r + (64 - r) = 64 by omega]
  simp only [Nat.mul_add, Nat.mul_left_comm (2 ^ r) (2 ^ 64), Nat.mul_left_comm (2 ^ r) (2 ^ 128), Nat.mul_left_comm (2 ^ r) (2 ^ 192), e]
  generalize 2 ^ r * (a.a.toNat / 2 ^ r) = p1 at *
  generalize 2 ^ r * (a.b.toNat / 2 ^ r) = p2 at *
  generalize 2 ^ r * (a.c.toNat / 2 ^ r) = p3 at *
  generalize 2 ^ r * (a.d.toNat / 2 ^ r) = p4 at *
  omega

/-! ### by whole words -/
def upW (a : N4) : Nat → N4
  | 0 => a
  | 1 => ⟨0, a.a, a.b, a.c⟩
  | 2 => ⟨0, 0, a.a, a.b⟩
  | 3 => ⟨0, 0, 0, a.a⟩
  | _ => ⟨0, 0, 0, 0⟩
def downW (a : N4) : Nat → N4
  | 0 => a
  | 1 => ⟨a.b, a.c, a.d, 0⟩
  | 2 => ⟨a.c, a.d, 0, 0⟩
  | 3 => ⟨a.d, 0, 0, 0⟩
  | _ => ⟨0, 0, 0, 0⟩

theorem zero_toNat : (0 : UInt64).toNat = 0 := rfl

theorem upW_val (a : N4) (f : Nat) (hf : f < 4) : (upW a f).val = 2 ^ (64 * f) * a.val % 2 ^ 256 := by
  have h1 := a.a.toNat_lt
  have h2 := a.b.toNat_lt
  have h3 := a.c.toNat_lt
  have h4 := a.d.toNat_lt
  unfold N4.val
  rcases f with _ | _ | _ | _ | f <;> first | (simp only [upW, zero_toNat]; omega) | omega
theorem downW_val (a : N4) (f : Nat) (hf : f < 4) : (downW a f).val = a.val / 2 ^ (64 * f) := by
  have h1 := a.a.toNat_lt
  have h2 := a.b.toNat_lt
  have h3 := a.c.toNat_lt
  have h4 := a.d.toNat_lt
  unfold N4.val
  rcases f with _ | _ | _ | _ | f <;> first | (simp only [downW, zero_toNat]; omega) | omega

theorem up_val (a : N4) (f r : Nat) (hf : f < 4) (hr : r < 64) : upW (upR a r) f = N4.ofNat (a.val * 2 ^ (64 * f + r)) := by
  refine N4.ext_val ?_
  rw [upW_val _ _ hf, N4.val_ofNat]
  have h := upR_val a r (by omega)
  have e : a.val * 2 ^ (64 * f + r) = 2 ^ (64 * f) * (2 ^ r * a.val) := by rw [Nat.pow_add, Nat.mul_comm, Nat.mul_assoc]
  rw [e, ← h, Nat.mul_add, Nat.mul_left_comm, Nat.add_mul_mod_self_left]

theorem down_val (a : N4) (f r : Nat) (hf : f < 4) (hr : r < 64) : downW (downR a r) f = N4.ofNat (a.val / 2 ^ (64 * f + r)) := by
  refine N4.eq_ofNat ?_
  rw [downW_val _ _ hf]
  have h := downR_val a r (by omega)
  have hl := Nat.mod_lt a.a.toNat (Nat.two_pow_pos r)
  have e : a.val / 2 ^ r = (downR a r).val := by
    rw [← h, Nat.mul_add_div (Nat.two_pow_pos r), Nat.div_eq_of_lt hl, Nat.add_zero]
  rw [Nat.add_comm, Nat.pow_add, ← Nat.div_div_eq_div_mul, e]

theorem is_negn {P : Program} {t : TypeId} {x : Operand} (n : Nat) (h : n ≤ 9223372036854775807) : IsOp P (.unOp .neg t x) [int (-((n : Nat) : Int))] (nat n) := isOp_un (by
  show some (Value.int .i64 (IntKind.i64.wrap (0 - -(n : Int)))) = _
  rw [Int.zero_sub, Int.neg_neg, wrap_i64 _ (by omega)]; rfl)

end Go.Eng
