/-
  An engine for walks, sixteenth part: numbers told anew; rows told anew.
-/
import Derived.Test.YtikfnopccneijaaEngO
namespace Go.Eng

theorem isop_nat {P : Program} {op : Op} {vals : List Value} {e : Int} {m : Nat} (h : IsOp P op vals (int e)) (he : e = (m : Int)) : IsOp P op vals (nat m) := by subst he; exact h
theorem is_move_nat {P : Program} {x : Operand} (e : Int) (m : Nat) (he : e = (m : Int)) : IsOp P (.move x) [int e] (nat m) := by
  subst he
  intro ρ o ho hv
  rw [ho] at hv
  simp only [Op.operands, List.map_cons, List.map_nil, List.cons.injEq, and_true] at hv
  unfold execOp
  rw [ho]
  simp only [hv]
  rfl
theorem is_shrn {P : Program} {t t' : TypeId} {x y : Operand} (a n : Nat) (ha : a ≤ 9223372036854775807) : IsOp P (.binOp .shr t x y t') [nat a, nat n] (nat (a / 2 ^ n)) := isOp_bin guard_int (by
  show pureRun P (Op.shift .shr .i64 (a : Int) .i64 (n : Int)) = _
  unfold Op.shift
  rw [if_neg (by omega)]
  show some (Value.int .i64 (Int.fdiv (a : Int) (2 ^ min (n : Int).toNat 64))) = _
  congr 1
  rw [Int.toNat_natCast]
  have key : ∀ m : Nat, Int.fdiv (a : Int) (2 ^ m) = ((a / 2 ^ m : Nat) : Int) := fun m => by
    rw [Int.fdiv_eq_ediv_of_nonneg _ (Int.pow_nonneg (by omega))]
    push_cast; rfl
  show Value.int .i64 _ = _
  rw [key, nat]
  congr 2
  by_cases h : n ≤ 64
  · rw [Nat.min_eq_left h]
  · rw [Nat.min_eq_right (by omega), Nat.div_eq_of_lt (show a < 2 ^ 64 by omega), Nat.div_eq_of_lt]
    exact Nat.lt_of_lt_of_le (show a < 2 ^ 64 by omega) (Nat.pow_le_pow_right (by omega) (by omega)))
theorem store_tabF_as {α : Type} (n : Nat) (K : α → Value) (f : Nat → α) (i : Nat) (v : α) (g : Nat → α) (h : ∀ k, upd f i v k = g k) : (tabF n fun k => K (f k)).store (.tab i 0) [K v] = some (tabF n fun k => K (g k)) := by
  rw [store_tabF]; congr 2; funext k; rw [h k]
theorem litF_as (n : Nat) (f g : Nat → Value) (h : vecV n f = vecV n g) : ∀ o v, (litF n g).get o = some v → (litF n f).get o = some v := fun o v hv => by
  unfold vecV at h
  have : (List.range n).map f = (List.range n).map g := by simpa using h
  unfold litF at hv ⊢
  rw [this]; exact hv

section wides
open Go.ChangeShapes Go.WideShapes Go.ChangeAt Go.RowKit
variable {H : Type} {enc : TypeId × Value → H} {P : Program}
end wides
end Go.Eng
