/-
  An engine for walks, eleventh part: words and numbers, and what operations make of them.
-/
import Derived.Test.YthapokgokbfibaaEngJ
namespace Go.Eng

def u64 (x : UInt64) : Value := .int .u64 (x.toNat : Int)
def u8 (x : UInt8) : Value := .int .u8 (x.toNat : Int)
def u32 (x : UInt32) : Value := .int .u32 (x.toNat : Int)
def int (x : Int) : Value := .int .i64 x
def ptr (n o : Nat) : Value := .pointer (some ⟨n, o, none⟩)

theorem pureRun_bind {α β : Type} (P : Program) (s : Go.Sem α) (f : α → Go.Sem β) : pureRun P (s.bind f) = match pureRun P s with
    | some a => pureRun P (f a)
    | none => none := by
  induction s with
  | pure a => rfl
  | program k ih => simp only [Sem.bind, pureRun]; exact ih P
  | mark m k ih => simp only [Sem.bind, pureRun]; exact ih
  | _ => rfl

theorem isOp_bin {P : Program} {op : BinOp} {t : TypeId} {x y : Operand} {t' : TypeId} {vx vy v : Value}
    (hg : pureRun P (eqGuard op t x y vx vy) = some ()) (h : pureRun P (binOp op t vx vy) = some v) : IsOp P (.binOp op t x y t') [vx, vy] v := by
  intro ρ o ho hv
  rw [ho] at hv
  simp only [Op.operands, List.map_cons, List.map_nil, List.cons.injEq, and_true] at hv
  obtain ⟨rfl, rfl⟩ := hv
  unfold execOp
  rw [ho]
  simp only
  show pureRun P (Sem.bind (Sem.bind (eqGuard op t x y (ρ x) (ρ y)) fun _ => binOp op t (ρ x) (ρ y)) fun v => Sem.pure (Next.value v)) = _
  rw [pureRun_bind, pureRun_bind, hg]
  simp only [h]
  rfl

theorem isOp_un {P : Program} {op : UnOp} {t : TypeId} {x : Operand} {vx v : Value} (h : pureRun P (Op.unary op vx) = some v) : IsOp P (.unOp op t x) [vx] v := by
  intro ρ o ho hv
  rw [ho] at hv
  simp only [Op.operands, List.map_cons, List.map_nil, List.cons.injEq, and_true] at hv
  subst hv
  unfold execOp
  rw [ho]
  simp only
  show pureRun P (Sem.bind (Op.unary op (ρ x)) fun v => Sem.pure (Next.value v)) = _
  rw [pureRun_bind, h]
  rfl

theorem isOp_conv {P : Program} {s d : TypeId} {x : Operand} {vx v : Value} (h : pureRun P (convert s d vx) = some v) : IsOp P (.convert s d x) [vx] v := by
  intro ρ o ho hv
  rw [ho] at hv
  simp only [Op.operands, List.map_cons, List.map_nil, List.cons.injEq, and_true] at hv
  subst hv
  unfold execOp
  rw [ho]
  simp only
  show pureRun P (Sem.bind (convert s d (ρ x)) fun v => Sem.pure (Next.value v)) = _
  rw [pureRun_bind, h]
  rfl

theorem guard_int {P : Program} {op : BinOp} {t : TypeId} {x y : Operand} {k k' : IntKind} {a b : Int} : pureRun P (eqGuard op t x y (.int k a) (.int k' b)) = some () := by
  cases op <;> rfl

theorem wrap_u64 (n : Int) : IntKind.u64.wrap n = n % 18446744073709551616 := by
  simp [IntKind.wrap, IntKind.bits, IntKind.signed]

section words
variable {P : Program} {t t' : TypeId} {x y : Operand} (a b : UInt64)

theorem is_add64 : IsOp P (.binOp .add t x y t') [u64 a, u64 b] (u64 (a + b)) := isOp_bin guard_int (by
  show some (Value.int .u64 (IntKind.u64.wrap ((a.toNat : Int) + b.toNat))) = _
  rw [wrap_u64, u64, UInt64.toNat_add]; congr 2)

theorem is_sub64 : IsOp P (.binOp .sub t x y t') [u64 a, u64 b] (u64 (a - b)) := isOp_bin guard_int (by
  show some (Value.int .u64 (IntKind.u64.wrap ((a.toNat : Int) - b.toNat))) = _
  rw [wrap_u64, u64, UInt64.toNat_sub]; congr 2
  have := a.toNat_lt; have := b.toNat_lt; omega)

theorem is_mul64 : IsOp P (.binOp .mul t x y t') [u64 a, u64 b] (u64 (a * b)) := isOp_bin guard_int (by
  show some (Value.int .u64 (IntKind.u64.wrap ((a.toNat : Int) * b.toNat))) = _
  rw [wrap_u64, u64, UInt64.toNat_mul]; congr 2)

theorem ofInt64 (a : UInt64) : BitVec.ofInt 64 (a.toNat : Int) = a.toBitVec := by
  apply BitVec.eq_of_toNat_eq
  simp

theorem is_and64 : IsOp P (.binOp .and t x y t') [u64 a, u64 b] (u64 (a &&& b)) := isOp_bin guard_int (by
  show some (Value.int .u64 (IntKind.u64.wrap (((BitVec.ofInt 64 (a.toNat : Int)) &&& (BitVec.ofInt 64 (b.toNat : Int))).toNat))) = _
  rw [wrap_u64, ofInt64, ofInt64, u64]; congr 2
  have := (a &&& b).toNat_lt
  have h : (a.toBitVec &&& b.toBitVec).toNat = (a &&& b).toNat := rfl
  rw [h]; omega)

theorem is_or64 : IsOp P (.binOp .or t x y t') [u64 a, u64 b] (u64 (a ||| b)) := isOp_bin guard_int (by
  show some (Value.int .u64 (IntKind.u64.wrap (((BitVec.ofInt 64 (a.toNat : Int)) ||| (BitVec.ofInt 64 (b.toNat : Int))).toNat))) = _
  rw [wrap_u64, ofInt64, ofInt64, u64]; congr 2
  have := (a ||| b).toNat_lt
  have h : (a.toBitVec ||| b.toBitVec).toNat = (a ||| b).toNat := rfl
  rw [h]; omega)

theorem is_xor64 : IsOp P (.binOp .xor t x y t') [u64 a, u64 b] (u64 (a ^^^ b)) := isOp_bin guard_int (by
  show some (Value.int .u64 (IntKind.u64.wrap (((BitVec.ofInt 64 (a.toNat : Int)) ^^^ (BitVec.ofInt 64 (b.toNat : Int))).toNat))) = _
  rw [wrap_u64, ofInt64, ofInt64, u64]; congr 2
  have := (a ^^^ b).toNat_lt
  have h : (a.toBitVec ^^^ b.toBitVec).toNat = (a ^^^ b).toNat := rfl
  rw [h]; omega)

/-- By how much is a number of its own. -/
def shl64 (a : UInt64) (n : Nat) : UInt64 := .ofNat (a.toNat * 2 ^ n)
def shr64 (a : UInt64) (n : Nat) : UInt64 := .ofNat (a.toNat / 2 ^ n)

theorem shl64_toNat (n : Nat) : (shl64 a n).toNat = a.toNat * 2 ^ n % 18446744073709551616 := by
  simp [shl64, UInt64.toNat_ofNat']
theorem shr64_toNat (n : Nat) : (shr64 a n).toNat = a.toNat / 2 ^ n := by
  have h : a.toNat / 2 ^ n < 18446744073709551616 := Nat.lt_of_le_of_lt (Nat.div_le_self _ _) a.toNat_lt
  simp [shr64, UInt64.toNat_ofNat', Nat.mod_eq_of_lt h]

theorem is_shl64 (k : IntKind) (n : Nat) : IsOp P (.binOp .shl t x y t') [u64 a, .int k (n : Int)] (u64 (shl64 a n)) := isOp_bin guard_int (by
  show pureRun P (Op.shift .shl .u64 (a.toNat : Int) k (n : Int)) = _
  unfold Op.shift
  rw [if_neg (by omega)]
  show some (Value.int .u64 (IntKind.u64.wrap ((a.toNat : Int) * 2 ^ min (n : Int).toNat 64))) = _
  rw [wrap_u64, u64, shl64_toNat]
  congr 2
  rw [Int.toNat_natCast]
  by_cases h : n ≤ 64
  · rw [Nat.min_eq_left h]; rw [Int.natCast_emod, Int.natCast_mul, Int.natCast_pow]; rfl
  · rw [Nat.min_eq_right (by omega)]
    have e : n = 64 + (n - 64) := by omega
    rw [e, Nat.pow_add]
    have h1 : a.toNat * (2 ^ 64 * 2 ^ (n - 64)) % 18446744073709551616 = 0 := by
      rw [Nat.mul_comm (2 ^ 64), ← Nat.mul_assoc]
      exact Nat.mul_mod_left _ _
    rw [h1]
    have h2 : ((a.toNat : Int) * 2 ^ 64) % 18446744073709551616 = 0 := Int.mul_emod_left _ _
    exact h2)

theorem is_shr64 (k : IntKind) (n : Nat) : IsOp P (.binOp .shr t x y t') [u64 a, .int k (n : Int)] (u64 (shr64 a n)) := isOp_bin guard_int (by
  show pureRun P (Op.shift .shr .u64 (a.toNat : Int) k (n : Int)) = _
  unfold Op.shift
  rw [if_neg (by omega)]
  show some (Value.int .u64 (Int.fdiv (a.toNat : Int) (2 ^ min (n : Int).toNat 64))) = _
  rw [u64, shr64_toNat]
  congr 2
  rw [Int.toNat_natCast]
  have key : ∀ m : Nat, Int.fdiv (a.toNat : Int) (2 ^ m) = ((a.toNat / 2 ^ m : Nat) : Int) := fun m => by
    rw [Int.fdiv_eq_ediv_of_nonneg _ (Int.pow_nonneg (by omega))]
    push_cast; rfl
  rw [key]
  congr 1
  by_cases h : n ≤ 64
  · rw [Nat.min_eq_left h]
  · rw [Nat.min_eq_right (by omega)]
    have hlt := a.toNat_lt
    rw [Nat.div_eq_of_lt hlt, Nat.div_eq_of_lt]
    exact Nat.lt_of_lt_of_le hlt (Nat.pow_le_pow_right (by omega) (by omega)))

theorem is_lss64 : IsOp P (.binOp .lss t x y t') [u64 a, u64 b] (.bool (decide (a < b))) := isOp_bin guard_int (by
  show some (Value.bool (decide ((a.toNat : Int) < b.toNat))) = _
  congr 2; simp [UInt64.lt_iff_toNat_lt])
theorem is_leq64 : IsOp P (.binOp .leq t x y t') [u64 a, u64 b] (.bool (decide (a ≤ b))) := isOp_bin guard_int (by
  show some (Value.bool (decide ((a.toNat : Int) ≤ b.toNat))) = _
  congr 2; simp [UInt64.le_iff_toNat_le])
theorem is_gtr64 : IsOp P (.binOp .gtr t x y t') [u64 a, u64 b] (.bool (decide (b < a))) := isOp_bin guard_int (by
  show some (Value.bool (decide ((a.toNat : Int) > b.toNat))) = _
  congr 2; simp [UInt64.lt_iff_toNat_lt])
theorem is_geq64 : IsOp P (.binOp .geq t x y t') [u64 a, u64 b] (.bool (decide (b ≤ a))) := isOp_bin guard_int (by
  show some (Value.bool (decide ((a.toNat : Int) ≥ b.toNat))) = _
  congr 2; simp [UInt64.le_iff_toNat_le])
theorem int_beq64 : ((a.toNat : Int) == (b.toNat : Int)) = (a == b) := by
  rw [Bool.eq_iff_iff, beq_iff_eq, beq_iff_eq]
  constructor
  · intro h; exact UInt64.toNat_inj.1 (by omega)
  · intro h; rw [h]
theorem is_eql64 : IsOp P (.binOp .eql t x y t') [u64 a, u64 b] (.bool (a == b)) := isOp_bin guard_int (by
  show some (Value.bool ((a.toNat : Int) == (b.toNat : Int))) = _
  rw [int_beq64])
theorem is_neq64 : IsOp P (.binOp .neq t x y t') [u64 a, u64 b] (.bool (!(a == b))) := isOp_bin guard_int (by
  show some (Value.bool (!((a.toNat : Int) == (b.toNat : Int)))) = _
  rw [int_beq64])

end words

end Go.Eng
