/-
  Numbers of four words and of eight, as values; sums and differences of words with what leaves them.
-/
import Derived.Test.YthapokgokbfibaaEngL
namespace Go.Eng

structure N4 where
  a : UInt64
  b : UInt64
  c : UInt64
  d : UInt64

structure N8 where
  lo : N4
  hi : N4

def nat4 (x : N4) : Value := .agg #[u64 x.a, u64 x.b, u64 x.c, u64 x.d]
def wide8 (x : N8) : Value := .agg #[u64 x.lo.a, u64 x.lo.b, u64 x.lo.c, u64 x.lo.d, u64 x.hi.a, u64 x.hi.b, u64 x.hi.c, u64 x.hi.d]

def b2u (b : Bool) : UInt64 := match b with
  | true => 1
  | false => 0

def addS (x y : UInt64) (c : Bool) : UInt64 := x + y + b2u c
def addC (x y : UInt64) (c : Bool) : Bool := decide (18446744073709551616 ≤ x.toNat + y.toNat + c.toNat)
def subS (x y : UInt64) (c : Bool) : UInt64 := x - y - b2u c
def subC (x y : UInt64) (c : Bool) : Bool := decide (x.toNat < y.toNat + c.toNat)

theorem b2u_toNat (c : Bool) : (b2u c).toNat = c.toNat := by cases c <;> rfl

theorem addS_toNat (x y : UInt64) (c : Bool) : (addS x y c).toNat = (x.toNat + y.toNat + c.toNat) % 18446744073709551616 := by
  rw [addS, UInt64.toNat_add, UInt64.toNat_add, b2u_toNat]
  cases c <;> simp only [Bool.toNat_true, Bool.toNat_false] <;> omega

theorem subS_toNat (x y : UInt64) (c : Bool) : (subS x y c).toNat = (x.toNat + 18446744073709551616 - y.toNat - c.toNat) % 18446744073709551616 := by
  have h1 := x.toNat_lt
  have h2 := y.toNat_lt
  rw [subS, UInt64.toNat_sub, UInt64.toNat_sub, b2u_toNat]
  cases c <;> simp only [Bool.toNat_true, Bool.toNat_false] <;> omega

theorem addC_toNat (x y : UInt64) (c : Bool) : (addC x y c).toNat = (x.toNat + y.toNat + c.toNat) / 18446744073709551616 := by
  have h1 := x.toNat_lt
  have h2 := y.toNat_lt
  unfold addC
  cases c <;> simp only [Bool.toNat_true, Bool.toNat_false] <;>
    (by_cases h : 18446744073709551616 ≤ x.toNat + y.toNat + 0 <;> by_cases h' : 18446744073709551616 ≤ x.toNat + y.toNat + 1 <;> simp only [h, h', decide_true, decide_false, Bool.toNat_true, Bool.toNat_false] <;> omega)

/-- A call of a function that has no body here. -/
theorem is_ext {P : Program} {f : FuncId} {args : Array Operand} {ts : Array TypeId} {vs : List Value} {v : Value} (h : pureRun P (callFunc f vs.toArray) = some (.value v)) :
    IsOp P (.call { callee := .value (.func f), args := args, argTypes := ts }) ((.func (.func f) #[] #[]) :: vs) v := by
  intro ρ o ho hv
  rw [ho] at hv
  have hops : (Op.call { callee := .value (.func f), args := args, argTypes := ts }).operands = #[.func f] ++ args := rfl
  rw [hops] at hv
  simp only [Array.toList_append, List.map_cons, List.cons_append, List.nil_append, List.cons.injEq] at hv
  obtain ⟨h1, h2⟩ := hv
  unfold execOp
  rw [ho]
  simp only
  show pureRun P (Sem.bind (resolve ρ { callee := .value (.func f), args := args, argTypes := ts } o.type) fun d => invoke d.target d.args) = _
  have hargs : args.map ρ = vs.toArray := by
    apply Array.ext'
    simpa using h2
  rw [pureRun_bind]
  simp only [resolve, h1, hargs, Deferred.ofValue]
  show pureRun P (invoke (.fn (.func f) #[]) (#[] ++ vs.toArray)) = _
  simp only [invoke, Array.empty_append, Array.append_empty]
  exact h

theorem pair_add (x y : UInt64) (c : Bool) : Extern.MathBitsCarry.pair ((x.toNat + y.toNat + c.toNat) % Extern.MathBitsCarry.m64) ((x.toNat + y.toNat + c.toNat) / Extern.MathBitsCarry.m64) =
    .tuple #[u64 (addS x y c), u64 (b2u (addC x y c))] := by
  unfold Extern.MathBitsCarry.pair u64
  rw [addS_toNat, b2u_toNat, addC_toNat]
  rfl

theorem pair_sub (x y : UInt64) (c : Bool) : Extern.MathBitsCarry.pair ((x.toNat + Extern.MathBitsCarry.m64 - y.toNat - c.toNat) % Extern.MathBitsCarry.m64) (if x.toNat < y.toNat + c.toNat then 1 else 0) =
    .tuple #[u64 (subS x y c), u64 (b2u (subC x y c))] := by
  unfold Extern.MathBitsCarry.pair u64
  rw [subS_toNat, b2u_toNat]
  unfold subC
  by_cases h : x.toNat < y.toNat + c.toNat <;> simp only [h, if_true, if_false, decide_true, decide_false] <;> rfl

/-! ### what they are as numbers -/
def N4.val (x : N4) : Nat := x.a.toNat + 2 ^ 64 * x.b.toNat + 2 ^ 128 * x.c.toNat + 2 ^ 192 * x.d.toNat

def eq4 (x y : N4) : Bool := x.a == y.a && (x.b == y.b && (x.c == y.c && x.d == y.d))

def mulHi (x y : UInt64) : UInt64 := .ofNat (x.toNat * y.toNat / 18446744073709551616)

def add4 (x y : N4) : N4 := ⟨addS x.a y.a false, addS x.b y.b (addC x.a y.a false), addS x.c y.c (addC x.b y.b (addC x.a y.a false)), addS x.d y.d (addC x.c y.c (addC x.b y.b (addC x.a y.a false)))⟩
def add4c (x y : N4) : Bool := addC x.d y.d (addC x.c y.c (addC x.b y.b (addC x.a y.a false)))
def sub4 (x y : N4) : N4 := ⟨subS x.a y.a false, subS x.b y.b (subC x.a y.a false), subS x.c y.c (subC x.b y.b (subC x.a y.a false)), subS x.d y.d (subC x.c y.c (subC x.b y.b (subC x.a y.a false)))⟩
def sub4c (x y : N4) : Bool := subC x.d y.d (subC x.c y.c (subC x.b y.b (subC x.a y.a false)))

end Go.Eng
