/-
  An engine for walks, thirteenth part: '==' of arrays.
-/
import Derived.Test.YthapokgokbfibaaNat4
namespace Go.Eng
theorem pureRun_bind' {α β : Type} (P : Program) (s : Go.Sem α) (f : α → Go.Sem β) : pureRun P (s >>= f) = match pureRun P s with
    | some a => pureRun P (f a)
    | none => none := pureRun_bind P s f

theorem pureRun_underlying {P : Program} {t : TypeId} {d : TypeDesc} (h : P.underlying t = some d) : pureRun P (underlying t) = some d := by
  unfold underlying
  rw [pureRun_bind']
  show pureRun P (match P.underlying t with | some d => pure d | none => stuck "no such type") = _
  rw [h]; rfl

theorem pureRun_typeInfo {P : Program} {t : TypeId} {i : TypeInfo} (h : P.info? t = some i) : pureRun P (typeInfo t) = some i := by
  unfold typeInfo
  rw [pureRun_bind']
  show pureRun P (match P.info? t with | some i => pure i | none => stuck "no such type") = _
  rw [h]; rfl

theorem pureRun_sizeOf {P : Program} {t : TypeId} {n : Nat} (h : sizeB P t = some n) : pureRun P (sizeOf t) = some n := by
  simp only [sizeB, Option.map_eq_some_iff] at h
  obtain ⟨i, hi, rfl⟩ := h
  unfold sizeOf
  rw [pureRun_bind', pureRun_typeInfo hi]; rfl

theorem pureRun_part {P : Program} {e : TypeId} {k : IntKind} {cs : Array Value} {i : Nat} {v : Value} (he : P.underlying e = some (.int k)) (hv : cs[i]? = some v) : pureRun P (part e cs i) = some v := by
  unfold part
  rw [pureRun_bind']
  have : pureRun P (isAgg e) = some false := by
    unfold isAgg
    rw [pureRun_bind', pureRun_underlying he]; rfl
  rw [this]
  simp only [Bool.false_eq_true, if_false, hv]
  rfl

theorem pureRun_equalIn_int {P : Program} {e : TypeId} {k : IntKind} (d : Nat) (a b : Int) (he : P.underlying e = some (.int k)) : pureRun P (Op.equalIn (d + 1) e (.int k a) (.int k b)) = some (a == b) := by
  unfold Op.equalIn
  rw [pureRun_bind', pureRun_underlying he]
  simp only [if_true]
  rfl

theorem pureRun_all {P : Program} {α β : Type} (A : Nat → Go.Sem α) (B : Nat → Go.Sem β) (E : α → β → Go.Sem Bool) (f : Nat → Bool) : ∀ (l : List Nat),
    (∀ i ∈ l, ∃ a b, pureRun P (A i) = some a ∧ pureRun P (B i) = some b ∧ pureRun P (E a b) = some (f i)) →
    pureRun P (forIn l (none, ()) fun i _ => do
      let a ← A i
      let b ← B i
      let r ← E a b
      if (!r) = true then pure (ForInStep.done (some false, ())) else pure (ForInStep.yield ((none : Option Bool), ()))) = some (if l.all f then (none, ()) else (some false, ()))
  | [], _ => rfl
  | i :: l, h => by
    obtain ⟨a, b, h1, h2, h3⟩ := h i (by simp)
    have ih := pureRun_all A B E f l fun j hj => h j (by simp [hj])
    rw [List.forIn_cons, pureRun_bind', pureRun_bind', h1]
    simp only
    rw [pureRun_bind', h2]
    simp only
    rw [pureRun_bind', h3]
    simp only
    cases hf : f i with
    | true =>
      simp only [Bool.not_true, Bool.false_eq_true, if_false, List.all_cons, hf, Bool.true_and]
      exact ih
    | false =>
      simp only [Bool.not_false, if_true, List.all_cons, hf, Bool.false_and, Bool.false_eq_true, if_false]
      rfl

theorem pureRun_equalIn_arr {P : Program} {t e : TypeId} {k : IntKind} {n : Nat} (d : Nat) (xs ys : List Int) (ht : P.underlying t = some (.array n e)) (he : P.underlying e = some (.int k)) (hs : sizeB P e = some 1)
    (hx : xs.length = n) (hy : ys.length = n) :
    pureRun P (Op.equalIn (d + 2) t (.agg (xs.map (Value.int k)).toArray) (.agg (ys.map (Value.int k)).toArray)) = some ((List.range n).all fun i => xs.getD i 0 == ys.getD i 0) := by
  rw [Op.equalIn, pureRun_bind', pureRun_underlying ht]
  simp only
  rw [pureRun_bind', pureRun_sizeOf hs]
  simp only
  rw [Std.Legacy.Range.forIn_eq_forIn_range', pureRun_bind']
  have hr : List.range' ({ stop := n, step_pos := by omega } : Std.Legacy.Range).start ({ stop := n, step_pos := by omega } : Std.Legacy.Range).size ({ stop := n, step_pos := by omega } : Std.Legacy.Range).step = List.range n := by
    simp [Std.Legacy.Range.size, List.range_eq_range']
  have key := pureRun_all (P := P) (fun i => part e (xs.map (Value.int k)).toArray (i * 1)) (fun i => part e (ys.map (Value.int k)).toArray (i * 1)) (fun a b => Op.equalIn (d + 1) e a b)
    (fun i => xs.getD i 0 == ys.getD i 0) (List.range n) (fun i hi => by
      have hi' := List.mem_range.1 hi
      refine ⟨.int k (xs.getD i 0), .int k (ys.getD i 0), pureRun_part he ?_, pureRun_part he ?_, pureRun_equalIn_int d _ _ he⟩
      · simp [List.getD, List.getElem?_eq_getElem (show i < xs.length by omega)]
      · simp [List.getD, List.getElem?_eq_getElem (show i < ys.length by omega)])
  rw [← hr] at key
  erw [key]
  simp only [hr]
  generalize ((List.range n).all fun i => xs.getD i 0 == ys.getD i 0) = q
  cases q <;> rfl

theorem guard_arr {P : Program} {op : BinOp} {t : TypeId} {x y : Operand} {xs ys : Array Value} (hg : P.eqGuardType P.depth t = false) :
    pureRun P (eqGuard op t x y (.agg xs) (.agg ys)) = some () := by
  unfold eqGuard
  cases op <;> first | rfl | (show pureRun P (if (!P.eqGuardType P.depth t) = true then _ else _) = _; rw [hg]; rfl)

theorem beq64 (a b : UInt64) : ((a.toNat : Int) == (b.toNat : Int)) = (a == b) := int_beq64 a b

theorem equal_nat4 {P : Program} {t e : TypeId} (ht : P.underlying t = some (.array 4 e)) (he : P.underlying e = some (.int .u64)) (hs : sizeB P e = some 1) (x y : N4) :
    pureRun P (Op.equal t (nat4 x) (nat4 y)) = some (eq4 x y) := by
  have h := pureRun_equalIn_arr (P := P) 9998 [(x.a.toNat : Int), x.b.toNat, x.c.toNat, x.d.toNat] [(y.a.toNat : Int), y.b.toNat, y.c.toNat, y.d.toNat] ht he hs rfl rfl
  have e : ((List.range 4).all fun i => [(x.a.toNat : Int), x.b.toNat, x.c.toNat, x.d.toNat].getD i 0 == [(y.a.toNat : Int), y.b.toNat, y.c.toNat, y.d.toNat].getD i 0) = eq4 x y := by
    show (((x.a.toNat : Int) == y.a.toNat) && (((x.b.toNat : Int) == y.b.toNat) && (((x.c.toNat : Int) == y.c.toNat) && (((x.d.toNat : Int) == y.d.toNat) && true)))) = _
    simp only [beq64, Bool.and_true, eq4]
  rw [e] at h
  exact h

theorem is_eql_nat4 {P : Program} {t t' e : TypeId} {a b : Operand} (ht : P.underlying t = some (.array 4 e)) (he : P.underlying e = some (.int .u64)) (hs : sizeB P e = some 1) (hg : P.eqGuardType P.depth t = false) (x y : N4) :
    IsOp P (.binOp .eql t a b t') [nat4 x, nat4 y] (.bool (eq4 x y)) := isOp_bin (guard_arr hg) (by
  show pureRun P (do pure (Value.bool (← Op.equal t (nat4 x) (nat4 y)))) = _
  rw [pureRun_bind', equal_nat4 ht he hs]; rfl)

theorem is_neq_nat4 {P : Program} {t t' e : TypeId} {a b : Operand} (ht : P.underlying t = some (.array 4 e)) (he : P.underlying e = some (.int .u64)) (hs : sizeB P e = some 1) (hg : P.eqGuardType P.depth t = false) (x y : N4) :
    IsOp P (.binOp .neq t a b t') [nat4 x, nat4 y] (.bool (!eq4 x y)) := isOp_bin (guard_arr hg) (by
  show pureRun P (do pure (Value.bool (!(← Op.equal t (nat4 x) (nat4 y))))) = _
  rw [pureRun_bind', equal_nat4 ht he hs]; rfl)

def eq8 (x y : N8) : Bool := eq4 x.lo y.lo && eq4 x.hi y.hi

theorem equal_wide8 {P : Program} {t e : TypeId} (ht : P.underlying t = some (.array 8 e)) (he : P.underlying e = some (.int .u64)) (hs : sizeB P e = some 1) (x y : N8) :
    pureRun P (Op.equal t (wide8 x) (wide8 y)) = some (eq8 x y) := by
  have h := pureRun_equalIn_arr (P := P) 9998 [(x.lo.a.toNat : Int), x.lo.b.toNat, x.lo.c.toNat, x.lo.d.toNat, x.hi.a.toNat, x.hi.b.toNat, x.hi.c.toNat, x.hi.d.toNat]
    [(y.lo.a.toNat : Int), y.lo.b.toNat, y.lo.c.toNat, y.lo.d.toNat, y.hi.a.toNat, y.hi.b.toNat, y.hi.c.toNat, y.hi.d.toNat] ht he hs rfl rfl
  have e : ((List.range 8).all fun i => [(x.lo.a.toNat : Int), x.lo.b.toNat, x.lo.c.toNat, x.lo.d.toNat, x.hi.a.toNat, x.hi.b.toNat, x.hi.c.toNat, x.hi.d.toNat].getD i 0 ==
      [(y.lo.a.toNat : Int), y.lo.b.toNat, y.lo.c.toNat, y.lo.d.toNat, y.hi.a.toNat, y.hi.b.toNat, y.hi.c.toNat, y.hi.d.toNat].getD i 0) = eq8 x y := by
    show (((x.lo.a.toNat : Int) == y.lo.a.toNat) && (((x.lo.b.toNat : Int) == y.lo.b.toNat) && (((x.lo.c.toNat : Int) == y.lo.c.toNat) && (((x.lo.d.toNat : Int) == y.lo.d.toNat) &&
      (((x.hi.a.toNat : Int) == y.hi.a.toNat) && (((x.hi.b.toNat : Int) == y.hi.b.toNat) && (((x.hi.c.toNat : Int) == y.hi.c.toNat) && (((x.hi.d.toNat : Int) == y.hi.d.toNat) && true)))))))) = _
    simp only [beq64, Bool.and_true, eq8, eq4, Bool.and_assoc]
  rw [e] at h
  exact h

theorem is_eql_wide8 {P : Program} {t t' e : TypeId} {a b : Operand} (ht : P.underlying t = some (.array 8 e)) (he : P.underlying e = some (.int .u64)) (hs : sizeB P e = some 1) (hg : P.eqGuardType P.depth t = false) (x y : N8) :
    IsOp P (.binOp .eql t a b t') [wide8 x, wide8 y] (.bool (eq8 x y)) := isOp_bin (guard_arr hg) (by
  show pureRun P (do pure (Value.bool (← Op.equal t (wide8 x) (wide8 y)))) = _
  rw [pureRun_bind', equal_wide8 ht he hs]; rfl)

/-! ### numbers of kind int -/
theorem wrap_i64 (n : Int) (h : -9223372036854775808 ≤ n ∧ n ≤ 9223372036854775807) : IntKind.i64.wrap n = n := by
  have e : IntKind.i64.wrap n = if n % 18446744073709551616 ≥ 9223372036854775808 then n % 18446744073709551616 - 18446744073709551616 else n % 18446744073709551616 := by
    simp [IntKind.wrap, IntKind.bits, IntKind.signed]
  rw [e]; split <;> omega

section ints
variable {P : Program} {t t' : TypeId} {x y : Operand} (a b : Int)
theorem is_addi (h : -9223372036854775808 ≤ a + b ∧ a + b ≤ 9223372036854775807) : IsOp P (.binOp .add t x y t') [int a, int b] (int (a + b)) := isOp_bin guard_int (by
  show some (Value.int .i64 (IntKind.i64.wrap (a + b))) = _
  rw [wrap_i64 _ h]; rfl)
theorem is_subi (h : -9223372036854775808 ≤ a - b ∧ a - b ≤ 9223372036854775807) : IsOp P (.binOp .sub t x y t') [int a, int b] (int (a - b)) := isOp_bin guard_int (by
  show some (Value.int .i64 (IntKind.i64.wrap (a - b))) = _
  rw [wrap_i64 _ h]; rfl)
theorem is_muli (h : -9223372036854775808 ≤ a * b ∧ a * b ≤ 9223372036854775807) : IsOp P (.binOp .mul t x y t') [int a, int b] (int (a * b)) := isOp_bin guard_int (by
  show some (Value.int .i64 (IntKind.i64.wrap (a * b))) = _
  rw [wrap_i64 _ h]; rfl)
theorem is_negi (h : -9223372036854775808 ≤ -a ∧ -a ≤ 9223372036854775807) : IsOp P (.unOp .neg t x) [int a] (int (-a)) := isOp_un (by
  show some (Value.int .i64 (IntKind.i64.wrap (0 - a))) = _
  rw [Int.zero_sub, wrap_i64 _ h]; rfl)
theorem equal_bool (ht : P.underlying t = some .bool) (p q : Bool) : pureRun P (Op.equal t (.bool p) (.bool q)) = some (p == q) := by
  show pureRun P (Op.equalIn (9999 + 1) t (.bool p) (.bool q)) = _
  rw [Op.equalIn, pureRun_bind', pureRun_underlying ht]; rfl
theorem guard_bool {op : BinOp} {p q : Bool} : pureRun P (eqGuard op t x y (.bool p) (.bool q)) = some () := by cases op <;> rfl
theorem is_eqlB (ht : P.underlying t = some .bool) (p q : Bool) : IsOp P (.binOp .eql t x y t') [.bool p, .bool q] (.bool (p == q)) := isOp_bin guard_bool (by
  show pureRun P (do pure (Value.bool (← Op.equal t (.bool p) (.bool q)))) = _
  rw [pureRun_bind', equal_bool ht]; rfl)
theorem is_neqB (ht : P.underlying t = some .bool) (p q : Bool) : IsOp P (.binOp .neq t x y t') [.bool p, .bool q] (.bool (!(p == q))) := isOp_bin guard_bool (by
  show pureRun P (do pure (Value.bool (!(← Op.equal t (.bool p) (.bool q))))) = _
  rw [pureRun_bind', equal_bool ht]; rfl)
end ints

theorem pickn {g : Bool} (h : g = false) : (!g) = true := by rw [h]; rfl
theorem pickm {a b : Bool} : a = true → b = true → selB a b false = true := by cases a <;> cases b <;> simp [selB]
theorem pickl {a b : Bool} (h : selB a b false = true) : a = true := by cases a <;> first | rfl | cases h
theorem pickr {a b : Bool} (h : selB a b false = true) : b = true := by cases a <;> first | exact h | cases h

theorem sband_l {a b : Bool} (h : selB a b false = true) : a = true := by cases a <;> first | rfl | cases h
theorem sband_r {a b : Bool} (h : selB a b false = true) : b = true := by cases a <;> first | exact h | cases h
theorem sband_f {a b : Bool} (h : selB a b false = false) : a = false ∨ b = false := by cases a <;> first | exact .inl rfl | exact .inr h
theorem sbor_t {a b : Bool} (h : selB a true b = true) : a = true ∨ b = true := by cases a <;> first | exact .inl rfl | exact .inr h
theorem sbor_l {a b : Bool} (h : selB a true b = false) : a = false := by cases a <;> first | rfl | cases h
theorem sbor_r {a b : Bool} (h : selB a true b = false) : b = false := by cases a <;> first | exact h | cases h
theorem sameB_t {x : Bool} (h : sameB x true = true) : x = true := h
theorem sameB_f {x : Bool} (h : sameB x false = true) : x = false := by cases x <;> first | rfl | cases h
theorem sameB_mk {x : Bool} (h : x = true) : sameB x true = true := h
theorem sameB_mkf {x : Bool} (h : x = false) : sameB x false = true := by rw [h]; rfl
end Go.Eng
