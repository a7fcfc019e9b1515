/-
  An engine for walks, fifteenth part: numbers of kind int that are not below 0; places in arrays and slices; conversions.
-/
import Derived.Test.YthapokgokbfibaaEngN
namespace Go.Eng

def nat (n : Nat) : Value := .int .i64 (n : Int)

section nats
variable {P : Program} {t t' : TypeId} {x y : Operand} (a b : Nat)
theorem is_addn (h : a + b ≤ 9223372036854775807) : IsOp P (.binOp .add t x y t') [nat a, nat b] (nat (a + b)) := isOp_bin guard_int (by
  show some (Value.int .i64 (IntKind.i64.wrap ((a : Int) + b))) = _
  rw [wrap_i64 _ (by omega)]; rfl)
theorem is_subn (h : b ≤ a ∧ a - b ≤ 9223372036854775807) : IsOp P (.binOp .sub t x y t') [nat a, nat b] (nat (a - b)) := isOp_bin guard_int (by
  show some (Value.int .i64 (IntKind.i64.wrap ((a : Int) - b))) = _
  rw [wrap_i64 _ (by omega)]
  have : ((a : Int) - b) = ((a - b : Nat) : Int) := by omega
  rw [this]; rfl)
theorem is_subni (h : a ≤ 9223372036854775807 ∧ b ≤ 9223372036854775807) : IsOp P (.binOp .sub t x y t') [nat a, nat b] (int ((a : Int) - b)) := isOp_bin guard_int (by
  show some (Value.int .i64 (IntKind.i64.wrap ((a : Int) - b))) = _
  rw [wrap_i64 _ (by omega)]; rfl)
theorem is_muln (h : a * b ≤ 9223372036854775807) : IsOp P (.binOp .mul t x y t') [nat a, nat b] (nat (a * b)) := isOp_bin guard_int (by
  show some (Value.int .i64 (IntKind.i64.wrap ((a : Int) * b))) = _
  have : ((a : Int) * b) = ((a * b : Nat) : Int) := by push_cast; rfl
  rw [this, wrap_i64 _ (by omega)]; rfl)

theorem is_quon (h : 0 < b ∧ a ≤ 9223372036854775807) : IsOp P (.binOp .quo t x y t') [nat a, nat b] (nat (a / b)) := isOp_bin guard_int (by
  show pureRun P (Op.intDiv .quo .i64 (a : Int) (b : Int)) = _
  unfold Op.intDiv
  rw [if_neg (by omega)]
  show some (Value.int .i64 (IntKind.i64.wrap ((a : Int).tdiv b))) = _
  have : ((a : Int).tdiv b) = ((a / b : Nat) : Int) := by rw [Int.tdiv_eq_ediv_of_nonneg (by omega)]; push_cast; rfl
  have h2 : a / b ≤ a := Nat.div_le_self _ _
  rw [this]
  generalize a / b = q at h2 ⊢
  rw [wrap_i64 _ (by omega)]; rfl)
theorem is_remn (h : 0 < b) : IsOp P (.binOp .rem t x y t') [nat a, nat b] (nat (a % b)) := isOp_bin guard_int (by
  show pureRun P (Op.intDiv .rem .i64 (a : Int) (b : Int)) = _
  unfold Op.intDiv
  rw [if_neg (by omega)]
  show some (Value.int .i64 ((a : Int).tmod b)) = _
  have : ((a : Int).tmod b) = ((a % b : Nat) : Int) := by rw [Int.tmod_eq_emod_of_nonneg (by omega)]; push_cast; rfl
  rw [this]; rfl)
theorem is_lssn : IsOp P (.binOp .lss t x y t') [nat a, nat b] (.bool (decide (a < b))) := isOp_bin guard_int (by
  show some (Value.bool (decide ((a : Int) < b))) = _
  congr 2; simp)
theorem is_leqn : IsOp P (.binOp .leq t x y t') [nat a, nat b] (.bool (decide (a ≤ b))) := isOp_bin guard_int (by
  show some (Value.bool (decide ((a : Int) ≤ b))) = _
  congr 2; simp)
theorem is_gtrn : IsOp P (.binOp .gtr t x y t') [nat a, nat b] (.bool (decide (b < a))) := isOp_bin guard_int (by
  show some (Value.bool (decide ((a : Int) > b))) = _
  congr 2; simp)
theorem is_geqn : IsOp P (.binOp .geq t x y t') [nat a, nat b] (.bool (decide (b ≤ a))) := isOp_bin guard_int (by
  show some (Value.bool (decide ((a : Int) ≥ b))) = _
  congr 2; simp)
theorem is_eqln : IsOp P (.binOp .eql t x y t') [nat a, nat b] (.bool (decide (a = b))) := isOp_bin guard_int (by
  show some (Value.bool ((a : Int) == b)) = _
  congr 2; rw [Bool.eq_iff_iff]; simp; omega)
theorem is_neqn : IsOp P (.binOp .neq t x y t') [nat a, nat b] (.bool (!decide (a = b))) := isOp_bin guard_int (by
  show some (Value.bool (!((a : Int) == b))) = _
  congr 3; rw [Bool.eq_iff_iff]; simp; omega)

/-- By literal numbers that are told so. -/
theorem is_quol (n : Nat) (h : 0 < b ∧ a ≤ 9223372036854775807 ∧ a / b = n) : IsOp P (.binOp .quo t x y t') [nat a, nat b] (nat n) := by
  rw [← h.2.2]; exact is_quon a b ⟨h.1, h.2.1⟩
theorem is_reml (n : Nat) (h : 0 < b ∧ a % b = n) : IsOp P (.binOp .rem t x y t') [nat a, nat b] (nat n) := by
  rw [← h.2]; exact is_remn a b h.1
end nats

section places
variable {P : Program} {t e : TypeId} {x y : Operand} {sz : Nat}
theorem isOp_index {vx vy v : Value} (h : pureRun P (Instr.indexAt t vx vy) = some v) : IsOp P (.indexAddr t x y) [vx, vy] v := by
  intro ρ o ho hv
  rw [ho] at hv
  simp only [Op.operands, List.map_cons, List.map_nil, List.cons.injEq, and_true] at hv
  obtain ⟨rfl, rfl⟩ := hv
  unfold execOp
  rw [ho]
  simp only
  show pureRun P (Sem.bind (Instr.indexAt t (ρ x) (ρ y)) fun v => Sem.pure (Next.value v)) = _
  rw [pureRun_bind, h]
  rfl

theorem add_none (n o k : Nat) : (⟨n, o, none⟩ : Addr).add k = ⟨n, o + k, none⟩ := by unfold Addr.add; split <;> simp_all

theorem is_ixArr {len : Nat} (ht : P.underlying t = some (.array len e)) (hs : sizeB P e = some sz) (n o i : Nat) (hi : i < len) : IsOp P (.indexAddr t x y) [ptr n o, nat i] (ptr n (o + i * sz)) := isOp_index (by
  have hi' : 0 ≤ (i : Int) ∧ (i : Int) < (len : Int) := by omega
  simp only [Instr.indexAt, ptr, nat, Instr.sureAddr, pureRun_bind', asIntOf, pureRun, pure, pureRun_underlying ht, hi', and_self, if_true, pureRun_sizeOf hs, add_none, Int.toNat_natCast])

theorem is_ixSl (ht : P.underlying t = some (.slice e)) (hs : sizeB P e = some sz) (n o len cap i : Nat) (hi : i < len) : IsOp P (.indexAddr t x y) [.slice (some ⟨n, o, none⟩) len cap, nat i] (ptr n (o + i * sz)) := isOp_index (by
  have hi' : 0 ≤ (i : Int) ∧ (i : Int) < (len : Int) := by omega
  simp only [Instr.indexAt, ptr, nat, Instr.sureAddr, pureRun_bind', asIntOf, pureRun, pure, pureRun_underlying ht, hi', and_self, if_true, pureRun_sizeOf hs, add_none, Int.toNat_natCast])
theorem is_ixStr (ht : P.underlying t = some .string) (s : ByteArray) (f : UInt8 → UInt8) (hf : ∀ i : UInt8, s[i.toNat]? = some (f i)) (i : UInt8) : IsOp P (.index t x y) [.string s, u8 i] (u8 (f i)) := by
  intro ρ o ho hv
  rw [ho] at hv
  simp only [Op.operands, List.map_cons, List.map_nil, List.cons.injEq, and_true] at hv
  obtain ⟨h1, h2⟩ := hv
  unfold execOp
  rw [ho]
  simp only
  show pureRun P (Sem.bind (Instr.index t (ρ x) (ρ y)) fun v => Sem.pure (Next.value v)) = _
  rw [pureRun_bind, h1, h2]
  have h0 : (0 : Int) ≤ (i.toNat : Int) := by omega
  have e : pureRun P (Instr.index t (.string s) (u8 i)) = some (u8 (f i)) := by
    simp only [Instr.index, u8, pureRun_bind', asIntOf, pureRun, pure, pureRun_underlying ht, h0, if_true, Int.toNat_natCast, hf i]
  rw [e]
  rfl
end places

section convs
variable {P : Program} {s d : TypeId} {x : Operand}
theorem conv_int {k k' : IntKind} (hs : P.underlying s = some (.int k)) (hd : P.underlying d = some (.int k')) (n : Int) : IsOp P (.convert s d x) [.int k n] (.int k' (k'.wrap n)) := isOp_conv (by
  unfold convert
  rw [pureRun_bind', pureRun_underlying hs]
  simp only
  rw [pureRun_bind', pureRun_underlying hd]
  rfl)
theorem wrap_u8 (n : Int) : IntKind.u8.wrap n = n % 256 := by simp [IntKind.wrap, IntKind.bits, IntKind.signed]
theorem wrap_u32 (n : Int) : IntKind.u32.wrap n = n % 4294967296 := by simp [IntKind.wrap, IntKind.bits, IntKind.signed]
theorem conv_u8_u64 (hs : P.underlying s = some (.int .u8)) (hd : P.underlying d = some (.int .u64)) (a : UInt8) : IsOp P (.convert s d x) [u8 a] (u64 a.toUInt64) := by
  have h := conv_int (x := x) hs hd a.toNat
  rw [wrap_u64] at h
  have : ((a.toNat : Int) % 18446744073709551616) = (a.toUInt64.toNat : Int) := by have := a.toNat_lt; simp; omega
  rw [this] at h; exact h
theorem conv_u64_u8 (hs : P.underlying s = some (.int .u64)) (hd : P.underlying d = some (.int .u8)) (a : UInt64) : IsOp P (.convert s d x) [u64 a] (u8 a.toUInt8) := by
  have h := conv_int (x := x) hs hd a.toNat
  rw [wrap_u8] at h
  have : ((a.toNat : Int) % 256) = (a.toUInt8.toNat : Int) := by simp
  rw [this] at h; exact h
theorem conv_u64_int (hs : P.underlying s = some (.int .u64)) (hd : P.underlying d = some (.int .i64)) (a : UInt64) (h : a.toNat ≤ 9223372036854775807) : IsOp P (.convert s d x) [u64 a] (nat a.toNat) := by
  have h1 := conv_int (x := x) hs hd a.toNat
  rw [wrap_i64 _ (by omega)] at h1; exact h1
theorem conv_u8_int (hs : P.underlying s = some (.int .u8)) (hd : P.underlying d = some (.int .i64)) (a : UInt8) : IsOp P (.convert s d x) [u8 a] (nat a.toNat) := by
  have h1 := conv_int (x := x) hs hd a.toNat
  have := a.toNat_lt
  rw [wrap_i64 _ (by omega)] at h1; exact h1
theorem conv_int_u64 (hs : P.underlying s = some (.int .i64)) (hd : P.underlying d = some (.int .u64)) (n : Nat) : IsOp P (.convert s d x) [nat n] (u64 (.ofNat n)) := by
  have h := conv_int (x := x) hs hd n
  rw [wrap_u64] at h
  have : ((n : Int) % 18446744073709551616) = ((UInt64.ofNat n).toNat : Int) := by rw [UInt64.toNat_ofNat']; rfl
  rw [this] at h; exact h
theorem conv_int_u8 (hs : P.underlying s = some (.int .i64)) (hd : P.underlying d = some (.int .u8)) (n : Nat) : IsOp P (.convert s d x) [nat n] (u8 (.ofNat n)) := by
  have h := conv_int (x := x) hs hd n
  rw [wrap_u8] at h
  have : ((n : Int) % 256) = ((UInt8.ofNat n).toNat : Int) := by rw [UInt8.toNat_ofNat']; rfl
  rw [this] at h; exact h
end convs

/-! ### numbers of four words, told by place -/
def N4.get (x : N4) (i : Nat) : UInt64 := match i with
  | 0 => x.a
  | 1 => x.b
  | 2 => x.c
  | 3 => x.d
  | _ => 0
def N4.set (x : N4) (i : Nat) (v : UInt64) : N4 := match i with
  | 0 => { x with a := v }
  | 1 => { x with b := v }
  | 2 => { x with c := v }
  | 3 => { x with d := v }
  | _ => x
def N8.get (x : N8) (i : Nat) : UInt64 := match i with
  | 0 => x.lo.a
  | 1 => x.lo.b
  | 2 => x.lo.c
  | 3 => x.lo.d
  | 4 => x.hi.a
  | 5 => x.hi.b
  | 6 => x.hi.c
  | 7 => x.hi.d
  | _ => 0
def tab4 (x : N4) : Cont := .tab 4 1 fun k => [u64 (x.get k)]
def lit4 (x : N4) : Cont := .lit [u64 x.a, u64 x.b, u64 x.c, u64 x.d]
def tab8 (x : N8) : Cont := .tab 8 1 fun k => [u64 (x.get k)]
def lit8 (x : N8) : Cont := .lit [u64 x.lo.a, u64 x.lo.b, u64 x.lo.c, u64 x.lo.d, u64 x.hi.a, u64 x.hi.b, u64 x.hi.c, u64 x.hi.d]

theorem get_tab4 (x : N4) (o : Nat) : (tab4 x).get o = (lit4 x).get o := by
  rcases o with _ | _ | _ | _ | o <;> simp [tab4, lit4, Cont.get, N4.get, Nat.mod_one]
theorem get_tab8 (x : N8) (o : Nat) : (tab8 x).get o = (lit8 x).get o := by
  rcases o with _ | _ | _ | _ | _ | _ | _ | _ | o <;> simp [tab8, lit8, Cont.get, N8.get, Nat.mod_one]
theorem to_tab4 (x : N4) : ∀ o v, (tab4 x).get o = some v → (lit4 x).get o = some v := fun o v h => by rw [← get_tab4]; exact h
theorem to_lit4 (x : N4) : ∀ o v, (lit4 x).get o = some v → (tab4 x).get o = some v := fun o v h => by rw [get_tab4]; exact h
theorem to_tab8 (x : N8) : ∀ o v, (tab8 x).get o = some v → (lit8 x).get o = some v := fun o v h => by rw [← get_tab8]; exact h
theorem store_tab4 (x : N4) (i : Nat) (v : UInt64) (hi : i < 4) : (tab4 x).store (.tab i 0) [u64 v] = some (tab4 (x.set i v)) := by
  show some (Cont.tab 4 1 fun k => if k = i then [u64 v] else [u64 (x.get k)]) = _
  congr 1
  unfold tab4
  congr 1
  funext k
  by_cases h : k = i
  · subst h
    rw [if_pos rfl]
    rcases k with _ | _ | _ | _ | k <;> first | rfl | omega
  · rw [if_neg h]
    rcases i with _ | _ | _ | _ | i <;> rcases k with _ | _ | _ | _ | k <;> first | rfl | omega

/-! ### arrays, told by place -/
def upd {α : Type} (f : Nat → α) (i : Nat) (v : α) : Nat → α := fun k => if k = i then v else f k
def tabF (n : Nat) (g : Nat → Value) : Cont := .tab n 1 fun k => [g k]
def litF (n : Nat) (g : Nat → Value) : Cont := .lit ((List.range n).map g)
def vecV (n : Nat) (g : Nat → Value) : Value := .agg ((List.range n).map g).toArray

theorem get_tabF (n : Nat) (g : Nat → Value) (o : Nat) : (tabF n g).get o = (litF n g).get o := by
  by_cases h : o < n
  · simp [tabF, litF, Cont.get, Nat.mod_one, h]
  · simp [tabF, litF, Cont.get, h]
theorem to_tabF (n : Nat) (g : Nat → Value) : ∀ o v, (tabF n g).get o = some v → (litF n g).get o = some v := fun o v h => by rw [← get_tabF]; exact h
theorem to_litF (n : Nat) (g : Nat → Value) : ∀ o v, (litF n g).get o = some v → (tabF n g).get o = some v := fun o v h => by rw [get_tabF]; exact h
theorem store_tabF {α : Type} (n : Nat) (K : α → Value) (f : Nat → α) (i : Nat) (v : α) : (tabF n fun k => K (f k)).store (.tab i 0) [K v] = some (tabF n fun k => K (upd f i v k)) := by
  show some (Cont.tab n 1 fun k => if k = i then [K v] else [K (f k)]) = _
  congr 1
  unfold tabF
  congr 1
  funext k
  by_cases h : k = i
  · subst h; simp [upd]
  · simp [upd, h]

theorem bnot_t {b : Bool} (h : (!b) = true) : b = false := by cases b <;> first | rfl | cases h
theorem bnot_f {b : Bool} (h : (!b) = false) : b = true := by cases b <;> first | rfl | cases h
theorem band_l {a b : Bool} (h : (a && b) = true) : a = true := by cases a <;> first | rfl | cases h
theorem band_r {a b : Bool} (h : (a && b) = true) : b = true := by cases a <;> first | exact h | cases h
theorem bor_t {a b : Bool} (h : (a || b) = true) : a = true ∨ b = true := by cases a <;> first | exact .inl rfl | exact .inr h
theorem band_f {a b : Bool} (h : (a && b) = false) : a = false ∨ b = false := by cases a <;> first | exact .inl rfl | exact .inr h
theorem bor_l {a b : Bool} (h : (a || b) = false) : a = false := by cases a <;> first | rfl | cases h
theorem bor_r {a b : Bool} (h : (a || b) = false) : b = false := by cases a <;> first | exact h | cases h

end Go.Eng
