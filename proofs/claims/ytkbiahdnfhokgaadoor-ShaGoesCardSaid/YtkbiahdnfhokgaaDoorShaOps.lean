/-
  Words of 32 bits, and what operations make of them.
-/
import Derived.Test.YtkbiahdnfhokgaaDoorLimbByt
namespace Go.Eng
set_option linter.unusedSimpArgs false
set_option linter.unusedVariables false

section words32
variable {P : Program} {t t' : TypeId} {x y : Operand} (a b : UInt32)
theorem is_add32 : IsOp P (.binOp .add t x y t') [u32 a, u32 b] (u32 (a + b)) := isOp_bin guard_int (by
  show some (Value.int .u32 (IntKind.u32.wrap ((a.toNat : Int) + b.toNat))) = _
  rw [wrap_u32, u32, UInt32.toNat_add]; congr 2)
theorem is_sub32 : IsOp P (.binOp .sub t x y t') [u32 a, u32 b] (u32 (a - b)) := isOp_bin guard_int (by
  show some (Value.int .u32 (IntKind.u32.wrap ((a.toNat : Int) - b.toNat))) = _
  rw [wrap_u32, u32, UInt32.toNat_sub]; congr 2
  have := a.toNat_lt; have := b.toNat_lt; omega)
theorem is_mul32 : IsOp P (.binOp .mul t x y t') [u32 a, u32 b] (u32 (a * b)) := isOp_bin guard_int (by
  show some (Value.int .u32 (IntKind.u32.wrap ((a.toNat : Int) * b.toNat))) = _
  rw [wrap_u32, u32, UInt32.toNat_mul]; congr 2)
theorem ofInt32 (a : UInt32) : BitVec.ofInt 32 (a.toNat : Int) = a.toBitVec := by
  apply BitVec.eq_of_toNat_eq
  simp
theorem is_and32 : IsOp P (.binOp .and t x y t') [u32 a, u32 b] (u32 (a &&& b)) := isOp_bin guard_int (by
  show some (Value.int .u32 (IntKind.u32.wrap (((BitVec.ofInt 32 (a.toNat : Int)) &&& (BitVec.ofInt 32 (b.toNat : Int))).toNat))) = _
  rw [wrap_u32, ofInt32, ofInt32, u32]; congr 2
  have := (a &&& b).toNat_lt
  have h : (a.toBitVec &&& b.toBitVec).toNat = (a &&& b).toNat := rfl
  rw [h]; omega)
theorem is_or32 : IsOp P (.binOp .or t x y t') [u32 a, u32 b] (u32 (a ||| b)) := isOp_bin guard_int (by
  show some (Value.int .u32 (IntKind.u32.wrap (((BitVec.ofInt 32 (a.toNat : Int)) ||| (BitVec.ofInt 32 (b.toNat : Int))).toNat))) = _
  rw [wrap_u32, ofInt32, ofInt32, u32]; congr 2
  have := (a ||| b).toNat_lt
  have h : (a.toBitVec ||| b.toBitVec).toNat = (a ||| b).toNat := rfl
  rw [h]; omega)
theorem is_xor32 : IsOp P (.binOp .xor t x y t') [u32 a, u32 b] (u32 (a ^^^ b)) := isOp_bin guard_int (by
  show some (Value.int .u32 (IntKind.u32.wrap (((BitVec.ofInt 32 (a.toNat : Int)) ^^^ (BitVec.ofInt 32 (b.toNat : Int))).toNat))) = _
  rw [wrap_u32, ofInt32, ofInt32, u32]; congr 2
  have := (a ^^^ b).toNat_lt
  have h : (a.toBitVec ^^^ b.toBitVec).toNat = (a ^^^ b).toNat := rfl
  rw [h]; omega)
def shl32 (a : UInt32) (n : Nat) : UInt32 := .ofNat (a.toNat * 2 ^ n)
def shr32 (a : UInt32) (n : Nat) : UInt32 := .ofNat (a.toNat / 2 ^ n)
theorem shl32_toNat (n : Nat) : (shl32 a n).toNat = a.toNat * 2 ^ n % 4294967296 := by
  simp [shl32, UInt32.toNat_ofNat']
theorem shr32_toNat (n : Nat) : (shr32 a n).toNat = a.toNat / 2 ^ n := by
  have h : a.toNat / 2 ^ n < 4294967296 := Nat.lt_of_le_of_lt (Nat.div_le_self _ _) a.toNat_lt
  simp [shr32, UInt32.toNat_ofNat', Nat.mod_eq_of_lt h]
theorem is_shl32 (k : IntKind) (n : Nat) : IsOp P (.binOp .shl t x y t') [u32 a, .int k (n : Int)] (u32 (shl32 a n)) := isOp_bin guard_int (by
  show pureRun P (Op.shift .shl .u32 (a.toNat : Int) k (n : Int)) = _
  unfold Op.shift
  rw [if_neg (by omega)]
  show some (Value.int .u32 (IntKind.u32.wrap ((a.toNat : Int) * 2 ^ min (n : Int).toNat 32))) = _
  rw [wrap_u32, u32, shl32_toNat]
  congr 2
  rw [Int.toNat_natCast]
  by_cases h : n ≤ 32
  · rw [Nat.min_eq_left h]; rw [Int.natCast_emod, Int.natCast_mul, Int.natCast_pow]; rfl
  · rw [Nat.min_eq_right (by omega)]
    have e : n = 32 + (n - 32) := by omega
    have h1 : a.toNat * 2 ^ n % 4294967296 = 0 := by
      rw [e, Nat.pow_add, Nat.mul_comm (2 ^ 32), ← Nat.mul_assoc]
      exact Nat.mul_mod_left _ _
    rw [h1]
    have h2 : ((a.toNat : Int) * 2 ^ 32) % 4294967296 = 0 := Int.mul_emod_left _ _
    exact h2)
theorem is_shr32 (k : IntKind) (n : Nat) : IsOp P (.binOp .shr t x y t') [u32 a, .int k (n : Int)] (u32 (shr32 a n)) := isOp_bin guard_int (by
  show pureRun P (Op.shift .shr .u32 (a.toNat : Int) k (n : Int)) = _
  unfold Op.shift
  rw [if_neg (by omega)]
  show some (Value.int .u32 (Int.fdiv (a.toNat : Int) (2 ^ min (n : Int).toNat 32))) = _
  rw [u32, shr32_toNat]
  congr 2
  rw [Int.toNat_natCast]
  have key : ∀ m : Nat, Int.fdiv (a.toNat : Int) (2 ^ m) = ((a.toNat / 2 ^ m : Nat) : Int) := fun m => by
    rw [Int.fdiv_eq_ediv_of_nonneg _ (Int.pow_nonneg (by omega))]
    push_cast; rfl
  rw [key]
  congr 1
  by_cases h : n ≤ 32
  · rw [Nat.min_eq_left h]
  · rw [Nat.min_eq_right (by omega)]
    have hlt := a.toNat_lt
    rw [Nat.div_eq_of_lt hlt, Nat.div_eq_of_lt]
    exact Nat.lt_of_lt_of_le hlt (Nat.pow_le_pow_right (by omega) (by omega)))
theorem is_quo32 (hb : b.toNat ≠ 0) : IsOp P (.binOp .quo t x y t') [u32 a, u32 b] (u32 (a / b)) := isOp_bin guard_int (by
  show pureRun P (Op.intDiv .quo .u32 (a.toNat : Int) (b.toNat : Int)) = _
  unfold Op.intDiv
  rw [if_neg (by omega)]
  show some (Value.int .u32 (IntKind.u32.wrap (Int.tdiv (a.toNat : Int) b.toNat))) = _
  rw [wrap_u32, u32, UInt32.toNat_div]; congr 2
  rw [Int.tdiv_eq_ediv_of_nonneg (by omega), ← Int.natCast_ediv]
  have h3 : a.toNat / b.toNat < 4294967296 := Nat.lt_of_le_of_lt (Nat.div_le_self _ _) a.toNat_lt
  rw [show (4294967296 : Int) = ((4294967296 : Nat) : Int) from rfl, ← Int.natCast_emod, Nat.mod_eq_of_lt h3])
theorem is_not32 : IsOp P (.unOp .xor t x) [u32 a] (u32 (~~~a)) := isOp_un (by
  show some (Value.int .u32 (IntKind.u32.wrap (((BitVec.ofInt 32 (4294967295 : Int)) ^^^ (BitVec.ofInt 32 (a.toNat : Int))).toNat))) = _
  rw [wrap_u32, ofInt32, u32]; congr 2
  have h1 : (BitVec.ofInt 32 4294967295 ^^^ a.toBitVec) = (~~~a).toBitVec := by
    show _ = ~~~a.toBitVec
    rw [← BitVec.allOnes_xor]; rfl
  rw [h1]
  have := (~~~a).toNat_lt
  have h : ((~~~a).toBitVec).toNat = (~~~a).toNat := rfl
  rw [h]; omega)
theorem int_beq32 : ((a.toNat : Int) == (b.toNat : Int)) = (a == b) := by
  rw [Bool.eq_iff_iff, beq_iff_eq, beq_iff_eq]
  constructor
  · intro h; exact UInt32.toNat_inj.1 (by omega)
  · intro h; rw [h]
theorem is_eql32 : IsOp P (.binOp .eql t x y t') [u32 a, u32 b] (.bool (a == b)) := isOp_bin guard_int (by
  show some (Value.bool ((a.toNat : Int) == (b.toNat : Int))) = _
  rw [int_beq32])
theorem is_eql8 (a b : UInt8) : IsOp P (.binOp .eql t x y t') [u8 a, u8 b] (.bool (a == b)) := isOp_bin guard_int (by
  show some (Value.bool ((a.toNat : Int) == (b.toNat : Int))) = _
  have : ((a.toNat : Int) == (b.toNat : Int)) = (a == b) := by
    rw [Bool.eq_iff_iff, beq_iff_eq, beq_iff_eq]
    constructor
    · intro h; exact UInt8.toNat_inj.1 (by omega)
    · intro h; rw [h]
  rw [this])
end words32
section
variable {P : Program} {s d : TypeId} {x : Operand}
theorem conv_u8_u32 (hs : P.underlying s = some (.int .u8)) (hd : P.underlying d = some (.int .u32)) (a : UInt8) : IsOp P (.convert s d x) [u8 a] (u32 a.toUInt32) := by
  have h := conv_int (x := x) hs hd a.toNat
  rw [wrap_u32] at h
  have : ((a.toNat : Int) % 4294967296) = (a.toUInt32.toNat : Int) := by have := a.toNat_lt; simp; omega
  rw [this] at h; exact h
theorem conv_u32_u8 (hs : P.underlying s = some (.int .u32)) (hd : P.underlying d = some (.int .u8)) (a : UInt32) : IsOp P (.convert s d x) [u32 a] (u8 a.toUInt8) := by
  have h := conv_int (x := x) hs hd a.toNat
  rw [wrap_u8] at h
  have : ((a.toNat : Int) % 256) = (a.toUInt8.toNat : Int) := by simp
  rw [this] at h; exact h
end
end Go.Eng
namespace Go.Eng
/-- A word, turned right. -/
def rot (x : UInt32) (n : Nat) : UInt32 := shl32 x (32 - n) ||| shr32 x n
structure W8 where
  a : UInt32
  b : UInt32
  c : UInt32
  d : UInt32
  e : UInt32
  f : UInt32
  g : UInt32
  h : UInt32
def w8V (s : W8) : Value := .agg #[u32 s.a, u32 s.b, u32 s.c, u32 s.d, u32 s.e, u32 s.f, u32 s.g, u32 s.h]
def rndX (s : W8) (add : UInt32) : UInt32 := s.h + (rot s.e 6 ^^^ rot s.e 11 ^^^ rot s.e 25) + (s.e &&& s.f ^^^ ~~~s.e &&& s.g) + add
def rndY (s : W8) : UInt32 := (rot s.a 2 ^^^ rot s.a 13 ^^^ rot s.a 22) + (s.a &&& s.b ^^^ s.a &&& s.c ^^^ s.b &&& s.c)
def rndS (s : W8) (add : UInt32) : W8 := ⟨rndX s add + rndY s, s.a, s.b, s.c, s.d + rndX s add, s.e, s.f, s.g⟩
end Go.Eng
namespace Go.Eng
section
variable {P : Program} {t e : TypeId} {x y : Operand}
theorem is_ixVec {len : Nat} (ht : P.underlying t = some (.array len e)) (hs : sizeB P e = some 1) (he : ∃ k, P.underlying e = some (.int k)) (g : Nat → Value) (i : Nat) (hi : i < len) :
    IsOp P (.index t x y) [vecV len g, nat i] (g i) := by
  intro ρ o ho hv
  rw [ho] at hv
  simp only [Op.operands, List.map_cons, List.map_nil, List.cons.injEq, and_true] at hv
  obtain ⟨h1, h2⟩ := hv
  obtain ⟨k, he⟩ := he
  unfold execOp
  rw [ho]
  simp only
  show pureRun P (Sem.bind (Instr.index t (ρ x) (ρ y)) fun v => Sem.pure (Next.value v)) = _
  rw [pureRun_bind, h1, h2]
  have hi' : (0 : Int) ≤ (i : Int) ∧ (i : Int) < (len : Int) := by omega
  have hg : (((List.range len).map g).toArray)[i]? = some (g i) := by
    simp [hi]
  have e' : pureRun P (Instr.index t (vecV len g) (nat i)) = some (g i) := by
    simp only [Instr.index, vecV, nat, pureRun_bind', asIntOf, pureRun, pure, pureRun_underlying ht, hi', and_self, if_true, pureRun_sizeOf hs, Int.toNat_natCast, Nat.mul_one, part, isAgg, pureRun_underlying he, hg]
    first | rfl | simp [hg, pureRun]
  rw [e']
  rfl
end
end Go.Eng
namespace Go.Eng
def sp1 (b : Nat → UInt8) : Nat → (Nat → UInt32)
  | 0 => fun _ => 0
  | i + 1 => upd (sp1 b i) (i / 4) (shl32 (sp1 b i (i / 4)) 8 ||| (b i).toUInt32)
def sg0 (x : UInt32) : UInt32 := rot x 7 ^^^ rot x 18 ^^^ shr32 x 3
def sg1 (x : UInt32) : UInt32 := rot x 17 ^^^ rot x 19 ^^^ shr32 x 10
def sp2 (b : Nat → UInt8) : Nat → (Nat → UInt32)
  | 0 => sp1 b 64
  | j + 1 => upd (sp2 b j) (j + 16) (sp2 b j (j + 16 - 16) + sp2 b j (j + 16 - 7) + sg0 (sp2 b j (j + 16 - 15)) + sg1 (sp2 b j (j + 16 - 2)))
/-- A block's words. -/
def sprS (b : Nat → UInt8) : Nat → UInt32 := sp2 b 48
theorem sp_step {b : Nat → UInt8} {j : Nat} {v : Nat → UInt32} (h : 16 ≤ j) (hv : v = sp2 b (j - 16)) :
    upd v j (v (j - 16) + v (j - 7) + (rot (v (j - 15)) 7 ^^^ rot (v (j - 15)) 18 ^^^ shr32 (v (j - 15)) 3) + (rot (v (j - 2)) 17 ^^^ rot (v (j - 2)) 19 ^^^ shr32 (v (j - 2)) 10)) = sp2 b (j + 1 - 16) := by
  subst hv
  obtain ⟨k, rfl⟩ : ∃ k, j = k + 16 := ⟨j - 16, by omega⟩
  rw [show k + 16 + 1 - 16 = k + 1 by omega, show k + 16 - 16 = k by omega, sp2, show k + 16 - 16 = k by omega]
  rfl
end Go.Eng
namespace Go.Eng
def W8.get (s : W8) : Nat → UInt32
  | 0 => s.a
  | 1 => s.b
  | 2 => s.c
  | 3 => s.d
  | 4 => s.e
  | 5 => s.f
  | 6 => s.g
  | _ => s.h
def w8F (s : Nat → UInt32) : W8 := ⟨s 0, s 1, s 2, s 3, s 4, s 5, s 6, s 7⟩
def rndF (s : Nat → UInt32) (add : UInt32) : Nat → UInt32 := (rndS (w8F s) add).get
/-- The rounds' numbers. -/
def rndK : List Nat := [1116352408, 1899447441, 3049323471, 3921009573, 961987163, 1508970993, 2453635748, 2870763221, 3624381080, 310598401, 607225278, 1426881987, 1925078388, 2162078206, 2614888103, 3248222580, 3835390401, 4022224774, 264347078, 604807628, 770255983, 1249150122, 1555081692, 1996064986, 2554220882, 2821834349, 2952996808, 3210313671, 3336571891, 3584528711, 113926993, 338241895, 666307205, 773529912, 1294757372, 1396182291, 1695183700, 1986661051, 2177026350, 2456956037, 2730485921, 2820302411, 3259730800, 3345764771, 3516065817, 3600352804, 4094571909, 275423344, 430227734, 506948616, 659060556, 883997877, 958139571, 1322822218, 1537002063, 1747873779, 1955562222, 2024104815, 2227730452, 2361852424, 2428436474, 2756734187, 3204031479, 3329325298]
def rndW (i : Nat) : UInt32 := .ofNat (rndK.getD i 0)
/-- The words behind i rounds. -/
def mixR (s w : Nat → UInt32) : Nat → (Nat → UInt32)
  | 0 => s
  | i + 1 => rndF (mixR s w i) (rndW i + w i)
def addR (s t : Nat → UInt32) : Nat → (Nat → UInt32)
  | 0 => t
  | i + 1 => upd (addR s t i) i (addR s t i i + s i)
def mixS (s : Nat → UInt32) (b : Nat → UInt8) : Nat → UInt32 := addR s (mixR s (sprS b) 64) 8
def begK : List Nat := [1779033703, 3144134277, 1013904242, 2773480762, 1359893119, 2600822924, 528734635, 1541459225]
def begW (i : Nat) : UInt32 := .ofNat (begK.getD i 0)
/-- The package's two tables: blocks that are only read. -/
def begB : Blk := ⟨0, false, 0, litF 8 fun k => u32 (begW k)⟩
def rndB : Blk := ⟨1, false, 0, tabF 64 fun k => u32 (rndW k)⟩
def famT (b : Blk) : Prop := b = begB ∨ b = rndB
end Go.Eng
namespace Go.Eng
theorem rot_sum {x : UInt32} {n : Nat} (h : n ≤ 32) : shr32 x n + shl32 x (32 - n) = rot x n := UInt32.toNat_inj.1 (by
  have hx := x.toNat_lt
  have h1 : x.toNat * 2 ^ (32 - n) % 4294967296 = 2 ^ (32 - n) * (x.toNat % 2 ^ n) := by
    rw [show (4294967296 : Nat) = 2 ^ (32 - n) * 2 ^ n by rw [← Nat.pow_add, show 32 - n + n = 32 by omega], Nat.mul_comm, Nat.mul_mod_mul_left]
  have h2 : x.toNat / 2 ^ n < 2 ^ (32 - n) := by
    refine Nat.div_lt_of_lt_mul ?_
    rw [← Nat.pow_add, show n + (32 - n) = 32 by omega]; exact hx
  have h3 := Nat.two_pow_add_eq_or_of_lt h2 (x.toNat % 2 ^ n)
  unfold rot
  rw [UInt32.toNat_or, UInt32.toNat_add, shr32_toNat, shl32_toNat, h1, ← h3, Nat.add_comm (x.toNat / 2 ^ n)]
  refine Nat.mod_eq_of_lt ?_
  have h4 : x.toNat % 2 ^ n < 2 ^ n := Nat.mod_lt _ (Nat.two_pow_pos n)
  have h5 : 2 ^ (32 - n) * (x.toNat % 2 ^ n + 1) ≤ 2 ^ (32 - n) * 2 ^ n := Nat.mul_le_mul_left _ h4
  rw [← Nat.pow_add, show 32 - n + n = 32 by omega, Nat.mul_add, Nat.mul_one] at h5
  have h6 : (2 : Nat) ^ 32 = 4294967296 := rfl
  omega)
end Go.Eng
