/-
  Many in one: LimbByt, LimbBytFns, EngT, EngU, EngV, EngZ.
-/
import Derived.Test.YtnailbicmhkmbaaZPoolOnce6
import Derived.Deep.Slices
set_option linter.unusedVariables false
set_option linter.unusedSimpArgs false
set_option maxRecDepth 100000
set_option maxHeartbeats 1000000
section
namespace Go.Eng
theorem or_low_byte {g : UInt64} {b : UInt8} {s : Nat} (hs : s ≤ 56) (hg : g.toNat < 2 ^ s) : (g ||| shl64 b.toUInt64 s).toNat = g.toNat + b.toNat * 2 ^ s := by
  have hb := b.toNat_lt
  have hp : 2 ^ s ≤ 2 ^ 56 := Nat.pow_le_pow_right (by omega) hs
  have h1 : b.toNat * 2 ^ s ≤ 255 * 2 ^ s := Nat.mul_le_mul_right _ (by omega)
  rw [UInt64.toNat_or, shl64_toNat, UInt8.toNat_toUInt64, Nat.mod_eq_of_lt (show b.toNat * 2 ^ s < 18446744073709551616 by omega), Nat.mul_comm, or_parts hg]
def beN (f : Nat → UInt8) (n i : Nat) : Nat := numOf (fun j => (f (n - 1 - j)).toNat) i
theorem beN_lt (f : Nat → UInt8) (n i : Nat) : beN f n i < 256 ^ i := numOf_lt fun _ _ => (f _).toNat_lt
theorem of_step (a : N4) (f : Nat → UInt8) (n i : Nat) (hi : i < 32) (ha : a.val = beN f n i) :
    (a.set (i / 8) (a.get (i / 8) ||| shl64 (f (n - 1 - i)).toUInt64 (i % 8 * 8))).val = beN f n (i + 1) := by
  have hj : i / 8 < 4 := by omega
  obtain ⟨q, hq⟩ := word_of a (i / 8) hj
  have ei : 8 * i = 64 * (i / 8) + i % 8 * 8 := by omega
  have hlt : a.val < 2 ^ (64 * (i / 8)) * 2 ^ (i % 8 * 8) := by
    rw [ha, ← Nat.pow_add, ← ei, ← pow256]; exact beN_lt f n i
  have hdiv : a.val / 2 ^ (64 * (i / 8)) < 2 ^ (i % 8 * 8) := Nat.div_lt_of_lt_mul hlt
  have hg : (a.get (i / 8)).toNat < 2 ^ (i % 8 * 8) := by omega
  have hs := a.set_val (i / 8) (a.get (i / 8) ||| shl64 (f (n - 1 - i)).toUInt64 (i % 8 * 8)) hj
  rw [or_low_byte (by omega) hg, Nat.mul_add] at hs
  have e : 2 ^ (64 * (i / 8)) * ((f (n - 1 - i)).toNat * 2 ^ (i % 8 * 8)) = (f (n - 1 - i)).toNat * 256 ^ i := by
    rw [pow256, ei, Nat.pow_add, Nat.mul_left_comm]
  rw [e] at hs
  show _ = numOf _ (i + 1)
  simp only [numOf]
  unfold beN at ha
  omega
def ofN (f : Nat → UInt8) (n : Nat) : N4 := match decide (32 < n) with
  | true => ⟨0, 0, 0, 0⟩
  | false => N4.ofNat (beN f n n)
def ofE (n : Nat) : Int := match decide (32 < n) with
  | true => 2
  | false => 0
theorem ofN_end {a : N4} {f : Nat → UInt8} {n : Nat} (ha : a.val = beN f n n) : a = N4.ofNat (beN f n n) := N4.eq_ofNat ha
def bytesF (a : N4) : Nat → UInt8 := fun k => if k < 32 then UInt8.ofNat (dig a.val (31 - k)) else 0
theorem byte_out (a : N4) (i : Nat) (hi : i < 32) : (shr64 (a.get (i / 8)) (i % 8 * 8)).toUInt8 = UInt8.ofNat (dig a.val i) := by
  apply UInt8.toNat_inj.1
  have h := byte_val a i hi
  rw [and255, Nat.mul_comm] at h
  rw [UInt64.toNat_toUInt8, h, UInt8.toNat_ofNat', Nat.mod_eq_of_lt (dig_lt _ _)]
theorem bytes_step {f : Nat → UInt8} {a : N4} {i : Nat} (hi : i < 32) (h : ∀ k, f k = if k < 32 ∧ 32 ≤ k + i then UInt8.ofNat (dig a.val (31 - k)) else 0) :
    ∀ k, upd f (31 - i) (shr64 (a.get (i / 8)) (i % 8 * 8)).toUInt8 k = if k < 32 ∧ 32 ≤ k + (i + 1) then UInt8.ofNat (dig a.val (31 - k)) else 0 := fun k => by
  unfold upd
  by_cases hk : k = 31 - i
  · subst hk
    rw [if_pos rfl, if_pos (show 31 - i < 32 ∧ 32 ≤ 31 - i + (i + 1) by omega), byte_out a i hi, show 31 - (31 - i) = i by omega]
  · rw [if_neg hk, h k]
    by_cases h1 : k < 32 ∧ 32 ≤ k + i
    · rw [if_pos h1, if_pos (show k < 32 ∧ 32 ≤ k + (i + 1) by omega)]
    · rw [if_neg h1, if_neg (show ¬ (k < 32 ∧ 32 ≤ k + (i + 1)) by omega)]
theorem bytes_end {f : Nat → UInt8} {a : N4} {i : Nat} (hi : i = 32) (h : ∀ k, f k = if k < 32 ∧ 32 ≤ k + i then UInt8.ofNat (dig a.val (31 - k)) else 0) : f = bytesF a := by
  funext k
  rw [h k, bytesF]
  by_cases hk : k < 32
  · rw [if_pos hk, if_pos (show k < 32 ∧ 32 ≤ k + i by omega)]
  · rw [if_neg hk, if_neg (show ¬ (k < 32 ∧ 32 ≤ k + i) by omega)]
def sameS (f : Nat → UInt8) (n : Nat) (g : Nat → UInt8) (m : Nat) : Bool := decide (n = m ∧ ∀ k, k < n → f k = g k)
theorem same_len {f g : Nat → UInt8} {n m : Nat} (h : n ≠ m) : false = sameS f n g m := (decide_eq_false fun e => h e.1).symm
theorem same_not {f g : Nat → UInt8} {n m i : Nat} (hi : i < n) (h : f i ≠ g i) : false = sameS f n g m := (decide_eq_false fun e => h (e.2 i hi)).symm
theorem same_yes {f g : Nat → UInt8} {n m i : Nat} (hnm : n = m) (hi : i = n) (h : ∀ k, k < i → f k = g k) : true = sameS f n g m := (decide_eq_true ⟨hnm, fun k hk => h k (by omega)⟩).symm
theorem same_next {f g : Nat → UInt8} {i : Nat} (h : ∀ k, k < i → f k = g k) (he : (!(f i == g i)) = false) : ∀ k, k < i + 1 → f k = g k := fun k hk => by
  by_cases hki : k = i
  · subst hki; have := bnot_f he; exact beq_iff_eq.1 this
  · exact h k (by omega)
theorem same_ne {f g : Nat → UInt8} {i : Nat} (he : (!(f i == g i)) = true) : f i ≠ g i := fun e => by rw [e] at he; simp at he
section
variable {P : Program} {t t' : TypeId} {x y : Operand} (a b : UInt8)
theorem is_neq8 : IsOp P (.binOp .neq t x y t') [u8 a, u8 b] (.bool (!(a == b))) := isOp_bin guard_int (by
  show some (Value.bool (!((a.toNat : Int) == (b.toNat : Int)))) = _
  have : ((a.toNat : Int) == (b.toNat : Int)) = (a == b) := by
    rw [Bool.eq_iff_iff, beq_iff_eq, beq_iff_eq]
    constructor
    · intro h; exact UInt8.toNat_inj.1 (by omega)
    · intro h; rw [h]
  rw [this])
end
end Go.Eng
namespace Go.Eng
section bytesin
open Go.ChangeShapes Go.WideShapes Go.ChangeAt Go.RowKit Go.Deep
variable {H : Type} {enc : TypeId × Value → H} {P : Program}
theorem u8_of {n : Int} (h : (Lit.int .u8 n).wf = true) : ∃ x : UInt8, Value.int .u8 n = u8 x := by
  have hx : 0 ≤ n ∧ n ≤ 255 := by simpa [Lit.wf, IntKind.min, IntKind.max, IntKind.signed, IntKind.bits] using h
  refine ⟨.ofNat n.toNat, ?_⟩
  unfold u8
  rw [UInt8.toNat_ofNat', Nat.mod_eq_of_lt (by omega)]
  congr 1
  omega
theorem lt_of_cell {W : World} {a : Addr} {v : Value} (h : W.cell? a = some v) : a.block < W.heap.size := by
  by_cases hlt : a.block < W.heap.size
  · exact hlt
  · have : W.heap[a.block]? = none := by simp; omega
    simp [World.cell?, this] at h
end bytesin
end Go.Eng
end
section
namespace Go.Proofs.Ytnailbicmhkmbaa
open Go Go.Eng
theorem one5 : OneC Try.prog 5 (u8 0) 1 := oneC_of (by kernel_rfl) rfl
def bytes_runs_S1 (a : N4) (n1 : Nat) (n2 : Nat) (x1 : Nat × (Nat → UInt8)) : St := ⟨[(1, .v (ptr n1 0)), (3, .v (Value.slice (some ⟨n2, 0, none⟩) 32 32)), (6, .v (nat x1.1))], [(0, some ⟨n1, true, 0, (tab4 a)⟩), (1, some ⟨n2, true, 0, (tabF 32 (fun k => u8 (x1.2 k)))⟩)], 2⟩
def bytes_runs_R1 (a : N4) (n1 : Nat) (n2 : Nat) (x1 : Nat × (Nat → UInt8)) : Prop := (x1.1 ≤ 32) ∧ (∀ k, x1.2 k = if k < 32 ∧ 32 ≤ k + x1.1 then UInt8.ofNat (dig a.val (31 - k)) else 0)
def bytes_runs_mu1 (a : N4) (n1 : Nat) (n2 : Nat) (x1 : Nat × (Nat → UInt8)) : Nat := 32 - x1.1
theorem bytes_runs (a : N4) : Runs Try.prog 42 [(nat4 a)] [] 1 (fun (ns : List Nat) => (Value.slice (some ⟨(ns.getD 0 0), 0, none⟩) 32 32)) (fun (ns : List Nat) => [some ⟨(ns.getD 0 0), true, 0, (tabF 32 (fun k => u8 (bytesF a k)))⟩]) :=
  runs_of_ev mix Try.func42 rfl rfl 400 (.regn (rg [.new, .g]) (more (fun n1 => fun _ => (.regn (rg [(.oth [] 1 1 (fun ns => Value.slice (some ⟨ns.getD 0 0, 0, none⟩) 32 32) (fun ns => [some ⟨ns.getD 0 0, true, 0, (tabF 32 (fun k => u8 ((fun _ => 0) k)))⟩])), .g]) (more (fun n2 => fun _ => (.reg (rg [.g]) (.cast 0 (tab4 a) (.inv [1, 3, 6] [0, 1] 2 (bytes_runs_R1 a n1 n2) (bytes_runs_S1 a n1 n2) (bytes_runs_mu1 a n1 n2) ((0, (fun _ => 0)) : Nat × (Nat → UInt8)) (fun (x1 : Nat × (Nat → UInt8)) => (.reg (rg [(.as (Value.bool (decide (x1.1 < 32))))]) (.br (.reg (rg [.g, .g]) (.reg (rg [.g, .g, (.as (nat (31 - x1.1))), .g, (.as (nat (x1.1 / 8))), (.as (ptr n1 (0 + (x1.1 / 8) * 1))), (.ld 0 (.tab (x1.1 / 8) 0)), .g, (.as (nat (x1.1 % 8))), (.as (nat ((x1.1 % 8) * 8))), (.as (u64 (shr64 (a.get (x1.1 / 8)) ((x1.1 % 8) * 8)))), (.as (u8 ((shr64 (a.get (x1.1 / 8)) ((x1.1 % 8) * 8)).toUInt8))), (.as (ptr n2 (0 + (31 - x1.1) * 1))), (.stc 1 (.tab (31 - x1.1) 0) (tabF 32 (fun k => u8 (upd x1.2 (31 - x1.1) ((shr64 (a.get (x1.1 / 8)) ((x1.1 % 8) * 8)).toUInt8) k))))]) (.reg (rg [(.as (nat (x1.1 + 1))), .g]) .done))) (.reg (rg [.g, .g]) .done))))))))))))) [] [1] rfl
    (Eq.mp (by kernel_rfl) (fun (n1 : Nat) => aI kV2 (fun (n2 : Nat) => aI (aI (aT (mk_make (P := Try.prog) (t := 36) (e := 5) (by kernel_rfl) one5 32 (show (1 : Int) * ((32 : Nat) : Int) ≤ 281474976710656 ∧ 32 ≤ 9223372036854775807 from by omega))) kV1) (aI kV1 (aI (to_tab4 a) (aI (show (bytes_runs_R1 a n1 n2) ((0, (fun _ => 0)) : Nat × (Nat → UInt8)) from (show (0 ≤ 32) ∧ (∀ k, (fun _ => 0) k = if k < 32 ∧ 32 ≤ k + 0 then UInt8.ofNat (dig a.val (31 - k)) else 0) from by exact ⟨by omega, fun k => by rw [if_neg (by omega)]⟩)) (aI (@rfl St ((bytes_runs_S1 a n1 n2) ((0, (fun _ => 0)) : Nat × (Nat → UInt8)))) (fun (x1 : Nat × (Nat → UInt8)) (hx1 : (bytes_runs_R1 a n1 n2) x1) => have B0 : x1.1 ≤ 32 := hx1.1; have B1 : ∀ k, x1.2 k = if k < 32 ∧ 32 ≤ k + x1.1 then UInt8.ofNat (dig a.val (31 - k)) else 0 := hx1.2; aI (aI (aT (@is_lssn Try.prog 3 3 (.tmp 6) (.const (.int .i64 32))  x1.1 32)) tV) (aT (aI (fun (h1 : (decide (x1.1 < 32)) = true) => have f2 := (oT h1); aI kV2 (aI (sK2 (aI (aT (@is_subn Try.prog 3 3 (.const (.int .i64 31)) (.tmp 10)  31 x1.1 (show x1.1 ≤ 31 ∧ 31 - x1.1 ≤ 9223372036854775807 from by omega))) (sk (aI (aT (@is_quon Try.prog 3 3 (.tmp 12) (.const (.int .i64 8))  x1.1 8 (show 0 < 8 ∧ x1.1 ≤ 9223372036854775807 from by omega))) (aI (aT (@is_ixArr Try.prog 73 47 (.tmp 1) (.tmp 13) 1 4 (by kernel_rfl) (by kernel_rfl) n1 0 (x1.1 / 8) (show x1.1 / 8 < 4 from by omega))) (aI (aT (aI (show x1.1 / 8 < 4 from by omega) (@rfl Value (ptr n1 (0 + (x1.1 / 8) * 1))))) (sk (aI (aT (@is_remn Try.prog 3 3 (.tmp 16) (.const (.int .i64 8))  x1.1 8 (show 0 < 8 from by omega))) (aI (aT (@is_muln Try.prog 3 3 (.tmp 17) (.const (.int .i64 8))  (x1.1 % 8) 8 (show (x1.1 % 8) * 8 ≤ 9223372036854775807 from by omega))) (aI (aT (@is_shr64 Try.prog 47 3 (.tmp 15) (.tmp 18) (a.get (x1.1 / 8)) .i64 ((x1.1 % 8) * 8))) (aI (aT (@conv_u64_u8 Try.prog 47 5 (.tmp 19) (by kernel_rfl) (by kernel_rfl) (shr64 (a.get (x1.1 / 8)) ((x1.1 % 8) * 8)))) (aI (aT (@is_ixSl Try.prog 36 5 (.tmp 9) (.tmp 11) 1 (by kernel_rfl) (by kernel_rfl) n2 0 32 32 (31 - x1.1) (show 31 - x1.1 < 32 from by omega))) (aI (aT (aI (show 31 - x1.1 < 32 from by omega) (aI (@rfl Value (ptr n2 (0 + (31 - x1.1) * 1))) (store_tabF 32 u8 x1.2 (31 - x1.1) ((shr64 (a.get (x1.1 / 8)) ((x1.1 % 8) * 8)).toUInt8))))) tV))))))))))))) (aI (aI (aT (@is_addn Try.prog 3 3 (.tmp 6) (.const (.int .i64 1))  x1.1 1 (show x1.1 + 1 ≤ 9223372036854775807 from by omega))) kV1) ((rnd (bytes_runs_R1 a n1 n2) (bytes_runs_S1 a n1 n2) (bytes_runs_mu1 a n1 n2) x1 ((x1.1 + 1, upd x1.2 (31 - x1.1) ((shr64 (a.get (x1.1 / 8)) ((x1.1 % 8) * 8)).toUInt8)) : Nat × (Nat → UInt8)) (show (bytes_runs_R1 a n1 n2) ((x1.1 + 1, upd x1.2 (31 - x1.1) ((shr64 (a.get (x1.1 / 8)) ((x1.1 % 8) * 8)).toUInt8)) : Nat × (Nat → UInt8)) ∧ (bytes_runs_mu1 a n1 n2) ((x1.1 + 1, upd x1.2 (31 - x1.1) ((shr64 (a.get (x1.1 / 8)) ((x1.1 % 8) * 8)).toUInt8)) : Nat × (Nat → UInt8)) < (bytes_runs_mu1 a n1 n2) x1 from (show (((x1.1 + 1) ≤ 32) ∧ (∀ k, (upd x1.2 (31 - x1.1) ((shr64 (a.get (x1.1 / 8)) ((x1.1 % 8) * 8)).toUInt8)) k = if k < 32 ∧ 32 ≤ k + (x1.1 + 1) then UInt8.ofNat (dig a.val (31 - k)) else 0)) ∧ (32 - (x1.1 + 1)) < (32 - x1.1) from by exact ⟨⟨by omega, bytes_step (by omega) B1⟩, by omega⟩))))))) (fun (h1 : (decide (x1.1 < 32)) = false) => have f2 := (oF h1); aI kV2 (aT (eX (fun (ns : List Nat) => ns.length = 1 ∧ ((Value.slice (some ⟨n2, 0, none⟩) 32 32) : Value) = (fun (ns : List Nat) => (Value.slice (some ⟨(ns.getD 0 0), 0, none⟩) 32 32)) ns ∧ ([some ⟨n2, true, 0, (tabF 32 (fun k => u8 (x1.2 k)))⟩] : List (Option Blk)) = (fun (ns : List Nat) => [some ⟨(ns.getD 0 0), true, 0, (tabF 32 (fun k => u8 (bytesF a k)))⟩]) ns) [n2] (aI (@rfl Nat 1) (aI (@rfl Value (Value.slice (some ⟨n2, 0, none⟩) 32 32)) ((show ([some ⟨n2, true, 0, (tabF 32 (fun k => u8 (x1.2 k)))⟩] : List (Option Blk)) = [some ⟨n2, true, 0, (tabF 32 (fun k => u8 (bytesF a k)))⟩] from by have e : x1.2 = bytesF a := bytes_end (by omega) B1; rw [e] <;> rfl)))))))))))))))))
def of_runs_S1 (b : Nat) (o : Nat) (n : Nat) (c : Nat) (f : Nat → UInt8) (n1 : Nat) (n2 : Nat) (x1 : Nat × N4) : St := ⟨[(0, .v (Value.slice (some ⟨b, o, none⟩) n c)), (2, .v (ptr n1 0)), (4, .v (ptr n2 0)), (11, .v (nat n)), (12, .v (nat x1.1))], [(0, some ⟨b, false, o, (tabF n (fun k => u8 (f k)))⟩), (1, some ⟨n1, true, 0, (.lit [(u64 0), (u64 0), (u64 0), (u64 0)])⟩), (2, some ⟨n2, true, 0, (tab4 x1.2)⟩)], 3⟩
def of_runs_R1 (b : Nat) (o : Nat) (n : Nat) (c : Nat) (f : Nat → UInt8) (n1 : Nat) (n2 : Nat) (x1 : Nat × N4) : Prop := (x1.1 ≤ n) ∧ ((x1.2).val = beN f n x1.1)
def of_runs_mu1 (b : Nat) (o : Nat) (n : Nat) (c : Nat) (f : Nat → UInt8) (n1 : Nat) (n2 : Nat) (x1 : Nat × N4) : Nat := n - x1.1
theorem of_runs (b o n c : Nat) (f : Nat → UInt8) (hn : n ≤ 9223372036854775807) : Runs Try.prog 49 [(Value.slice (some ⟨b, o, none⟩) n c)] [⟨b, false, o, (tabF n (fun k => u8 (f k)))⟩] 0 (fun _ => Value.tuple #[nat4 (ofN f n), int (ofE n)]) (fun _ => [some ⟨b, false, o, (tabF n (fun k => u8 (f k)))⟩]) :=
  runs_of_ev mix Try.func49 rfl rfl 400 (.regn (rg [.new, .g]) (more (fun n1 => fun _ => (.reg (rg [.g, (.as (nat n)), (.as (Value.bool (decide (32 < n))))]) (.br (.reg (rg [.g, (.st 1 (.lit 0)), .g]) .done) (.regn (rg [.new]) (more (fun n2 => fun _ => (.reg (rg [.g, (.as (nat n)), .g]) (.cast 2 (tab4 (N4.mk 0 0 0 0)) (.inv [0, 2, 4, 11, 12] [0, 1, 2] 3 (of_runs_R1 b o n c f n1 n2) (of_runs_S1 b o n c f n1 n2) (of_runs_mu1 b o n c f n1 n2) ((0, (N4.mk 0 0 0 0)) : Nat × N4) (fun (x1 : Nat × N4) => (.reg (rg [(.as (Value.bool (decide (x1.1 < n))))]) (.br (.reg (rg [.g, .g]) (.reg (rg [.g, (.as (nat (x1.1 / 8))), (.as (ptr n2 (0 + (x1.1 / 8) * 1))), (.ld 2 (.tab (x1.1 / 8) 0)), .g, .g, (.as (nat n)), (.as (nat (n - 1))), .g, (.as (nat ((n - 1) - x1.1))), (.as (ptr b (o + ((n - 1) - x1.1) * 1))), (.ld 0 (.tab ((n - 1) - x1.1) 0)), (.as (u64 ((f ((n - 1) - x1.1)).toUInt64))), .g, (.as (nat (x1.1 % 8))), (.as (nat ((x1.1 % 8) * 8))), (.as (u64 (shl64 ((f ((n - 1) - x1.1)).toUInt64) ((x1.1 % 8) * 8)))), (.as (u64 ((x1.2.get (x1.1 / 8)) ||| (shl64 ((f ((n - 1) - x1.1)).toUInt64) ((x1.1 % 8) * 8))))), (.as (ptr n2 (0 + (x1.1 / 8) * 1))), (.stc 2 (.tab (x1.1 / 8) 0) (tab4 (x1.2.set (x1.1 / 8) ((x1.2.get (x1.1 / 8)) ||| (shl64 ((f ((n - 1) - x1.1)).toUInt64) ((x1.1 % 8) * 8))))))]) (.reg (rg [(.as (nat (x1.1 + 1))), .g]) .done))) (.cast 2 (lit4 x1.2) (.reg (rg [(.ld 2 (.lit 0)), (.st 1 (.lit 0)), .g]) .done)))))))))))))))) [(1, 0)] [] rfl
    (Eq.mp (by kernel_rfl) (fun (n1 : Nat) => aI kV2 (aI (sk (aI (aT (@is_len Try.prog 36 5 (.tmp 6) (by kernel_rfl) (some ⟨b, o, none⟩) n c)) (aI (aT (@is_gtrn Try.prog 3 3 (.tmp 7) (.const (.int .i64 32))  n 32)) tV))) (aT (aI (fun (h1 : (decide (32 < n)) = true) => have f1 := (oT h1); aI (sk (aI (aT (ad n1 0)) kV1)) (aI (aI (@rfl Value (ptr n1 0)) tV) (eX (fun (ns : List Nat) => ns.length = 0 ∧ ((Value.tuple #[(Value.agg #[(u64 0), (u64 0), (u64 0), (u64 0)]), (int 2)]) : Value) = (fun _ => Value.tuple #[nat4 (ofN f n), int (ofE n)]) ns ∧ ([some ⟨b, false, o, (tabF n (fun k => u8 (f k)))⟩] : List (Option Blk)) = (fun _ => [some ⟨b, false, o, (tabF n (fun k => u8 (f k)))⟩]) ns) [] (aI (@rfl Nat 0) (aI ((show (Value.tuple #[(Value.agg #[(u64 0), (u64 0), (u64 0), (u64 0)]), (int 2)]) = Value.tuple #[nat4 (ofN f n), int (ofE n)] from by rw [ofN, ofE, h1] <;> rfl)) (@rfl (List (Option Blk)) [some ⟨b, false, o, (tabF n (fun k => u8 (f k)))⟩])))))) (fun (h1 : (decide (32 < n)) = false) => have f1 := (oF h1); fun (n2 : Nat) => aI kV1 (aI (sk (aI (aT (@is_len Try.prog 36 5 (.tmp 10) (by kernel_rfl) (some ⟨b, o, none⟩) n c)) kV1)) (aI (to_tab4 (N4.mk 0 0 0 0)) (aI (show (of_runs_R1 b o n c f n1 n2) ((0, (N4.mk 0 0 0 0)) : Nat × N4) from (show (0 ≤ n) ∧ (((N4.mk 0 0 0 0)).val = beN f n 0) from by exact ⟨by omega, rfl⟩)) (aI (@rfl St ((of_runs_S1 b o n c f n1 n2) ((0, (N4.mk 0 0 0 0)) : Nat × N4))) (fun (x1 : Nat × N4) (hx1 : (of_runs_R1 b o n c f n1 n2) x1) => have B0 : x1.1 ≤ n := hx1.1; have B1 : (x1.2).val = beN f n x1.1 := hx1.2; aI (aI (aT (@is_lssn Try.prog 3 3 (.tmp 12) (.tmp 11)  x1.1 n)) tV) (aT (aI (fun (h2 : (decide (x1.1 < n)) = true) => have f4 := (oT h2); aI kV2 (aI (sk (aI (aT (@is_quon Try.prog 3 3 (.tmp 15) (.const (.int .i64 8))  x1.1 8 (show 0 < 8 ∧ x1.1 ≤ 9223372036854775807 from by omega))) (aI (aT (@is_ixArr Try.prog 73 47 (.tmp 4) (.tmp 16) 1 4 (by kernel_rfl) (by kernel_rfl) n2 0 (x1.1 / 8) (show x1.1 / 8 < 4 from by omega))) (aI (aT (aI (show x1.1 / 8 < 4 from by omega) (@rfl Value (ptr n2 (0 + (x1.1 / 8) * 1))))) (sK2 (aI (aT (@is_len Try.prog 36 5 (.tmp 20) (by kernel_rfl) (some ⟨b, o, none⟩) n c)) (aI (aT (@is_subn Try.prog 3 3 (.tmp 21) (.const (.int .i64 1))  n 1 (show 1 ≤ n ∧ n - 1 ≤ 9223372036854775807 from by omega))) (sk (aI (aT (@is_subn Try.prog 3 3 (.tmp 22) (.tmp 23)  (n - 1) x1.1 (show x1.1 ≤ (n - 1) ∧ (n - 1) - x1.1 ≤ 9223372036854775807 from by omega))) (aI (aT (@is_ixSl Try.prog 36 5 (.tmp 19) (.tmp 24) 1 (by kernel_rfl) (by kernel_rfl) b o n c ((n - 1) - x1.1) (show (n - 1) - x1.1 < n from by omega))) (aI (aT (aI (show (n - 1) - x1.1 < n from by omega) (@rfl Value (ptr b (o + ((n - 1) - x1.1) * 1))))) (aI (aT (@conv_u8_u64 Try.prog 5 47 (.tmp 26) (by kernel_rfl) (by kernel_rfl) (f ((n - 1) - x1.1)))) (sk (aI (aT (@is_remn Try.prog 3 3 (.tmp 28) (.const (.int .i64 8))  x1.1 8 (show 0 < 8 from by omega))) (aI (aT (@is_muln Try.prog 3 3 (.tmp 29) (.const (.int .i64 8))  (x1.1 % 8) 8 (show (x1.1 % 8) * 8 ≤ 9223372036854775807 from by omega))) (aI (aT (@is_shl64 Try.prog 47 3 (.tmp 27) (.tmp 30) ((f ((n - 1) - x1.1)).toUInt64) .i64 ((x1.1 % 8) * 8))) (aI (aT (@is_or64 Try.prog 47 47 (.tmp 18) (.tmp 31) (x1.2.get (x1.1 / 8)) (shl64 ((f ((n - 1) - x1.1)).toUInt64) ((x1.1 % 8) * 8)))) (aI (aT (@is_ixArr Try.prog 73 47 (.tmp 4) (.tmp 16) 1 4 (by kernel_rfl) (by kernel_rfl) n2 0 (x1.1 / 8) (show x1.1 / 8 < 4 from by omega))) (aI (aT (aI (show x1.1 / 8 < 4 from by omega) (aI (@rfl Value (ptr n2 (0 + (x1.1 / 8) * 1))) (store_tab4 x1.2 (x1.1 / 8) ((x1.2.get (x1.1 / 8)) ||| (shl64 ((f ((n - 1) - x1.1)).toUInt64) ((x1.1 % 8) * 8))) (show x1.1 / 8 < 4 from by omega))))) tV))))))))))))))))))) (aI (aI (aT (@is_addn Try.prog 3 3 (.tmp 12) (.const (.int .i64 1))  x1.1 1 (show x1.1 + 1 ≤ 9223372036854775807 from by omega))) kV1) ((rnd (of_runs_R1 b o n c f n1 n2) (of_runs_S1 b o n c f n1 n2) (of_runs_mu1 b o n c f n1 n2) x1 ((x1.1 + 1, x1.2.set (x1.1 / 8) ((x1.2.get (x1.1 / 8)) ||| (shl64 ((f ((n - 1) - x1.1)).toUInt64) ((x1.1 % 8) * 8)))) : Nat × N4) (show (of_runs_R1 b o n c f n1 n2) ((x1.1 + 1, x1.2.set (x1.1 / 8) ((x1.2.get (x1.1 / 8)) ||| (shl64 ((f ((n - 1) - x1.1)).toUInt64) ((x1.1 % 8) * 8)))) : Nat × N4) ∧ (of_runs_mu1 b o n c f n1 n2) ((x1.1 + 1, x1.2.set (x1.1 / 8) ((x1.2.get (x1.1 / 8)) ||| (shl64 ((f ((n - 1) - x1.1)).toUInt64) ((x1.1 % 8) * 8)))) : Nat × N4) < (of_runs_mu1 b o n c f n1 n2) x1 from (show (((x1.1 + 1) ≤ n) ∧ (((x1.2.set (x1.1 / 8) ((x1.2.get (x1.1 / 8)) ||| (shl64 ((f ((n - 1) - x1.1)).toUInt64) ((x1.1 % 8) * 8))))).val = beN f n (x1.1 + 1))) ∧ (n - (x1.1 + 1)) < (n - x1.1) from by exact ⟨⟨by omega, of_step x1.2 f n x1.1 (by omega) B1⟩, by omega⟩))))))) (fun (h2 : (decide (x1.1 < n)) = false) => have f4 := (oF h2); aI (to_lit4 x1.2) (aI (aI (aT (ad n2 0)) (aI (aT (ad n1 0)) kV1)) (aI (aI (@rfl Value (ptr n1 0)) tV) (eX (fun (ns : List Nat) => ns.length = 0 ∧ ((Value.tuple #[(nat4 x1.2), (int 0)]) : Value) = (fun _ => Value.tuple #[nat4 (ofN f n), int (ofE n)]) ns ∧ ([some ⟨b, false, o, (tabF n (fun k => u8 (f k)))⟩] : List (Option Blk)) = (fun _ => [some ⟨b, false, o, (tabF n (fun k => u8 (f k)))⟩]) ns) [] (aI (@rfl Nat 0) (aI ((show (Value.tuple #[(nat4 x1.2), (int 0)]) = Value.tuple #[nat4 (ofN f n), int (ofE n)] from by have e : x1.1 = n := (by omega); rw [e] at B1; rw [ofN, ofE, h1]; simp only []; rw [← ofN_end B1] <;> rfl)) (@rfl (List (Option Blk)) [some ⟨b, false, o, (tabF n (fun k => u8 (f k)))⟩]))))))))))))))))))))
theorem of_nil (ao : Option Addr) (c : Nat) : Pure Try.prog 49 [(Value.slice ao 0 c)] (Value.tuple #[nat4 ⟨0, 0, 0, 0⟩, int 0]) :=
  pure_of_ev mix Try.func49 rfl rfl 400 (.regn (rg [.new, .g]) (more (fun n1 => fun _ => (.reg (rg [.g, (.as (int 0)), .g]) (.no (.regn (rg [.new]) (more (fun n2 => fun _ => (.reg (rg [.g, (.as (int 0)), .g]) (.unroll (.reg (rg [.g]) (.no (.reg (rg [(.ld 1 (.lit 0)), (.st 0 (.lit 0)), .g]) .done))))))))))))) [(0, 0)]
    (Eq.mp (by kernel_rfl) (fun (n1 : Nat) => aI kV2 (aI (sk (aI (aT (@is_len Try.prog 36 5 (.tmp 6) (by kernel_rfl) ao 0 c)) kV1)) (aT (aI (@rfl Bool false) (fun (n2 : Nat) => aI kV1 (aI (sk (aI (aT (@is_len Try.prog 36 5 (.tmp 10) (by kernel_rfl) ao 0 c)) kV1)) (aI kV1 (aT (aI (@rfl Bool false) (aI (aI (aT (ad n2 0)) (aI (aT (ad n1 0)) kV1)) (aI (aI (@rfl Value (ptr n1 0)) tV) ((show (Value.tuple #[(Value.agg #[(u64 0), (u64 0), (u64 0), (u64 0)]), (int 0)]) = Value.tuple #[nat4 ⟨0, 0, 0, 0⟩, int 0] from by kernel_rfl))))))))))))))
end Go.Proofs.Ytnailbicmhkmbaa
end
section
namespace Go.Eng
section
open Go.ChangeShapes Go.WideShapes Go.ChangeAt Go.RowKit Go.Deep
variable {H : Type} {enc : TypeId × Value → H} {P : Program}
theorem open_sliceE {α : Type} [Inhabited α] (K : α → List Value) {sz : Nat} (hK : ∀ a, (K a).length = sz) (hs0 : 0 < sz) {r : Reach} {b0 : Nat} {W : World} {base : Nat} {sp : Nat → Bool} {held : Bool} {t e : TypeId} {v : Value} {d : DataW H} {ps : List MemPlace} (ht : P.underlying t = some (.slice e))
    (hc : P.cellsOf e = sz) (hel : ∀ n cs x, cs.length = sz → DataW.trod enc P W base sp held n e cs = some x → ∃ a, cs = K a) (hval : Value.okWide P W r b0 t v) (hd : DataW.Trod enc P W base sp held t v d ps) :
    (∃ ao c, v = .slice ao 0 c) ∨ ∃ (b o n c : Nat) (f : Nat → α), v = .slice (some ⟨b, o, none⟩) n c ∧ 0 < n ∧ n ≤ 9223372036854775807 ∧ Holds ⟨b, false, o, .tab n sz fun k => K (f k)⟩ W := by
  obtain ⟨a1, len, cap, rfl⟩ := okWide_slice ht hval
  obtain ⟨fuel, hf⟩ := hd
  by_cases h0 : len = 0
  · subst h0; exact .inl ⟨_, _, rfl⟩
  rcases open_slice ht hf with ⟨hcs, _⟩ | ⟨a, len', cap', m, n, D, Pl, hcs, _, hl, hm, hmm, _, hx⟩
  · simp [Value.cells] at hcs
    exact absurd hcs.2.1 h0
  · simp [Value.cells] at hcs
    obtain ⟨rfl, rfl, rfl⟩ := hcs
    rw [hc] at hx
    have hlm : len ≤ m := by rw [hmm]; split <;> omega
    have hV : ∀ i, i < len → ∃ x : α, ∀ j, j < sz → W.cell? ((a.add (i * sz)).add j) = (K x)[j]? := fun i hi => by
      obtain ⟨cs', h1, h2⟩ := hx i (by omega)
      obtain ⟨_, hlen, hcell⟩ := World.cells?_some h1
      obtain ⟨x, hx⟩ := hel _ _ _ hlen h2
      subst hx
      exact ⟨x, hcell⟩
    obtain ⟨f, hfV⟩ := choose_lt (α := α) (p := fun i x => ∀ j, j < sz → W.cell? ((a.add (i * sz)).add j) = (K x)[j]?) hV
    have hfirst : ∃ u, W.cell? a = some u := by
      have := hfV 0 (by omega) 0 hs0
      rw [show (a.add (0 * sz)).add 0 = a from by cases a; simp [Addr.add]] at this
      rw [this, List.getElem?_eq_getElem (by rw [hK]; exact hs0)]
      exact ⟨_, rfl⟩
    obtain ⟨u0, hu0⟩ := hfirst
    have hspot : a.spot = none := World.cell?_spot hu0
    obtain ⟨ab, ao, spot⟩ := a
    simp only at hspot
    subst hspot
    refine .inr ⟨ab, ao, len, cap, f, rfl, by omega, by unfold maxLen at hm; omega, ⟨lt_of_cell hu0, fun o v ho => ?_, (fun h => by cases h), obj_not rfl⟩⟩
    by_cases hol : o < len * sz
    · simp only [Cont.get, if_pos hol] at ho
      have := hfV (o / sz) (div_lt_row hol) (o % sz) (Nat.mod_lt _ hs0)
      rw [add_none, add_none, Nat.add_assoc, show o / sz * sz + o % sz = o by rw [Nat.mul_comm]; exact Nat.div_add_mod o sz] at this
      rw [this]; exact ho
    · rw [tabE_out hol] at ho; cases ho
instance : Inhabited N4 := ⟨⟨0, 0, 0, 0⟩⟩
end
end Go.Eng
end
section
namespace Go.Eng
end Go.Eng
end
section
namespace Go.Eng
section
variable {P : Program} {t e : TypeId} {x y : Operand}
theorem is_slTo {sz : Nat} (ht : P.underlying t = some (.slice e)) (hs : sizeB P e = some sz) (n o len cap i : Nat) (hi : i ≤ cap) : IsOp P (.slice t x none (some y) none) [.slice (some ⟨n, o, none⟩) len cap, nat i] (.slice (some ⟨n, o, none⟩) i cap) := by
  intro ρ o' ho hv
  rw [ho] at hv
  have hv' : [ρ x, ρ y] = [Value.slice (some ⟨n, o, none⟩) len cap, nat i] := hv
  injection hv' with h1 hv'
  injection hv' with h2 _
  unfold execOp
  rw [ho]
  simp only [Option.map]
  show pureRun P (Sem.bind (Instr.sliceAt t (ρ x) none (some (ρ y)) none) fun v => Sem.pure (Next.value v)) = _
  rw [pureRun_bind, h1, h2]
  have hi' : 0 ≤ (i : Int) ∧ (i : Int) ≤ (cap : Int) := by omega
  have e : pureRun P (Instr.sliceAt t (.slice (some ⟨n, o, none⟩) len cap) none (some (nat i)) none) = some (.slice (some ⟨n, o, none⟩) i cap) := by
    simp only [Instr.sliceAt, Instr.slice, Instr.sliceBounds, Instr.sliceBound, nat, pureRun_bind', asIntOf, pureRun, pure, pureRun_underlying ht, hi', and_self, if_true, pureRun_sizeOf hs, Int.toNat_natCast]
    simp [add_none]
  rw [e]
  rfl
end
end Go.Eng
end
section
namespace Go.Eng
open Go.RowKit
end Go.Eng
end
