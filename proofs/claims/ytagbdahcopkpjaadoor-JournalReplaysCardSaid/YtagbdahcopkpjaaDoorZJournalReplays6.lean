/-
  Many in one: LimbByt, EngT, EngU, EngV, EngZ.
-/
import Derived.Test.YtagbdahcopkpjaaDoorZJournalReplays5
import Derived.Deep.Slices
section
namespace Go.Eng
def sameS (f : Nat → UInt8) (n : Nat) (g : Nat → UInt8) (m : Nat) : Bool := decide (n = m ∧ ∀ k, k < n → f k = g k)
theorem same_len {f g : Nat → UInt8} {n m : Nat} (h : n ≠ m) : false = sameS f n g m := (decide_eq_false fun e => h e.1).symm
theorem same_not {f g : Nat → UInt8} {n m i : Nat} (hi : i < n) (h : f i ≠ g i) : false = sameS f n g m := (decide_eq_false fun e => h (e.2 i hi)).symm
theorem same_yes {f g : Nat → UInt8} {n m i : Nat} (hnm : n = m) (hi : i = n) (h : ∀ k, k < i → f k = g k) : true = sameS f n g m := (decide_eq_true ⟨hnm, fun k hk => h k (by omega)⟩).symm
theorem same_next {f g : Nat → UInt8} {i : Nat} (h : ∀ k, k < i → f k = g k) (he : (!(f i == g i)) = false) : ∀ k, k < i + 1 → f k = g k := fun k hk => by
  by_cases hki : k = i
  · subst hki; have := bnot_f he; exact beq_iff_eq.1 this
  · exact h k (by omega)
theorem same_ne {f g : Nat → UInt8} {i : Nat} (he : (!(f i == g i)) = true) : f i ≠ g i := fun e => by rw [e] at he; simp at he
section
variable {P : Program} {t t' : TypeId} {x y : Operand} (a b : UInt8)
theorem is_neq8 : IsOp P (.binOp .neq t x y t') [u8 a, u8 b] (.bool (!(a == b))) := isOp_bin guard_int (by
  show some (Value.bool (!((a.toNat : Int) == (b.toNat : Int)))) = _
  have : ((a.toNat : Int) == (b.toNat : Int)) = (a == b) := by
    rw [Bool.eq_iff_iff, beq_iff_eq, beq_iff_eq]
    constructor
    · intro h; exact UInt8.toNat_inj.1 (by omega)
    · intro h; rw [h]
  rw [this])
end
end Go.Eng
namespace Go.Eng
section bytesin
open Go.ChangeShapes Go.WideShapes Go.ChangeAt Go.RowKit Go.Deep
variable {H : Type} {enc : TypeId × Value → H} {P : Program}
theorem u8_of {n : Int} (h : (Lit.int .u8 n).wf = true) : ∃ x : UInt8, Value.int .u8 n = u8 x := by
  have hx : 0 ≤ n ∧ n ≤ 255 := by simpa [Lit.wf, IntKind.min, IntKind.max, IntKind.signed, IntKind.bits] using h
  refine ⟨.ofNat n.toNat, ?_⟩
  unfold u8
  rw [UInt8.toNat_ofNat', Nat.mod_eq_of_lt (by omega)]
  congr 1
  omega
theorem lt_of_cell {W : World} {a : Addr} {v : Value} (h : W.cell? a = some v) : a.block < W.heap.size := by
  by_cases hlt : a.block < W.heap.size
  · exact hlt
  · have : W.heap[a.block]? = none := by simp; omega
    simp [World.cell?, this] at h
end bytesin
end Go.Eng
end
section
namespace Go.Eng
section
open Go.ChangeShapes Go.WideShapes Go.ChangeAt Go.RowKit Go.Deep
variable {H : Type} {enc : TypeId × Value → H} {P : Program}
instance : Inhabited N4 := ⟨⟨0, 0, 0, 0⟩⟩
end
end Go.Eng
end
section
namespace Go.Eng
end Go.Eng
end
section
namespace Go.Eng
section
variable {P : Program} {t e : TypeId} {x y : Operand}
theorem is_slTo {sz : Nat} (ht : P.underlying t = some (.slice e)) (hs : sizeB P e = some sz) (n o len cap i : Nat) (hi : i ≤ cap) : IsOp P (.slice t x none (some y) none) [.slice (some ⟨n, o, none⟩) len cap, nat i] (.slice (some ⟨n, o, none⟩) i cap) := by
  intro ρ o' ho hv
  rw [ho] at hv
  have hv' : [ρ x, ρ y] = [Value.slice (some ⟨n, o, none⟩) len cap, nat i] := hv
  injection hv' with h1 hv'
  injection hv' with h2 _
  unfold execOp
  rw [ho]
  simp only [Option.map]
  show pureRun P (Sem.bind (Instr.sliceAt t (ρ x) none (some (ρ y)) none) fun v => Sem.pure (Next.value v)) = _
  rw [pureRun_bind, h1, h2]
  have hi' : 0 ≤ (i : Int) ∧ (i : Int) ≤ (cap : Int) := by omega
  have e : pureRun P (Instr.sliceAt t (.slice (some ⟨n, o, none⟩) len cap) none (some (nat i)) none) = some (.slice (some ⟨n, o, none⟩) i cap) := by
    simp only [Instr.sliceAt, Instr.slice, Instr.sliceBounds, Instr.sliceBound, nat, pureRun_bind', asIntOf, pureRun, pure, pureRun_underlying ht, hi', and_self, if_true, pureRun_sizeOf hs, Int.toNat_natCast]
    simp [add_none]
  rw [e]
  rfl
end
end Go.Eng
end
section
namespace Go.Eng
open Go.RowKit
end Go.Eng
end
