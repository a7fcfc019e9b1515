/-
  Many in one: LimbByt, EngT, EngU, EngV, EngZ.
-/
import Derived.Test.YtagbdahcopkpjaaDoorZJournalWrites5
import Derived.Deep.Slices
section
namespace Go.Eng
def sameS (f : Nat → UInt8) (n : Nat) (g : Nat → UInt8) (m : Nat) : Bool := decide (n = m ∧ ∀ k, k < n → f k = g k)
theorem same_len {f g : Nat → UInt8} {n m : Nat} (h : n ≠ m) : false = sameS f n g m := (decide_eq_false fun e => h e.1).symm
theorem same_not {f g : Nat → UInt8} {n m i : Nat} (hi : i < n) (h : f i ≠ g i) : false = sameS f n g m := (decide_eq_false fun e => h (e.2 i hi)).symm
theorem same_yes {f g : Nat → UInt8} {n m i : Nat} (hnm : n = m) (hi : i = n) (h : ∀ k, k < i → f k = g k) : true = sameS f n g m := (decide_eq_true ⟨hnm, fun k hk => h k (by omega)⟩).symm
theorem same_next {f g : Nat → UInt8} {i : Nat} (h : ∀ k, k < i → f k = g k) (he : (!(f i == g i)) = false) : ∀ k, k < i + 1 → f k = g k := fun k hk => by
  by_cases hki : k = i
  · subst hki; have := bnot_f he; exact beq_iff_eq.1 this
  · exact h k (by omega)
theorem same_ne {f g : Nat → UInt8} {i : Nat} (he : (!(f i == g i)) = true) : f i ≠ g i := fun e => by rw [e] at he; simp at he
section
variable {P : Program} {t t' : TypeId} {x y : Operand} (a b : UInt8)
theorem is_neq8 : IsOp P (.binOp .neq t x y t') [u8 a, u8 b] (.bool (!(a == b))) := isOp_bin guard_int (by
  show some (Value.bool (!((a.toNat : Int) == (b.toNat : Int)))) = _
  have : ((a.toNat : Int) == (b.toNat : Int)) = (a == b) := by
    rw [Bool.eq_iff_iff, beq_iff_eq, beq_iff_eq]
    constructor
    · intro h; exact UInt8.toNat_inj.1 (by omega)
    · intro h; rw [h]
  rw [this])
end
end Go.Eng
namespace Go.Eng
section bytesin
open Go.ChangeShapes Go.WideShapes Go.ChangeAt Go.RowKit Go.Deep
variable {H : Type} {enc : TypeId × Value → H} {P : Program}
theorem u8_of {n : Int} (h : (Lit.int .u8 n).wf = true) : ∃ x : UInt8, Value.int .u8 n = u8 x := by
  have hx : 0 ≤ n ∧ n ≤ 255 := by simpa [Lit.wf, IntKind.min, IntKind.max, IntKind.signed, IntKind.bits] using h
  refine ⟨.ofNat n.toNat, ?_⟩
  unfold u8
  rw [UInt8.toNat_ofNat', Nat.mod_eq_of_lt (by omega)]
  congr 1
  omega
theorem lt_of_cell {W : World} {a : Addr} {v : Value} (h : W.cell? a = some v) : a.block < W.heap.size := by
  by_cases hlt : a.block < W.heap.size
  · exact hlt
  · have : W.heap[a.block]? = none := by simp; omega
    simp [World.cell?, this] at h
end bytesin
end Go.Eng
end
section
namespace Go.Eng
section
open Go.ChangeShapes Go.WideShapes Go.ChangeAt Go.RowKit Go.Deep
variable {H : Type} {enc : TypeId × Value → H} {P : Program}
theorem open_sliceE {α : Type} [Inhabited α] (K : α → List Value) {sz : Nat} (hK : ∀ a, (K a).length = sz) (hs0 : 0 < sz) {r : Reach} {b0 : Nat} {W : World} {base : Nat} {sp : Nat → Bool} {held : Bool} {t e : TypeId} {v : Value} {d : DataW H} {ps : List MemPlace} (ht : P.underlying t = some (.slice e))
    (hc : P.cellsOf e = sz) (hel : ∀ n cs x, cs.length = sz → DataW.trod enc P W base sp held n e cs = some x → ∃ a, cs = K a) (hval : Value.okWide P W r b0 t v) (hd : DataW.Trod enc P W base sp held t v d ps) :
    (∃ ao c, v = .slice ao 0 c) ∨ ∃ (b o n c : Nat) (f : Nat → α), v = .slice (some ⟨b, o, none⟩) n c ∧ 0 < n ∧ n ≤ 9223372036854775807 ∧ Holds ⟨b, false, o, .tab n sz fun k => K (f k)⟩ W := by
  obtain ⟨a1, len, cap, rfl⟩ := okWide_slice ht hval
  obtain ⟨fuel, hf⟩ := hd
  by_cases h0 : len = 0
  · subst h0; exact .inl ⟨_, _, rfl⟩
  rcases open_slice ht hf with ⟨hcs, _⟩ | ⟨a, len', cap', m, n, D, Pl, hcs, _, hl, hm, hmm, _, hx⟩
  · simp [Value.cells] at hcs
    exact absurd hcs.2.1 h0
  · simp [Value.cells] at hcs
    obtain ⟨rfl, rfl, rfl⟩ := hcs
    rw [hc] at hx
    have hlm : len ≤ m := by rw [hmm]; split <;> omega
    have hV : ∀ i, i < len → ∃ x : α, ∀ j, j < sz → W.cell? ((a.add (i * sz)).add j) = (K x)[j]? := fun i hi => by
      obtain ⟨cs', h1, h2⟩ := hx i (by omega)
      obtain ⟨_, hlen, hcell⟩ := World.cells?_some h1
      obtain ⟨x, hx⟩ := hel _ _ _ hlen h2
      subst hx
      exact ⟨x, hcell⟩
    obtain ⟨f, hfV⟩ := choose_lt (α := α) (p := fun i x => ∀ j, j < sz → W.cell? ((a.add (i * sz)).add j) = (K x)[j]?) hV
    have hfirst : ∃ u, W.cell? a = some u := by
      have := hfV 0 (by omega) 0 hs0
      rw [show (a.add (0 * sz)).add 0 = a from by cases a; simp [Addr.add]] at this
      rw [this, List.getElem?_eq_getElem (by rw [hK]; exact hs0)]
      exact ⟨_, rfl⟩
    obtain ⟨u0, hu0⟩ := hfirst
    have hspot : a.spot = none := World.cell?_spot hu0
    obtain ⟨ab, ao, spot⟩ := a
    simp only at hspot
    subst hspot
    refine .inr ⟨ab, ao, len, cap, f, rfl, by omega, by unfold maxLen at hm; omega, ⟨lt_of_cell hu0, fun o v ho => ?_, (fun h => by cases h), obj_not rfl⟩⟩
    by_cases hol : o < len * sz
    · simp only [Cont.get, if_pos hol] at ho
      have := hfV (o / sz) (div_lt_row hol) (o % sz) (Nat.mod_lt _ hs0)
      rw [add_none, add_none, Nat.add_assoc, show o / sz * sz + o % sz = o by rw [Nat.mul_comm]; exact Nat.div_add_mod o sz] at this
      rw [this]; exact ho
    · rw [tabE_out hol] at ho; cases ho
instance : Inhabited N4 := ⟨⟨0, 0, 0, 0⟩⟩
end
end Go.Eng
end
section
namespace Go.Eng
end Go.Eng
end
section
namespace Go.Eng
section
variable {P : Program} {t e : TypeId} {x y : Operand}
theorem is_slTo {sz : Nat} (ht : P.underlying t = some (.slice e)) (hs : sizeB P e = some sz) (n o len cap i : Nat) (hi : i ≤ cap) : IsOp P (.slice t x none (some y) none) [.slice (some ⟨n, o, none⟩) len cap, nat i] (.slice (some ⟨n, o, none⟩) i cap) := by
  intro ρ o' ho hv
  rw [ho] at hv
  have hv' : [ρ x, ρ y] = [Value.slice (some ⟨n, o, none⟩) len cap, nat i] := hv
  injection hv' with h1 hv'
  injection hv' with h2 _
  unfold execOp
  rw [ho]
  simp only [Option.map]
  show pureRun P (Sem.bind (Instr.sliceAt t (ρ x) none (some (ρ y)) none) fun v => Sem.pure (Next.value v)) = _
  rw [pureRun_bind, h1, h2]
  have hi' : 0 ≤ (i : Int) ∧ (i : Int) ≤ (cap : Int) := by omega
  have e : pureRun P (Instr.sliceAt t (.slice (some ⟨n, o, none⟩) len cap) none (some (nat i)) none) = some (.slice (some ⟨n, o, none⟩) i cap) := by
    simp only [Instr.sliceAt, Instr.slice, Instr.sliceBounds, Instr.sliceBound, nat, pureRun_bind', asIntOf, pureRun, pure, pureRun_underlying ht, hi', and_self, if_true, pureRun_sizeOf hs, Int.toNat_natCast]
    simp [add_none]
  rw [e]
  rfl
end
end Go.Eng
end
section
namespace Go.Eng
open Go.RowKit
end Go.Eng
end
