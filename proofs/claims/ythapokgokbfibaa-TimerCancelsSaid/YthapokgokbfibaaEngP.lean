/-
  An engine for walks, sixteenth part: numbers told anew; rows told anew.
-/
import Derived.Test.YthapokgokbfibaaEngO
namespace Go.Eng

theorem isop_nat {P : Program} {op : Op} {vals : List Value} {e : Int} {m : Nat} (h : IsOp P op vals (int e)) (he : e = (m : Int)) : IsOp P op vals (nat m) := by subst he; exact h
theorem is_move_nat {P : Program} {x : Operand} (e : Int) (m : Nat) (he : e = (m : Int)) : IsOp P (.move x) [int e] (nat m) := by
  subst he
  intro ρ o ho hv
  rw [ho] at hv
  simp only [Op.operands, List.map_cons, List.map_nil, List.cons.injEq, and_true] at hv
  unfold execOp
  rw [ho]
  simp only [hv]
  rfl
theorem is_assign_nat {P : Program} {x : Operand} (e : Int) (m : Nat) (he : e = (m : Int)) : IsOp P (.assign x) [int e] (nat m) := by
  subst he
  intro ρ o ho hv
  rw [ho] at hv
  simp only [Op.operands, List.map_cons, List.map_nil, List.cons.injEq, and_true] at hv
  unfold execOp
  rw [ho]
  simp only [hv]
  rfl
theorem is_shrn {P : Program} {t t' : TypeId} {x y : Operand} (a n : Nat) (ha : a ≤ 9223372036854775807) : IsOp P (.binOp .shr t x y t') [nat a, nat n] (nat (a / 2 ^ n)) := isOp_bin guard_int (by
  show pureRun P (Op.shift .shr .i64 (a : Int) .i64 (n : Int)) = _
  unfold Op.shift
  rw [if_neg (by omega)]
  show some (Value.int .i64 (Int.fdiv (a : Int) (2 ^ min (n : Int).toNat 64))) = _
  congr 1
  rw [Int.toNat_natCast]
  have key : ∀ m : Nat, Int.fdiv (a : Int) (2 ^ m) = ((a / 2 ^ m : Nat) : Int) := fun m => by
    rw [Int.fdiv_eq_ediv_of_nonneg _ (Int.pow_nonneg (by omega))]
    push_cast; rfl
  show Value.int .i64 _ = _
  rw [key, nat]
  congr 2
  by_cases h : n ≤ 64
  · rw [Nat.min_eq_left h]
  · rw [Nat.min_eq_right (by omega), Nat.div_eq_of_lt (show a < 2 ^ 64 by omega), Nat.div_eq_of_lt]
    exact Nat.lt_of_lt_of_le (show a < 2 ^ 64 by omega) (Nat.pow_le_pow_right (by omega) (by omega)))
theorem store_tabF_as {α : Type} (n : Nat) (K : α → Value) (f : Nat → α) (i : Nat) (v : α) (g : Nat → α) (h : ∀ k, upd f i v k = g k) : (tabF n fun k => K (f k)).store (.tab i 0) [K v] = some (tabF n fun k => K (g k)) := by
  rw [store_tabF]; congr 2; funext k; rw [h k]
theorem litF_as (n : Nat) (f g : Nat → Value) (h : vecV n f = vecV n g) : ∀ o v, (litF n g).get o = some v → (litF n f).get o = some v := fun o v hv => by
  unfold vecV at h
  have : (List.range n).map f = (List.range n).map g := by simpa using h
  unfold litF at hv ⊢
  rw [this]; exact hv

section wides
open Go.ChangeShapes Go.WideShapes Go.ChangeAt Go.RowKit
variable {H : Type} {enc : TypeId × Value → H} {P : Program}
theorem trod_array8 {w : World} {base : Nat} {spare : Nat → Bool} {held : Bool} {t e : TypeId} {fuel : Nat} {c0 c1 c2 c3 c4 c5 c6 c7 : Value} {x : DataW H × List MemPlace} (ht : P.underlying t = some (.array 8 e)) (hce : P.cellsOf e = 1)
    (h : DataW.trod enc P w base spare held fuel t [c0, c1, c2, c3, c4, c5, c6, c7] = some x) :
    ∃ n, (∃ y, DataW.trod enc P w base spare held n e [c0] = some y) ∧ (∃ y, DataW.trod enc P w base spare held n e [c1] = some y) ∧ (∃ y, DataW.trod enc P w base spare held n e [c2] = some y) ∧ (∃ y, DataW.trod enc P w base spare held n e [c3] = some y) ∧ (∃ y, DataW.trod enc P w base spare held n e [c4] = some y) ∧ (∃ y, DataW.trod enc P w base spare held n e [c5] = some y) ∧ (∃ y, DataW.trod enc P w base spare held n e [c6] = some y) ∧ (∃ y, DataW.trod enc P w base spare held n e [c7] = some y) := by
  cases fuel with
  | zero => simp [DataW.trod] at h
  | succ n =>
    unfold DataW.trod at h
    rw [ht] at h
    have r8 : List.range 8 = [0, 1, 2, 3, 4, 5, 6, 7] := rfl
    simp [r8, hce] at h
    obtain ⟨_, h⟩ := h
    cases h0 : DataW.trod enc P w base spare held n e [c0] with
    | none => simp [h0] at h
    | some y0 =>
      cases h1 : DataW.trod enc P w base spare held n e [c1] with
      | none => simp [h0, h1] at h
      | some y1 =>
        cases h2 : DataW.trod enc P w base spare held n e [c2] with
        | none => simp [h0, h1, h2] at h
        | some y2 =>
          cases h3 : DataW.trod enc P w base spare held n e [c3] with
          | none => simp [h0, h1, h2, h3] at h
          | some y3 =>
            cases h4 : DataW.trod enc P w base spare held n e [c4] with
            | none => simp [h0, h1, h2, h3, h4] at h
            | some y4 =>
              cases h5 : DataW.trod enc P w base spare held n e [c5] with
              | none => simp [h0, h1, h2, h3, h4, h5] at h
              | some y5 =>
                cases h6 : DataW.trod enc P w base spare held n e [c6] with
                | none => simp [h0, h1, h2, h3, h4, h5, h6] at h
                | some y6 =>
                  cases h7 : DataW.trod enc P w base spare held n e [c7] with
                  | none => simp [h0, h1, h2, h3, h4, h5, h6, h7] at h
                  | some y7 =>
                    exact ⟨n, ⟨y0, h0⟩, ⟨y1, h1⟩, ⟨y2, h2⟩, ⟨y3, h3⟩, ⟨y4, h4⟩, ⟨y5, h5⟩, ⟨y6, h6⟩, ⟨y7, h7⟩⟩
theorem list8 {α : Type} (l : List α) (h : l.length = 8) : ∃ a b c d e f g i, l = [a, b, c, d, e, f, g, i] := by
  match l, h with
  | [a, b, c, d, e, f, g, i], _ => exact ⟨a, b, c, d, e, f, g, i, rfl⟩
theorem word_of_trod {w : World} {base : Nat} {spare : Nat → Bool} {held : Bool} {e : TypeId} {n : Nat} {c : Value} (he : P.underlying e = some (.int .u64)) (h : ∃ y, DataW.trod enc P w base spare held n e [c] = some y) : ∃ x : UInt64, c = u64 x := by
  obtain ⟨y, hy⟩ := h
  obtain ⟨x0, e0, _, w0⟩ := DataW.trod_int he hy
  simp at e0
  subst e0
  exact u64_of w0
theorem open_wide8 {r : Reach} {b0 : Nat} {W : World} {base : Nat} {sp : Nat → Bool} {held : Bool} {t e : TypeId} {v : Value} {d : DataW H} {ps : List MemPlace} (ht : P.underlying t = some (.array 8 e)) (he : P.underlying e = some (.int .u64))
    (hc : P.cellsOf e = 1) (hct : P.cellsOf t = 8) (hval : Value.okWide P W r b0 t v) (hd : DataW.Trod enc P W base sp held t v d ps) : ∃ x : N8, v = wide8 x := by
  obtain ⟨cs, rfl, hsz, _⟩ : ∃ cs, v = .agg cs ∧ cs.size = P.cellsOf t ∧ Row.okWide P W r b0 t cs := by
    simpa [Value.okWide, ht] using hval
  obtain ⟨l⟩ := cs
  obtain ⟨fuel, hf⟩ := hd
  obtain ⟨c0, c1, c2, c3, c4, c5, c6, c7, rfl⟩ := list8 l (by show l.length = 8; simpa [hct] using hsz)
  obtain ⟨n, h0, h1, h2, h3, h4, h5, h6, h7⟩ := trod_array8 ht hc hf
  obtain ⟨x0, rfl⟩ := word_of_trod he h0
  obtain ⟨x1, rfl⟩ := word_of_trod he h1
  obtain ⟨x2, rfl⟩ := word_of_trod he h2
  obtain ⟨x3, rfl⟩ := word_of_trod he h3
  obtain ⟨x4, rfl⟩ := word_of_trod he h4
  obtain ⟨x5, rfl⟩ := word_of_trod he h5
  obtain ⟨x6, rfl⟩ := word_of_trod he h6
  obtain ⟨x7, rfl⟩ := word_of_trod he h7
  exact ⟨⟨⟨x0, x1, x2, x3⟩, ⟨x4, x5, x6, x7⟩⟩, rfl⟩
end wides
end Go.Eng
