/-
  Slices of bytes, and of slices of bytes, as they are handed in to a law.
-/
import Derived.Test.YtelpmalmknpogaaByt
namespace Go.Eng
set_option linter.unusedSimpArgs false
set_option linter.unusedVariables false
set_option maxRecDepth 100000
open Go.RowKit Go.WideShapes Go.ChangeShapes Go.ChangeAt Go.Deep
/-- Slices of slices of bytes. -/
structure BytS where
  wa : Option Addr
  wn : Nat
  wc : Nat
  wb : Nat
  wo : Nat
  wf : Nat → BytL
def bysB (q : BytS) : Blk := ⟨q.wb, false, q.wo, tabF q.wn fun k => slqV (q.wf k)⟩
structure OkS (q : BytS) : Prop where
  cap : q.wn ≤ q.wc
  ad : 0 < q.wn → q.wa = some ⟨q.wb, q.wo, none⟩
  len : q.wn ≤ 9223372036854775807
  el : ∀ k, k < q.wn → OkB (q.wf k)
def famS (q : BytS) (b : Blk) : Prop := (0 < q.wn ∧ b = bysB q) ∨ ∃ k, k < q.wn ∧ famB (q.wf k) b
section
variable {H : Type} {enc : TypeId × Value → H} {P : Program}
theorem bytes_cell {W : World} {base : Nat} {sp : Nat → Bool} {held : Bool} {t e : TypeId} {v : Value} {fuel : Nat} {x : DataW H × List MemPlace} (ht : P.underlying t = some (.slice e)) (he : P.underlying e = some (.int .u8))
    (hc : P.cellsOf e = 1) (hf : DataW.trod enc P W base sp held fuel t [v] = some x) : ∃ q : BytL, v = slqV q ∧ OkB q ∧ FamH (famB q) W := by
  rcases open_slice1 ht hc hf with ⟨hcs, _⟩ | ⟨a, len, cap, m, n, V, D, Pl, hcs, _, hl, hm, hmm, _, hx⟩
  · simp only [List.cons.injEq, and_true] at hcs
    subst hcs
    exact ⟨bytZ none 0, rfl, okb_nil, holdb_nil⟩
  · simp only [List.cons.injEq, and_true] at hcs
    subst hcs
    by_cases h0 : len = 0
    · subst h0
      exact ⟨bytZ (some a) cap, rfl, okb_nil, holdb_nil⟩
    have hlm : len ≤ m := by rw [hmm]; split <;> omega
    have hspot : a.spot = none := World.cell?_spot (by
      have := (hx 0 (by omega)).1
      rwa [show a.add 0 = a from by cases a; simp [Addr.add]] at this)
    obtain ⟨ab, ao, spot⟩ := a
    simp only at hspot
    subst hspot
    have hV : ∀ i, i < len → ∃ x : UInt8, V i = u8 x := fun i hi => by
      obtain ⟨_, h2⟩ := hx i (by omega)
      obtain ⟨x0, e0, _, w0⟩ := DataW.trod_int he h2
      simp at e0
      rw [e0]
      exact u8_of w0
    obtain ⟨f, hfV⟩ := choose_lt (α := UInt8) (p := fun i x => V i = u8 x) hV
    refine ⟨⟨some ⟨ab, ao, none⟩, len, cap, ab, ao, f⟩, rfl, ⟨hl, fun _ => rfl, by unfold maxLen at hm; show len ≤ _; omega⟩, fun b hb => ?_⟩
    obtain ⟨_, rfl⟩ := hb
    refine ⟨⟨lt_of_cell (hx 0 (by omega)).1, fun o v ho => ?_, (fun h => by cases h), obj_not rfl⟩, rfl⟩
    have ho' : (tabF len fun k => u8 (f k)).get o = some v := ho
    by_cases hol : o < len
    · rw [tabF_in hol] at ho'
      injection ho' with ho'
      have := (hx o (by omega)).1
      rw [add_none] at this
      show W.cell? ⟨ab, ao + o, none⟩ = some v
      rw [this, hfV o hol, ho']
    · rw [tabF_out hol] at ho'; cases ho'
theorem open_bytes {r : Reach} {b0 : Nat} {W : World} {base : Nat} {sp : Nat → Bool} {held : Bool} {t e : TypeId} {v : Value} {d : DataW H} {ps : List MemPlace} (ht : P.underlying t = some (.slice e)) (he : P.underlying e = some (.int .u8))
    (hc : P.cellsOf e = 1) (hval : Value.okWide P W r b0 t v) (hd : DataW.Trod enc P W base sp held t v d ps) : ∃ q : BytL, v = .slice q.wa q.wn q.wc ∧ OkB q ∧ FamH (famB q) W := by
  obtain ⟨a1, len, cap, rfl⟩ := okWide_slice ht hval
  obtain ⟨fuel, hf⟩ := hd
  exact bytes_cell ht he hc hf
theorem int_cell {W : World} {base : Nat} {sp : Nat → Bool} {held : Bool} {i : TypeId} (hi : P.underlying i = some (.int .i64)) {c : Value} {fuel : Nat} {z : DataW H × List MemPlace} (h : DataW.trod enc P W base sp held fuel i [c] = some z) :
    ∃ x : Int, c = int x ∧ -9223372036854775808 ≤ x ∧ x ≤ 9223372036854775807 := by
  obtain ⟨x0, e0, _, w0⟩ := DataW.trod_int hi h
  simp at e0
  have hx : -9223372036854775808 ≤ x0 ∧ x0 ≤ 9223372036854775807 := by simpa [Lit.wf, IntKind.min, IntKind.max, IntKind.signed, IntKind.bits] using w0
  exact ⟨x0, e0, hx.1, hx.2⟩
theorem u64_cell {W : World} {base : Nat} {sp : Nat → Bool} {held : Bool} {i : TypeId} (hi : P.underlying i = some (.int .u64)) {c : Value} {fuel : Nat} {z : DataW H × List MemPlace} (h : DataW.trod enc P W base sp held fuel i [c] = some z) :
    ∃ x : UInt64, c = u64 x := by
  obtain ⟨x0, e0, _, w0⟩ := DataW.trod_int hi h
  simp at e0
  obtain ⟨x, hx⟩ := u64_of w0
  exact ⟨x, e0.trans hx⟩
/-- A slice's cell, of elements of one cell each: of whatever kind. -/
theorem slice1_cell {α : Type} [Inhabited α] (K : α → Value) (G : α → Prop) {W : World} {base : Nat} {sp : Nat → Bool} {held : Bool} {t e : TypeId} {v : Value} {fuel : Nat} {x : DataW H × List MemPlace} (ht : P.underlying t = some (.slice e))
    (hc : P.cellsOf e = 1) (hel : ∀ n v x, DataW.trod enc P W base sp held n e [v] = some x → ∃ a, v = K a ∧ G a) (hf : DataW.trod enc P W base sp held fuel t [v] = some x) :
    ∃ (wa : Option Addr) (wn wc wb wo : Nat) (f : Nat → α), v = .slice wa wn wc ∧ wn ≤ wc ∧ (0 < wn → wa = some ⟨wb, wo, none⟩) ∧ wn ≤ 9223372036854775807 ∧ (∀ k, k < wn → G (f k)) ∧ (0 < wn → Holds ⟨wb, false, wo, tabF wn fun k => K (f k)⟩ W) := by
  rcases open_slice1 ht hc hf with ⟨hcs, _⟩ | ⟨a, len, cap, m, n, V, D, Pl, hcs, _, hl, hm, hmm, _, hx⟩
  · simp only [List.cons.injEq, and_true] at hcs
    subst hcs
    exact ⟨none, 0, 0, 0, 0, fun _ => default, rfl, Nat.le_refl _, fun h => absurd h (Nat.lt_irrefl 0), Nat.zero_le _, fun k hk => absurd hk (Nat.not_lt_zero k), fun h => absurd h (Nat.lt_irrefl 0)⟩
  · simp only [List.cons.injEq, and_true] at hcs
    subst hcs
    by_cases h0 : len = 0
    · subst h0
      exact ⟨some a, 0, cap, 0, 0, fun _ => default, rfl, Nat.zero_le _, fun h => absurd h (Nat.lt_irrefl 0), Nat.zero_le _, fun k hk => absurd hk (Nat.not_lt_zero k), fun h => absurd h (Nat.lt_irrefl 0)⟩
    have hlm : len ≤ m := by rw [hmm]; split <;> omega
    have hspot : a.spot = none := World.cell?_spot (by
      have := (hx 0 (by omega)).1
      rwa [show a.add 0 = a from by cases a; simp [Addr.add]] at this)
    obtain ⟨ab, ao, spot⟩ := a
    simp only at hspot
    subst hspot
    have hV : ∀ i, i < len → ∃ x : α, V i = K x ∧ G x := fun i hi => by
      obtain ⟨_, h2⟩ := hx i (by omega)
      exact hel _ _ _ h2
    obtain ⟨f, hfV⟩ := choose_lt (α := α) (p := fun i x => V i = K x ∧ G x) hV
    refine ⟨some ⟨ab, ao, none⟩, len, cap, ab, ao, f, rfl, hl, fun _ => rfl, by unfold maxLen at hm; omega, fun k hk => (hfV k hk).2, fun _ => ⟨lt_of_cell (hx 0 (by omega)).1, fun o v ho => ?_, (fun h => by cases h), obj_not rfl⟩⟩
    have ho' : (tabF len fun k => K (f k)).get o = some v := ho
    by_cases hol : o < len
    · rw [tabF_in hol] at ho'
      injection ho' with ho'
      have := (hx o (by omega)).1
      rw [add_none] at this
      show W.cell? ⟨ab, ao + o, none⟩ = some v
      rw [this, (hfV o hol).1, ho']
    · rw [tabF_out hol] at ho'; cases ho'
instance : Inhabited BytL := ⟨bytZ none 0⟩
theorem open_bytess {r : Reach} {b0 : Nat} {W : World} {base : Nat} {sp : Nat → Bool} {held : Bool} {t s e : TypeId} {v : Value} {d : DataW H} {ps : List MemPlace} (ht : P.underlying t = some (.slice s)) (hs : P.underlying s = some (.slice e)) (he : P.underlying e = some (.int .u8))
    (hcs : P.cellsOf s = 1) (hc : P.cellsOf e = 1) (hval : Value.okWide P W r b0 t v) (hd : DataW.Trod enc P W base sp held t v d ps) : ∃ q : BytS, v = .slice q.wa q.wn q.wc ∧ OkS q ∧ FamH (famS q) W := by
  obtain ⟨a1, len, cap, rfl⟩ := okWide_slice ht hval
  obtain ⟨fuel, hf⟩ := hd
  obtain ⟨wa, wn, wc, wb, wo, f, e1, e2, e3, e4, e5, e6⟩ := slice1_cell (α := BytL) slqV (fun q => OkB q ∧ FamH (famB q) W) ht hcs (fun n v x hx => bytes_cell hs he hc hx) hf
  injection e1 with h1 h2 h3
  subst h1 h2 h3
  refine ⟨⟨a1, len, cap, wb, wo, f⟩, rfl, ⟨e2, e3, e4, fun k hk => (e5 k hk).1⟩, fun b hb => ?_⟩
  rcases hb with ⟨h0, rfl⟩ | ⟨k, hk, hb⟩
  · exact ⟨e6 h0, rfl⟩
  · exact (e5 k hk).2 b hb
end
end Go.Eng
namespace Go.Eng
open Go.RowKit Go.WideShapes Go.ChangeShapes Go.ChangeAt Go.Deep
section
variable {H : Type} {enc : TypeId × Value → H} {P : Program}
/-- How long a slice of bytes is that is handed in: as its datum says. -/
theorem bytes_len {W : World} {base : Nat} {sp : Nat → Bool} {held : Bool} {t e : TypeId} {a : Option Addr} {n c : Nat} {d : DataW H} {ps : List MemPlace} (ht : P.underlying t = some (.slice e)) (hc : P.cellsOf e = 1) (hd : DataW.Trod enc P W base sp held t (.slice a n c) d ps) :
    n = 0 ∨ ∃ elems spare, d = .slice elems spare ∧ elems.length = n := by
  obtain ⟨fuel, hf⟩ := hd
  rcases open_slice1 ht hc hf with ⟨hcs, _⟩ | ⟨a, len, cap, m, n, V, D, Pl, hcs, _, hl, hm, hmm, hx, _⟩
  · simp [Value.cells] at hcs; exact .inl hcs.2.1
  · simp [Value.cells] at hcs
    obtain ⟨rfl, rfl, rfl⟩ := hcs
    right
    injection hx with h1 _
    exact ⟨_, _, h1, by simp⟩
end
end Go.Eng
