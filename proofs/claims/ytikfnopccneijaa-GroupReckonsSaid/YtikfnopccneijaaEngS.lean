/-
  An engine for walks, nineteenth part: slices of elements of many cells.
-/
import Derived.Test.YtikfnopccneijaaEngR
namespace Go.Eng

/-- The cell at a place of a row whose elements have 'sz' cells. -/
def cf (sz : Nat) (g : Nat → List Value) (o : Nat) : Value := (g (o / sz)).getD (o % sz) undef
section
variable {sz n len o : Nat} {E g h : Nat → List Value} {zc : List Value}
theorem div_lt_row (ho : o < n * sz) : o / sz < n := Nat.div_lt_of_lt_mul (by rw [Nat.mul_comm]; exact ho)
theorem tabE_in (hsz : 0 < sz) (hE : ∀ k, k < n → (E k).length = sz) (ho : o < n * sz) : (Cont.tab n sz E).get o = some (cf sz E o) := by
  have h2 : o % sz < (E (o / sz)).length := by rw [hE _ (div_lt_row ho)]; exact Nat.mod_lt _ hsz
  simp only [Cont.get, if_pos ho, cf]
  rw [List.getD_eq_getElem?_getD, List.getElem?_eq_getElem h2]; rfl
theorem tabE_out (ho : ¬ o < n * sz) : (Cont.tab n sz E).get o = none := by
  simp only [Cont.get, if_neg ho]
end

def zeroB (P : Program) (e : TypeId) : Option Value := match P.info? e with
  | some i => i.zero
  | none => none
section
variable {P : Program} {t ty e : TypeId} {i : TypeInfo} {z : Value} {sz : Nat} {zc : List Value}
end
/-- An element of some cells. -/
def AggC (P : Program) (e : TypeId) (zc : List Value) (sz B : Nat) : Prop := ∃ i z, P.info? e = some i ∧ i.zero = some z ∧ i.size = sz ∧ i.bytes = B ∧ z.cells.toList = zc ∧ zc.length = sz ∧ 0 < sz
theorem aggC_of {P : Program} {e : TypeId} {z : Value} {zc : List Value} {sz B : Nat} (h : oneB P e = some (z, sz, B)) (hz : z.cells.toList = zc) (hl : zc.length = sz) (h0 : 0 < sz) : AggC P e zc sz B := by
  unfold oneB at h
  split at h
  · rename_i i hi
    split at h
    · rename_i z' hz'
      injection h with h
      injection h with h1 h2
      injection h2 with h2 h3
      subst h1
      exact ⟨i, z', hi, hz', h2, h3, hz, hl, h0⟩
    · cases h
  · cases h
section
variable {P : Program} {t ty e : TypeId}
theorem mkE_build {sz B : Nat} {zc : List Value} {z : Value} (h1 : AggC P e zc sz B) (hz0 : zeroB P e = some z) (len : Nat) (parts : Array (Nat × Value)) (cs : Array Value) (ht : P.underlying t = some (.slice e)) (h0 : len * sz ≠ 0 ∧ len * sz ≤ 16777216) (hcs : bsCells z sz len parts = some cs) :
    SRuns P (buildSem t len parts) [] 1 (fun ns => .slice (some ⟨ns.getD 0 0, 0, none⟩) len len) (fun ns => [some ⟨ns.getD 0 0, true, 0, .lit cs.toList⟩]) := by
  obtain ⟨i, z', hi, hz, hsz, hB, hzc, hzl, hs0⟩ := h1
  have hzz : z' = z := by simpa [zeroB, hi, hz] using hz0
  subst hzz
  exact srun_build ht hi hz (by rw [hsz]; exact h0.1) (by rw [hsz]; exact h0.2) (by rw [hsz]; exact hcs)
end
end Go.Eng
