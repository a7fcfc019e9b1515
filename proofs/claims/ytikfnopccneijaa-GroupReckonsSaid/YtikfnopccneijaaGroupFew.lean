/-
  Layer 5: members are just the powers of the maker: of small groups, by reckoning.
-/
import Derived.Test.YtikfnopccneijaaMaps
namespace Go.Eng
set_option linter.unusedSimpArgs false
set_option linter.unusedVariables false
set_option maxRecDepth 100000

end Go.Eng
namespace Go.Eng
open Go.RowKit Go.WideShapes Go.ChangeShapes Go.ChangeAt Go.Deep
theorem RunsF.darkF {F : Blk → Prop} {P : Program} {f : FuncId} {args : List Value} {bs : List Blk} {k : Nat} {v : List Nat → Value} {out : List Nat → List (Option Blk)} (fl : List Bool) (h : RunsF F P f args bs k v out) :
    RunsF F P f args bs k v (fun ns => dkn fl (out ns)) := fun w hb ha hF => Calls.mono (h w hb ha hF) fun _ _ ⟨ns, h1, h2, h3⟩ => ⟨ns, h1, h2, h3.sub (dkn_sub fl (out ns))⟩
theorem rmem_no {P Q a : N4} (h : (selB (eq4 a (N4.mk 0 0 0 0)) true (decide ((cmp4 a P : Int) ≥ 0))) = true) : false = memB P Q a := by
  unfold memB inB
  rw [selB_or, Bool.or_eq_true, decide_eq_true_eq] at h
  rcases h with h | h
  · rw [h]; rfl
  · have : decide (cmp4 a P < 0) = false := by rw [decide_eq_false_iff_not]; omega
    rw [this]
    cases eq4 a (N4.mk 0 0 0 0) <;> rfl
theorem rmem_yes {P Q a : N4} (h : (selB (eq4 a (N4.mk 0 0 0 0)) true (decide ((cmp4 a P : Int) ≥ 0))) = false) : eq4 (powM P a Q) (N4.mk 1 0 0 0) = memB P Q a := by
  unfold memB inB
  rw [selB_or, Bool.or_eq_false_iff, decide_eq_false_iff_not] at h
  rw [h.1, show decide (cmp4 a P < 0) = true by rw [decide_eq_true_eq]; omega]
  rfl
section
variable {H : Type} {enc : TypeId × Value → H} {P : Program}
theorem open_nums {r : Reach} {b0 : Nat} {W : World} {base : Nat} {sp : Nat → Bool} {held : Bool} {t e u : TypeId} {v : Value} {d : DataW H} {ps : List MemPlace} (ht : P.underlying t = some (.slice e)) (he : P.underlying e = some (.array 4 u)) (hu : P.underlying u = some (.int .u64))
    (hcu : P.cellsOf u = 1) (hc : P.cellsOf e = 4) (hval : Value.okWide P W r b0 t v) (hd : DataW.Trod enc P W base sp held t v d ps) :
    ∃ q : NumL, v = .slice q.la q.ln q.lc ∧ OkN q ∧ ∀ b, famN q b → Holds b W ∧ b.own = false := by
  obtain ⟨a1, len, cap, rfl⟩ := okWide_slice ht hval
  obtain ⟨fuel, hf⟩ := hd
  obtain ⟨wa, wn, wc, wb, wo, wf, h1, h2, h3, h4⟩ := slice_cellE cellsN (fun _ => rfl) (by decide) ht hc (fun n cs x hl h => nat4_of_row he hu hcu hl h) (c := .slice a1 len cap) hf
  refine ⟨⟨wa, wn, wc, wb, wo, wf⟩, h1, ⟨h2.2, h3, h2.1⟩, fun b hb => ?_⟩
  obtain ⟨hb1, rfl⟩ := hb
  exact ⟨h4 hb1, rfl⟩
end
end Go.Eng
