/-
  Layer 5: members are just the powers of the maker: of small groups, by reckoning.
-/
import Derived.Test.YtikfnopccneijaaMaps
namespace Go.Eng
set_option linter.unusedSimpArgs false
set_option linter.unusedVariables false
set_option maxRecDepth 100000

end Go.Eng
namespace Go.Eng
open Go.RowKit Go.WideShapes Go.ChangeShapes Go.ChangeAt Go.Deep
section
variable {H : Type} {enc : TypeId × Value → H} {P : Program}
theorem open_nums {r : Reach} {b0 : Nat} {W : World} {base : Nat} {sp : Nat → Bool} {held : Bool} {t e u : TypeId} {v : Value} {d : DataW H} {ps : List MemPlace} (ht : P.underlying t = some (.slice e)) (he : P.underlying e = some (.array 4 u)) (hu : P.underlying u = some (.int .u64))
    (hcu : P.cellsOf u = 1) (hc : P.cellsOf e = 4) (hval : Value.okWide P W r b0 t v) (hd : DataW.Trod enc P W base sp held t v d ps) :
    ∃ q : NumL, v = .slice q.la q.ln q.lc ∧ OkN q ∧ ∀ b, famN q b → Holds b W ∧ b.own = false := by
  obtain ⟨a1, len, cap, rfl⟩ := okWide_slice ht hval
  obtain ⟨fuel, hf⟩ := hd
  obtain ⟨wa, wn, wc, wb, wo, wf, h1, h2, h3, h4⟩ := slice_cellE cellsN (fun _ => rfl) (by decide) ht hc (fun n cs x hl h => nat4_of_row he hu hcu hl h) (c := .slice a1 len cap) hf
  refine ⟨⟨wa, wn, wc, wb, wo, wf⟩, h1, ⟨h2.2, h3, h2.1⟩, fun b hb => ?_⟩
  obtain ⟨hb1, rfl⟩ := hb
  exact ⟨h4 hb1, rfl⟩
end
end Go.Eng
