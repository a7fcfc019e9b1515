/-
  An engine for walks: a law whose arguments lie in memory.
-/
import Derived.Test.YthapokgokbfibaaLimbByt
namespace Go.Eng
open Go.RowKit
theorem sband_nt {a : Bool} (h : selB a true false = false) : a = false := match a, h with
  | false, _ => rfl
theorem runs_law {P : Program} {f : FuncId} {args : List Value} {bs : List Blk} {v : Value} {out : List Nat → List (Option Blk)} {W : World} (h : Runs P f args bs 0 (fun _ => v) out) (hb : ∀ b ∈ bs, Holds b W) (hro : ∀ b ∈ bs, b.own = false) :
    Calls P f args.toArray W fun e w' => e = .returned v ∧ Below W.heap.size W w' := by
  have hl : ∀ p b, listMem (bs.map some) p = some b → b.own = false := fun p b hp => hro b (List.mem_of_getElem? (listMem_some.1 hp))
  refine Calls.mono (h W hb fun p q x y _ hx _ ho => ?_) fun e w' ⟨ns, _, he, hp⟩ => ⟨he, below_of_adv hp.adv hl⟩
  rw [hl p x hx] at ho; cases ho
end Go.Eng
