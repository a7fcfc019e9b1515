/-
  No cell of these rows narrows 'for every input' (looked for: loops, veiled, ifaces, maps, wideKeys, modest, calm, conditions, laid).
  DERIVED. THE GIVEN ROWS OF THIS SEAT. 3 by the template 'for every input the law returns true; each argument reads behind the call as it read before'; 0 by the template 'total and deterministic' (their statements: YthapokgokbfibaaTotals.lean).
  GIVEN WITH THE SEED: the statements are not yours to turn. If you find one false, say at which input.
  Laid BY PROGRAM, IN A SANDBOX (cutbox-rows.mjs): the forced cells as the released guide's own fill.sh prints them over the translation 5db3475493b6a582… (all of the seat's roots in one cut). By AI agents, Wed Nov 11 2026. No macro, syntax, notation, axiom, sorry.
-/
import Derived.Test.YthapokgokbfibaaChecked
import GoSem.Claim
import GoSem.ClaimJoined
import GoSem.ClaimMapViews
import Derived.JoinedTies
import Derived.KernelRfl
namespace Go.Proofs.Ythapokgokbfibaa
/- THE CELL 'sum', in the pinned program and in every row, IS THE sha256 OF THE DUMP (.gsa) THAT YthapokgokbfibaaProg.lean LOADS. Nothing in Lean hashes anything: it is a label: what it is worth is what the hold of that sum in a sandbox is worth. -/
noncomputable def Try.pinned : Pinned := { name := "ythapokgokbfibaa", sum := "5db3475493b6a58285ebf3a89b8f4147533d35fae3d933bddae9286c053b7280", checked := Try.checked }
namespace Rows
def none {H : Type} : Left H := { results := [], args := [] }

/-- 'sortitionlaw14.TimerPlays': WHATEVER THE INPUT: true; the input reads as it did. -/
def timerPlaysSpec : ChangeSpec := { name := "timerPlays", fn := fun _ => fun
  | [d] => { results := [.lit (.bool true)], args := [d] }
  | _ => none }
def timerPlaysRow : OpenClaim := { program := "ythapokgokbfibaa", sum := "5db3475493b6a58285ebf3a89b8f4147533d35fae3d933bddae9286c053b7280", func := "sortition/sortitionlaw14.TimerPlays", spec := "timerPlays", unfollowed := true, recurses := true, apart := false }
def TimerPlaysSaid : Prop := timerPlaysRow.holds Try.pinned (OpenSpec.ofChange timerPlaysSpec)

/-- ITS FALSE NEIGHBOUR: 'it returns false'. Refute it at one input. -/
def timerPlaysWrong : ChangeSpec := { name := "timerPlays", fn := fun _ => fun
  | [d] => { results := [.lit (.bool false)], args := [d] }
  | _ => none }
def TimerPlaysWrongFalsely : Prop := timerPlaysRow.holds Try.pinned (OpenSpec.ofChange timerPlaysWrong)

/-- 'sortitionlaw14.TimerCancels': WHATEVER THE INPUT: true; the input reads as it did. -/
def timerCancelsSpec : ChangeSpec := { name := "timerCancels", fn := fun _ => fun
  | [d1, d2] => { results := [.lit (.bool true)], args := [d1, d2] }
  | _ => none }
def timerCancelsRow : OpenClaim := { program := "ythapokgokbfibaa", sum := "5db3475493b6a58285ebf3a89b8f4147533d35fae3d933bddae9286c053b7280", func := "sortition/sortitionlaw14.TimerCancels", spec := "timerCancels", unfollowed := true, recurses := true, apart := false }
def TimerCancelsSaid : Prop := timerCancelsRow.holds Try.pinned (OpenSpec.ofChange timerCancelsSpec)

/-- ITS FALSE NEIGHBOUR: 'it returns false'. Refute it at one input. -/
def timerCancelsWrong : ChangeSpec := { name := "timerCancels", fn := fun _ => fun
  | [d1, d2] => { results := [.lit (.bool false)], args := [d1, d2] }
  | _ => none }
def TimerCancelsWrongFalsely : Prop := timerCancelsRow.holds Try.pinned (OpenSpec.ofChange timerCancelsWrong)

/-- 'sortitionlaw14.TimerSplit': WHATEVER THE INPUT: true; the input reads as it did. -/
def timerSplitSpec : ChangeSpec := { name := "timerSplit", fn := fun _ => fun
  | [d1, d2, d3] => { results := [.lit (.bool true)], args := [d1, d2, d3] }
  | _ => none }
def timerSplitRow : OpenClaim := { program := "ythapokgokbfibaa", sum := "5db3475493b6a58285ebf3a89b8f4147533d35fae3d933bddae9286c053b7280", func := "sortition/sortitionlaw14.TimerSplit", spec := "timerSplit", unfollowed := true, recurses := true, apart := false }
def TimerSplitSaid : Prop := timerSplitRow.holds Try.pinned (OpenSpec.ofChange timerSplitSpec)

/-- ITS FALSE NEIGHBOUR: 'it returns false'. Refute it at one input. -/
def timerSplitWrong : ChangeSpec := { name := "timerSplit", fn := fun _ => fun
  | [d1, d2, d3] => { results := [.lit (.bool false)], args := [d1, d2, d3] }
  | _ => none }
def TimerSplitWrongFalsely : Prop := timerSplitRow.holds Try.pinned (OpenSpec.ofChange timerSplitWrong)

/- THE SECOND FORM. 'bulk': how many values and letters a reading holds, each counted each time it is reached (what is shared counts as often as it is met; a slice's spare places count too). A statement '..UptoSaid' is the law's where the arguments, and the package variables that the reading takes, are together of bulk at most 1048576: NARROWER than '..Said'. Prove '..Said' where nothing that the law and all that it calls make is longer than what came in: it says more and counts as full. Else prove '..UptoSaid'. A law counts once. -/
mutual
def uptoBulk {H : Type} : DataW H → Nat
  | .lit (.string bytes) => bytes.length + 1
  | .lit _ => 1
  | .nil => 1
  | .ptr d => uptoBulk d + 1
  | .slice elems spare => uptoBulkAll elems + uptoBulkAll spare + 1
  | .agg parts => uptoBulkAll parts + 1
  | .iface _ d => uptoBulk d + 1
  | .map entries => uptoBulkEntries entries + 1
  | .held _ => 1
def uptoBulkAll {H : Type} : List (DataW H) → Nat
  | [] => 0
  | d :: r => uptoBulk d + uptoBulkAll r
def uptoBulkEntries {H : Type} : List (Lit × DataW H) → Nat
  | [] => 0
  | x :: r => uptoBulkEntry x + uptoBulkEntries r
def uptoBulkEntry {H : Type} : Lit × DataW H → Nat
  | (.string bytes, d) => bytes.length + uptoBulk d + 1
  | (_, d) => uptoBulk d + 1
 end
def uptoSmall : (H : Type) → List (DataW H) → Bool := fun _ ds => decide (uptoBulkAll ds ≤ 1048576)
def OpenSpec.upto (s : _root_.Go.ChangeSpec) : _root_.Go.OpenSpec := { _root_.Go.OpenSpec.ofChange s with cond := some uptoSmall }

/-- 'sortitionlaw14.TimerPlays', WHERE WHAT IT READS IS OF BULK AT MOST 1048576: true; the input reads as it did. -/
def timerPlaysUptoRow : OpenClaim := { program := "ythapokgokbfibaa", sum := "5db3475493b6a58285ebf3a89b8f4147533d35fae3d933bddae9286c053b7280", func := "sortition/sortitionlaw14.TimerPlays", spec := "timerPlays", unfollowed := true, recurses := true, apart := false, narrowed := true }
def TimerPlaysUptoSaid : Prop := timerPlaysUptoRow.holds Try.pinned (OpenSpec.upto timerPlaysSpec)

/-- 'sortitionlaw14.TimerCancels', WHERE WHAT IT READS IS OF BULK AT MOST 1048576: true; the input reads as it did. -/
def timerCancelsUptoRow : OpenClaim := { program := "ythapokgokbfibaa", sum := "5db3475493b6a58285ebf3a89b8f4147533d35fae3d933bddae9286c053b7280", func := "sortition/sortitionlaw14.TimerCancels", spec := "timerCancels", unfollowed := true, recurses := true, apart := false, narrowed := true }
def TimerCancelsUptoSaid : Prop := timerCancelsUptoRow.holds Try.pinned (OpenSpec.upto timerCancelsSpec)

/-- 'sortitionlaw14.TimerSplit', WHERE WHAT IT READS IS OF BULK AT MOST 1048576: true; the input reads as it did. -/
def timerSplitUptoRow : OpenClaim := { program := "ythapokgokbfibaa", sum := "5db3475493b6a58285ebf3a89b8f4147533d35fae3d933bddae9286c053b7280", func := "sortition/sortitionlaw14.TimerSplit", spec := "timerSplit", unfollowed := true, recurses := true, apart := false, narrowed := true }
def TimerSplitUptoSaid : Prop := timerSplitUptoRow.holds Try.pinned (OpenSpec.upto timerSplitSpec)

end Rows
end Go.Proofs.Ythapokgokbfibaa
