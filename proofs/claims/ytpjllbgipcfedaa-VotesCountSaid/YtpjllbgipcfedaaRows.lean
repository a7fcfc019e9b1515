/-
  No cell of these rows narrows 'for every input' (looked for: loops, veiled, ifaces, maps, wideKeys, modest, calm, conditions, laid).
  DERIVED. THE GIVEN ROWS OF THIS SEAT. 5 by the template 'for every input the law returns true; each argument reads behind the call as it read before'; 0 by the template 'total and deterministic' (their statements: YtpjllbgipcfedaaTotals.lean).
  GIVEN WITH THE SEED: the statements are not yours to turn. If you find one false, say at which input.
  Laid BY PROGRAM, IN A SANDBOX (cutbox-rows.mjs): the forced cells as the released guide's own fill.sh prints them over the translation 1171f19b7fe683bb… (all of the seat's roots in one cut). By AI agents, Wed Nov 11 2026. No macro, syntax, notation, axiom, sorry.
-/
import Derived.Test.YtpjllbgipcfedaaChecked
import GoSem.Claim
import GoSem.ClaimJoined
import GoSem.ClaimMapViews
import Derived.JoinedTies
import Derived.KernelRfl
namespace Go.Proofs.Ytpjllbgipcfedaa
/- THE CELL 'sum', in the pinned program and in every row, IS THE sha256 OF THE DUMP (.gsa) THAT YtpjllbgipcfedaaProg.lean LOADS. Nothing in Lean hashes anything: it is a label: what it is worth is what the hold of that sum in a sandbox is worth. -/
noncomputable def Try.pinned : Pinned := { name := "ytpjllbgipcfedaa", sum := "1171f19b7fe683bb88a55fabd18fe07b28787dff4c0464ee65d3d4767e3768e0", checked := Try.checked }
namespace Rows
def none {H : Type} : Left H := { results := [], args := [] }

/-- 'sortitionlaw15.VotesCount': WHATEVER THE INPUT: true; the input reads as it did. -/
def votesCountSpec : ChangeSpec := { name := "votesCount", fn := fun _ => fun
  | [d1, d2, d3, d4, d5] => { results := [.lit (.bool true)], args := [d1, d2, d3, d4, d5] }
  | _ => none }
def votesCountRow : OpenClaim := { program := "ytpjllbgipcfedaa", sum := "1171f19b7fe683bb88a55fabd18fe07b28787dff4c0464ee65d3d4767e3768e0", func := "sortition/sortitionlaw15.VotesCount", spec := "votesCount", inPlace := ["math/bits.Add64"], unfollowed := true, recurses := true, plainKeys := false, apart := false }
def VotesCountSaid : Prop := votesCountRow.holds Try.pinned (OpenSpec.ofChange votesCountSpec)

/-- ITS FALSE NEIGHBOUR: 'it returns false'. Refute it at one input. -/
def votesCountWrong : ChangeSpec := { name := "votesCount", fn := fun _ => fun
  | [d1, d2, d3, d4, d5] => { results := [.lit (.bool false)], args := [d1, d2, d3, d4, d5] }
  | _ => none }
def VotesCountWrongFalsely : Prop := votesCountRow.holds Try.pinned (OpenSpec.ofChange votesCountWrong)

/-- 'sortitionlaw15.VotesOne': WHATEVER THE INPUT: true; the input reads as it did. -/
def votesOneSpec : ChangeSpec := { name := "votesOne", fn := fun _ => fun
  | [d1, d2, d3, d4] => { results := [.lit (.bool true)], args := [d1, d2, d3, d4] }
  | _ => none }
def votesOneRow : OpenClaim := { program := "ytpjllbgipcfedaa", sum := "1171f19b7fe683bb88a55fabd18fe07b28787dff4c0464ee65d3d4767e3768e0", func := "sortition/sortitionlaw15.VotesOne", spec := "votesOne", inPlace := ["math/bits.Add64"], unfollowed := true, recurses := true, plainKeys := false, apart := false }
def VotesOneSaid : Prop := votesOneRow.holds Try.pinned (OpenSpec.ofChange votesOneSpec)

/-- ITS FALSE NEIGHBOUR: 'it returns false'. Refute it at one input. -/
def votesOneWrong : ChangeSpec := { name := "votesOne", fn := fun _ => fun
  | [d1, d2, d3, d4] => { results := [.lit (.bool false)], args := [d1, d2, d3, d4] }
  | _ => none }
def VotesOneWrongFalsely : Prop := votesOneRow.holds Try.pinned (OpenSpec.ofChange votesOneWrong)

/-- 'sortitionlaw15.VotesCross': WHATEVER THE INPUT: true; the input reads as it did. -/
def votesCrossSpec : ChangeSpec := { name := "votesCross", fn := fun _ => fun
  | [d1, d2, d3] => { results := [.lit (.bool true)], args := [d1, d2, d3] }
  | _ => none }
def votesCrossRow : OpenClaim := { program := "ytpjllbgipcfedaa", sum := "1171f19b7fe683bb88a55fabd18fe07b28787dff4c0464ee65d3d4767e3768e0", func := "sortition/sortitionlaw15.VotesCross", spec := "votesCross", inPlace := ["math/bits.Add64"], unfollowed := true, recurses := true, plainKeys := false, apart := false }
def VotesCrossSaid : Prop := votesCrossRow.holds Try.pinned (OpenSpec.ofChange votesCrossSpec)

/-- ITS FALSE NEIGHBOUR: 'it returns false'. Refute it at one input. -/
def votesCrossWrong : ChangeSpec := { name := "votesCross", fn := fun _ => fun
  | [d1, d2, d3] => { results := [.lit (.bool false)], args := [d1, d2, d3] }
  | _ => none }
def VotesCrossWrongFalsely : Prop := votesCrossRow.holds Try.pinned (OpenSpec.ofChange votesCrossWrong)

/-- 'sortitionlaw15.VotesTurned': WHATEVER THE INPUT: true; the input reads as it did. -/
def votesTurnedSpec : ChangeSpec := { name := "votesTurned", fn := fun _ => fun
  | [d1, d2, d3] => { results := [.lit (.bool true)], args := [d1, d2, d3] }
  | _ => none }
def votesTurnedRow : OpenClaim := { program := "ytpjllbgipcfedaa", sum := "1171f19b7fe683bb88a55fabd18fe07b28787dff4c0464ee65d3d4767e3768e0", func := "sortition/sortitionlaw15.VotesTurned", spec := "votesTurned", inPlace := ["math/bits.Add64"], unfollowed := true, recurses := true, plainKeys := false, apart := false }
def VotesTurnedSaid : Prop := votesTurnedRow.holds Try.pinned (OpenSpec.ofChange votesTurnedSpec)

/-- ITS FALSE NEIGHBOUR: 'it returns false'. Refute it at one input. -/
def votesTurnedWrong : ChangeSpec := { name := "votesTurned", fn := fun _ => fun
  | [d1, d2, d3] => { results := [.lit (.bool false)], args := [d1, d2, d3] }
  | _ => none }
def VotesTurnedWrongFalsely : Prop := votesTurnedRow.holds Try.pinned (OpenSpec.ofChange votesTurnedWrong)

/-- 'sortitionlaw15.VotesGrow': WHATEVER THE INPUT: true; the input reads as it did. -/
def votesGrowSpec : ChangeSpec := { name := "votesGrow", fn := fun _ => fun
  | [d1, d2, d3] => { results := [.lit (.bool true)], args := [d1, d2, d3] }
  | _ => none }
def votesGrowRow : OpenClaim := { program := "ytpjllbgipcfedaa", sum := "1171f19b7fe683bb88a55fabd18fe07b28787dff4c0464ee65d3d4767e3768e0", func := "sortition/sortitionlaw15.VotesGrow", spec := "votesGrow", inPlace := ["math/bits.Add64"], unfollowed := true, recurses := true, plainKeys := false, apart := false }
def VotesGrowSaid : Prop := votesGrowRow.holds Try.pinned (OpenSpec.ofChange votesGrowSpec)

/-- ITS FALSE NEIGHBOUR: 'it returns false'. Refute it at one input. -/
def votesGrowWrong : ChangeSpec := { name := "votesGrow", fn := fun _ => fun
  | [d1, d2, d3] => { results := [.lit (.bool false)], args := [d1, d2, d3] }
  | _ => none }
def VotesGrowWrongFalsely : Prop := votesGrowRow.holds Try.pinned (OpenSpec.ofChange votesGrowWrong)

/- THE SECOND FORM. 'bulk': how many values and letters a reading holds, each counted each time it is reached (what is shared counts as often as it is met; a slice's spare places count too). A statement '..UptoSaid' is the law's where the arguments, and the package variables that the reading takes, are together of bulk at most 1048576: NARROWER than '..Said'. Prove '..Said' where nothing that the law and all that it calls make is longer than what came in: it says more and counts as full. Else prove '..UptoSaid'. A law counts once. -/
mutual
def uptoBulk {H : Type} : DataW H → Nat
  | .lit (.string bytes) => bytes.length + 1
  | .lit _ => 1
  | .nil => 1
  | .ptr d => uptoBulk d + 1
  | .slice elems spare => uptoBulkAll elems + uptoBulkAll spare + 1
  | .agg parts => uptoBulkAll parts + 1
  | .iface _ d => uptoBulk d + 1
  | .map entries => uptoBulkEntries entries + 1
  | .held _ => 1
def uptoBulkAll {H : Type} : List (DataW H) → Nat
  | [] => 0
  | d :: r => uptoBulk d + uptoBulkAll r
def uptoBulkEntries {H : Type} : List (Lit × DataW H) → Nat
  | [] => 0
  | x :: r => uptoBulkEntry x + uptoBulkEntries r
def uptoBulkEntry {H : Type} : Lit × DataW H → Nat
  | (.string bytes, d) => bytes.length + uptoBulk d + 1
  | (_, d) => uptoBulk d + 1
 end
def uptoSmall : (H : Type) → List (DataW H) → Bool := fun _ ds => decide (uptoBulkAll ds ≤ 1048576)
def OpenSpec.upto (s : _root_.Go.ChangeSpec) : _root_.Go.OpenSpec := { _root_.Go.OpenSpec.ofChange s with cond := some uptoSmall }

/-- 'sortitionlaw15.VotesCount', WHERE WHAT IT READS IS OF BULK AT MOST 1048576: true; the input reads as it did. -/
def votesCountUptoRow : OpenClaim := { program := "ytpjllbgipcfedaa", sum := "1171f19b7fe683bb88a55fabd18fe07b28787dff4c0464ee65d3d4767e3768e0", func := "sortition/sortitionlaw15.VotesCount", spec := "votesCount", inPlace := ["math/bits.Add64"], unfollowed := true, recurses := true, plainKeys := false, apart := false, narrowed := true }
def VotesCountUptoSaid : Prop := votesCountUptoRow.holds Try.pinned (OpenSpec.upto votesCountSpec)

/-- 'sortitionlaw15.VotesOne', WHERE WHAT IT READS IS OF BULK AT MOST 1048576: true; the input reads as it did. -/
def votesOneUptoRow : OpenClaim := { program := "ytpjllbgipcfedaa", sum := "1171f19b7fe683bb88a55fabd18fe07b28787dff4c0464ee65d3d4767e3768e0", func := "sortition/sortitionlaw15.VotesOne", spec := "votesOne", inPlace := ["math/bits.Add64"], unfollowed := true, recurses := true, plainKeys := false, apart := false, narrowed := true }
def VotesOneUptoSaid : Prop := votesOneUptoRow.holds Try.pinned (OpenSpec.upto votesOneSpec)

/-- 'sortitionlaw15.VotesCross', WHERE WHAT IT READS IS OF BULK AT MOST 1048576: true; the input reads as it did. -/
def votesCrossUptoRow : OpenClaim := { program := "ytpjllbgipcfedaa", sum := "1171f19b7fe683bb88a55fabd18fe07b28787dff4c0464ee65d3d4767e3768e0", func := "sortition/sortitionlaw15.VotesCross", spec := "votesCross", inPlace := ["math/bits.Add64"], unfollowed := true, recurses := true, plainKeys := false, apart := false, narrowed := true }
def VotesCrossUptoSaid : Prop := votesCrossUptoRow.holds Try.pinned (OpenSpec.upto votesCrossSpec)

/-- 'sortitionlaw15.VotesTurned', WHERE WHAT IT READS IS OF BULK AT MOST 1048576: true; the input reads as it did. -/
def votesTurnedUptoRow : OpenClaim := { program := "ytpjllbgipcfedaa", sum := "1171f19b7fe683bb88a55fabd18fe07b28787dff4c0464ee65d3d4767e3768e0", func := "sortition/sortitionlaw15.VotesTurned", spec := "votesTurned", inPlace := ["math/bits.Add64"], unfollowed := true, recurses := true, plainKeys := false, apart := false, narrowed := true }
def VotesTurnedUptoSaid : Prop := votesTurnedUptoRow.holds Try.pinned (OpenSpec.upto votesTurnedSpec)

/-- 'sortitionlaw15.VotesGrow', WHERE WHAT IT READS IS OF BULK AT MOST 1048576: true; the input reads as it did. -/
def votesGrowUptoRow : OpenClaim := { program := "ytpjllbgipcfedaa", sum := "1171f19b7fe683bb88a55fabd18fe07b28787dff4c0464ee65d3d4767e3768e0", func := "sortition/sortitionlaw15.VotesGrow", spec := "votesGrow", inPlace := ["math/bits.Add64"], unfollowed := true, recurses := true, plainKeys := false, apart := false, narrowed := true }
def VotesGrowUptoSaid : Prop := votesGrowUptoRow.holds Try.pinned (OpenSpec.upto votesGrowSpec)

end Rows
end Go.Proofs.Ytpjllbgipcfedaa
