/-
  No cell of these rows narrows 'for every input' (looked for: loops, veiled, ifaces, maps, wideKeys, modest, calm, conditions, laid).
  DERIVED. THE GIVEN ROWS OF THIS SEAT. 4 by the template 'for every input the law returns true; each argument reads behind the call as it read before'; 0 by the template 'total and deterministic' (their statements: YtchkbchbfilipaaTotals.lean).
  GIVEN WITH THE SEED: the statements are not yours to turn. If you find one false, say at which input.
  Laid BY PROGRAM, IN A SANDBOX (cutbox-rows.mjs): the forced cells as the released guide's own fill.sh prints them over the translation bbb2c5755fa1a1f4… (all of the seat's roots in one cut). By AI agents, Wed Nov 11 2026. No macro, syntax, notation, axiom, sorry.
-/
import Derived.Test.YtchkbchbfilipaaChecked
import GoSem.Claim
import GoSem.ClaimJoined
import GoSem.ClaimMapViews
import Derived.JoinedTies
import Derived.KernelRfl
namespace Go.Proofs.Ytchkbchbfilipaa
/- THE CELL 'sum', in the pinned program and in every row, IS THE sha256 OF THE DUMP (.gsa) THAT YtchkbchbfilipaaProg.lean LOADS. Nothing in Lean hashes anything: it is a label: what it is worth is what the hold of that sum in a sandbox is worth. -/
noncomputable def Try.pinned : Pinned := { name := "ytchkbchbfilipaa", sum := "bbb2c5755fa1a1f4d67bdb1161c888e69f864588e25b7b59656c10dd33bb776b", checked := Try.checked }
namespace Rows
def none {H : Type} : Left H := { results := [], args := [] }

/-- 'sortitionlaw13.StakePlays': WHATEVER THE INPUT: true; the input reads as it did. -/
def stakePlaysSpec : ChangeSpec := { name := "stakePlays", fn := fun _ => fun
  | [d1, d2, d3] => { results := [.lit (.bool true)], args := [d1, d2, d3] }
  | _ => none }
def stakePlaysRow : OpenClaim := { program := "ytchkbchbfilipaa", sum := "bbb2c5755fa1a1f4d67bdb1161c888e69f864588e25b7b59656c10dd33bb776b", func := "sortition/sortitionlaw13.StakePlays", spec := "stakePlays", inPlace := ["math/bits.Add64", "math/bits.Sub64"], unfollowed := true, recurses := true, apart := false }
def StakePlaysSaid : Prop := stakePlaysRow.holds Try.pinned (OpenSpec.ofChange stakePlaysSpec)

/-- ITS FALSE NEIGHBOUR: 'it returns false'. Refute it at one input. -/
def stakePlaysWrong : ChangeSpec := { name := "stakePlays", fn := fun _ => fun
  | [d1, d2, d3] => { results := [.lit (.bool false)], args := [d1, d2, d3] }
  | _ => none }
def StakePlaysWrongFalsely : Prop := stakePlaysRow.holds Try.pinned (OpenSpec.ofChange stakePlaysWrong)

/-- 'sortitionlaw13.StakeStays': WHATEVER THE INPUT: true; the input reads as it did. -/
def stakeStaysSpec : ChangeSpec := { name := "stakeStays", fn := fun _ => fun
  | [d1, d2, d3] => { results := [.lit (.bool true)], args := [d1, d2, d3] }
  | _ => none }
def stakeStaysRow : OpenClaim := { program := "ytchkbchbfilipaa", sum := "bbb2c5755fa1a1f4d67bdb1161c888e69f864588e25b7b59656c10dd33bb776b", func := "sortition/sortitionlaw13.StakeStays", spec := "stakeStays", inPlace := ["math/bits.Add64", "math/bits.Sub64"], unfollowed := true, recurses := true, apart := false }
def StakeStaysSaid : Prop := stakeStaysRow.holds Try.pinned (OpenSpec.ofChange stakeStaysSpec)

/-- ITS FALSE NEIGHBOUR: 'it returns false'. Refute it at one input. -/
def stakeStaysWrong : ChangeSpec := { name := "stakeStays", fn := fun _ => fun
  | [d1, d2, d3] => { results := [.lit (.bool false)], args := [d1, d2, d3] }
  | _ => none }
def StakeStaysWrongFalsely : Prop := stakeStaysRow.holds Try.pinned (OpenSpec.ofChange stakeStaysWrong)

/-- 'sortitionlaw13.StakeWaits': WHATEVER THE INPUT: true; the input reads as it did. -/
def stakeWaitsSpec : ChangeSpec := { name := "stakeWaits", fn := fun _ => fun
  | [d1, d2, d3] => { results := [.lit (.bool true)], args := [d1, d2, d3] }
  | _ => none }
def stakeWaitsRow : OpenClaim := { program := "ytchkbchbfilipaa", sum := "bbb2c5755fa1a1f4d67bdb1161c888e69f864588e25b7b59656c10dd33bb776b", func := "sortition/sortitionlaw13.StakeWaits", spec := "stakeWaits", inPlace := ["math/bits.Add64", "math/bits.Sub64"], unfollowed := true, recurses := true, apart := false }
def StakeWaitsSaid : Prop := stakeWaitsRow.holds Try.pinned (OpenSpec.ofChange stakeWaitsSpec)

/-- ITS FALSE NEIGHBOUR: 'it returns false'. Refute it at one input. -/
def stakeWaitsWrong : ChangeSpec := { name := "stakeWaits", fn := fun _ => fun
  | [d1, d2, d3] => { results := [.lit (.bool false)], args := [d1, d2, d3] }
  | _ => none }
def StakeWaitsWrongFalsely : Prop := stakeWaitsRow.holds Try.pinned (OpenSpec.ofChange stakeWaitsWrong)

/-- 'sortitionlaw13.StakeApart': WHATEVER THE INPUT: true; the input reads as it did. -/
def stakeApartSpec : ChangeSpec := { name := "stakeApart", fn := fun _ => fun
  | [d1, d2, d3, d4] => { results := [.lit (.bool true)], args := [d1, d2, d3, d4] }
  | _ => none }
def stakeApartRow : OpenClaim := { program := "ytchkbchbfilipaa", sum := "bbb2c5755fa1a1f4d67bdb1161c888e69f864588e25b7b59656c10dd33bb776b", func := "sortition/sortitionlaw13.StakeApart", spec := "stakeApart", inPlace := ["math/bits.Add64", "math/bits.Sub64"], unfollowed := true, recurses := true, apart := false }
def StakeApartSaid : Prop := stakeApartRow.holds Try.pinned (OpenSpec.ofChange stakeApartSpec)

/-- ITS FALSE NEIGHBOUR: 'it returns false'. Refute it at one input. -/
def stakeApartWrong : ChangeSpec := { name := "stakeApart", fn := fun _ => fun
  | [d1, d2, d3, d4] => { results := [.lit (.bool false)], args := [d1, d2, d3, d4] }
  | _ => none }
def StakeApartWrongFalsely : Prop := stakeApartRow.holds Try.pinned (OpenSpec.ofChange stakeApartWrong)

/- THE SECOND FORM. 'bulk': how many values and letters a reading holds, each counted each time it is reached (what is shared counts as often as it is met; a slice's spare places count too). A statement '..UptoSaid' is the law's where the arguments, and the package variables that the reading takes, are together of bulk at most 1048576: NARROWER than '..Said'. Prove '..Said' where nothing that the law and all that it calls make is longer than what came in: it says more and counts as full. Else prove '..UptoSaid'. A law counts once. -/
mutual
def uptoBulk {H : Type} : DataW H → Nat
  | .lit (.string bytes) => bytes.length + 1
  | .lit _ => 1
  | .nil => 1
  | .ptr d => uptoBulk d + 1
  | .slice elems spare => uptoBulkAll elems + uptoBulkAll spare + 1
  | .agg parts => uptoBulkAll parts + 1
  | .iface _ d => uptoBulk d + 1
  | .map entries => uptoBulkEntries entries + 1
  | .held _ => 1
def uptoBulkAll {H : Type} : List (DataW H) → Nat
  | [] => 0
  | d :: r => uptoBulk d + uptoBulkAll r
def uptoBulkEntries {H : Type} : List (Lit × DataW H) → Nat
  | [] => 0
  | x :: r => uptoBulkEntry x + uptoBulkEntries r
def uptoBulkEntry {H : Type} : Lit × DataW H → Nat
  | (.string bytes, d) => bytes.length + uptoBulk d + 1
  | (_, d) => uptoBulk d + 1
 end
def uptoSmall : (H : Type) → List (DataW H) → Bool := fun _ ds => decide (uptoBulkAll ds ≤ 1048576)
def OpenSpec.upto (s : _root_.Go.ChangeSpec) : _root_.Go.OpenSpec := { _root_.Go.OpenSpec.ofChange s with cond := some uptoSmall }

/-- 'sortitionlaw13.StakePlays', WHERE WHAT IT READS IS OF BULK AT MOST 1048576: true; the input reads as it did. -/
def stakePlaysUptoRow : OpenClaim := { program := "ytchkbchbfilipaa", sum := "bbb2c5755fa1a1f4d67bdb1161c888e69f864588e25b7b59656c10dd33bb776b", func := "sortition/sortitionlaw13.StakePlays", spec := "stakePlays", inPlace := ["math/bits.Add64", "math/bits.Sub64"], unfollowed := true, recurses := true, apart := false, narrowed := true }
def StakePlaysUptoSaid : Prop := stakePlaysUptoRow.holds Try.pinned (OpenSpec.upto stakePlaysSpec)

/-- 'sortitionlaw13.StakeStays', WHERE WHAT IT READS IS OF BULK AT MOST 1048576: true; the input reads as it did. -/
def stakeStaysUptoRow : OpenClaim := { program := "ytchkbchbfilipaa", sum := "bbb2c5755fa1a1f4d67bdb1161c888e69f864588e25b7b59656c10dd33bb776b", func := "sortition/sortitionlaw13.StakeStays", spec := "stakeStays", inPlace := ["math/bits.Add64", "math/bits.Sub64"], unfollowed := true, recurses := true, apart := false, narrowed := true }
def StakeStaysUptoSaid : Prop := stakeStaysUptoRow.holds Try.pinned (OpenSpec.upto stakeStaysSpec)

/-- 'sortitionlaw13.StakeWaits', WHERE WHAT IT READS IS OF BULK AT MOST 1048576: true; the input reads as it did. -/
def stakeWaitsUptoRow : OpenClaim := { program := "ytchkbchbfilipaa", sum := "bbb2c5755fa1a1f4d67bdb1161c888e69f864588e25b7b59656c10dd33bb776b", func := "sortition/sortitionlaw13.StakeWaits", spec := "stakeWaits", inPlace := ["math/bits.Add64", "math/bits.Sub64"], unfollowed := true, recurses := true, apart := false, narrowed := true }
def StakeWaitsUptoSaid : Prop := stakeWaitsUptoRow.holds Try.pinned (OpenSpec.upto stakeWaitsSpec)

/-- 'sortitionlaw13.StakeApart', WHERE WHAT IT READS IS OF BULK AT MOST 1048576: true; the input reads as it did. -/
def stakeApartUptoRow : OpenClaim := { program := "ytchkbchbfilipaa", sum := "bbb2c5755fa1a1f4d67bdb1161c888e69f864588e25b7b59656c10dd33bb776b", func := "sortition/sortitionlaw13.StakeApart", spec := "stakeApart", inPlace := ["math/bits.Add64", "math/bits.Sub64"], unfollowed := true, recurses := true, apart := false, narrowed := true }
def StakeApartUptoSaid : Prop := stakeApartUptoRow.holds Try.pinned (OpenSpec.upto stakeApartSpec)

end Rows
end Go.Proofs.Ytchkbchbfilipaa
