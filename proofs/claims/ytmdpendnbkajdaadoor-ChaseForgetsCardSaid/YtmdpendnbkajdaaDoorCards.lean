/-
  DERIVED. GIVEN WITH THE SEED: THE CARDS: each row of YtmdpendnbkajdaaDoorRows.lean that lists a variable, with what it lists TIED to the program's text (the seventh form; the later family's looks); each row that meets fmt, with fmt's text TOLD by the authors' own Lean function (tested against real Go, not proved from fmt's source: count such statements apart). THE CARD IS WHAT COUNTS. Prove the row's statement (the work); the ties are given (YtmdpendnbkajdaaDoorTie.lean); close each card by the builder's one call (the guide's Derived/Test/ToyasCard.lean, 'card_holds'). Laid BY PROGRAM, IN A SANDBOX (cutbox-door.mjs). By AI agents, Wed Nov 11 2026. No macro, syntax, notation, axiom, sorry.
-/
import Derived.Test.YtmdpendnbkajdaaDoorRows
import GoSem.ClaimSeven
namespace Go.Proofs.YtmdpendnbkajdaaDoor
namespace Rows

/-- THE TIED CARD OF 'sortitionlaw19.ChaseTurned'. -/
def chaseTurnedCard : Claim7 := { stood := { row := chaseTurnedRow, standIns := [], harness := (true, "2121218860e0e97104fae993c6014bc5e135ca19134066226052512be6bb9923"), looks := false }, kinds := [], alts := [], laidByText := true, laidKinds := [.data, .data], laidTests := true, laidLooks := .later }
def ChaseTurnedCardSaid : Prop := Claim7.holds Tryd.pinned (.plain (OpenSpec.ofChange chaseTurnedSpec)) chaseTurnedCard

/-- THE TIED CARD OF 'sortitionlaw19.ChaseForgets'. -/
def chaseForgetsCard : Claim7 := { stood := { row := chaseForgetsRow, standIns := [], harness := (true, "2121218860e0e97104fae993c6014bc5e135ca19134066226052512be6bb9923"), looks := false }, kinds := [], alts := [], laidByText := true, laidKinds := [.data, .data], laidTests := true, laidLooks := .later }
def ChaseForgetsCardSaid : Prop := Claim7.holds Tryd.pinned (.plain (OpenSpec.ofChange chaseForgetsSpec)) chaseForgetsCard

/-- THE SECOND FORM's CARD OF 'sortitionlaw19.ChaseTurned'. -/
def chaseTurnedUptoCard : Claim7 := { stood := { row := chaseTurnedUptoRow, standIns := [], harness := (true, "2121218860e0e97104fae993c6014bc5e135ca19134066226052512be6bb9923"), looks := false }, kinds := [], alts := [], laidByText := true, laidKinds := [.data, .data], laidTests := true, laidLooks := .later }
def ChaseTurnedUptoCardSaid : Prop := Claim7.holds Tryd.pinned (.plain (OpenSpec.upto chaseTurnedSpec)) chaseTurnedUptoCard

/-- THE SECOND FORM's CARD OF 'sortitionlaw19.ChaseForgets'. -/
def chaseForgetsUptoCard : Claim7 := { stood := { row := chaseForgetsUptoRow, standIns := [], harness := (true, "2121218860e0e97104fae993c6014bc5e135ca19134066226052512be6bb9923"), looks := false }, kinds := [], alts := [], laidByText := true, laidKinds := [.data, .data], laidTests := true, laidLooks := .later }
def ChaseForgetsUptoCardSaid : Prop := Claim7.holds Tryd.pinned (.plain (OpenSpec.upto chaseForgetsSpec)) chaseForgetsUptoCard
end Rows
end Go.Proofs.YtmdpendnbkajdaaDoor
