/-
  DERIVED. GIVEN WITH THE SEED: THE CARDS: each row of YtmdpendnbkajdaaGreatDoorRows.lean that lists a variable, with what it lists TIED to the program's text (the seventh form; the later family's looks); each row that meets fmt, with fmt's text TOLD by the authors' own Lean function (tested against real Go, not proved from fmt's source: count such statements apart). THE CARD IS WHAT COUNTS. Prove the row's statement (the work); the ties are given (YtmdpendnbkajdaaGreatDoorTie.lean); close each card by the builder's one call (the guide's Derived/Test/ToyasCard.lean, 'card_holds'). Laid BY PROGRAM, IN A SANDBOX (cutbox-door.mjs). By AI agents, Wed Nov 11 2026. No macro, syntax, notation, axiom, sorry.
-/
import Derived.Test.YtmdpendnbkajdaaGreatDoorRows
import GoSem.ClaimSeven
namespace Go.Proofs.YtmdpendnbkajdaaGreatDoor
namespace Rows

/-- THE TIED CARD OF 'sortitionlaw19.ChaseAnswers'. -/
def chaseAnswersCard : Claim7 := { stood := { row := chaseAnswersRow, standIns := [], harness := (true, "b18164ba4f1cd55cd871ad010ac450c83e1a70d08bea1962e8a6bc0c33f349b8"), looks := false }, kinds := [], alts := [], laidByText := true, laidKinds := [.data, .data], laidTests := true, laidLooks := .later }
def ChaseAnswersCardSaid : Prop := Claim7.holds Tryz.pinned (.plain (OpenSpec.ofChange chaseAnswersSpec)) chaseAnswersCard

/-- THE TIED CARD OF 'sortitionlaw19.ChaseTrue'. -/
def chaseTrueCard : Claim7 := { stood := { row := chaseTrueRow, standIns := [], harness := (true, "b18164ba4f1cd55cd871ad010ac450c83e1a70d08bea1962e8a6bc0c33f349b8"), looks := false }, kinds := [], alts := [], laidByText := true, laidKinds := [.data, .data], laidTests := true, laidLooks := .later }
def ChaseTrueCardSaid : Prop := Claim7.holds Tryz.pinned (.plain (OpenSpec.ofChange chaseTrueSpec)) chaseTrueCard

/-- THE SECOND FORM's CARD OF 'sortitionlaw19.ChaseAnswers'. -/
def chaseAnswersUptoCard : Claim7 := { stood := { row := chaseAnswersUptoRow, standIns := [], harness := (true, "b18164ba4f1cd55cd871ad010ac450c83e1a70d08bea1962e8a6bc0c33f349b8"), looks := false }, kinds := [], alts := [], laidByText := true, laidKinds := [.data, .data], laidTests := true, laidLooks := .later }
def ChaseAnswersUptoCardSaid : Prop := Claim7.holds Tryz.pinned (.plain (OpenSpec.upto chaseAnswersSpec)) chaseAnswersUptoCard

/-- THE SECOND FORM's CARD OF 'sortitionlaw19.ChaseTrue'. -/
def chaseTrueUptoCard : Claim7 := { stood := { row := chaseTrueUptoRow, standIns := [], harness := (true, "b18164ba4f1cd55cd871ad010ac450c83e1a70d08bea1962e8a6bc0c33f349b8"), looks := false }, kinds := [], alts := [], laidByText := true, laidKinds := [.data, .data], laidTests := true, laidLooks := .later }
def ChaseTrueUptoCardSaid : Prop := Claim7.holds Tryz.pinned (.plain (OpenSpec.upto chaseTrueSpec)) chaseTrueUptoCard
end Rows
end Go.Proofs.YtmdpendnbkajdaaGreatDoor
