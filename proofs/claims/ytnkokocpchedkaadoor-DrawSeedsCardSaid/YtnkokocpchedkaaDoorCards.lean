/-
  DERIVED. GIVEN WITH THE SEED: THE CARDS: each row of YtnkokocpchedkaaDoorRows.lean that lists a variable, with what it lists TIED to the program's text (the seventh form; the later family's looks); each row that meets fmt, with fmt's text TOLD by the authors' own Lean function (tested against real Go, not proved from fmt's source: count such statements apart). THE CARD IS WHAT COUNTS. Prove the row's statement (the work); the ties are given (YtnkokocpchedkaaDoorTie.lean); close each card by the builder's one call (the guide's Derived/Test/ToyasCard.lean, 'card_holds'). Laid BY PROGRAM, IN A SANDBOX (cutbox-door.mjs). By AI agents, Wed Nov 11 2026. No macro, syntax, notation, axiom, sorry.
-/
import Derived.Test.YtnkokocpchedkaaDoorRows
import GoSem.ClaimSeven
namespace Go.Proofs.YtnkokocpchedkaaDoor
namespace Rows

/-- THE TIED CARD OF 'sortitionlaw20.DrawSeeds'. -/
def drawSeedsCard : Claim7 := { stood := { row := drawSeedsRow, standIns := [], harness := (true, "bbc4389899cfffbb1c130cf359aee3d0851767cf865a2d3278fc1fde30e662a8"), looks := false }, kinds := [], alts := [], laidByText := true, laidKinds := [.data, .data], laidTests := true, laidLooks := .later }
def DrawSeedsCardSaid : Prop := Claim7.holds Tryd.pinned (.plain (OpenSpec.ofChange drawSeedsSpec)) drawSeedsCard

/-- THE SECOND FORM's CARD OF 'sortitionlaw20.DrawSeeds'. -/
def drawSeedsUptoCard : Claim7 := { stood := { row := drawSeedsUptoRow, standIns := [], harness := (true, "bbc4389899cfffbb1c130cf359aee3d0851767cf865a2d3278fc1fde30e662a8"), looks := false }, kinds := [], alts := [], laidByText := true, laidKinds := [.data, .data], laidTests := true, laidLooks := .later }
def DrawSeedsUptoCardSaid : Prop := Claim7.holds Tryd.pinned (.plain (OpenSpec.upto drawSeedsSpec)) drawSeedsUptoCard
end Rows
end Go.Proofs.YtnkokocpchedkaaDoor
