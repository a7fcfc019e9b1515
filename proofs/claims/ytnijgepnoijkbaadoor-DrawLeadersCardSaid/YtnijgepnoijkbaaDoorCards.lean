/-
  DERIVED. GIVEN WITH THE SEED: THE CARDS: each row of YtnijgepnoijkbaaDoorRows.lean that lists a variable, with what it lists TIED to the program's text (the seventh form; the later family's looks); each row that meets fmt, with fmt's text TOLD by the authors' own Lean function (tested against real Go, not proved from fmt's source: count such statements apart). THE CARD IS WHAT COUNTS. Prove the row's statement (the work); the ties are given (YtnijgepnoijkbaaDoorTie.lean); close each card by the builder's one call (the guide's Derived/Test/ToyasCard.lean, 'card_holds'). Laid BY PROGRAM, IN A SANDBOX (cutbox-door.mjs). By AI agents, Wed Nov 11 2026. No macro, syntax, notation, axiom, sorry.
-/
import Derived.Test.YtnijgepnoijkbaaDoorRows
import GoSem.ClaimSeven
namespace Go.Proofs.YtnijgepnoijkbaaDoor
namespace Rows

/-- THE TIED CARD OF 'sortitionlaw20.DrawLeaders'. -/
def drawLeadersCard : Claim7 := { stood := { row := drawLeadersRow, standIns := [], harness := (true, "dd7bcd77fca92a248c6e352f407805b2d7efa005d7252dfa2457e82a74d00efe"), looks := false }, kinds := [], alts := [], laidByText := true, laidKinds := [.data, .data], laidTests := true, laidLooks := .later }
def DrawLeadersCardSaid : Prop := Claim7.holds Tryd.pinned (.plain (OpenSpec.ofChange drawLeadersSpec)) drawLeadersCard

/-- THE TIED CARD OF 'sortitionlaw20.DrawFair'. -/
def drawFairCard : Claim7 := { stood := { row := drawFairRow, standIns := [], harness := (true, "dd7bcd77fca92a248c6e352f407805b2d7efa005d7252dfa2457e82a74d00efe"), looks := false }, kinds := [], alts := [], laidByText := true, laidKinds := [.data, .data], laidTests := true, laidLooks := .later }
def DrawFairCardSaid : Prop := Claim7.holds Tryd.pinned (.plain (OpenSpec.ofChange drawFairSpec)) drawFairCard

/-- THE TIED CARD OF 'sortitionlaw20.DrawBegins'. -/
def drawBeginsCard : Claim7 := { stood := { row := drawBeginsRow, standIns := [], harness := (true, "dd7bcd77fca92a248c6e352f407805b2d7efa005d7252dfa2457e82a74d00efe"), looks := false }, kinds := [], alts := [], laidByText := true, laidKinds := [.data, .data], laidTests := true, laidLooks := .later }
def DrawBeginsCardSaid : Prop := Claim7.holds Tryd.pinned (.plain (OpenSpec.ofChange drawBeginsSpec)) drawBeginsCard

/-- THE TIED CARD OF 'sortitionlaw20.DrawShuffles'. -/
def drawShufflesCard : Claim7 := { stood := { row := drawShufflesRow, standIns := [], harness := (true, "dd7bcd77fca92a248c6e352f407805b2d7efa005d7252dfa2457e82a74d00efe"), looks := false }, kinds := [], alts := [], laidByText := true, laidKinds := [.data, .data], laidTests := true, laidLooks := .later }
def DrawShufflesCardSaid : Prop := Claim7.holds Tryd.pinned (.plain (OpenSpec.ofChange drawShufflesSpec)) drawShufflesCard

/-- THE SECOND FORM's CARD OF 'sortitionlaw20.DrawLeaders'. -/
def drawLeadersUptoCard : Claim7 := { stood := { row := drawLeadersUptoRow, standIns := [], harness := (true, "dd7bcd77fca92a248c6e352f407805b2d7efa005d7252dfa2457e82a74d00efe"), looks := false }, kinds := [], alts := [], laidByText := true, laidKinds := [.data, .data], laidTests := true, laidLooks := .later }
def DrawLeadersUptoCardSaid : Prop := Claim7.holds Tryd.pinned (.plain (OpenSpec.upto drawLeadersSpec)) drawLeadersUptoCard

/-- THE SECOND FORM's CARD OF 'sortitionlaw20.DrawFair'. -/
def drawFairUptoCard : Claim7 := { stood := { row := drawFairUptoRow, standIns := [], harness := (true, "dd7bcd77fca92a248c6e352f407805b2d7efa005d7252dfa2457e82a74d00efe"), looks := false }, kinds := [], alts := [], laidByText := true, laidKinds := [.data, .data], laidTests := true, laidLooks := .later }
def DrawFairUptoCardSaid : Prop := Claim7.holds Tryd.pinned (.plain (OpenSpec.upto drawFairSpec)) drawFairUptoCard

/-- THE SECOND FORM's CARD OF 'sortitionlaw20.DrawBegins'. -/
def drawBeginsUptoCard : Claim7 := { stood := { row := drawBeginsUptoRow, standIns := [], harness := (true, "dd7bcd77fca92a248c6e352f407805b2d7efa005d7252dfa2457e82a74d00efe"), looks := false }, kinds := [], alts := [], laidByText := true, laidKinds := [.data, .data], laidTests := true, laidLooks := .later }
def DrawBeginsUptoCardSaid : Prop := Claim7.holds Tryd.pinned (.plain (OpenSpec.upto drawBeginsSpec)) drawBeginsUptoCard

/-- THE SECOND FORM's CARD OF 'sortitionlaw20.DrawShuffles'. -/
def drawShufflesUptoCard : Claim7 := { stood := { row := drawShufflesUptoRow, standIns := [], harness := (true, "dd7bcd77fca92a248c6e352f407805b2d7efa005d7252dfa2457e82a74d00efe"), looks := false }, kinds := [], alts := [], laidByText := true, laidKinds := [.data, .data], laidTests := true, laidLooks := .later }
def DrawShufflesUptoCardSaid : Prop := Claim7.holds Tryd.pinned (.plain (OpenSpec.upto drawShufflesSpec)) drawShufflesUptoCard
end Rows
end Go.Proofs.YtnijgepnoijkbaaDoor
