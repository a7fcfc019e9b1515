/-
  DERIVED. GIVEN WITH THE SEED: THE CARDS: each row of YtllalpcjfnmibaaDoorRows.lean that lists a variable, with what it lists TIED to the program's text (the seventh form; the later family's looks); each row that meets fmt, with fmt's text TOLD by the authors' own Lean function (tested against real Go, not proved from fmt's source: count such statements apart). THE CARD IS WHAT COUNTS. Prove the row's statement (the work); the ties are given (YtllalpcjfnmibaaDoorTie.lean); close each card by the builder's one call (the guide's Derived/Test/ToyasCard.lean, 'card_holds'). Laid BY PROGRAM, IN A SANDBOX (cutbox-door.mjs). By AI agents, Wed Nov 11 2026. No macro, syntax, notation, axiom, sorry.
-/
import Derived.Test.YtllalpcjfnmibaaDoorRows
import GoSem.ClaimSeven
namespace Go.Proofs.YtllalpcjfnmibaaDoor
namespace Rows

/-- THE TIED CARD OF 'sortitionlaw07.DigestTags'. -/
def digestTagsCard : Claim7 := { stood := { row := digestTagsRow, standIns := [], harness := (true, "da83ef8ae58bc3f2ff65633b7795f7f0fe1e326ad856241177a62465727644a8"), looks := false }, kinds := [], alts := [], laidByText := true, laidKinds := [.data, .data], laidTests := true, laidLooks := .later }
def DigestTagsCardSaid : Prop := Claim7.holds Tryd.pinned (.plain (OpenSpec.ofChange digestTagsSpec)) digestTagsCard

/-- THE TIED CARD OF 'sortitionlaw07.DigestStreams'. -/
def digestStreamsCard : Claim7 := { stood := { row := digestStreamsRow, standIns := [], harness := (true, "da83ef8ae58bc3f2ff65633b7795f7f0fe1e326ad856241177a62465727644a8"), looks := false }, kinds := [], alts := [], laidByText := true, laidKinds := [.data, .data], laidTests := true, laidLooks := .later }
def DigestStreamsCardSaid : Prop := Claim7.holds Tryd.pinned (.plain (OpenSpec.ofChange digestStreamsSpec)) digestStreamsCard

/-- THE TIED CARD OF 'sortitionlaw07.DigestCut'. -/
def digestCutCard : Claim7 := { stood := { row := digestCutRow, standIns := [], harness := (true, "da83ef8ae58bc3f2ff65633b7795f7f0fe1e326ad856241177a62465727644a8"), looks := false }, kinds := [], alts := [], laidByText := true, laidKinds := [.data, .data], laidTests := true, laidLooks := .later }
def DigestCutCardSaid : Prop := Claim7.holds Tryd.pinned (.plain (OpenSpec.ofChange digestCutSpec)) digestCutCard

/-- THE TIED CARD OF 'sortitionlaw07.DigestBelow'. -/
def digestBelowCard : Claim7 := { stood := { row := digestBelowRow, standIns := [], harness := (true, "da83ef8ae58bc3f2ff65633b7795f7f0fe1e326ad856241177a62465727644a8"), looks := false }, kinds := [], alts := [], laidByText := true, laidKinds := [.data, .data], laidTests := true, laidLooks := .later }
def DigestBelowCardSaid : Prop := Claim7.holds Tryd.pinned (.plain (OpenSpec.ofChange digestBelowSpec)) digestBelowCard

/-- THE TIED CARD OF 'sortitionlaw07.DigestShuffles'. -/
def digestShufflesCard : Claim7 := { stood := { row := digestShufflesRow, standIns := [], harness := (true, "da83ef8ae58bc3f2ff65633b7795f7f0fe1e326ad856241177a62465727644a8"), looks := false }, kinds := [], alts := [], laidByText := true, laidKinds := [.data, .data], laidTests := true, laidLooks := .later }
def DigestShufflesCardSaid : Prop := Claim7.holds Tryd.pinned (.plain (OpenSpec.ofChange digestShufflesSpec)) digestShufflesCard

/-- THE TIED CARD OF 'sortitionlaw07.DigestUnlike'. -/
def digestUnlikeCard : Claim7 := { stood := { row := digestUnlikeRow, standIns := [], harness := (true, "da83ef8ae58bc3f2ff65633b7795f7f0fe1e326ad856241177a62465727644a8"), looks := false }, kinds := [], alts := [], laidByText := true, laidKinds := [.data, .data], laidTests := true, laidLooks := .later }
def DigestUnlikeCardSaid : Prop := Claim7.holds Tryd.pinned (.plain (OpenSpec.ofChange digestUnlikeSpec)) digestUnlikeCard

/-- THE TIED CARD OF 'sortitionlaw07.DigestIndexes'. -/
def digestIndexesCard : Claim7 := { stood := { row := digestIndexesRow, standIns := [], harness := (true, "da83ef8ae58bc3f2ff65633b7795f7f0fe1e326ad856241177a62465727644a8"), looks := false }, kinds := [], alts := [], laidByText := true, laidKinds := [.data, .data], laidTests := true, laidLooks := .later }
def DigestIndexesCardSaid : Prop := Claim7.holds Tryd.pinned (.plain (OpenSpec.ofChange digestIndexesSpec)) digestIndexesCard

/-- THE TIED CARD OF 'sortitionlaw07.DigestTwice'. -/
def digestTwiceCard : Claim7 := { stood := { row := digestTwiceRow, standIns := [], harness := (true, "da83ef8ae58bc3f2ff65633b7795f7f0fe1e326ad856241177a62465727644a8"), looks := false }, kinds := [], alts := [], laidByText := true, laidKinds := [.data, .data], laidTests := true, laidLooks := .later }
def DigestTwiceCardSaid : Prop := Claim7.holds Tryd.pinned (.plain (OpenSpec.ofChange digestTwiceSpec)) digestTwiceCard

/-- THE SECOND FORM's CARD OF 'sortitionlaw07.DigestTags'. -/
def digestTagsUptoCard : Claim7 := { stood := { row := digestTagsUptoRow, standIns := [], harness := (true, "da83ef8ae58bc3f2ff65633b7795f7f0fe1e326ad856241177a62465727644a8"), looks := false }, kinds := [], alts := [], laidByText := true, laidKinds := [.data, .data], laidTests := true, laidLooks := .later }
def DigestTagsUptoCardSaid : Prop := Claim7.holds Tryd.pinned (.plain (OpenSpec.upto digestTagsSpec)) digestTagsUptoCard

/-- THE SECOND FORM's CARD OF 'sortitionlaw07.DigestStreams'. -/
def digestStreamsUptoCard : Claim7 := { stood := { row := digestStreamsUptoRow, standIns := [], harness := (true, "da83ef8ae58bc3f2ff65633b7795f7f0fe1e326ad856241177a62465727644a8"), looks := false }, kinds := [], alts := [], laidByText := true, laidKinds := [.data, .data], laidTests := true, laidLooks := .later }
def DigestStreamsUptoCardSaid : Prop := Claim7.holds Tryd.pinned (.plain (OpenSpec.upto digestStreamsSpec)) digestStreamsUptoCard

/-- THE SECOND FORM's CARD OF 'sortitionlaw07.DigestCut'. -/
def digestCutUptoCard : Claim7 := { stood := { row := digestCutUptoRow, standIns := [], harness := (true, "da83ef8ae58bc3f2ff65633b7795f7f0fe1e326ad856241177a62465727644a8"), looks := false }, kinds := [], alts := [], laidByText := true, laidKinds := [.data, .data], laidTests := true, laidLooks := .later }
def DigestCutUptoCardSaid : Prop := Claim7.holds Tryd.pinned (.plain (OpenSpec.upto digestCutSpec)) digestCutUptoCard

/-- THE SECOND FORM's CARD OF 'sortitionlaw07.DigestBelow'. -/
def digestBelowUptoCard : Claim7 := { stood := { row := digestBelowUptoRow, standIns := [], harness := (true, "da83ef8ae58bc3f2ff65633b7795f7f0fe1e326ad856241177a62465727644a8"), looks := false }, kinds := [], alts := [], laidByText := true, laidKinds := [.data, .data], laidTests := true, laidLooks := .later }
def DigestBelowUptoCardSaid : Prop := Claim7.holds Tryd.pinned (.plain (OpenSpec.upto digestBelowSpec)) digestBelowUptoCard

/-- THE SECOND FORM's CARD OF 'sortitionlaw07.DigestShuffles'. -/
def digestShufflesUptoCard : Claim7 := { stood := { row := digestShufflesUptoRow, standIns := [], harness := (true, "da83ef8ae58bc3f2ff65633b7795f7f0fe1e326ad856241177a62465727644a8"), looks := false }, kinds := [], alts := [], laidByText := true, laidKinds := [.data, .data], laidTests := true, laidLooks := .later }
def DigestShufflesUptoCardSaid : Prop := Claim7.holds Tryd.pinned (.plain (OpenSpec.upto digestShufflesSpec)) digestShufflesUptoCard

/-- THE SECOND FORM's CARD OF 'sortitionlaw07.DigestUnlike'. -/
def digestUnlikeUptoCard : Claim7 := { stood := { row := digestUnlikeUptoRow, standIns := [], harness := (true, "da83ef8ae58bc3f2ff65633b7795f7f0fe1e326ad856241177a62465727644a8"), looks := false }, kinds := [], alts := [], laidByText := true, laidKinds := [.data, .data], laidTests := true, laidLooks := .later }
def DigestUnlikeUptoCardSaid : Prop := Claim7.holds Tryd.pinned (.plain (OpenSpec.upto digestUnlikeSpec)) digestUnlikeUptoCard

/-- THE SECOND FORM's CARD OF 'sortitionlaw07.DigestIndexes'. -/
def digestIndexesUptoCard : Claim7 := { stood := { row := digestIndexesUptoRow, standIns := [], harness := (true, "da83ef8ae58bc3f2ff65633b7795f7f0fe1e326ad856241177a62465727644a8"), looks := false }, kinds := [], alts := [], laidByText := true, laidKinds := [.data, .data], laidTests := true, laidLooks := .later }
def DigestIndexesUptoCardSaid : Prop := Claim7.holds Tryd.pinned (.plain (OpenSpec.upto digestIndexesSpec)) digestIndexesUptoCard

/-- THE SECOND FORM's CARD OF 'sortitionlaw07.DigestTwice'. -/
def digestTwiceUptoCard : Claim7 := { stood := { row := digestTwiceUptoRow, standIns := [], harness := (true, "da83ef8ae58bc3f2ff65633b7795f7f0fe1e326ad856241177a62465727644a8"), looks := false }, kinds := [], alts := [], laidByText := true, laidKinds := [.data, .data], laidTests := true, laidLooks := .later }
def DigestTwiceUptoCardSaid : Prop := Claim7.holds Tryd.pinned (.plain (OpenSpec.upto digestTwiceSpec)) digestTwiceUptoCard
end Rows
end Go.Proofs.YtllalpcjfnmibaaDoor
