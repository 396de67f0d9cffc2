/-
  DERIVED. GIVEN WITH THE SEED: THE CARDS: each row of YtogippkapadolaaDoorRows.lean that lists a variable, with what it lists TIED to the program's text (the seventh form; the later family's looks); each row that meets fmt, with fmt's text TOLD by the authors' own Lean function (tested against real Go, not proved from fmt's source: count such statements apart). THE CARD IS WHAT COUNTS. Prove the row's statement (the work); the ties are given (YtogippkapadolaaDoorTie.lean); close each card by the builder's one call (the guide's Derived/Test/ToyasCard.lean, 'card_holds'). Laid BY PROGRAM, IN A SANDBOX (cutbox-door.mjs). By AI agents, Wed Nov 11 2026. No macro, syntax, notation, axiom, sorry.
-/
import Derived.Test.YtogippkapadolaaDoorRows
import GoSem.ClaimSeven
namespace Go.Proofs.YtogippkapadolaaDoor
namespace Rows

/-- THE TIED CARD OF 'murmurationlaw20.JsonDeep'. -/
def jsonDeepCard : Claim7 := { stood := { row := jsonDeepRow, standIns := [], harness := (true, "251487f73f3b7323fc8396fd04776e2be3db69c602c320f2e3816737b889e911"), looks := true }, kinds := [], alts := [], laidByText := true, laidKinds := [.data, .data, .data, .sentinel, .sentinel], laidTests := true, laidLooks := .later }
def JsonDeepCardSaid : Prop := Claim7.holds Tryd.pinned (.plain (OpenSpec.ofChange jsonDeepSpec)) jsonDeepCard

/-- THE TIED CARD OF 'murmurationlaw20.JsonTexts'. -/
def jsonTextsCard : Claim7 := { stood := { row := jsonTextsRow, standIns := [], harness := (true, "251487f73f3b7323fc8396fd04776e2be3db69c602c320f2e3816737b889e911"), looks := true }, kinds := [], alts := [], laidByText := true, laidKinds := [.data, .data, .data, .sentinel, .sentinel], laidTests := true, laidLooks := .later }
def JsonTextsCardSaid : Prop := Claim7.holds Tryd.pinned (.plain (OpenSpec.ofChange jsonTextsSpec)) jsonTextsCard

/-- THE TIED CARD OF 'murmurationlaw20.JsonAsks'. -/
def jsonAsksCard : Claim7 := { stood := { row := jsonAsksRow, standIns := [], harness := (true, "251487f73f3b7323fc8396fd04776e2be3db69c602c320f2e3816737b889e911"), looks := true }, kinds := [], alts := [], laidByText := true, laidKinds := [.data, .data, .data, .sentinel, .sentinel], laidTests := true, laidLooks := .later }
def JsonAsksCardSaid : Prop := Claim7.holds Tryd.pinned (.plain (OpenSpec.ofChange jsonAsksSpec)) jsonAsksCard

/-- THE TIED CARD OF 'murmurationlaw20.JsonShows'. -/
def jsonShowsCard : Claim7 := { stood := { row := jsonShowsRow, standIns := [], harness := (true, "251487f73f3b7323fc8396fd04776e2be3db69c602c320f2e3816737b889e911"), looks := true }, kinds := [], alts := [], laidByText := true, laidKinds := [.data, .data, .data, .sentinel, .sentinel], laidTests := true, laidLooks := .later }
def JsonShowsCardSaid : Prop := Claim7.holds Tryd.pinned (.plain (OpenSpec.ofChange jsonShowsSpec)) jsonShowsCard

/-- THE TIED CARD OF 'murmurationlaw20.JsonReads'. -/
def jsonReadsCard : Claim7 := { stood := { row := jsonReadsRow, standIns := [], harness := (true, "251487f73f3b7323fc8396fd04776e2be3db69c602c320f2e3816737b889e911"), looks := true }, kinds := [], alts := [], laidByText := true, laidKinds := [.data, .data, .data, .sentinel, .sentinel], laidTests := true, laidLooks := .later }
def JsonReadsCardSaid : Prop := Claim7.holds Tryd.pinned (.plain (OpenSpec.ofChange jsonReadsSpec)) jsonReadsCard

/-- THE SECOND FORM's CARD OF 'murmurationlaw20.JsonDeep'. -/
def jsonDeepUptoCard : Claim7 := { stood := { row := jsonDeepUptoRow, standIns := [], harness := (true, "251487f73f3b7323fc8396fd04776e2be3db69c602c320f2e3816737b889e911"), looks := true }, kinds := [], alts := [], laidByText := true, laidKinds := [.data, .data, .data, .sentinel, .sentinel], laidTests := true, laidLooks := .later }
def JsonDeepUptoCardSaid : Prop := Claim7.holds Tryd.pinned (.plain (OpenSpec.upto jsonDeepSpec)) jsonDeepUptoCard

/-- THE SECOND FORM's CARD OF 'murmurationlaw20.JsonTexts'. -/
def jsonTextsUptoCard : Claim7 := { stood := { row := jsonTextsUptoRow, standIns := [], harness := (true, "251487f73f3b7323fc8396fd04776e2be3db69c602c320f2e3816737b889e911"), looks := true }, kinds := [], alts := [], laidByText := true, laidKinds := [.data, .data, .data, .sentinel, .sentinel], laidTests := true, laidLooks := .later }
def JsonTextsUptoCardSaid : Prop := Claim7.holds Tryd.pinned (.plain (OpenSpec.upto jsonTextsSpec)) jsonTextsUptoCard

/-- THE SECOND FORM's CARD OF 'murmurationlaw20.JsonAsks'. -/
def jsonAsksUptoCard : Claim7 := { stood := { row := jsonAsksUptoRow, standIns := [], harness := (true, "251487f73f3b7323fc8396fd04776e2be3db69c602c320f2e3816737b889e911"), looks := true }, kinds := [], alts := [], laidByText := true, laidKinds := [.data, .data, .data, .sentinel, .sentinel], laidTests := true, laidLooks := .later }
def JsonAsksUptoCardSaid : Prop := Claim7.holds Tryd.pinned (.plain (OpenSpec.upto jsonAsksSpec)) jsonAsksUptoCard

/-- THE SECOND FORM's CARD OF 'murmurationlaw20.JsonShows'. -/
def jsonShowsUptoCard : Claim7 := { stood := { row := jsonShowsUptoRow, standIns := [], harness := (true, "251487f73f3b7323fc8396fd04776e2be3db69c602c320f2e3816737b889e911"), looks := true }, kinds := [], alts := [], laidByText := true, laidKinds := [.data, .data, .data, .sentinel, .sentinel], laidTests := true, laidLooks := .later }
def JsonShowsUptoCardSaid : Prop := Claim7.holds Tryd.pinned (.plain (OpenSpec.upto jsonShowsSpec)) jsonShowsUptoCard

/-- THE SECOND FORM's CARD OF 'murmurationlaw20.JsonReads'. -/
def jsonReadsUptoCard : Claim7 := { stood := { row := jsonReadsUptoRow, standIns := [], harness := (true, "251487f73f3b7323fc8396fd04776e2be3db69c602c320f2e3816737b889e911"), looks := true }, kinds := [], alts := [], laidByText := true, laidKinds := [.data, .data, .data, .sentinel, .sentinel], laidTests := true, laidLooks := .later }
def JsonReadsUptoCardSaid : Prop := Claim7.holds Tryd.pinned (.plain (OpenSpec.upto jsonReadsSpec)) jsonReadsUptoCard
end Rows
end Go.Proofs.YtogippkapadolaaDoor
