/-
  DERIVED. GIVEN WITH THE SEED: THE CARDS: each row of YtfmmholkeadejaaGreatDoorRows.lean that lists a variable, with what it lists TIED to the program's text (the seventh form; the later family's looks); each row that meets fmt, with fmt's text TOLD by the authors' own Lean function (tested against real Go, not proved from fmt's source: count such statements apart). THE CARD IS WHAT COUNTS. Prove the row's statement (the work); the ties are given (YtfmmholkeadejaaGreatDoorTie.lean); close each card by the builder's one call (the guide's Derived/Test/ToyasCard.lean, 'card_holds'). Laid BY PROGRAM, IN A SANDBOX (cutbox-door.mjs). By AI agents, Wed Nov 11 2026. No macro, syntax, notation, axiom, sorry.
-/
import Derived.Test.YtfmmholkeadejaaGreatDoorRows
import GoSem.ClaimSeven
namespace Go.Proofs.YtfmmholkeadejaaGreatDoor
namespace Rows

/-- THE TIED CARD OF 'murmurationlaw04.CaskNil'. -/
def caskNilCard : Claim7 := { stood := { row := caskNilRow, standIns := [], harness := (true, "2182423058f21bf798e62ce16ceeb0f4266e2221f524ae0a03d06db815184073"), looks := true }, kinds := [], alts := [], laidByText := true, laidKinds := [.data, .data, .data], laidTests := true, laidLooks := .later }
def CaskNilCardSaid : Prop := Claim7.holds Tryz.pinned (.plain (OpenSpec.ofChange caskNilSpec)) caskNilCard

/-- THE TIED CARD OF 'murmurationlaw04.CaskKeeps'. -/
def caskKeepsCard : Claim7 := { stood := { row := caskKeepsRow, standIns := [], harness := (true, "2182423058f21bf798e62ce16ceeb0f4266e2221f524ae0a03d06db815184073"), looks := true }, kinds := [], alts := [], laidByText := true, laidKinds := [.data, .data, .data], laidTests := true, laidLooks := .later }
def CaskKeepsCardSaid : Prop := Claim7.holds Tryz.pinned (.plain (OpenSpec.ofChange caskKeepsSpec)) caskKeepsCard

/-- THE TIED CARD OF 'murmurationlaw04.CaskTurned'. -/
def caskTurnedCard : Claim7 := { stood := { row := caskTurnedRow, standIns := [], harness := (true, "2182423058f21bf798e62ce16ceeb0f4266e2221f524ae0a03d06db815184073"), looks := true }, kinds := [], alts := [], laidByText := true, laidKinds := [.data, .data, .data], laidTests := true, laidLooks := .later }
def CaskTurnedCardSaid : Prop := Claim7.holds Tryz.pinned (.plain (OpenSpec.ofChange caskTurnedSpec)) caskTurnedCard

/-- THE TIED CARD OF 'murmurationlaw04.CaskTwo'. -/
def caskTwoCard : Claim7 := { stood := { row := caskTwoRow, standIns := [], harness := (true, "2182423058f21bf798e62ce16ceeb0f4266e2221f524ae0a03d06db815184073"), looks := true }, kinds := [], alts := [], laidByText := true, laidKinds := [.data, .data, .data], laidTests := true, laidLooks := .later }
def CaskTwoCardSaid : Prop := Claim7.holds Tryz.pinned (.plain (OpenSpec.ofChange caskTwoSpec)) caskTwoCard

/-- THE TIED CARD OF 'murmurationlaw04.CaskLast'. -/
def caskLastCard : Claim7 := { stood := { row := caskLastRow, standIns := [], harness := (true, "2182423058f21bf798e62ce16ceeb0f4266e2221f524ae0a03d06db815184073"), looks := true }, kinds := [], alts := [], laidByText := true, laidKinds := [.data, .data, .data], laidTests := true, laidLooks := .later }
def CaskLastCardSaid : Prop := Claim7.holds Tryz.pinned (.plain (OpenSpec.ofChange caskLastSpec)) caskLastCard

/-- THE TIED CARD OF 'murmurationlaw04.CaskFull'. -/
def caskFullCard : Claim7 := { stood := { row := caskFullRow, standIns := [], harness := (true, "2182423058f21bf798e62ce16ceeb0f4266e2221f524ae0a03d06db815184073"), looks := true }, kinds := [], alts := [], laidByText := true, laidKinds := [.data, .data, .data], laidTests := true, laidLooks := .later }
def CaskFullCardSaid : Prop := Claim7.holds Tryz.pinned (.plain (OpenSpec.ofChange caskFullSpec)) caskFullCard

/-- THE TIED CARD OF 'murmurationlaw05.SquashNil'. -/
def squashNilCard : Claim7 := { stood := { row := squashNilRow, standIns := [], harness := (true, "2182423058f21bf798e62ce16ceeb0f4266e2221f524ae0a03d06db815184073"), looks := true }, kinds := [], alts := [], laidByText := true, laidKinds := [.data, .data, .data], laidTests := true, laidLooks := .later }
def SquashNilCardSaid : Prop := Claim7.holds Tryz.pinned (.plain (OpenSpec.ofChange squashNilSpec)) squashNilCard

/-- THE TIED CARD OF 'murmurationlaw05.SquashTwo'. -/
def squashTwoCard : Claim7 := { stood := { row := squashTwoRow, standIns := [], harness := (true, "2182423058f21bf798e62ce16ceeb0f4266e2221f524ae0a03d06db815184073"), looks := true }, kinds := [], alts := [], laidByText := true, laidKinds := [.data, .data, .data], laidTests := true, laidLooks := .later }
def SquashTwoCardSaid : Prop := Claim7.holds Tryz.pinned (.plain (OpenSpec.ofChange squashTwoSpec)) squashTwoCard

/-- THE TIED CARD OF 'murmurationlaw05.SquashOnce'. -/
def squashOnceCard : Claim7 := { stood := { row := squashOnceRow, standIns := [], harness := (true, "2182423058f21bf798e62ce16ceeb0f4266e2221f524ae0a03d06db815184073"), looks := true }, kinds := [], alts := [], laidByText := true, laidKinds := [.data, .data, .data], laidTests := true, laidLooks := .later }
def SquashOnceCardSaid : Prop := Claim7.holds Tryz.pinned (.plain (OpenSpec.ofChange squashOnceSpec)) squashOnceCard

/-- THE TIED CARD OF 'murmurationlaw05.SquashCounts'. -/
def squashCountsCard : Claim7 := { stood := { row := squashCountsRow, standIns := [], harness := (true, "2182423058f21bf798e62ce16ceeb0f4266e2221f524ae0a03d06db815184073"), looks := true }, kinds := [], alts := [], laidByText := true, laidKinds := [.data, .data, .data], laidTests := true, laidLooks := .later }
def SquashCountsCardSaid : Prop := Claim7.holds Tryz.pinned (.plain (OpenSpec.ofChange squashCountsSpec)) squashCountsCard

/-- THE TIED CARD OF 'murmurationlaw05.SquashLess'. -/
def squashLessCard : Claim7 := { stood := { row := squashLessRow, standIns := [], harness := (true, "2182423058f21bf798e62ce16ceeb0f4266e2221f524ae0a03d06db815184073"), looks := true }, kinds := [], alts := [], laidByText := true, laidKinds := [.data, .data, .data], laidTests := true, laidLooks := .later }
def SquashLessCardSaid : Prop := Claim7.holds Tryz.pinned (.plain (OpenSpec.ofChange squashLessSpec)) squashLessCard

/-- THE TIED CARD OF 'murmurationlaw05.SquashKeeps'. -/
def squashKeepsCard : Claim7 := { stood := { row := squashKeepsRow, standIns := [], harness := (true, "2182423058f21bf798e62ce16ceeb0f4266e2221f524ae0a03d06db815184073"), looks := true }, kinds := [], alts := [], laidByText := true, laidKinds := [.data, .data, .data], laidTests := true, laidLooks := .later }
def SquashKeepsCardSaid : Prop := Claim7.holds Tryz.pinned (.plain (OpenSpec.ofChange squashKeepsSpec)) squashKeepsCard

/-- THE SECOND FORM's CARD OF 'murmurationlaw04.CaskNil'. -/
def caskNilUptoCard : Claim7 := { stood := { row := caskNilUptoRow, standIns := [], harness := (true, "2182423058f21bf798e62ce16ceeb0f4266e2221f524ae0a03d06db815184073"), looks := true }, kinds := [], alts := [], laidByText := true, laidKinds := [.data, .data, .data], laidTests := true, laidLooks := .later }
def CaskNilUptoCardSaid : Prop := Claim7.holds Tryz.pinned (.plain (OpenSpec.upto caskNilSpec)) caskNilUptoCard

/-- THE SECOND FORM's CARD OF 'murmurationlaw04.CaskKeeps'. -/
def caskKeepsUptoCard : Claim7 := { stood := { row := caskKeepsUptoRow, standIns := [], harness := (true, "2182423058f21bf798e62ce16ceeb0f4266e2221f524ae0a03d06db815184073"), looks := true }, kinds := [], alts := [], laidByText := true, laidKinds := [.data, .data, .data], laidTests := true, laidLooks := .later }
def CaskKeepsUptoCardSaid : Prop := Claim7.holds Tryz.pinned (.plain (OpenSpec.upto caskKeepsSpec)) caskKeepsUptoCard

/-- THE SECOND FORM's CARD OF 'murmurationlaw04.CaskTurned'. -/
def caskTurnedUptoCard : Claim7 := { stood := { row := caskTurnedUptoRow, standIns := [], harness := (true, "2182423058f21bf798e62ce16ceeb0f4266e2221f524ae0a03d06db815184073"), looks := true }, kinds := [], alts := [], laidByText := true, laidKinds := [.data, .data, .data], laidTests := true, laidLooks := .later }
def CaskTurnedUptoCardSaid : Prop := Claim7.holds Tryz.pinned (.plain (OpenSpec.upto caskTurnedSpec)) caskTurnedUptoCard

/-- THE SECOND FORM's CARD OF 'murmurationlaw04.CaskTwo'. -/
def caskTwoUptoCard : Claim7 := { stood := { row := caskTwoUptoRow, standIns := [], harness := (true, "2182423058f21bf798e62ce16ceeb0f4266e2221f524ae0a03d06db815184073"), looks := true }, kinds := [], alts := [], laidByText := true, laidKinds := [.data, .data, .data], laidTests := true, laidLooks := .later }
def CaskTwoUptoCardSaid : Prop := Claim7.holds Tryz.pinned (.plain (OpenSpec.upto caskTwoSpec)) caskTwoUptoCard

/-- THE SECOND FORM's CARD OF 'murmurationlaw04.CaskLast'. -/
def caskLastUptoCard : Claim7 := { stood := { row := caskLastUptoRow, standIns := [], harness := (true, "2182423058f21bf798e62ce16ceeb0f4266e2221f524ae0a03d06db815184073"), looks := true }, kinds := [], alts := [], laidByText := true, laidKinds := [.data, .data, .data], laidTests := true, laidLooks := .later }
def CaskLastUptoCardSaid : Prop := Claim7.holds Tryz.pinned (.plain (OpenSpec.upto caskLastSpec)) caskLastUptoCard

/-- THE SECOND FORM's CARD OF 'murmurationlaw04.CaskFull'. -/
def caskFullUptoCard : Claim7 := { stood := { row := caskFullUptoRow, standIns := [], harness := (true, "2182423058f21bf798e62ce16ceeb0f4266e2221f524ae0a03d06db815184073"), looks := true }, kinds := [], alts := [], laidByText := true, laidKinds := [.data, .data, .data], laidTests := true, laidLooks := .later }
def CaskFullUptoCardSaid : Prop := Claim7.holds Tryz.pinned (.plain (OpenSpec.upto caskFullSpec)) caskFullUptoCard

/-- THE SECOND FORM's CARD OF 'murmurationlaw05.SquashNil'. -/
def squashNilUptoCard : Claim7 := { stood := { row := squashNilUptoRow, standIns := [], harness := (true, "2182423058f21bf798e62ce16ceeb0f4266e2221f524ae0a03d06db815184073"), looks := true }, kinds := [], alts := [], laidByText := true, laidKinds := [.data, .data, .data], laidTests := true, laidLooks := .later }
def SquashNilUptoCardSaid : Prop := Claim7.holds Tryz.pinned (.plain (OpenSpec.upto squashNilSpec)) squashNilUptoCard

/-- THE SECOND FORM's CARD OF 'murmurationlaw05.SquashTwo'. -/
def squashTwoUptoCard : Claim7 := { stood := { row := squashTwoUptoRow, standIns := [], harness := (true, "2182423058f21bf798e62ce16ceeb0f4266e2221f524ae0a03d06db815184073"), looks := true }, kinds := [], alts := [], laidByText := true, laidKinds := [.data, .data, .data], laidTests := true, laidLooks := .later }
def SquashTwoUptoCardSaid : Prop := Claim7.holds Tryz.pinned (.plain (OpenSpec.upto squashTwoSpec)) squashTwoUptoCard

/-- THE SECOND FORM's CARD OF 'murmurationlaw05.SquashOnce'. -/
def squashOnceUptoCard : Claim7 := { stood := { row := squashOnceUptoRow, standIns := [], harness := (true, "2182423058f21bf798e62ce16ceeb0f4266e2221f524ae0a03d06db815184073"), looks := true }, kinds := [], alts := [], laidByText := true, laidKinds := [.data, .data, .data], laidTests := true, laidLooks := .later }
def SquashOnceUptoCardSaid : Prop := Claim7.holds Tryz.pinned (.plain (OpenSpec.upto squashOnceSpec)) squashOnceUptoCard

/-- THE SECOND FORM's CARD OF 'murmurationlaw05.SquashCounts'. -/
def squashCountsUptoCard : Claim7 := { stood := { row := squashCountsUptoRow, standIns := [], harness := (true, "2182423058f21bf798e62ce16ceeb0f4266e2221f524ae0a03d06db815184073"), looks := true }, kinds := [], alts := [], laidByText := true, laidKinds := [.data, .data, .data], laidTests := true, laidLooks := .later }
def SquashCountsUptoCardSaid : Prop := Claim7.holds Tryz.pinned (.plain (OpenSpec.upto squashCountsSpec)) squashCountsUptoCard

/-- THE SECOND FORM's CARD OF 'murmurationlaw05.SquashLess'. -/
def squashLessUptoCard : Claim7 := { stood := { row := squashLessUptoRow, standIns := [], harness := (true, "2182423058f21bf798e62ce16ceeb0f4266e2221f524ae0a03d06db815184073"), looks := true }, kinds := [], alts := [], laidByText := true, laidKinds := [.data, .data, .data], laidTests := true, laidLooks := .later }
def SquashLessUptoCardSaid : Prop := Claim7.holds Tryz.pinned (.plain (OpenSpec.upto squashLessSpec)) squashLessUptoCard

/-- THE SECOND FORM's CARD OF 'murmurationlaw05.SquashKeeps'. -/
def squashKeepsUptoCard : Claim7 := { stood := { row := squashKeepsUptoRow, standIns := [], harness := (true, "2182423058f21bf798e62ce16ceeb0f4266e2221f524ae0a03d06db815184073"), looks := true }, kinds := [], alts := [], laidByText := true, laidKinds := [.data, .data, .data], laidTests := true, laidLooks := .later }
def SquashKeepsUptoCardSaid : Prop := Claim7.holds Tryz.pinned (.plain (OpenSpec.upto squashKeepsSpec)) squashKeepsUptoCard
end Rows
end Go.Proofs.YtfmmholkeadejaaGreatDoor
