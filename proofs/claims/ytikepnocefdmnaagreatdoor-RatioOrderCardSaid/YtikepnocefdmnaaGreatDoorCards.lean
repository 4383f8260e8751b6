/-
  DERIVED. GIVEN WITH THE SEED: THE CARDS: each row of YtikepnocefdmnaaGreatDoorRows.lean that lists a variable, with what it lists TIED to the program's text (the seventh form; the later family's looks); each row that meets fmt, with fmt's text TOLD by the authors' own Lean function (tested against real Go, not proved from fmt's source: count such statements apart). THE CARD IS WHAT COUNTS. Prove the row's statement (the work); the ties are given (YtikepnocefdmnaaGreatDoorTie.lean); close each card by the builder's one call (the guide's Derived/Test/ToyasCard.lean, 'card_holds'). Laid BY PROGRAM, IN A SANDBOX (cutbox-door.mjs). By AI agents, Wed Nov 11 2026. No macro, syntax, notation, axiom, sorry.
-/
import Derived.Test.YtikepnocefdmnaaGreatDoorRows
import GoSem.ClaimSeven
namespace Go.Proofs.YtikepnocefdmnaaGreatDoor
namespace Rows

/-- THE TIED CARD OF 'colletlaw03.RatioForms'. -/
def ratioFormsCard : Claim7 := { stood := { row := ratioFormsRow, standIns := [], harness := (true, "09cb53769dafd85aa1c4aa73cd8d92ae3247640166a5a98dca9970c4fd554009"), looks := true }, kinds := [], alts := [], laidByText := true, laidKinds := [.data, .data, .data, .sentinel, .sentinel], laidTests := true, laidLooks := .later }
def RatioFormsCardSaid : Prop := Claim7.holds Tryz.pinned (.plain (OpenSpec.ofChange ratioFormsSpec)) ratioFormsCard

/-- THE TIED CARD OF 'colletlaw03.RatioCalculates'. -/
def ratioCalculatesCard : Claim7 := { stood := { row := ratioCalculatesRow, standIns := [], harness := (true, "09cb53769dafd85aa1c4aa73cd8d92ae3247640166a5a98dca9970c4fd554009"), looks := true }, kinds := [], alts := [], laidByText := true, laidKinds := [.data, .data, .data, .sentinel, .sentinel], laidTests := true, laidLooks := .later }
def RatioCalculatesCardSaid : Prop := Claim7.holds Tryz.pinned (.plain (OpenSpec.ofChange ratioCalculatesSpec)) ratioCalculatesCard

/-- THE TIED CARD OF 'colletlaw03.RatioField'. -/
def ratioFieldCard : Claim7 := { stood := { row := ratioFieldRow, standIns := [], harness := (true, "09cb53769dafd85aa1c4aa73cd8d92ae3247640166a5a98dca9970c4fd554009"), looks := true }, kinds := [], alts := [], laidByText := true, laidKinds := [.data, .data, .data, .sentinel, .sentinel], laidTests := true, laidLooks := .later }
def RatioFieldCardSaid : Prop := Claim7.holds Tryz.pinned (.plain (OpenSpec.ofChange ratioFieldSpec)) ratioFieldCard

/-- THE TIED CARD OF 'colletlaw03.RatioOrder'. -/
def ratioOrderCard : Claim7 := { stood := { row := ratioOrderRow, standIns := [], harness := (true, "09cb53769dafd85aa1c4aa73cd8d92ae3247640166a5a98dca9970c4fd554009"), looks := true }, kinds := [], alts := [], laidByText := true, laidKinds := [.data, .data, .data, .sentinel, .sentinel], laidTests := true, laidLooks := .later }
def RatioOrderCardSaid : Prop := Claim7.holds Tryz.pinned (.plain (OpenSpec.ofChange ratioOrderSpec)) ratioOrderCard

/-- THE TIED CARD OF 'colletlaw03.RatioRounds'. -/
def ratioRoundsCard : Claim7 := { stood := { row := ratioRoundsRow, standIns := [], harness := (true, "09cb53769dafd85aa1c4aa73cd8d92ae3247640166a5a98dca9970c4fd554009"), looks := true }, kinds := [], alts := [], laidByText := true, laidKinds := [.data, .data, .data, .sentinel, .sentinel], laidTests := true, laidLooks := .later }
def RatioRoundsCardSaid : Prop := Claim7.holds Tryz.pinned (.plain (OpenSpec.ofChange ratioRoundsSpec)) ratioRoundsCard

/-- THE TIED CARD OF 'colletlaw03.RatioTexts'. -/
def ratioTextsCard : Claim7 := { stood := { row := ratioTextsRow, standIns := [], harness := (true, "09cb53769dafd85aa1c4aa73cd8d92ae3247640166a5a98dca9970c4fd554009"), looks := true }, kinds := [], alts := [], laidByText := true, laidKinds := [.data, .data, .data, .sentinel, .sentinel], laidTests := true, laidLooks := .later }
def RatioTextsCardSaid : Prop := Claim7.holds Tryz.pinned (.plain (OpenSpec.ofChange ratioTextsSpec)) ratioTextsCard

/-- THE TIED CARD OF 'colletlaw03.RatioLong'. -/
def ratioLongCard : Claim7 := { stood := { row := ratioLongRow, standIns := [], harness := (true, "09cb53769dafd85aa1c4aa73cd8d92ae3247640166a5a98dca9970c4fd554009"), looks := true }, kinds := [], alts := [], laidByText := true, laidKinds := [.data, .data, .data, .sentinel, .sentinel], laidTests := true, laidLooks := .later }
def RatioLongCardSaid : Prop := Claim7.holds Tryz.pinned (.plain (OpenSpec.ofChange ratioLongSpec)) ratioLongCard

/-- THE SECOND FORM's CARD OF 'colletlaw03.RatioForms'. -/
def ratioFormsUptoCard : Claim7 := { stood := { row := ratioFormsUptoRow, standIns := [], harness := (true, "09cb53769dafd85aa1c4aa73cd8d92ae3247640166a5a98dca9970c4fd554009"), looks := true }, kinds := [], alts := [], laidByText := true, laidKinds := [.data, .data, .data, .sentinel, .sentinel], laidTests := true, laidLooks := .later }
def RatioFormsUptoCardSaid : Prop := Claim7.holds Tryz.pinned (.plain (OpenSpec.upto ratioFormsSpec)) ratioFormsUptoCard

/-- THE SECOND FORM's CARD OF 'colletlaw03.RatioCalculates'. -/
def ratioCalculatesUptoCard : Claim7 := { stood := { row := ratioCalculatesUptoRow, standIns := [], harness := (true, "09cb53769dafd85aa1c4aa73cd8d92ae3247640166a5a98dca9970c4fd554009"), looks := true }, kinds := [], alts := [], laidByText := true, laidKinds := [.data, .data, .data, .sentinel, .sentinel], laidTests := true, laidLooks := .later }
def RatioCalculatesUptoCardSaid : Prop := Claim7.holds Tryz.pinned (.plain (OpenSpec.upto ratioCalculatesSpec)) ratioCalculatesUptoCard

/-- THE SECOND FORM's CARD OF 'colletlaw03.RatioField'. -/
def ratioFieldUptoCard : Claim7 := { stood := { row := ratioFieldUptoRow, standIns := [], harness := (true, "09cb53769dafd85aa1c4aa73cd8d92ae3247640166a5a98dca9970c4fd554009"), looks := true }, kinds := [], alts := [], laidByText := true, laidKinds := [.data, .data, .data, .sentinel, .sentinel], laidTests := true, laidLooks := .later }
def RatioFieldUptoCardSaid : Prop := Claim7.holds Tryz.pinned (.plain (OpenSpec.upto ratioFieldSpec)) ratioFieldUptoCard

/-- THE SECOND FORM's CARD OF 'colletlaw03.RatioOrder'. -/
def ratioOrderUptoCard : Claim7 := { stood := { row := ratioOrderUptoRow, standIns := [], harness := (true, "09cb53769dafd85aa1c4aa73cd8d92ae3247640166a5a98dca9970c4fd554009"), looks := true }, kinds := [], alts := [], laidByText := true, laidKinds := [.data, .data, .data, .sentinel, .sentinel], laidTests := true, laidLooks := .later }
def RatioOrderUptoCardSaid : Prop := Claim7.holds Tryz.pinned (.plain (OpenSpec.upto ratioOrderSpec)) ratioOrderUptoCard

/-- THE SECOND FORM's CARD OF 'colletlaw03.RatioRounds'. -/
def ratioRoundsUptoCard : Claim7 := { stood := { row := ratioRoundsUptoRow, standIns := [], harness := (true, "09cb53769dafd85aa1c4aa73cd8d92ae3247640166a5a98dca9970c4fd554009"), looks := true }, kinds := [], alts := [], laidByText := true, laidKinds := [.data, .data, .data, .sentinel, .sentinel], laidTests := true, laidLooks := .later }
def RatioRoundsUptoCardSaid : Prop := Claim7.holds Tryz.pinned (.plain (OpenSpec.upto ratioRoundsSpec)) ratioRoundsUptoCard

/-- THE SECOND FORM's CARD OF 'colletlaw03.RatioTexts'. -/
def ratioTextsUptoCard : Claim7 := { stood := { row := ratioTextsUptoRow, standIns := [], harness := (true, "09cb53769dafd85aa1c4aa73cd8d92ae3247640166a5a98dca9970c4fd554009"), looks := true }, kinds := [], alts := [], laidByText := true, laidKinds := [.data, .data, .data, .sentinel, .sentinel], laidTests := true, laidLooks := .later }
def RatioTextsUptoCardSaid : Prop := Claim7.holds Tryz.pinned (.plain (OpenSpec.upto ratioTextsSpec)) ratioTextsUptoCard

/-- THE SECOND FORM's CARD OF 'colletlaw03.RatioLong'. -/
def ratioLongUptoCard : Claim7 := { stood := { row := ratioLongUptoRow, standIns := [], harness := (true, "09cb53769dafd85aa1c4aa73cd8d92ae3247640166a5a98dca9970c4fd554009"), looks := true }, kinds := [], alts := [], laidByText := true, laidKinds := [.data, .data, .data, .sentinel, .sentinel], laidTests := true, laidLooks := .later }
def RatioLongUptoCardSaid : Prop := Claim7.holds Tryz.pinned (.plain (OpenSpec.upto ratioLongSpec)) ratioLongUptoCard
end Rows
end Go.Proofs.YtikepnocefdmnaaGreatDoor
