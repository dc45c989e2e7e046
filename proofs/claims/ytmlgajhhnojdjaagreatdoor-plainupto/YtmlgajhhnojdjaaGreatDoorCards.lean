/-
  DERIVED. GIVEN WITH THE SEED: THE CARDS: each row of YtmlgajhhnojdjaaGreatDoorRows.lean that lists a variable, with what it lists TIED to the program's text (the seventh form; the later family's looks); each row that meets fmt, with fmt's text TOLD by the authors' own Lean function (tested against real Go, not proved from fmt's source: count such statements apart). THE CARD IS WHAT COUNTS. Prove the row's statement (the work); the ties are given (YtmlgajhhnojdjaaGreatDoorTie.lean); close each card by the builder's one call (the guide's Derived/Test/ToyasCard.lean, 'card_holds'). Laid BY PROGRAM, IN A SANDBOX (cutbox-door.mjs). By AI agents, Wed Nov 11 2026. No macro, syntax, notation, axiom, sorry.
-/
import Derived.Test.YtmlgajhhnojdjaaGreatDoorRows
import GoSem.ClaimSeven
namespace Go.Proofs.YtmlgajhhnojdjaaGreatDoor
namespace Rows

/-- THE TIED CARD OF 'stowlaw.Checked'. -/
def checkedCard : Claim7 := { stood := { row := checkedRow, standIns := [], harness := (true, "5d8d6ecafc9b75ee72241f7cf3cc83b2a603a77174333a72d3c67a22d7b59d1d"), looks := true }, kinds := [], alts := [], laidByText := true, laidKinds := [.data, .data, .data, .data, .sentinel, .sentinel, .data, .data, .pinned], laidTests := true, laidLooks := .later }
def CheckedCardSaid : Prop := Claim7.holds Tryz.pinned (.plain (OpenSpec.ofChange checkedSpec)) checkedCard

/-- THE TIED CARD OF 'stowkeep.Refuses'. -/
def refusesCard : Claim7 := { stood := { row := refusesRow, standIns := [], harness := (true, "5d8d6ecafc9b75ee72241f7cf3cc83b2a603a77174333a72d3c67a22d7b59d1d"), looks := true }, kinds := [], alts := [], laidByText := true, laidKinds := [.data, .data, .data, .data, .sentinel, .sentinel, .data, .data, .pinned], laidTests := true, laidLooks := .later }
def RefusesCardSaid : Prop := Claim7.holds Tryz.pinned (.plain (OpenSpec.ofChange refusesSpec)) refusesCard

/-- THE TIED CARD OF 'stowlaw.Ran'. -/
def ranCard : Claim7 := { stood := { row := ranRow, standIns := [], harness := (true, "5d8d6ecafc9b75ee72241f7cf3cc83b2a603a77174333a72d3c67a22d7b59d1d"), looks := true }, kinds := [], alts := [], laidByText := true, laidKinds := [.data, .data, .data, .data, .sentinel, .sentinel, .data, .data, .pinned], laidTests := true, laidLooks := .later }
def RanCardSaid : Prop := Claim7.holds Tryz.pinned (.plain (OpenSpec.ofChange ranSpec)) ranCard

/-- THE TIED CARD OF 'stowkeep.Accepts'. -/
def acceptsCard : Claim7 := { stood := { row := acceptsRow, standIns := [], harness := (true, "5d8d6ecafc9b75ee72241f7cf3cc83b2a603a77174333a72d3c67a22d7b59d1d"), looks := true }, kinds := [], alts := [], laidByText := true, laidKinds := [.data, .data, .data, .data, .sentinel, .sentinel, .data, .data, .pinned], laidTests := true, laidLooks := .later }
def AcceptsCardSaid : Prop := Claim7.holds Tryz.pinned (.plain (OpenSpec.ofChange acceptsSpec)) acceptsCard

/-- THE TIED CARD OF 'stowkeep.Balanced'. -/
def balancedCard : Claim7 := { stood := { row := balancedRow, standIns := [], harness := (true, "5d8d6ecafc9b75ee72241f7cf3cc83b2a603a77174333a72d3c67a22d7b59d1d"), looks := true }, kinds := [], alts := [], laidByText := true, laidKinds := [.data, .data, .data, .data, .sentinel, .sentinel, .data, .data, .pinned], laidTests := true, laidLooks := .later }
def BalancedCardSaid : Prop := Claim7.holds Tryz.pinned (.plain (OpenSpec.ofChange balancedSpec)) balancedCard

/-- THE TIED CARD OF 'stowkeep.Fueled'. -/
def fueledCard : Claim7 := { stood := { row := fueledRow, standIns := [], harness := (true, "5d8d6ecafc9b75ee72241f7cf3cc83b2a603a77174333a72d3c67a22d7b59d1d"), looks := true }, kinds := [], alts := [], laidByText := true, laidKinds := [.data, .data, .data, .data, .sentinel, .sentinel, .data, .data, .pinned], laidTests := true, laidLooks := .later }
def FueledCardSaid : Prop := Claim7.holds Tryz.pinned (.plain (OpenSpec.ofChange fueledSpec)) fueledCard

/-- THE TIED CARD OF 'stowlaw.Looked'. -/
def lookedCard : Claim7 := { stood := { row := lookedRow, standIns := [], harness := (true, "5d8d6ecafc9b75ee72241f7cf3cc83b2a603a77174333a72d3c67a22d7b59d1d"), looks := true }, kinds := [], alts := [], laidByText := true, laidKinds := [.data, .data, .data, .data, .sentinel, .sentinel, .data, .data, .pinned], laidTests := true, laidLooks := .later }
def LookedCardSaid : Prop := Claim7.holds Tryz.pinned (.plain (OpenSpec.ofChange lookedSpec)) lookedCard

/-- THE TIED CARD OF 'stowlaw.Executed'. -/
def executedCard : Claim7 := { stood := { row := executedRow, standIns := [], harness := (true, "5d8d6ecafc9b75ee72241f7cf3cc83b2a603a77174333a72d3c67a22d7b59d1d"), looks := true }, kinds := [], alts := [], laidByText := true, laidKinds := [.data, .data, .data, .data, .sentinel, .sentinel, .data, .data, .pinned], laidTests := true, laidLooks := .later }
def ExecutedCardSaid : Prop := Claim7.holds Tryz.pinned (.plain (OpenSpec.ofChange executedSpec)) executedCard

/-- THE TIED CARD OF 'stowkeep.Calm'. -/
def calmCard : Claim7 := { stood := { row := calmRow, standIns := [], harness := (true, "5d8d6ecafc9b75ee72241f7cf3cc83b2a603a77174333a72d3c67a22d7b59d1d"), looks := true }, kinds := [], alts := [], laidByText := true, laidKinds := [.data, .data, .data, .data, .sentinel, .sentinel, .data, .data, .pinned], laidTests := true, laidLooks := .later }
def CalmCardSaid : Prop := Claim7.holds Tryz.pinned (.plain (OpenSpec.ofChange calmSpec)) calmCard

/-- THE TIED CARD OF 'stowkeep.Elaborated'. -/
def elaboratedCard : Claim7 := { stood := { row := elaboratedRow, standIns := [], harness := (true, "5d8d6ecafc9b75ee72241f7cf3cc83b2a603a77174333a72d3c67a22d7b59d1d"), looks := true }, kinds := [], alts := [], laidByText := true, laidKinds := [.data, .data, .data, .data, .sentinel, .sentinel, .data, .data, .data, .pinned], laidTests := true, laidLooks := .later }
def ElaboratedCardSaid : Prop := Claim7.holds Tryz.pinned (.plain (OpenSpec.ofChange elaboratedSpec)) elaboratedCard

/-- THE TIED CARD OF 'stowkeep.Plain'. -/
def plainCard : Claim7 := { stood := { row := plainRow, standIns := [], harness := (true, "5d8d6ecafc9b75ee72241f7cf3cc83b2a603a77174333a72d3c67a22d7b59d1d"), looks := true }, kinds := [], alts := [], laidByText := true, laidKinds := [.data, .data, .data, .data, .sentinel, .sentinel, .data, .data, .data, .pinned], laidTests := true, laidLooks := .later }
def PlainCardSaid : Prop := Claim7.holds Tryz.pinned (.plain (OpenSpec.ofChange plainSpec)) plainCard

/-- THE SECOND FORM's CARD OF 'stowlaw.Checked'. -/
def checkedUptoCard : Claim7 := { stood := { row := checkedUptoRow, standIns := [], harness := (true, "5d8d6ecafc9b75ee72241f7cf3cc83b2a603a77174333a72d3c67a22d7b59d1d"), looks := true }, kinds := [], alts := [], laidByText := true, laidKinds := [.data, .data, .data, .data, .sentinel, .sentinel, .data, .data, .pinned], laidTests := true, laidLooks := .later }
def CheckedUptoCardSaid : Prop := Claim7.holds Tryz.pinned (.plain (OpenSpec.upto checkedSpec)) checkedUptoCard

/-- THE SECOND FORM's CARD OF 'stowkeep.Refuses'. -/
def refusesUptoCard : Claim7 := { stood := { row := refusesUptoRow, standIns := [], harness := (true, "5d8d6ecafc9b75ee72241f7cf3cc83b2a603a77174333a72d3c67a22d7b59d1d"), looks := true }, kinds := [], alts := [], laidByText := true, laidKinds := [.data, .data, .data, .data, .sentinel, .sentinel, .data, .data, .pinned], laidTests := true, laidLooks := .later }
def RefusesUptoCardSaid : Prop := Claim7.holds Tryz.pinned (.plain (OpenSpec.upto refusesSpec)) refusesUptoCard

/-- THE SECOND FORM's CARD OF 'stowlaw.Ran'. -/
def ranUptoCard : Claim7 := { stood := { row := ranUptoRow, standIns := [], harness := (true, "5d8d6ecafc9b75ee72241f7cf3cc83b2a603a77174333a72d3c67a22d7b59d1d"), looks := true }, kinds := [], alts := [], laidByText := true, laidKinds := [.data, .data, .data, .data, .sentinel, .sentinel, .data, .data, .pinned], laidTests := true, laidLooks := .later }
def RanUptoCardSaid : Prop := Claim7.holds Tryz.pinned (.plain (OpenSpec.upto ranSpec)) ranUptoCard

/-- THE SECOND FORM's CARD OF 'stowkeep.Accepts'. -/
def acceptsUptoCard : Claim7 := { stood := { row := acceptsUptoRow, standIns := [], harness := (true, "5d8d6ecafc9b75ee72241f7cf3cc83b2a603a77174333a72d3c67a22d7b59d1d"), looks := true }, kinds := [], alts := [], laidByText := true, laidKinds := [.data, .data, .data, .data, .sentinel, .sentinel, .data, .data, .pinned], laidTests := true, laidLooks := .later }
def AcceptsUptoCardSaid : Prop := Claim7.holds Tryz.pinned (.plain (OpenSpec.upto acceptsSpec)) acceptsUptoCard

/-- THE SECOND FORM's CARD OF 'stowkeep.Balanced'. -/
def balancedUptoCard : Claim7 := { stood := { row := balancedUptoRow, standIns := [], harness := (true, "5d8d6ecafc9b75ee72241f7cf3cc83b2a603a77174333a72d3c67a22d7b59d1d"), looks := true }, kinds := [], alts := [], laidByText := true, laidKinds := [.data, .data, .data, .data, .sentinel, .sentinel, .data, .data, .pinned], laidTests := true, laidLooks := .later }
def BalancedUptoCardSaid : Prop := Claim7.holds Tryz.pinned (.plain (OpenSpec.upto balancedSpec)) balancedUptoCard

/-- THE SECOND FORM's CARD OF 'stowkeep.Fueled'. -/
def fueledUptoCard : Claim7 := { stood := { row := fueledUptoRow, standIns := [], harness := (true, "5d8d6ecafc9b75ee72241f7cf3cc83b2a603a77174333a72d3c67a22d7b59d1d"), looks := true }, kinds := [], alts := [], laidByText := true, laidKinds := [.data, .data, .data, .data, .sentinel, .sentinel, .data, .data, .pinned], laidTests := true, laidLooks := .later }
def FueledUptoCardSaid : Prop := Claim7.holds Tryz.pinned (.plain (OpenSpec.upto fueledSpec)) fueledUptoCard

/-- THE SECOND FORM's CARD OF 'stowlaw.Looked'. -/
def lookedUptoCard : Claim7 := { stood := { row := lookedUptoRow, standIns := [], harness := (true, "5d8d6ecafc9b75ee72241f7cf3cc83b2a603a77174333a72d3c67a22d7b59d1d"), looks := true }, kinds := [], alts := [], laidByText := true, laidKinds := [.data, .data, .data, .data, .sentinel, .sentinel, .data, .data, .pinned], laidTests := true, laidLooks := .later }
def LookedUptoCardSaid : Prop := Claim7.holds Tryz.pinned (.plain (OpenSpec.upto lookedSpec)) lookedUptoCard

/-- THE SECOND FORM's CARD OF 'stowlaw.Executed'. -/
def executedUptoCard : Claim7 := { stood := { row := executedUptoRow, standIns := [], harness := (true, "5d8d6ecafc9b75ee72241f7cf3cc83b2a603a77174333a72d3c67a22d7b59d1d"), looks := true }, kinds := [], alts := [], laidByText := true, laidKinds := [.data, .data, .data, .data, .sentinel, .sentinel, .data, .data, .pinned], laidTests := true, laidLooks := .later }
def ExecutedUptoCardSaid : Prop := Claim7.holds Tryz.pinned (.plain (OpenSpec.upto executedSpec)) executedUptoCard

/-- THE SECOND FORM's CARD OF 'stowkeep.Calm'. -/
def calmUptoCard : Claim7 := { stood := { row := calmUptoRow, standIns := [], harness := (true, "5d8d6ecafc9b75ee72241f7cf3cc83b2a603a77174333a72d3c67a22d7b59d1d"), looks := true }, kinds := [], alts := [], laidByText := true, laidKinds := [.data, .data, .data, .data, .sentinel, .sentinel, .data, .data, .pinned], laidTests := true, laidLooks := .later }
def CalmUptoCardSaid : Prop := Claim7.holds Tryz.pinned (.plain (OpenSpec.upto calmSpec)) calmUptoCard

/-- THE SECOND FORM's CARD OF 'stowkeep.Elaborated'. -/
def elaboratedUptoCard : Claim7 := { stood := { row := elaboratedUptoRow, standIns := [], harness := (true, "5d8d6ecafc9b75ee72241f7cf3cc83b2a603a77174333a72d3c67a22d7b59d1d"), looks := true }, kinds := [], alts := [], laidByText := true, laidKinds := [.data, .data, .data, .data, .sentinel, .sentinel, .data, .data, .data, .pinned], laidTests := true, laidLooks := .later }
def ElaboratedUptoCardSaid : Prop := Claim7.holds Tryz.pinned (.plain (OpenSpec.upto elaboratedSpec)) elaboratedUptoCard

/-- THE SECOND FORM's CARD OF 'stowkeep.Plain'. -/
def plainUptoCard : Claim7 := { stood := { row := plainUptoRow, standIns := [], harness := (true, "5d8d6ecafc9b75ee72241f7cf3cc83b2a603a77174333a72d3c67a22d7b59d1d"), looks := true }, kinds := [], alts := [], laidByText := true, laidKinds := [.data, .data, .data, .data, .sentinel, .sentinel, .data, .data, .data, .pinned], laidTests := true, laidLooks := .later }
def PlainUptoCardSaid : Prop := Claim7.holds Tryz.pinned (.plain (OpenSpec.upto plainSpec)) plainUptoCard
end Rows
end Go.Proofs.YtmlgajhhnojdjaaGreatDoor
