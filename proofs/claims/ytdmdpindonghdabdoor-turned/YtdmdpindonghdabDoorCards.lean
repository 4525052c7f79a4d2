/-
  DERIVED. GIVEN WITH THE SEED: THE CARDS: each row of YtdmdpindonghdabDoorRows.lean that lists a variable, with what it lists TIED to the program's text (the seventh form; the later family's looks); each row that meets fmt, with fmt's text TOLD by the authors' own Lean function (tested against real Go, not proved from fmt's source: count such statements apart). THE CARD IS WHAT COUNTS. Prove the row's statement (the work); the ties are given (YtdmdpindonghdabDoorTie.lean); close each card by the builder's one call (the guide's Derived/Test/ToyasCard.lean, 'card_holds'). Laid BY PROGRAM, IN A SANDBOX (cutbox-door.mjs). By AI agents, Wed Nov 11 2026. No macro, syntax, notation, axiom, sorry.
-/
import Derived.Test.YtdmdpindonghdabDoorRows
import GoSem.ClaimSeven
namespace Go.Proofs.YtdmdpindonghdabDoor
namespace Rows

/-- THE TIED CARD OF 'tintkeep.Peeks'. -/
def peeksCard : Claim7 := { stood := { row := peeksRow, standIns := [], harness := (true, "95b5814cbc13b94ed9fcafb638642373fc711eff7536e40421927acbcda075be"), looks := false }, kinds := [], alts := [], laidByText := true, laidKinds := [.data, .data], laidTests := true, laidLooks := .later }
def PeeksCardSaid : Prop := Claim7.holds Tryd.pinned (.plain (OpenSpec.ofChange peeksSpec)) peeksCard

/-- THE TIED CARD OF 'tintkeep.Units'. -/
def unitsCard : Claim7 := { stood := { row := unitsRow, standIns := [], harness := (true, "95b5814cbc13b94ed9fcafb638642373fc711eff7536e40421927acbcda075be"), looks := false }, kinds := [], alts := [], laidByText := true, laidKinds := [.data, .data], laidTests := true, laidLooks := .later }
def UnitsCardSaid : Prop := Claim7.holds Tryd.pinned (.plain (OpenSpec.ofChange unitsSpec)) unitsCard

/-- THE TIED CARD OF 'tintkeep.Same'. -/
def sameCard : Claim7 := { stood := { row := sameRow, standIns := [], harness := (true, "95b5814cbc13b94ed9fcafb638642373fc711eff7536e40421927acbcda075be"), looks := false }, kinds := [], alts := [], laidByText := true, laidKinds := [.data, .data], laidTests := true, laidLooks := .later }
def SameCardSaid : Prop := Claim7.holds Tryd.pinned (.plain (OpenSpec.ofChange sameSpec)) sameCard

/-- THE TIED CARD OF 'tintkeep.Turned'. -/
def turnedCard : Claim7 := { stood := { row := turnedRow, standIns := [], harness := (true, "95b5814cbc13b94ed9fcafb638642373fc711eff7536e40421927acbcda075be"), looks := false }, kinds := [], alts := [], laidByText := true, laidKinds := [.data, .data], laidTests := true, laidLooks := .later }
def TurnedCardSaid : Prop := Claim7.holds Tryd.pinned (.plain (OpenSpec.ofChange turnedSpec)) turnedCard

/-- THE TIED CARD OF 'tintkeep.ByHand'. -/
def byHandCard : Claim7 := { stood := { row := byHandRow, standIns := [], harness := (true, "95b5814cbc13b94ed9fcafb638642373fc711eff7536e40421927acbcda075be"), looks := false }, kinds := [], alts := [], laidByText := true, laidKinds := [.data, .data], laidTests := true, laidLooks := .later }
def ByHandCardSaid : Prop := Claim7.holds Tryd.pinned (.plain (OpenSpec.ofChange byHandSpec)) byHandCard

/-- THE SECOND FORM's CARD OF 'tintkeep.Peeks'. -/
def peeksUptoCard : Claim7 := { stood := { row := peeksUptoRow, standIns := [], harness := (true, "95b5814cbc13b94ed9fcafb638642373fc711eff7536e40421927acbcda075be"), looks := false }, kinds := [], alts := [], laidByText := true, laidKinds := [.data, .data], laidTests := true, laidLooks := .later }
def PeeksUptoCardSaid : Prop := Claim7.holds Tryd.pinned (.plain (OpenSpec.upto peeksSpec)) peeksUptoCard

/-- THE SECOND FORM's CARD OF 'tintkeep.Units'. -/
def unitsUptoCard : Claim7 := { stood := { row := unitsUptoRow, standIns := [], harness := (true, "95b5814cbc13b94ed9fcafb638642373fc711eff7536e40421927acbcda075be"), looks := false }, kinds := [], alts := [], laidByText := true, laidKinds := [.data, .data], laidTests := true, laidLooks := .later }
def UnitsUptoCardSaid : Prop := Claim7.holds Tryd.pinned (.plain (OpenSpec.upto unitsSpec)) unitsUptoCard

/-- THE SECOND FORM's CARD OF 'tintkeep.Same'. -/
def sameUptoCard : Claim7 := { stood := { row := sameUptoRow, standIns := [], harness := (true, "95b5814cbc13b94ed9fcafb638642373fc711eff7536e40421927acbcda075be"), looks := false }, kinds := [], alts := [], laidByText := true, laidKinds := [.data, .data], laidTests := true, laidLooks := .later }
def SameUptoCardSaid : Prop := Claim7.holds Tryd.pinned (.plain (OpenSpec.upto sameSpec)) sameUptoCard

/-- THE SECOND FORM's CARD OF 'tintkeep.Turned'. -/
def turnedUptoCard : Claim7 := { stood := { row := turnedUptoRow, standIns := [], harness := (true, "95b5814cbc13b94ed9fcafb638642373fc711eff7536e40421927acbcda075be"), looks := false }, kinds := [], alts := [], laidByText := true, laidKinds := [.data, .data], laidTests := true, laidLooks := .later }
def TurnedUptoCardSaid : Prop := Claim7.holds Tryd.pinned (.plain (OpenSpec.upto turnedSpec)) turnedUptoCard

/-- THE SECOND FORM's CARD OF 'tintkeep.ByHand'. -/
def byHandUptoCard : Claim7 := { stood := { row := byHandUptoRow, standIns := [], harness := (true, "95b5814cbc13b94ed9fcafb638642373fc711eff7536e40421927acbcda075be"), looks := false }, kinds := [], alts := [], laidByText := true, laidKinds := [.data, .data], laidTests := true, laidLooks := .later }
def ByHandUptoCardSaid : Prop := Claim7.holds Tryd.pinned (.plain (OpenSpec.upto byHandSpec)) byHandUptoCard
end Rows
end Go.Proofs.YtdmdpindonghdabDoor
