/-
  DERIVED. GIVEN WITH THE SEED: THE CARDS: each row of YtdmdpindonghdaaDoorRows.lean that lists a variable, with what it lists TIED to the program's text (the seventh form; the later family's looks); each row that meets fmt, with fmt's text TOLD by the authors' own Lean function (tested against real Go, not proved from fmt's source: count such statements apart). THE CARD IS WHAT COUNTS. Prove the row's statement (the work); the ties are given (YtdmdpindonghdaaDoorTie.lean); close each card by the builder's one call (the guide's Derived/Test/ToyasCard.lean, 'card_holds'). Laid BY PROGRAM, IN A SANDBOX (cutbox-door.mjs). By AI agents, Wed Nov 11 2026. No macro, syntax, notation, axiom, sorry.
-/
import Derived.Test.YtdmdpindonghdaaDoorRows
import GoSem.ClaimSeven
namespace Go.Proofs.YtdmdpindonghdaaDoor
namespace Rows

/-- THE TIED CARD OF 'tintlaw.Checks'. -/
def checksCard : Claim7 := { stood := { row := checksRow, standIns := [], harness := (true, "b1ccdc7167a7f9792934ee93914e9db3254709db0c3b119ec39ef1fd935e2fe4"), looks := false }, kinds := [], alts := [], laidByText := true, laidKinds := [.data, .data, .data, .data, .data], laidTests := true, laidLooks := .later }
def ChecksCardSaid : Prop := Claim7.holds Tryd.pinned (.plain (OpenSpec.ofChange checksSpec)) checksCard

/-- THE TIED CARD OF 'tintlaw.Types'. -/
def typesCard : Claim7 := { stood := { row := typesRow, standIns := [], harness := (true, "b1ccdc7167a7f9792934ee93914e9db3254709db0c3b119ec39ef1fd935e2fe4"), looks := false }, kinds := [], alts := [], laidByText := true, laidKinds := [.data, .data, .data, .data, .data], laidTests := true, laidLooks := .later }
def TypesCardSaid : Prop := Claim7.holds Tryd.pinned (.plain (OpenSpec.ofChange typesSpec)) typesCard

/-- THE TIED CARD OF 'tintkeep.Typed'. -/
def typedCard : Claim7 := { stood := { row := typedRow, standIns := [], harness := (true, "b1ccdc7167a7f9792934ee93914e9db3254709db0c3b119ec39ef1fd935e2fe4"), looks := false }, kinds := [], alts := [], laidByText := true, laidKinds := [.data, .data], laidTests := true, laidLooks := .later }
def TypedCardSaid : Prop := Claim7.holds Tryd.pinned (.plain (OpenSpec.ofChange typedSpec)) typedCard

/-- THE TIED CARD OF 'tintkeep.Reckoned'. -/
def reckonedCard : Claim7 := { stood := { row := reckonedRow, standIns := [], harness := (true, "b1ccdc7167a7f9792934ee93914e9db3254709db0c3b119ec39ef1fd935e2fe4"), looks := false }, kinds := [], alts := [], laidByText := true, laidKinds := [.data, .data], laidTests := true, laidLooks := .later }
def ReckonedCardSaid : Prop := Claim7.holds Tryd.pinned (.plain (OpenSpec.ofChange reckonedSpec)) reckonedCard

/-- THE TIED CARD OF 'tintkeep.Filled'. -/
def filledCard : Claim7 := { stood := { row := filledRow, standIns := [], harness := (true, "b1ccdc7167a7f9792934ee93914e9db3254709db0c3b119ec39ef1fd935e2fe4"), looks := false }, kinds := [], alts := [], laidByText := true, laidKinds := [.data, .data], laidTests := true, laidLooks := .later }
def FilledCardSaid : Prop := Claim7.holds Tryd.pinned (.plain (OpenSpec.ofChange filledSpec)) filledCard

/-- THE TIED CARD OF 'tintkeep.Painted'. -/
def paintedCard : Claim7 := { stood := { row := paintedRow, standIns := [], harness := (true, "b1ccdc7167a7f9792934ee93914e9db3254709db0c3b119ec39ef1fd935e2fe4"), looks := false }, kinds := [], alts := [], laidByText := true, laidKinds := [.data, .data], laidTests := true, laidLooks := .later }
def PaintedCardSaid : Prop := Claim7.holds Tryd.pinned (.plain (OpenSpec.ofChange paintedSpec)) paintedCard

/-- THE TIED CARD OF 'tintkeep.Tidy'. -/
def tidyCard : Claim7 := { stood := { row := tidyRow, standIns := [], harness := (true, "b1ccdc7167a7f9792934ee93914e9db3254709db0c3b119ec39ef1fd935e2fe4"), looks := false }, kinds := [], alts := [], laidByText := true, laidKinds := [.data, .data], laidTests := true, laidLooks := .later }
def TidyCardSaid : Prop := Claim7.holds Tryd.pinned (.plain (OpenSpec.ofChange tidySpec)) tidyCard

/-- THE SECOND FORM's CARD OF 'tintlaw.Checks'. -/
def checksUptoCard : Claim7 := { stood := { row := checksUptoRow, standIns := [], harness := (true, "b1ccdc7167a7f9792934ee93914e9db3254709db0c3b119ec39ef1fd935e2fe4"), looks := false }, kinds := [], alts := [], laidByText := true, laidKinds := [.data, .data, .data, .data, .data], laidTests := true, laidLooks := .later }
def ChecksUptoCardSaid : Prop := Claim7.holds Tryd.pinned (.plain (OpenSpec.upto checksSpec)) checksUptoCard

/-- THE SECOND FORM's CARD OF 'tintlaw.Types'. -/
def typesUptoCard : Claim7 := { stood := { row := typesUptoRow, standIns := [], harness := (true, "b1ccdc7167a7f9792934ee93914e9db3254709db0c3b119ec39ef1fd935e2fe4"), looks := false }, kinds := [], alts := [], laidByText := true, laidKinds := [.data, .data, .data, .data, .data], laidTests := true, laidLooks := .later }
def TypesUptoCardSaid : Prop := Claim7.holds Tryd.pinned (.plain (OpenSpec.upto typesSpec)) typesUptoCard

/-- THE SECOND FORM's CARD OF 'tintkeep.Typed'. -/
def typedUptoCard : Claim7 := { stood := { row := typedUptoRow, standIns := [], harness := (true, "b1ccdc7167a7f9792934ee93914e9db3254709db0c3b119ec39ef1fd935e2fe4"), looks := false }, kinds := [], alts := [], laidByText := true, laidKinds := [.data, .data], laidTests := true, laidLooks := .later }
def TypedUptoCardSaid : Prop := Claim7.holds Tryd.pinned (.plain (OpenSpec.upto typedSpec)) typedUptoCard

/-- THE SECOND FORM's CARD OF 'tintkeep.Reckoned'. -/
def reckonedUptoCard : Claim7 := { stood := { row := reckonedUptoRow, standIns := [], harness := (true, "b1ccdc7167a7f9792934ee93914e9db3254709db0c3b119ec39ef1fd935e2fe4"), looks := false }, kinds := [], alts := [], laidByText := true, laidKinds := [.data, .data], laidTests := true, laidLooks := .later }
def ReckonedUptoCardSaid : Prop := Claim7.holds Tryd.pinned (.plain (OpenSpec.upto reckonedSpec)) reckonedUptoCard

/-- THE SECOND FORM's CARD OF 'tintkeep.Filled'. -/
def filledUptoCard : Claim7 := { stood := { row := filledUptoRow, standIns := [], harness := (true, "b1ccdc7167a7f9792934ee93914e9db3254709db0c3b119ec39ef1fd935e2fe4"), looks := false }, kinds := [], alts := [], laidByText := true, laidKinds := [.data, .data], laidTests := true, laidLooks := .later }
def FilledUptoCardSaid : Prop := Claim7.holds Tryd.pinned (.plain (OpenSpec.upto filledSpec)) filledUptoCard

/-- THE SECOND FORM's CARD OF 'tintkeep.Painted'. -/
def paintedUptoCard : Claim7 := { stood := { row := paintedUptoRow, standIns := [], harness := (true, "b1ccdc7167a7f9792934ee93914e9db3254709db0c3b119ec39ef1fd935e2fe4"), looks := false }, kinds := [], alts := [], laidByText := true, laidKinds := [.data, .data], laidTests := true, laidLooks := .later }
def PaintedUptoCardSaid : Prop := Claim7.holds Tryd.pinned (.plain (OpenSpec.upto paintedSpec)) paintedUptoCard

/-- THE SECOND FORM's CARD OF 'tintkeep.Tidy'. -/
def tidyUptoCard : Claim7 := { stood := { row := tidyUptoRow, standIns := [], harness := (true, "b1ccdc7167a7f9792934ee93914e9db3254709db0c3b119ec39ef1fd935e2fe4"), looks := false }, kinds := [], alts := [], laidByText := true, laidKinds := [.data, .data], laidTests := true, laidLooks := .later }
def TidyUptoCardSaid : Prop := Claim7.holds Tryd.pinned (.plain (OpenSpec.upto tidySpec)) tidyUptoCard
end Rows
end Go.Proofs.YtdmdpindonghdaaDoor
