/-
  DERIVED. GIVEN WITH THE SEED: THE CARDS: each row of YteocjidfbbekfaaDoorRows.lean that lists a variable, with what it lists TIED to the program's text (the seventh form; the later family's looks); each row that meets fmt, with fmt's text TOLD by the authors' own Lean function (tested against real Go, not proved from fmt's source: count such statements apart). THE CARD IS WHAT COUNTS. Prove the row's statement (the work); the ties are given (YteocjidfbbekfaaDoorTie.lean); close each card by the builder's one call (the guide's Derived/Test/ToyasCard.lean, 'card_holds'). Laid BY PROGRAM, IN A SANDBOX (cutbox-door.mjs). By AI agents, Wed Nov 11 2026. No macro, syntax, notation, axiom, sorry.
-/
import Derived.Test.YteocjidfbbekfaaDoorRows
import GoSem.ClaimSeven
namespace Go.Proofs.YteocjidfbbekfaaDoor
namespace Rows

/-- THE TIED CARD OF 'tintlaw.Checks'. -/
def checksCard : Claim7 := { stood := { row := checksRow, standIns := [], harness := (true, "4f0adb57b873b54412fc1dfd8ed8299865845a92a8e79f2377a9596775435e8b"), looks := false }, kinds := [], alts := [], laidByText := true, laidKinds := [.data, .data, .data, .data, .data], laidTests := true, laidLooks := .later }
def ChecksCardSaid : Prop := Claim7.holds Tryd.pinned (.plain (OpenSpec.ofChange checksSpec)) checksCard

/-- THE TIED CARD OF 'tintlaw.Types'. -/
def typesCard : Claim7 := { stood := { row := typesRow, standIns := [], harness := (true, "4f0adb57b873b54412fc1dfd8ed8299865845a92a8e79f2377a9596775435e8b"), looks := false }, kinds := [], alts := [], laidByText := true, laidKinds := [.data, .data, .data, .data, .data], laidTests := true, laidLooks := .later }
def TypesCardSaid : Prop := Claim7.holds Tryd.pinned (.plain (OpenSpec.ofChange typesSpec)) typesCard

/-- THE SECOND FORM's CARD OF 'tintlaw.Checks'. -/
def checksUptoCard : Claim7 := { stood := { row := checksUptoRow, standIns := [], harness := (true, "4f0adb57b873b54412fc1dfd8ed8299865845a92a8e79f2377a9596775435e8b"), looks := false }, kinds := [], alts := [], laidByText := true, laidKinds := [.data, .data, .data, .data, .data], laidTests := true, laidLooks := .later }
def ChecksUptoCardSaid : Prop := Claim7.holds Tryd.pinned (.plain (OpenSpec.upto checksSpec)) checksUptoCard

/-- THE SECOND FORM's CARD OF 'tintlaw.Types'. -/
def typesUptoCard : Claim7 := { stood := { row := typesUptoRow, standIns := [], harness := (true, "4f0adb57b873b54412fc1dfd8ed8299865845a92a8e79f2377a9596775435e8b"), looks := false }, kinds := [], alts := [], laidByText := true, laidKinds := [.data, .data, .data, .data, .data], laidTests := true, laidLooks := .later }
def TypesUptoCardSaid : Prop := Claim7.holds Tryd.pinned (.plain (OpenSpec.upto typesSpec)) typesUptoCard
end Rows
end Go.Proofs.YteocjidfbbekfaaDoor
