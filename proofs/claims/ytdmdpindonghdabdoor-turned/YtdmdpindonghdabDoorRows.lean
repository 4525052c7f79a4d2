/-
  NARROWER THAN 'FOR EVERY INPUT', by the rows' own cells (each row's printed sentence says how): Peeks: laid · Units: laid · Same: laid · Turned: laid · ByHand: laid.
  DERIVED. THE GIVEN ROWS OF THIS SEAT. 5 by the template 'for every input the law returns true; each argument reads behind the call as it read before'; 0 by the template 'total and deterministic' (their statements: YtdmdpindonghdabDoorTotals.lean).
  GIVEN WITH THE SEED: the statements are not yours to turn. If you find one false, say at which input.
  Laid BY PROGRAM, IN A SANDBOX (cutbox-rows.mjs): the forced cells as the released guide's own fill.sh prints them over the translation 850d16a8ad5b0ee6… (all of the seat's roots in one cut). By AI agents, Wed Nov 11 2026. No macro, syntax, notation, axiom, sorry.
-/
import Derived.Test.YtdmdpindonghdabDoorChecked
import GoSem.Claim
import GoSem.ClaimJoined
import GoSem.ClaimMapViews
import Derived.JoinedTies
import Derived.KernelRfl
namespace Go.Proofs.YtdmdpindonghdabDoor
/- THE CELL 'sum', in the pinned program and in every row, IS THE sha256 OF THE DUMP (.gsa) THAT YtdmdpindonghdabDoorProg.lean LOADS. Nothing in Lean hashes anything: it is a label: what it is worth is what the hold of that sum in a sandbox is worth. -/
noncomputable def Tryd.pinned : Pinned := { name := "ytdmdpindonghdabdoor", sum := "850d16a8ad5b0ee6f1ee3f9dc74ac6ea6fb2650cd6a63348897f847364840683", checked := Tryd.checked }
namespace Rows
def none {H : Type} : Left H := { results := [], args := [] }

/- WHAT THE LISTED PACKAGE-LEVEL VARIABLES READ AS WHEN THE CALL BEGINS. Each datum BY PROGRAM (the guide's laid-datum.mjs) off the statement by which the dump's own 'gosem.cut.vars' lays the variable. In a bare row this is a premise. The card (YtdmdpindonghdabDoorCards.lean) ties it to the program's text. -/
def laid_tint_flow_pops {H : Type} : DataW H := .agg [.lit (.string [105]), .lit (.string []), .lit (.string [105, 105]), .lit (.string [105, 105]), .lit (.string [105, 105]), .lit (.string [105, 105]), .lit (.string [105, 105]), .lit (.string []), .lit (.string []), .lit (.string []), .lit (.string []), .lit (.string []), .lit (.string []), .lit (.string []), .lit (.string [114]), .lit (.string [114, 114]), .lit (.string [114]), .lit (.string [114, 105]), .lit (.string [114, 114]), .lit (.string []), .lit (.string [105]), .lit (.string []), .lit (.string [105]), .lit (.string [114]), .lit (.string [114])]
def laid_tint_flow_pushes {H : Type} : DataW H := .agg [.lit (.string []), .lit (.string [105]), .lit (.string [105]), .lit (.string [105]), .lit (.string [105]), .lit (.string [105]), .lit (.string [105]), .lit (.string []), .lit (.string []), .lit (.string []), .lit (.string []), .lit (.string []), .lit (.string [114]), .lit (.string [114]), .lit (.string [114]), .lit (.string []), .lit (.string [105]), .lit (.string []), .lit (.string [105]), .lit (.string []), .lit (.string []), .lit (.string [105]), .lit (.string []), .lit (.string [114]), .lit (.string [114])]

/-- 'tintkeep.Peeks': WHATEVER THE INPUT: true; the input reads as it did. -/
def peeksSpec : ChangeSpec := { name := "peeks", fn := fun _ => fun
  | [d1, d2, d3, d4] => { results := [.lit (.bool true)], args := [d1, d2, d3, d4] }
  | _ => none }
def peeksRow : OpenClaim := { program := "ytdmdpindonghdabdoor", sum := "850d16a8ad5b0ee6f1ee3f9dc74ac6ea6fb2650cd6a63348897f847364840683", func := "tint/tintkeep.Peeks", spec := "peeks", named := ["tint/flow.pops", "tint/flow.pushes"], apart := false, laid := [("tint/flow.pops", laid_tint_flow_pops), ("tint/flow.pushes", laid_tint_flow_pushes)] }
def PeeksSaid : Prop := peeksRow.holds Tryd.pinned (OpenSpec.ofChange peeksSpec)

/-- ITS FALSE NEIGHBOUR: 'it returns false'. Refute it at one input. -/
def peeksWrong : ChangeSpec := { name := "peeks", fn := fun _ => fun
  | [d1, d2, d3, d4] => { results := [.lit (.bool false)], args := [d1, d2, d3, d4] }
  | _ => none }
def PeeksWrongFalsely : Prop := peeksRow.holds Tryd.pinned (OpenSpec.ofChange peeksWrong)

/-- 'tintkeep.Units': WHATEVER THE INPUT: true; the input reads as it did. -/
def unitsSpec : ChangeSpec := { name := "units", fn := fun _ => fun
  | [d1, d2, d3, d4, d5, d6] => { results := [.lit (.bool true)], args := [d1, d2, d3, d4, d5, d6] }
  | _ => none }
def unitsRow : OpenClaim := { program := "ytdmdpindonghdabdoor", sum := "850d16a8ad5b0ee6f1ee3f9dc74ac6ea6fb2650cd6a63348897f847364840683", func := "tint/tintkeep.Units", spec := "units", named := ["tint/flow.pops", "tint/flow.pushes"], apart := false, laid := [("tint/flow.pops", laid_tint_flow_pops), ("tint/flow.pushes", laid_tint_flow_pushes)] }
def UnitsSaid : Prop := unitsRow.holds Tryd.pinned (OpenSpec.ofChange unitsSpec)

/-- ITS FALSE NEIGHBOUR: 'it returns false'. Refute it at one input. -/
def unitsWrong : ChangeSpec := { name := "units", fn := fun _ => fun
  | [d1, d2, d3, d4, d5, d6] => { results := [.lit (.bool false)], args := [d1, d2, d3, d4, d5, d6] }
  | _ => none }
def UnitsWrongFalsely : Prop := unitsRow.holds Tryd.pinned (OpenSpec.ofChange unitsWrong)

/-- 'tintkeep.Same': WHATEVER THE INPUT: true; the input reads as it did. -/
def sameSpec : ChangeSpec := { name := "same", fn := fun _ => fun
  | [d1, d2, d3, d4, d5, d6] => { results := [.lit (.bool true)], args := [d1, d2, d3, d4, d5, d6] }
  | _ => none }
def sameRow : OpenClaim := { program := "ytdmdpindonghdabdoor", sum := "850d16a8ad5b0ee6f1ee3f9dc74ac6ea6fb2650cd6a63348897f847364840683", func := "tint/tintkeep.Same", spec := "same", named := ["tint/flow.pops", "tint/flow.pushes"], apart := false, laid := [("tint/flow.pops", laid_tint_flow_pops), ("tint/flow.pushes", laid_tint_flow_pushes)] }
def SameSaid : Prop := sameRow.holds Tryd.pinned (OpenSpec.ofChange sameSpec)

/-- ITS FALSE NEIGHBOUR: 'it returns false'. Refute it at one input. -/
def sameWrong : ChangeSpec := { name := "same", fn := fun _ => fun
  | [d1, d2, d3, d4, d5, d6] => { results := [.lit (.bool false)], args := [d1, d2, d3, d4, d5, d6] }
  | _ => none }
def SameWrongFalsely : Prop := sameRow.holds Tryd.pinned (OpenSpec.ofChange sameWrong)

/-- 'tintkeep.Turned': WHATEVER THE INPUT: true; the input reads as it did. -/
def turnedSpec : ChangeSpec := { name := "turned", fn := fun _ => fun
  | [d1, d2, d3] => { results := [.lit (.bool true)], args := [d1, d2, d3] }
  | _ => none }
def turnedRow : OpenClaim := { program := "ytdmdpindonghdabdoor", sum := "850d16a8ad5b0ee6f1ee3f9dc74ac6ea6fb2650cd6a63348897f847364840683", func := "tint/tintkeep.Turned", spec := "turned", named := ["tint/flow.pops", "tint/flow.pushes"], apart := false, laid := [("tint/flow.pops", laid_tint_flow_pops), ("tint/flow.pushes", laid_tint_flow_pushes)] }
def TurnedSaid : Prop := turnedRow.holds Tryd.pinned (OpenSpec.ofChange turnedSpec)

/-- ITS FALSE NEIGHBOUR: 'it returns false'. Refute it at one input. -/
def turnedWrong : ChangeSpec := { name := "turned", fn := fun _ => fun
  | [d1, d2, d3] => { results := [.lit (.bool false)], args := [d1, d2, d3] }
  | _ => none }
def TurnedWrongFalsely : Prop := turnedRow.holds Tryd.pinned (OpenSpec.ofChange turnedWrong)

/-- 'tintkeep.ByHand': WHATEVER THE INPUT: true; the input reads as it did. -/
def byHandSpec : ChangeSpec := { name := "byHand", fn := fun _ => fun
  | [d1, d2, d3, d4, d5] => { results := [.lit (.bool true)], args := [d1, d2, d3, d4, d5] }
  | _ => none }
def byHandRow : OpenClaim := { program := "ytdmdpindonghdabdoor", sum := "850d16a8ad5b0ee6f1ee3f9dc74ac6ea6fb2650cd6a63348897f847364840683", func := "tint/tintkeep.ByHand", spec := "byHand", named := ["tint/flow.pops", "tint/flow.pushes"], apart := false, laid := [("tint/flow.pops", laid_tint_flow_pops), ("tint/flow.pushes", laid_tint_flow_pushes)] }
def ByHandSaid : Prop := byHandRow.holds Tryd.pinned (OpenSpec.ofChange byHandSpec)

/-- ITS FALSE NEIGHBOUR: 'it returns false'. Refute it at one input. -/
def byHandWrong : ChangeSpec := { name := "byHand", fn := fun _ => fun
  | [d1, d2, d3, d4, d5] => { results := [.lit (.bool false)], args := [d1, d2, d3, d4, d5] }
  | _ => none }
def ByHandWrongFalsely : Prop := byHandRow.holds Tryd.pinned (OpenSpec.ofChange byHandWrong)

/- THE SECOND FORM. 'bulk': how many values and letters a reading holds, each counted each time it is reached (what is shared counts as often as it is met; a slice's spare places count too). A statement '..UptoSaid' is the law's where the arguments, and the package variables that the reading takes, are together of bulk at most 1048576: NARROWER than '..Said'. Prove '..Said' where nothing that the law and all that it calls make is longer than what came in: it says more and counts as full. Else prove '..UptoSaid'. A law counts once. -/
mutual
def uptoBulk {H : Type} : DataW H → Nat
  | .lit (.string bytes) => bytes.length + 1
  | .lit _ => 1
  | .nil => 1
  | .ptr d => uptoBulk d + 1
  | .slice elems spare => uptoBulkAll elems + uptoBulkAll spare + 1
  | .agg parts => uptoBulkAll parts + 1
  | .iface _ d => uptoBulk d + 1
  | .map entries => uptoBulkEntries entries + 1
  | .held _ => 1
def uptoBulkAll {H : Type} : List (DataW H) → Nat
  | [] => 0
  | d :: r => uptoBulk d + uptoBulkAll r
def uptoBulkEntries {H : Type} : List (Lit × DataW H) → Nat
  | [] => 0
  | x :: r => uptoBulkEntry x + uptoBulkEntries r
def uptoBulkEntry {H : Type} : Lit × DataW H → Nat
  | (.string bytes, d) => bytes.length + uptoBulk d + 1
  | (_, d) => uptoBulk d + 1
 end
def uptoSmall : (H : Type) → List (DataW H) → Bool := fun _ ds => decide (uptoBulkAll ds ≤ 1048576)
def OpenSpec.upto (s : _root_.Go.ChangeSpec) : _root_.Go.OpenSpec := { _root_.Go.OpenSpec.ofChange s with cond := some uptoSmall }

/-- 'tintkeep.Peeks', WHERE WHAT IT READS IS OF BULK AT MOST 1048576: true; the input reads as it did. -/
def peeksUptoRow : OpenClaim := { program := "ytdmdpindonghdabdoor", sum := "850d16a8ad5b0ee6f1ee3f9dc74ac6ea6fb2650cd6a63348897f847364840683", func := "tint/tintkeep.Peeks", spec := "peeks", named := ["tint/flow.pops", "tint/flow.pushes"], apart := false, laid := [("tint/flow.pops", laid_tint_flow_pops), ("tint/flow.pushes", laid_tint_flow_pushes)], narrowed := true }
def PeeksUptoSaid : Prop := peeksUptoRow.holds Tryd.pinned (OpenSpec.upto peeksSpec)

/-- 'tintkeep.Units', WHERE WHAT IT READS IS OF BULK AT MOST 1048576: true; the input reads as it did. -/
def unitsUptoRow : OpenClaim := { program := "ytdmdpindonghdabdoor", sum := "850d16a8ad5b0ee6f1ee3f9dc74ac6ea6fb2650cd6a63348897f847364840683", func := "tint/tintkeep.Units", spec := "units", named := ["tint/flow.pops", "tint/flow.pushes"], apart := false, laid := [("tint/flow.pops", laid_tint_flow_pops), ("tint/flow.pushes", laid_tint_flow_pushes)], narrowed := true }
def UnitsUptoSaid : Prop := unitsUptoRow.holds Tryd.pinned (OpenSpec.upto unitsSpec)

/-- 'tintkeep.Same', WHERE WHAT IT READS IS OF BULK AT MOST 1048576: true; the input reads as it did. -/
def sameUptoRow : OpenClaim := { program := "ytdmdpindonghdabdoor", sum := "850d16a8ad5b0ee6f1ee3f9dc74ac6ea6fb2650cd6a63348897f847364840683", func := "tint/tintkeep.Same", spec := "same", named := ["tint/flow.pops", "tint/flow.pushes"], apart := false, laid := [("tint/flow.pops", laid_tint_flow_pops), ("tint/flow.pushes", laid_tint_flow_pushes)], narrowed := true }
def SameUptoSaid : Prop := sameUptoRow.holds Tryd.pinned (OpenSpec.upto sameSpec)

/-- 'tintkeep.Turned', WHERE WHAT IT READS IS OF BULK AT MOST 1048576: true; the input reads as it did. -/
def turnedUptoRow : OpenClaim := { program := "ytdmdpindonghdabdoor", sum := "850d16a8ad5b0ee6f1ee3f9dc74ac6ea6fb2650cd6a63348897f847364840683", func := "tint/tintkeep.Turned", spec := "turned", named := ["tint/flow.pops", "tint/flow.pushes"], apart := false, laid := [("tint/flow.pops", laid_tint_flow_pops), ("tint/flow.pushes", laid_tint_flow_pushes)], narrowed := true }
def TurnedUptoSaid : Prop := turnedUptoRow.holds Tryd.pinned (OpenSpec.upto turnedSpec)

/-- 'tintkeep.ByHand', WHERE WHAT IT READS IS OF BULK AT MOST 1048576: true; the input reads as it did. -/
def byHandUptoRow : OpenClaim := { program := "ytdmdpindonghdabdoor", sum := "850d16a8ad5b0ee6f1ee3f9dc74ac6ea6fb2650cd6a63348897f847364840683", func := "tint/tintkeep.ByHand", spec := "byHand", named := ["tint/flow.pops", "tint/flow.pushes"], apart := false, laid := [("tint/flow.pops", laid_tint_flow_pops), ("tint/flow.pushes", laid_tint_flow_pushes)], narrowed := true }
def ByHandUptoSaid : Prop := byHandUptoRow.holds Tryd.pinned (OpenSpec.upto byHandSpec)

end Rows
end Go.Proofs.YtdmdpindonghdabDoor
