/-
  NARROWER THAN 'FOR EVERY INPUT', by the rows' own cells (each row's printed sentence says how): Checks: laid · Types: laid · Typed: laid · Reckoned: laid · Filled: laid · Painted: laid · Tidy: laid.
  DERIVED. THE GIVEN ROWS OF THIS SEAT. 7 by the template 'for every input the law returns true; each argument reads behind the call as it read before'; 0 by the template 'total and deterministic' (their statements: YtdmdpindonghdaaDoorTotals.lean).
  GIVEN WITH THE SEED: the statements are not yours to turn. If you find one false, say at which input.
  Laid BY PROGRAM, IN A SANDBOX (cutbox-rows.mjs): the forced cells as the released guide's own fill.sh prints them over the translation 7a1aa8bbe21d65b2… (all of the seat's roots in one cut). By AI agents, Wed Nov 11 2026. No macro, syntax, notation, axiom, sorry.
-/
import Derived.Test.YtdmdpindonghdaaDoorChecked
import GoSem.Claim
import GoSem.ClaimJoined
import GoSem.ClaimMapViews
import Derived.JoinedTies
import Derived.KernelRfl
namespace Go.Proofs.YtdmdpindonghdaaDoor
/- THE CELL 'sum', in the pinned program and in every row, IS THE sha256 OF THE DUMP (.gsa) THAT YtdmdpindonghdaaDoorProg.lean LOADS. Nothing in Lean hashes anything: it is a label: what it is worth is what the hold of that sum in a sandbox is worth. -/
noncomputable def Tryd.pinned : Pinned := { name := "ytdmdpindonghdaadoor", sum := "7a1aa8bbe21d65b2835a81314324bf57a77143f50487e729dedd4661c992bfcf", checked := Tryd.checked }
namespace Rows
def none {H : Type} : Left H := { results := [], args := [] }

/- WHAT THE LISTED PACKAGE-LEVEL VARIABLES READ AS WHEN THE CALL BEGINS. Each datum BY PROGRAM (the guide's laid-datum.mjs) off the statement by which the dump's own 'gosem.cut.vars' lays the variable. In a bare row this is a premise. The card (YtdmdpindonghdaaDoorCards.lean) ties it to the program's text. -/
def laid_tint_flow_pops {H : Type} : DataW H := .agg [.lit (.string [105]), .lit (.string []), .lit (.string [105, 105]), .lit (.string [105, 105]), .lit (.string [105, 105]), .lit (.string [105, 105]), .lit (.string [105, 105]), .lit (.string []), .lit (.string []), .lit (.string []), .lit (.string []), .lit (.string []), .lit (.string []), .lit (.string []), .lit (.string [114]), .lit (.string [114, 114]), .lit (.string [114]), .lit (.string [114, 105]), .lit (.string [114, 114]), .lit (.string []), .lit (.string [105]), .lit (.string []), .lit (.string [105]), .lit (.string [114]), .lit (.string [114])]
def laid_tint_flow_pushes {H : Type} : DataW H := .agg [.lit (.string []), .lit (.string [105]), .lit (.string [105]), .lit (.string [105]), .lit (.string [105]), .lit (.string [105]), .lit (.string [105]), .lit (.string []), .lit (.string []), .lit (.string []), .lit (.string []), .lit (.string []), .lit (.string [114]), .lit (.string [114]), .lit (.string [114]), .lit (.string []), .lit (.string [105]), .lit (.string []), .lit (.string [105]), .lit (.string []), .lit (.string []), .lit (.string [105]), .lit (.string []), .lit (.string [114]), .lit (.string [114])]
def laid_tint_tintref_pops {H : Type} : DataW H := .agg [.lit (.string [105]), .lit (.string []), .lit (.string [105, 105]), .lit (.string [105, 105]), .lit (.string [105, 105]), .lit (.string [105, 105]), .lit (.string [105, 105]), .lit (.string []), .lit (.string []), .lit (.string []), .lit (.string []), .lit (.string []), .lit (.string []), .lit (.string []), .lit (.string [114]), .lit (.string [114, 114]), .lit (.string [114]), .lit (.string [114, 105]), .lit (.string [114, 114]), .lit (.string []), .lit (.string [105]), .lit (.string []), .lit (.string [105]), .lit (.string [114]), .lit (.string [114])]
def laid_tint_tintref_pushes {H : Type} : DataW H := .agg [.lit (.string []), .lit (.string [105]), .lit (.string [105]), .lit (.string [105]), .lit (.string [105]), .lit (.string [105]), .lit (.string [105]), .lit (.string []), .lit (.string []), .lit (.string []), .lit (.string []), .lit (.string []), .lit (.string [114]), .lit (.string [114]), .lit (.string [114]), .lit (.string []), .lit (.string [105]), .lit (.string []), .lit (.string [105]), .lit (.string []), .lit (.string []), .lit (.string [105]), .lit (.string []), .lit (.string [114]), .lit (.string [114])]
def laid_tint_tintref_takes {H : Type} : DataW H := .agg [.lit (.bool false), .lit (.bool true), .lit (.bool false), .lit (.bool false), .lit (.bool false), .lit (.bool false), .lit (.bool false), .lit (.bool true), .lit (.bool true), .lit (.bool false), .lit (.bool false), .lit (.bool false), .lit (.bool false), .lit (.bool false), .lit (.bool true), .lit (.bool true), .lit (.bool false), .lit (.bool false), .lit (.bool false), .lit (.bool true), .lit (.bool true), .lit (.bool false), .lit (.bool false), .lit (.bool false), .lit (.bool false)]

/-- 'tintlaw.Checks': WHATEVER THE INPUT: true; the input reads as it did. -/
def checksSpec : ChangeSpec := { name := "checks", fn := fun _ => fun
  | [d] => { results := [.lit (.bool true)], args := [d] }
  | _ => none }
def checksRow : OpenClaim := { program := "ytdmdpindonghdaadoor", sum := "7a1aa8bbe21d65b2835a81314324bf57a77143f50487e729dedd4661c992bfcf", func := "tint/tintlaw.Checks", spec := "checks", named := ["tint/flow.pops", "tint/flow.pushes", "tint/tintref.takes", "tint/tintref.pops", "tint/tintref.pushes"], apart := false, laid := [("tint/flow.pops", laid_tint_flow_pops), ("tint/flow.pushes", laid_tint_flow_pushes), ("tint/tintref.pops", laid_tint_tintref_pops), ("tint/tintref.pushes", laid_tint_tintref_pushes), ("tint/tintref.takes", laid_tint_tintref_takes)] }
def ChecksSaid : Prop := checksRow.holds Tryd.pinned (OpenSpec.ofChange checksSpec)

/-- ITS FALSE NEIGHBOUR: 'it returns false'. Refute it at one input. -/
def checksWrong : ChangeSpec := { name := "checks", fn := fun _ => fun
  | [d] => { results := [.lit (.bool false)], args := [d] }
  | _ => none }
def ChecksWrongFalsely : Prop := checksRow.holds Tryd.pinned (OpenSpec.ofChange checksWrong)

/-- 'tintlaw.Types': WHATEVER THE INPUT: true; the input reads as it did. -/
def typesSpec : ChangeSpec := { name := "types", fn := fun _ => fun
  | [d] => { results := [.lit (.bool true)], args := [d] }
  | _ => none }
def typesRow : OpenClaim := { program := "ytdmdpindonghdaadoor", sum := "7a1aa8bbe21d65b2835a81314324bf57a77143f50487e729dedd4661c992bfcf", func := "tint/tintlaw.Types", spec := "types", named := ["tint/flow.pops", "tint/flow.pushes", "tint/tintref.takes", "tint/tintref.pops", "tint/tintref.pushes"], apart := false, laid := [("tint/flow.pops", laid_tint_flow_pops), ("tint/flow.pushes", laid_tint_flow_pushes), ("tint/tintref.pops", laid_tint_tintref_pops), ("tint/tintref.pushes", laid_tint_tintref_pushes), ("tint/tintref.takes", laid_tint_tintref_takes)] }
def TypesSaid : Prop := typesRow.holds Tryd.pinned (OpenSpec.ofChange typesSpec)

/-- ITS FALSE NEIGHBOUR: 'it returns false'. Refute it at one input. -/
def typesWrong : ChangeSpec := { name := "types", fn := fun _ => fun
  | [d] => { results := [.lit (.bool false)], args := [d] }
  | _ => none }
def TypesWrongFalsely : Prop := typesRow.holds Tryd.pinned (OpenSpec.ofChange typesWrong)

/-- 'tintkeep.Typed': WHATEVER THE INPUT: true; the input reads as it did. -/
def typedSpec : ChangeSpec := { name := "typed", fn := fun _ => fun
  | [d1, d2, d3, d4, d5] => { results := [.lit (.bool true)], args := [d1, d2, d3, d4, d5] }
  | _ => none }
def typedRow : OpenClaim := { program := "ytdmdpindonghdaadoor", sum := "7a1aa8bbe21d65b2835a81314324bf57a77143f50487e729dedd4661c992bfcf", func := "tint/tintkeep.Typed", spec := "typed", named := ["tint/flow.pops", "tint/flow.pushes"], apart := false, laid := [("tint/flow.pops", laid_tint_flow_pops), ("tint/flow.pushes", laid_tint_flow_pushes)] }
def TypedSaid : Prop := typedRow.holds Tryd.pinned (OpenSpec.ofChange typedSpec)

/-- ITS FALSE NEIGHBOUR: 'it returns false'. Refute it at one input. -/
def typedWrong : ChangeSpec := { name := "typed", fn := fun _ => fun
  | [d1, d2, d3, d4, d5] => { results := [.lit (.bool false)], args := [d1, d2, d3, d4, d5] }
  | _ => none }
def TypedWrongFalsely : Prop := typedRow.holds Tryd.pinned (OpenSpec.ofChange typedWrong)

/-- 'tintkeep.Reckoned': WHATEVER THE INPUT: true; the input reads as it did. -/
def reckonedSpec : ChangeSpec := { name := "reckoned", fn := fun _ => fun
  | [d1, d2, d3, d4] => { results := [.lit (.bool true)], args := [d1, d2, d3, d4] }
  | _ => none }
def reckonedRow : OpenClaim := { program := "ytdmdpindonghdaadoor", sum := "7a1aa8bbe21d65b2835a81314324bf57a77143f50487e729dedd4661c992bfcf", func := "tint/tintkeep.Reckoned", spec := "reckoned", named := ["tint/flow.pops", "tint/flow.pushes"], apart := false, laid := [("tint/flow.pops", laid_tint_flow_pops), ("tint/flow.pushes", laid_tint_flow_pushes)] }
def ReckonedSaid : Prop := reckonedRow.holds Tryd.pinned (OpenSpec.ofChange reckonedSpec)

/-- ITS FALSE NEIGHBOUR: 'it returns false'. Refute it at one input. -/
def reckonedWrong : ChangeSpec := { name := "reckoned", fn := fun _ => fun
  | [d1, d2, d3, d4] => { results := [.lit (.bool false)], args := [d1, d2, d3, d4] }
  | _ => none }
def ReckonedWrongFalsely : Prop := reckonedRow.holds Tryd.pinned (OpenSpec.ofChange reckonedWrong)

/-- 'tintkeep.Filled': WHATEVER THE INPUT: true; the input reads as it did. -/
def filledSpec : ChangeSpec := { name := "filled", fn := fun _ => fun
  | [d1, d2, d3, d4, d5] => { results := [.lit (.bool true)], args := [d1, d2, d3, d4, d5] }
  | _ => none }
def filledRow : OpenClaim := { program := "ytdmdpindonghdaadoor", sum := "7a1aa8bbe21d65b2835a81314324bf57a77143f50487e729dedd4661c992bfcf", func := "tint/tintkeep.Filled", spec := "filled", named := ["tint/flow.pops", "tint/flow.pushes"], apart := false, laid := [("tint/flow.pops", laid_tint_flow_pops), ("tint/flow.pushes", laid_tint_flow_pushes)] }
def FilledSaid : Prop := filledRow.holds Tryd.pinned (OpenSpec.ofChange filledSpec)

/-- ITS FALSE NEIGHBOUR: 'it returns false'. Refute it at one input. -/
def filledWrong : ChangeSpec := { name := "filled", fn := fun _ => fun
  | [d1, d2, d3, d4, d5] => { results := [.lit (.bool false)], args := [d1, d2, d3, d4, d5] }
  | _ => none }
def FilledWrongFalsely : Prop := filledRow.holds Tryd.pinned (OpenSpec.ofChange filledWrong)

/-- 'tintkeep.Painted': WHATEVER THE INPUT: true; the input reads as it did. -/
def paintedSpec : ChangeSpec := { name := "painted", fn := fun _ => fun
  | [d1, d2, d3, d4] => { results := [.lit (.bool true)], args := [d1, d2, d3, d4] }
  | _ => none }
def paintedRow : OpenClaim := { program := "ytdmdpindonghdaadoor", sum := "7a1aa8bbe21d65b2835a81314324bf57a77143f50487e729dedd4661c992bfcf", func := "tint/tintkeep.Painted", spec := "painted", named := ["tint/flow.pops", "tint/flow.pushes"], apart := false, laid := [("tint/flow.pops", laid_tint_flow_pops), ("tint/flow.pushes", laid_tint_flow_pushes)] }
def PaintedSaid : Prop := paintedRow.holds Tryd.pinned (OpenSpec.ofChange paintedSpec)

/-- ITS FALSE NEIGHBOUR: 'it returns false'. Refute it at one input. -/
def paintedWrong : ChangeSpec := { name := "painted", fn := fun _ => fun
  | [d1, d2, d3, d4] => { results := [.lit (.bool false)], args := [d1, d2, d3, d4] }
  | _ => none }
def PaintedWrongFalsely : Prop := paintedRow.holds Tryd.pinned (OpenSpec.ofChange paintedWrong)

/-- 'tintkeep.Tidy': WHATEVER THE INPUT: true; the input reads as it did. -/
def tidySpec : ChangeSpec := { name := "tidy", fn := fun _ => fun
  | [d1, d2, d3, d4] => { results := [.lit (.bool true)], args := [d1, d2, d3, d4] }
  | _ => none }
def tidyRow : OpenClaim := { program := "ytdmdpindonghdaadoor", sum := "7a1aa8bbe21d65b2835a81314324bf57a77143f50487e729dedd4661c992bfcf", func := "tint/tintkeep.Tidy", spec := "tidy", named := ["tint/flow.pops", "tint/flow.pushes"], apart := false, laid := [("tint/flow.pops", laid_tint_flow_pops), ("tint/flow.pushes", laid_tint_flow_pushes)] }
def TidySaid : Prop := tidyRow.holds Tryd.pinned (OpenSpec.ofChange tidySpec)

/-- ITS FALSE NEIGHBOUR: 'it returns false'. Refute it at one input. -/
def tidyWrong : ChangeSpec := { name := "tidy", fn := fun _ => fun
  | [d1, d2, d3, d4] => { results := [.lit (.bool false)], args := [d1, d2, d3, d4] }
  | _ => none }
def TidyWrongFalsely : Prop := tidyRow.holds Tryd.pinned (OpenSpec.ofChange tidyWrong)

/- THE SECOND FORM. 'bulk': how many values and letters a reading holds, each counted each time it is reached (what is shared counts as often as it is met; a slice's spare places count too). A statement '..UptoSaid' is the law's where the arguments, and the package variables that the reading takes, are together of bulk at most 1048576: NARROWER than '..Said'. Prove '..Said' where nothing that the law and all that it calls make is longer than what came in: it says more and counts as full. Else prove '..UptoSaid'. A law counts once. -/
mutual
def uptoBulk {H : Type} : DataW H → Nat
  | .lit (.string bytes) => bytes.length + 1
  | .lit _ => 1
  | .nil => 1
  | .ptr d => uptoBulk d + 1
  | .slice elems spare => uptoBulkAll elems + uptoBulkAll spare + 1
  | .agg parts => uptoBulkAll parts + 1
  | .iface _ d => uptoBulk d + 1
  | .map entries => uptoBulkEntries entries + 1
  | .held _ => 1
def uptoBulkAll {H : Type} : List (DataW H) → Nat
  | [] => 0
  | d :: r => uptoBulk d + uptoBulkAll r
def uptoBulkEntries {H : Type} : List (Lit × DataW H) → Nat
  | [] => 0
  | x :: r => uptoBulkEntry x + uptoBulkEntries r
def uptoBulkEntry {H : Type} : Lit × DataW H → Nat
  | (.string bytes, d) => bytes.length + uptoBulk d + 1
  | (_, d) => uptoBulk d + 1
 end
def uptoSmall : (H : Type) → List (DataW H) → Bool := fun _ ds => decide (uptoBulkAll ds ≤ 1048576)
def OpenSpec.upto (s : _root_.Go.ChangeSpec) : _root_.Go.OpenSpec := { _root_.Go.OpenSpec.ofChange s with cond := some uptoSmall }

/-- 'tintlaw.Checks', WHERE WHAT IT READS IS OF BULK AT MOST 1048576: true; the input reads as it did. -/
def checksUptoRow : OpenClaim := { program := "ytdmdpindonghdaadoor", sum := "7a1aa8bbe21d65b2835a81314324bf57a77143f50487e729dedd4661c992bfcf", func := "tint/tintlaw.Checks", spec := "checks", named := ["tint/flow.pops", "tint/flow.pushes", "tint/tintref.takes", "tint/tintref.pops", "tint/tintref.pushes"], apart := false, laid := [("tint/flow.pops", laid_tint_flow_pops), ("tint/flow.pushes", laid_tint_flow_pushes), ("tint/tintref.pops", laid_tint_tintref_pops), ("tint/tintref.pushes", laid_tint_tintref_pushes), ("tint/tintref.takes", laid_tint_tintref_takes)], narrowed := true }
def ChecksUptoSaid : Prop := checksUptoRow.holds Tryd.pinned (OpenSpec.upto checksSpec)

/-- 'tintlaw.Types', WHERE WHAT IT READS IS OF BULK AT MOST 1048576: true; the input reads as it did. -/
def typesUptoRow : OpenClaim := { program := "ytdmdpindonghdaadoor", sum := "7a1aa8bbe21d65b2835a81314324bf57a77143f50487e729dedd4661c992bfcf", func := "tint/tintlaw.Types", spec := "types", named := ["tint/flow.pops", "tint/flow.pushes", "tint/tintref.takes", "tint/tintref.pops", "tint/tintref.pushes"], apart := false, laid := [("tint/flow.pops", laid_tint_flow_pops), ("tint/flow.pushes", laid_tint_flow_pushes), ("tint/tintref.pops", laid_tint_tintref_pops), ("tint/tintref.pushes", laid_tint_tintref_pushes), ("tint/tintref.takes", laid_tint_tintref_takes)], narrowed := true }
def TypesUptoSaid : Prop := typesUptoRow.holds Tryd.pinned (OpenSpec.upto typesSpec)

/-- 'tintkeep.Typed', WHERE WHAT IT READS IS OF BULK AT MOST 1048576: true; the input reads as it did. -/
def typedUptoRow : OpenClaim := { program := "ytdmdpindonghdaadoor", sum := "7a1aa8bbe21d65b2835a81314324bf57a77143f50487e729dedd4661c992bfcf", func := "tint/tintkeep.Typed", spec := "typed", named := ["tint/flow.pops", "tint/flow.pushes"], apart := false, laid := [("tint/flow.pops", laid_tint_flow_pops), ("tint/flow.pushes", laid_tint_flow_pushes)], narrowed := true }
def TypedUptoSaid : Prop := typedUptoRow.holds Tryd.pinned (OpenSpec.upto typedSpec)

/-- 'tintkeep.Reckoned', WHERE WHAT IT READS IS OF BULK AT MOST 1048576: true; the input reads as it did. -/
def reckonedUptoRow : OpenClaim := { program := "ytdmdpindonghdaadoor", sum := "7a1aa8bbe21d65b2835a81314324bf57a77143f50487e729dedd4661c992bfcf", func := "tint/tintkeep.Reckoned", spec := "reckoned", named := ["tint/flow.pops", "tint/flow.pushes"], apart := false, laid := [("tint/flow.pops", laid_tint_flow_pops), ("tint/flow.pushes", laid_tint_flow_pushes)], narrowed := true }
def ReckonedUptoSaid : Prop := reckonedUptoRow.holds Tryd.pinned (OpenSpec.upto reckonedSpec)

/-- 'tintkeep.Filled', WHERE WHAT IT READS IS OF BULK AT MOST 1048576: true; the input reads as it did. -/
def filledUptoRow : OpenClaim := { program := "ytdmdpindonghdaadoor", sum := "7a1aa8bbe21d65b2835a81314324bf57a77143f50487e729dedd4661c992bfcf", func := "tint/tintkeep.Filled", spec := "filled", named := ["tint/flow.pops", "tint/flow.pushes"], apart := false, laid := [("tint/flow.pops", laid_tint_flow_pops), ("tint/flow.pushes", laid_tint_flow_pushes)], narrowed := true }
def FilledUptoSaid : Prop := filledUptoRow.holds Tryd.pinned (OpenSpec.upto filledSpec)

/-- 'tintkeep.Painted', WHERE WHAT IT READS IS OF BULK AT MOST 1048576: true; the input reads as it did. -/
def paintedUptoRow : OpenClaim := { program := "ytdmdpindonghdaadoor", sum := "7a1aa8bbe21d65b2835a81314324bf57a77143f50487e729dedd4661c992bfcf", func := "tint/tintkeep.Painted", spec := "painted", named := ["tint/flow.pops", "tint/flow.pushes"], apart := false, laid := [("tint/flow.pops", laid_tint_flow_pops), ("tint/flow.pushes", laid_tint_flow_pushes)], narrowed := true }
def PaintedUptoSaid : Prop := paintedUptoRow.holds Tryd.pinned (OpenSpec.upto paintedSpec)

/-- 'tintkeep.Tidy', WHERE WHAT IT READS IS OF BULK AT MOST 1048576: true; the input reads as it did. -/
def tidyUptoRow : OpenClaim := { program := "ytdmdpindonghdaadoor", sum := "7a1aa8bbe21d65b2835a81314324bf57a77143f50487e729dedd4661c992bfcf", func := "tint/tintkeep.Tidy", spec := "tidy", named := ["tint/flow.pops", "tint/flow.pushes"], apart := false, laid := [("tint/flow.pops", laid_tint_flow_pops), ("tint/flow.pushes", laid_tint_flow_pushes)], narrowed := true }
def TidyUptoSaid : Prop := tidyUptoRow.holds Tryd.pinned (OpenSpec.upto tidySpec)

end Rows
end Go.Proofs.YtdmdpindonghdaaDoor
