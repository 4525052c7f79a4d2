/-
  NARROWER THAN 'FOR EVERY INPUT', by the rows' own cells (each row's printed sentence says how): News: laid · Steps: laid · Collects: laid · Runs: laid · All: laid.
  DERIVED. THE GIVEN ROWS OF THIS SEAT. 5 by the template 'for every input the law returns true; each argument reads behind the call as it read before'; 0 by the template 'total and deterministic' (their statements: YtdmdpindonghdaaGreatDoorTotals.lean).
  GIVEN WITH THE SEED: the statements are not yours to turn. If you find one false, say at which input.
  Laid BY PROGRAM, IN A SANDBOX (cutbox-rows.mjs): the forced cells as the released guide's own fill.sh prints them over the translation ac2da0c1baa32592… (all of the seat's roots in one cut). By AI agents, Wed Nov 11 2026. No macro, syntax, notation, axiom, sorry.
-/
import Derived.Test.YtdmdpindonghdaaGreatDoorChecked
import GoSem.Claim
import GoSem.ClaimJoined
import GoSem.ClaimMapViews
import Derived.JoinedTies
import Derived.KernelRfl
namespace Go.Proofs.YtdmdpindonghdaaGreatDoor
/- THE CELL 'sum', in the pinned program and in every row, IS THE sha256 OF THE DUMP (.gsa) THAT YtdmdpindonghdaaGreatDoorProg.lean LOADS. Nothing in Lean hashes anything: it is a label: what it is worth is what the hold of that sum in a sandbox is worth. -/
noncomputable def Tryz.pinned : Pinned := { name := "ytdmdpindonghdaagreatdoor", sum := "ac2da0c1baa325922b74df367880150d33e3c06711632e160e85b97e2bc0dec0", checked := Tryz.checked }
namespace Rows
def none {H : Type} : Left H := { results := [], args := [] }

/- WHAT THE LISTED PACKAGE-LEVEL VARIABLES READ AS WHEN THE CALL BEGINS. Each datum BY PROGRAM (the guide's laid-datum.mjs) off the statement by which the dump's own 'gosem.cut.vars' lays the variable. In a bare row this is a premise. The card (YtdmdpindonghdaaGreatDoorCards.lean) ties it to the program's text. -/
def laid_tint_flow_pops {H : Type} : DataW H := .agg [.lit (.string [105]), .lit (.string []), .lit (.string [105, 105]), .lit (.string [105, 105]), .lit (.string [105, 105]), .lit (.string [105, 105]), .lit (.string [105, 105]), .lit (.string []), .lit (.string []), .lit (.string []), .lit (.string []), .lit (.string []), .lit (.string []), .lit (.string []), .lit (.string [114]), .lit (.string [114, 114]), .lit (.string [114]), .lit (.string [114, 105]), .lit (.string [114, 114]), .lit (.string []), .lit (.string [105]), .lit (.string []), .lit (.string [105]), .lit (.string [114]), .lit (.string [114])]
def laid_tint_flow_pushes {H : Type} : DataW H := .agg [.lit (.string []), .lit (.string [105]), .lit (.string [105]), .lit (.string [105]), .lit (.string [105]), .lit (.string [105]), .lit (.string [105]), .lit (.string []), .lit (.string []), .lit (.string []), .lit (.string []), .lit (.string []), .lit (.string [114]), .lit (.string [114]), .lit (.string [114]), .lit (.string []), .lit (.string [105]), .lit (.string []), .lit (.string [105]), .lit (.string []), .lit (.string []), .lit (.string [105]), .lit (.string []), .lit (.string [114]), .lit (.string [114])]
def laid_tint_tintref_pops {H : Type} : DataW H := .agg [.lit (.string [105]), .lit (.string []), .lit (.string [105, 105]), .lit (.string [105, 105]), .lit (.string [105, 105]), .lit (.string [105, 105]), .lit (.string [105, 105]), .lit (.string []), .lit (.string []), .lit (.string []), .lit (.string []), .lit (.string []), .lit (.string []), .lit (.string []), .lit (.string [114]), .lit (.string [114, 114]), .lit (.string [114]), .lit (.string [114, 105]), .lit (.string [114, 114]), .lit (.string []), .lit (.string [105]), .lit (.string []), .lit (.string [105]), .lit (.string [114]), .lit (.string [114])]
def laid_tint_tintref_pushes {H : Type} : DataW H := .agg [.lit (.string []), .lit (.string [105]), .lit (.string [105]), .lit (.string [105]), .lit (.string [105]), .lit (.string [105]), .lit (.string [105]), .lit (.string []), .lit (.string []), .lit (.string []), .lit (.string []), .lit (.string []), .lit (.string [114]), .lit (.string [114]), .lit (.string [114]), .lit (.string []), .lit (.string [105]), .lit (.string []), .lit (.string [105]), .lit (.string []), .lit (.string []), .lit (.string [105]), .lit (.string []), .lit (.string [114]), .lit (.string [114])]
def laid_tint_tintref_takes {H : Type} : DataW H := .agg [.lit (.bool false), .lit (.bool true), .lit (.bool false), .lit (.bool false), .lit (.bool false), .lit (.bool false), .lit (.bool false), .lit (.bool true), .lit (.bool true), .lit (.bool false), .lit (.bool false), .lit (.bool false), .lit (.bool false), .lit (.bool false), .lit (.bool true), .lit (.bool true), .lit (.bool false), .lit (.bool false), .lit (.bool false), .lit (.bool true), .lit (.bool true), .lit (.bool false), .lit (.bool false), .lit (.bool false), .lit (.bool false)]

/-- 'tintlaw.News': WHATEVER THE INPUT: true; the input reads as it did. -/
def newsSpec : ChangeSpec := { name := "news", fn := fun _ => fun
  | [d1, d2, d3] => { results := [.lit (.bool true)], args := [d1, d2, d3] }
  | _ => none }
def newsRow : OpenClaim := { program := "ytdmdpindonghdaagreatdoor", sum := "ac2da0c1baa325922b74df367880150d33e3c06711632e160e85b97e2bc0dec0", func := "tint/tintlaw.News", spec := "news", named := ["tint/flow.pops", "tint/flow.pushes", "tint/tintref.takes", "tint/tintref.pops", "tint/tintref.pushes"], apart := false, laid := [("tint/flow.pops", laid_tint_flow_pops), ("tint/flow.pushes", laid_tint_flow_pushes), ("tint/tintref.pops", laid_tint_tintref_pops), ("tint/tintref.pushes", laid_tint_tintref_pushes), ("tint/tintref.takes", laid_tint_tintref_takes)] }
def NewsSaid : Prop := newsRow.holds Tryz.pinned (OpenSpec.ofChange newsSpec)

/-- ITS FALSE NEIGHBOUR: 'it returns false'. Refute it at one input. -/
def newsWrong : ChangeSpec := { name := "news", fn := fun _ => fun
  | [d1, d2, d3] => { results := [.lit (.bool false)], args := [d1, d2, d3] }
  | _ => none }
def NewsWrongFalsely : Prop := newsRow.holds Tryz.pinned (OpenSpec.ofChange newsWrong)

/-- 'tintlaw.Steps': WHATEVER THE INPUT: true; the input reads as it did. -/
def stepsSpec : ChangeSpec := { name := "steps", fn := fun _ => fun
  | [d1, d2, d3, d4] => { results := [.lit (.bool true)], args := [d1, d2, d3, d4] }
  | _ => none }
def stepsRow : OpenClaim := { program := "ytdmdpindonghdaagreatdoor", sum := "ac2da0c1baa325922b74df367880150d33e3c06711632e160e85b97e2bc0dec0", func := "tint/tintlaw.Steps", spec := "steps", named := ["tint/flow.pops", "tint/flow.pushes", "tint/tintref.takes", "tint/tintref.pops", "tint/tintref.pushes"], apart := false, laid := [("tint/flow.pops", laid_tint_flow_pops), ("tint/flow.pushes", laid_tint_flow_pushes), ("tint/tintref.pops", laid_tint_tintref_pops), ("tint/tintref.pushes", laid_tint_tintref_pushes), ("tint/tintref.takes", laid_tint_tintref_takes)] }
def StepsSaid : Prop := stepsRow.holds Tryz.pinned (OpenSpec.ofChange stepsSpec)

/-- ITS FALSE NEIGHBOUR: 'it returns false'. Refute it at one input. -/
def stepsWrong : ChangeSpec := { name := "steps", fn := fun _ => fun
  | [d1, d2, d3, d4] => { results := [.lit (.bool false)], args := [d1, d2, d3, d4] }
  | _ => none }
def StepsWrongFalsely : Prop := stepsRow.holds Tryz.pinned (OpenSpec.ofChange stepsWrong)

/-- 'tintlaw.Collects': WHATEVER THE INPUT: true; the input reads as it did. -/
def collectsSpec : ChangeSpec := { name := "collects", fn := fun _ => fun
  | [d1, d2, d3, d4] => { results := [.lit (.bool true)], args := [d1, d2, d3, d4] }
  | _ => none }
def collectsRow : OpenClaim := { program := "ytdmdpindonghdaagreatdoor", sum := "ac2da0c1baa325922b74df367880150d33e3c06711632e160e85b97e2bc0dec0", func := "tint/tintlaw.Collects", spec := "collects", named := ["tint/flow.pops", "tint/flow.pushes", "tint/tintref.takes", "tint/tintref.pops", "tint/tintref.pushes"], apart := false, laid := [("tint/flow.pops", laid_tint_flow_pops), ("tint/flow.pushes", laid_tint_flow_pushes), ("tint/tintref.pops", laid_tint_tintref_pops), ("tint/tintref.pushes", laid_tint_tintref_pushes), ("tint/tintref.takes", laid_tint_tintref_takes)] }
def CollectsSaid : Prop := collectsRow.holds Tryz.pinned (OpenSpec.ofChange collectsSpec)

/-- ITS FALSE NEIGHBOUR: 'it returns false'. Refute it at one input. -/
def collectsWrong : ChangeSpec := { name := "collects", fn := fun _ => fun
  | [d1, d2, d3, d4] => { results := [.lit (.bool false)], args := [d1, d2, d3, d4] }
  | _ => none }
def CollectsWrongFalsely : Prop := collectsRow.holds Tryz.pinned (OpenSpec.ofChange collectsWrong)

/-- 'tintlaw.Runs': WHATEVER THE INPUT: true; the input reads as it did. -/
def runsSpec : ChangeSpec := { name := "runs", fn := fun _ => fun
  | [d1, d2, d3, d4, d5] => { results := [.lit (.bool true)], args := [d1, d2, d3, d4, d5] }
  | _ => none }
def runsRow : OpenClaim := { program := "ytdmdpindonghdaagreatdoor", sum := "ac2da0c1baa325922b74df367880150d33e3c06711632e160e85b97e2bc0dec0", func := "tint/tintlaw.Runs", spec := "runs", named := ["tint/flow.pops", "tint/flow.pushes", "tint/tintref.takes", "tint/tintref.pops", "tint/tintref.pushes"], apart := false, laid := [("tint/flow.pops", laid_tint_flow_pops), ("tint/flow.pushes", laid_tint_flow_pushes), ("tint/tintref.pops", laid_tint_tintref_pops), ("tint/tintref.pushes", laid_tint_tintref_pushes), ("tint/tintref.takes", laid_tint_tintref_takes)] }
def RunsSaid : Prop := runsRow.holds Tryz.pinned (OpenSpec.ofChange runsSpec)

/-- ITS FALSE NEIGHBOUR: 'it returns false'. Refute it at one input. -/
def runsWrong : ChangeSpec := { name := "runs", fn := fun _ => fun
  | [d1, d2, d3, d4, d5] => { results := [.lit (.bool false)], args := [d1, d2, d3, d4, d5] }
  | _ => none }
def RunsWrongFalsely : Prop := runsRow.holds Tryz.pinned (OpenSpec.ofChange runsWrong)

/-- 'tintlaw.All': WHATEVER THE INPUT: true; the input reads as it did. -/
def allSpec : ChangeSpec := { name := "all", fn := fun _ => fun
  | [d1, d2, d3, d4] => { results := [.lit (.bool true)], args := [d1, d2, d3, d4] }
  | _ => none }
def allRow : OpenClaim := { program := "ytdmdpindonghdaagreatdoor", sum := "ac2da0c1baa325922b74df367880150d33e3c06711632e160e85b97e2bc0dec0", func := "tint/tintlaw.All", spec := "all", named := ["tint/flow.pops", "tint/flow.pushes", "tint/tintref.takes", "tint/tintref.pops", "tint/tintref.pushes"], apart := false, laid := [("tint/flow.pops", laid_tint_flow_pops), ("tint/flow.pushes", laid_tint_flow_pushes), ("tint/tintref.pops", laid_tint_tintref_pops), ("tint/tintref.pushes", laid_tint_tintref_pushes), ("tint/tintref.takes", laid_tint_tintref_takes)] }
def AllSaid : Prop := allRow.holds Tryz.pinned (OpenSpec.ofChange allSpec)

/-- ITS FALSE NEIGHBOUR: 'it returns false'. Refute it at one input. -/
def allWrong : ChangeSpec := { name := "all", fn := fun _ => fun
  | [d1, d2, d3, d4] => { results := [.lit (.bool false)], args := [d1, d2, d3, d4] }
  | _ => none }
def AllWrongFalsely : Prop := allRow.holds Tryz.pinned (OpenSpec.ofChange allWrong)

/- THE SECOND FORM. 'bulk': how many values and letters a reading holds, each counted each time it is reached (what is shared counts as often as it is met; a slice's spare places count too). A statement '..UptoSaid' is the law's where the arguments, and the package variables that the reading takes, are together of bulk at most 1048576: NARROWER than '..Said'. Prove '..Said' where nothing that the law and all that it calls make is longer than what came in: it says more and counts as full. Else prove '..UptoSaid'. A law counts once. -/
mutual
def uptoBulk {H : Type} : DataW H → Nat
  | .lit (.string bytes) => bytes.length + 1
  | .lit _ => 1
  | .nil => 1
  | .ptr d => uptoBulk d + 1
  | .slice elems spare => uptoBulkAll elems + uptoBulkAll spare + 1
  | .agg parts => uptoBulkAll parts + 1
  | .iface _ d => uptoBulk d + 1
  | .map entries => uptoBulkEntries entries + 1
  | .held _ => 1
def uptoBulkAll {H : Type} : List (DataW H) → Nat
  | [] => 0
  | d :: r => uptoBulk d + uptoBulkAll r
def uptoBulkEntries {H : Type} : List (Lit × DataW H) → Nat
  | [] => 0
  | x :: r => uptoBulkEntry x + uptoBulkEntries r
def uptoBulkEntry {H : Type} : Lit × DataW H → Nat
  | (.string bytes, d) => bytes.length + uptoBulk d + 1
  | (_, d) => uptoBulk d + 1
 end
def uptoSmall : (H : Type) → List (DataW H) → Bool := fun _ ds => decide (uptoBulkAll ds ≤ 1048576)
def OpenSpec.upto (s : _root_.Go.ChangeSpec) : _root_.Go.OpenSpec := { _root_.Go.OpenSpec.ofChange s with cond := some uptoSmall }

/-- 'tintlaw.News', WHERE WHAT IT READS IS OF BULK AT MOST 1048576: true; the input reads as it did. -/
def newsUptoRow : OpenClaim := { program := "ytdmdpindonghdaagreatdoor", sum := "ac2da0c1baa325922b74df367880150d33e3c06711632e160e85b97e2bc0dec0", func := "tint/tintlaw.News", spec := "news", named := ["tint/flow.pops", "tint/flow.pushes", "tint/tintref.takes", "tint/tintref.pops", "tint/tintref.pushes"], apart := false, laid := [("tint/flow.pops", laid_tint_flow_pops), ("tint/flow.pushes", laid_tint_flow_pushes), ("tint/tintref.pops", laid_tint_tintref_pops), ("tint/tintref.pushes", laid_tint_tintref_pushes), ("tint/tintref.takes", laid_tint_tintref_takes)], narrowed := true }
def NewsUptoSaid : Prop := newsUptoRow.holds Tryz.pinned (OpenSpec.upto newsSpec)

/-- 'tintlaw.Steps', WHERE WHAT IT READS IS OF BULK AT MOST 1048576: true; the input reads as it did. -/
def stepsUptoRow : OpenClaim := { program := "ytdmdpindonghdaagreatdoor", sum := "ac2da0c1baa325922b74df367880150d33e3c06711632e160e85b97e2bc0dec0", func := "tint/tintlaw.Steps", spec := "steps", named := ["tint/flow.pops", "tint/flow.pushes", "tint/tintref.takes", "tint/tintref.pops", "tint/tintref.pushes"], apart := false, laid := [("tint/flow.pops", laid_tint_flow_pops), ("tint/flow.pushes", laid_tint_flow_pushes), ("tint/tintref.pops", laid_tint_tintref_pops), ("tint/tintref.pushes", laid_tint_tintref_pushes), ("tint/tintref.takes", laid_tint_tintref_takes)], narrowed := true }
def StepsUptoSaid : Prop := stepsUptoRow.holds Tryz.pinned (OpenSpec.upto stepsSpec)

/-- 'tintlaw.Collects', WHERE WHAT IT READS IS OF BULK AT MOST 1048576: true; the input reads as it did. -/
def collectsUptoRow : OpenClaim := { program := "ytdmdpindonghdaagreatdoor", sum := "ac2da0c1baa325922b74df367880150d33e3c06711632e160e85b97e2bc0dec0", func := "tint/tintlaw.Collects", spec := "collects", named := ["tint/flow.pops", "tint/flow.pushes", "tint/tintref.takes", "tint/tintref.pops", "tint/tintref.pushes"], apart := false, laid := [("tint/flow.pops", laid_tint_flow_pops), ("tint/flow.pushes", laid_tint_flow_pushes), ("tint/tintref.pops", laid_tint_tintref_pops), ("tint/tintref.pushes", laid_tint_tintref_pushes), ("tint/tintref.takes", laid_tint_tintref_takes)], narrowed := true }
def CollectsUptoSaid : Prop := collectsUptoRow.holds Tryz.pinned (OpenSpec.upto collectsSpec)

/-- 'tintlaw.Runs', WHERE WHAT IT READS IS OF BULK AT MOST 1048576: true; the input reads as it did. -/
def runsUptoRow : OpenClaim := { program := "ytdmdpindonghdaagreatdoor", sum := "ac2da0c1baa325922b74df367880150d33e3c06711632e160e85b97e2bc0dec0", func := "tint/tintlaw.Runs", spec := "runs", named := ["tint/flow.pops", "tint/flow.pushes", "tint/tintref.takes", "tint/tintref.pops", "tint/tintref.pushes"], apart := false, laid := [("tint/flow.pops", laid_tint_flow_pops), ("tint/flow.pushes", laid_tint_flow_pushes), ("tint/tintref.pops", laid_tint_tintref_pops), ("tint/tintref.pushes", laid_tint_tintref_pushes), ("tint/tintref.takes", laid_tint_tintref_takes)], narrowed := true }
def RunsUptoSaid : Prop := runsUptoRow.holds Tryz.pinned (OpenSpec.upto runsSpec)

/-- 'tintlaw.All', WHERE WHAT IT READS IS OF BULK AT MOST 1048576: true; the input reads as it did. -/
def allUptoRow : OpenClaim := { program := "ytdmdpindonghdaagreatdoor", sum := "ac2da0c1baa325922b74df367880150d33e3c06711632e160e85b97e2bc0dec0", func := "tint/tintlaw.All", spec := "all", named := ["tint/flow.pops", "tint/flow.pushes", "tint/tintref.takes", "tint/tintref.pops", "tint/tintref.pushes"], apart := false, laid := [("tint/flow.pops", laid_tint_flow_pops), ("tint/flow.pushes", laid_tint_flow_pushes), ("tint/tintref.pops", laid_tint_tintref_pops), ("tint/tintref.pushes", laid_tint_tintref_pushes), ("tint/tintref.takes", laid_tint_tintref_takes)], narrowed := true }
def AllUptoSaid : Prop := allUptoRow.holds Tryz.pinned (OpenSpec.upto allSpec)

end Rows
end Go.Proofs.YtdmdpindonghdaaGreatDoor
