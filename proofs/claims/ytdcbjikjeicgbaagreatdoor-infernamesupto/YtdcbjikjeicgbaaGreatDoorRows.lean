/-
  NARROWER THAN 'FOR EVERY INPUT', by the rows' own cells (each row's printed sentence says how): InferNodes: laid · InferGraphs: laid · InferNames: laid · InferMay: laid · InferBatch: laid.
  DERIVED. THE GIVEN ROWS OF THIS SEAT. 5 by the template 'for every input the law returns true; each argument reads behind the call as it read before'; 0 by the template 'total and deterministic' (their statements: YtdcbjikjeicgbaaGreatDoorTotals.lean).
  GIVEN WITH THE SEED: the statements are not yours to turn. If you find one false, say at which input.
  Laid BY PROGRAM, IN A SANDBOX (cutbox-rows.mjs): the forced cells as the released guide's own fill.sh prints them over the translation 40acb98acfc2c194… (all of the seat's roots in one cut). By AI agents, Wed Nov 11 2026. No macro, syntax, notation, axiom, sorry.
-/
import Derived.Test.YtdcbjikjeicgbaaGreatDoorChecked
import GoSem.Claim
import GoSem.ClaimJoined
import GoSem.ClaimMapViews
import Derived.JoinedTies
import Derived.KernelRfl
namespace Go.Proofs.YtdcbjikjeicgbaaGreatDoor
/- THE CELL 'sum', in the pinned program and in every row, IS THE sha256 OF THE DUMP (.gsa) THAT YtdcbjikjeicgbaaGreatDoorProg.lean LOADS. Nothing in Lean hashes anything: it is a label: what it is worth is what the hold of that sum in a sandbox is worth. -/
noncomputable def Tryz.pinned : Pinned := { name := "ytdcbjikjeicgbaagreatdoor", sum := "40acb98acfc2c194f66a321bebfe32508cc74ca87aeb95fbc744f5b1cdfcc461", checked := Tryz.checked }
namespace Rows
def none {H : Type} : Left H := { results := [], args := [] }

/- WHAT THE LISTED PACKAGE-LEVEL VARIABLES READ AS WHEN THE CALL BEGINS. Each datum BY PROGRAM (the guide's laid-datum.mjs) off the statement by which the dump's own 'gosem.cut.vars' lays the variable. In a bare row this is a premise. The card (YtdcbjikjeicgbaaGreatDoorCards.lean) ties it to the program's text. -/
def laid_mandrel_schema_ofOne {H : Type} : DataW H := .agg [.lit (.string [73, 100, 101, 110, 116, 105, 116, 121]), .lit (.string [78, 101, 103]), .lit (.string [65, 98, 115]), .lit (.string [78, 111, 116]), .lit (.string [82, 101, 108, 117]), .lit (.string [83, 113, 114, 116]), .lit (.string [70, 108, 111, 111, 114]), .lit (.string [69, 120, 112]), .lit (.string [83, 105, 103, 109, 111, 105, 100]), .lit (.string [84, 97, 110, 104])]

/-- 'mandrellaw08.InferNodes': WHATEVER THE INPUT: true; the input reads as it did. -/
def inferNodesSpec : ChangeSpec := { name := "inferNodes", fn := fun _ => fun
  | [d1, d2] => { results := [.lit (.bool true)], args := [d1, d2] }
  | _ => none }
def inferNodesRow : OpenClaim := { program := "ytdcbjikjeicgbaagreatdoor", sum := "40acb98acfc2c194f66a321bebfe32508cc74ca87aeb95fbc744f5b1cdfcc461", func := "mandrel/mandrellaw08.InferNodes", spec := "inferNodes", inPlace := ["internal/bytealg.IndexByteString", "internal/bytealg.IndexString", "math.Float32frombits", "math.Float32bits", "math.sqrt", "math.archFloor", "math.Float64bits", "math.Float64frombits", "math.archTrunc"], unfollowed := true, recurses := true, named := ["mandrel/schema.ofOne", "internal/bytealg.MaxLen"], apart := false, laid := [("mandrel/schema.ofOne", laid_mandrel_schema_ofOne)] }
def InferNodesSaid : Prop := inferNodesRow.holds Tryz.pinned (OpenSpec.ofChange inferNodesSpec)

/-- ITS FALSE NEIGHBOUR: 'it returns false'. Refute it at one input. -/
def inferNodesWrong : ChangeSpec := { name := "inferNodes", fn := fun _ => fun
  | [d1, d2] => { results := [.lit (.bool false)], args := [d1, d2] }
  | _ => none }
def InferNodesWrongFalsely : Prop := inferNodesRow.holds Tryz.pinned (OpenSpec.ofChange inferNodesWrong)

/-- 'mandrellaw08.InferGraphs': WHATEVER THE INPUT: true; the input reads as it did. -/
def inferGraphsSpec : ChangeSpec := { name := "inferGraphs", fn := fun _ => fun
  | [d] => { results := [.lit (.bool true)], args := [d] }
  | _ => none }
def inferGraphsRow : OpenClaim := { program := "ytdcbjikjeicgbaagreatdoor", sum := "40acb98acfc2c194f66a321bebfe32508cc74ca87aeb95fbc744f5b1cdfcc461", func := "mandrel/mandrellaw08.InferGraphs", spec := "inferGraphs", inPlace := ["internal/bytealg.IndexByteString", "internal/bytealg.IndexString", "math.Float32frombits", "math.Float32bits", "math.sqrt", "math.archFloor", "math.Float64bits", "math.Float64frombits", "math.archTrunc"], unfollowed := true, recurses := true, named := ["mandrel/schema.ofOne", "internal/bytealg.MaxLen"], apart := false, laid := [("mandrel/schema.ofOne", laid_mandrel_schema_ofOne)] }
def InferGraphsSaid : Prop := inferGraphsRow.holds Tryz.pinned (OpenSpec.ofChange inferGraphsSpec)

/-- ITS FALSE NEIGHBOUR: 'it returns false'. Refute it at one input. -/
def inferGraphsWrong : ChangeSpec := { name := "inferGraphs", fn := fun _ => fun
  | [d] => { results := [.lit (.bool false)], args := [d] }
  | _ => none }
def InferGraphsWrongFalsely : Prop := inferGraphsRow.holds Tryz.pinned (OpenSpec.ofChange inferGraphsWrong)

/-- 'mandrellaw08.InferNames': WHATEVER THE INPUT: true; the input reads as it did. -/
def inferNamesSpec : ChangeSpec := { name := "inferNames", fn := fun _ => fun
  | [d1, d2, d3] => { results := [.lit (.bool true)], args := [d1, d2, d3] }
  | _ => none }
def inferNamesRow : OpenClaim := { program := "ytdcbjikjeicgbaagreatdoor", sum := "40acb98acfc2c194f66a321bebfe32508cc74ca87aeb95fbc744f5b1cdfcc461", func := "mandrel/mandrellaw08.InferNames", spec := "inferNames", inPlace := ["internal/bytealg.IndexByteString", "internal/bytealg.IndexString", "math.Float32frombits", "math.Float32bits", "math.sqrt", "math.archFloor", "math.Float64bits", "math.Float64frombits", "math.archTrunc"], unfollowed := true, recurses := true, named := ["mandrel/schema.ofOne", "internal/bytealg.MaxLen"], apart := false, laid := [("mandrel/schema.ofOne", laid_mandrel_schema_ofOne)] }
def InferNamesSaid : Prop := inferNamesRow.holds Tryz.pinned (OpenSpec.ofChange inferNamesSpec)

/-- ITS FALSE NEIGHBOUR: 'it returns false'. Refute it at one input. -/
def inferNamesWrong : ChangeSpec := { name := "inferNames", fn := fun _ => fun
  | [d1, d2, d3] => { results := [.lit (.bool false)], args := [d1, d2, d3] }
  | _ => none }
def InferNamesWrongFalsely : Prop := inferNamesRow.holds Tryz.pinned (OpenSpec.ofChange inferNamesWrong)

/-- 'mandrellaw08.InferMay': WHATEVER THE INPUT: true; the input reads as it did. -/
def inferMaySpec : ChangeSpec := { name := "inferMay", fn := fun _ => fun
  | [d1, d2] => { results := [.lit (.bool true)], args := [d1, d2] }
  | _ => none }
def inferMayRow : OpenClaim := { program := "ytdcbjikjeicgbaagreatdoor", sum := "40acb98acfc2c194f66a321bebfe32508cc74ca87aeb95fbc744f5b1cdfcc461", func := "mandrel/mandrellaw08.InferMay", spec := "inferMay", inPlace := ["internal/bytealg.IndexByteString", "internal/bytealg.IndexString", "math.Float32frombits", "math.Float32bits", "math.sqrt", "math.archFloor", "math.Float64bits", "math.Float64frombits", "math.archTrunc"], unfollowed := true, recurses := true, named := ["mandrel/schema.ofOne", "internal/bytealg.MaxLen"], apart := false, laid := [("mandrel/schema.ofOne", laid_mandrel_schema_ofOne)] }
def InferMaySaid : Prop := inferMayRow.holds Tryz.pinned (OpenSpec.ofChange inferMaySpec)

/-- ITS FALSE NEIGHBOUR: 'it returns false'. Refute it at one input. -/
def inferMayWrong : ChangeSpec := { name := "inferMay", fn := fun _ => fun
  | [d1, d2] => { results := [.lit (.bool false)], args := [d1, d2] }
  | _ => none }
def InferMayWrongFalsely : Prop := inferMayRow.holds Tryz.pinned (OpenSpec.ofChange inferMayWrong)

/-- 'mandrellaw08.InferBatch': WHATEVER THE INPUT: true; the input reads as it did. -/
def inferBatchSpec : ChangeSpec := { name := "inferBatch", fn := fun _ => fun
  | [d1, d2] => { results := [.lit (.bool true)], args := [d1, d2] }
  | _ => none }
def inferBatchRow : OpenClaim := { program := "ytdcbjikjeicgbaagreatdoor", sum := "40acb98acfc2c194f66a321bebfe32508cc74ca87aeb95fbc744f5b1cdfcc461", func := "mandrel/mandrellaw08.InferBatch", spec := "inferBatch", inPlace := ["internal/bytealg.IndexByteString", "internal/bytealg.IndexString", "math.Float32frombits", "math.Float32bits", "math.sqrt", "math.archFloor", "math.Float64bits", "math.Float64frombits", "math.archTrunc"], unfollowed := true, recurses := true, named := ["mandrel/schema.ofOne", "internal/bytealg.MaxLen"], apart := false, laid := [("mandrel/schema.ofOne", laid_mandrel_schema_ofOne)] }
def InferBatchSaid : Prop := inferBatchRow.holds Tryz.pinned (OpenSpec.ofChange inferBatchSpec)

/-- ITS FALSE NEIGHBOUR: 'it returns false'. Refute it at one input. -/
def inferBatchWrong : ChangeSpec := { name := "inferBatch", fn := fun _ => fun
  | [d1, d2] => { results := [.lit (.bool false)], args := [d1, d2] }
  | _ => none }
def InferBatchWrongFalsely : Prop := inferBatchRow.holds Tryz.pinned (OpenSpec.ofChange inferBatchWrong)

/- THE SECOND FORM. 'bulk': how many values and letters a reading holds, each counted each time it is reached (what is shared counts as often as it is met; a slice's spare places count too). A statement '..UptoSaid' is the law's where the arguments, and the package variables that the reading takes, are together of bulk at most 1048576: NARROWER than '..Said'. Prove '..Said' where nothing that the law and all that it calls make is longer than what came in: it says more and counts as full. Else prove '..UptoSaid'. A law counts once. -/
mutual
def uptoBulk {H : Type} : DataW H → Nat
  | .lit (.string bytes) => bytes.length + 1
  | .lit _ => 1
  | .nil => 1
  | .ptr d => uptoBulk d + 1
  | .slice elems spare => uptoBulkAll elems + uptoBulkAll spare + 1
  | .agg parts => uptoBulkAll parts + 1
  | .iface _ d => uptoBulk d + 1
  | .map entries => uptoBulkEntries entries + 1
  | .held _ => 1
def uptoBulkAll {H : Type} : List (DataW H) → Nat
  | [] => 0
  | d :: r => uptoBulk d + uptoBulkAll r
def uptoBulkEntries {H : Type} : List (Lit × DataW H) → Nat
  | [] => 0
  | x :: r => uptoBulkEntry x + uptoBulkEntries r
def uptoBulkEntry {H : Type} : Lit × DataW H → Nat
  | (.string bytes, d) => bytes.length + uptoBulk d + 1
  | (_, d) => uptoBulk d + 1
 end
def uptoSmall : (H : Type) → List (DataW H) → Bool := fun _ ds => decide (uptoBulkAll ds ≤ 1048576)
def OpenSpec.upto (s : _root_.Go.ChangeSpec) : _root_.Go.OpenSpec := { _root_.Go.OpenSpec.ofChange s with cond := some uptoSmall }

/-- 'mandrellaw08.InferNodes', WHERE WHAT IT READS IS OF BULK AT MOST 1048576: true; the input reads as it did. -/
def inferNodesUptoRow : OpenClaim := { program := "ytdcbjikjeicgbaagreatdoor", sum := "40acb98acfc2c194f66a321bebfe32508cc74ca87aeb95fbc744f5b1cdfcc461", func := "mandrel/mandrellaw08.InferNodes", spec := "inferNodes", inPlace := ["internal/bytealg.IndexByteString", "internal/bytealg.IndexString", "math.Float32frombits", "math.Float32bits", "math.sqrt", "math.archFloor", "math.Float64bits", "math.Float64frombits", "math.archTrunc"], unfollowed := true, recurses := true, named := ["mandrel/schema.ofOne", "internal/bytealg.MaxLen"], apart := false, laid := [("mandrel/schema.ofOne", laid_mandrel_schema_ofOne)], narrowed := true }
def InferNodesUptoSaid : Prop := inferNodesUptoRow.holds Tryz.pinned (OpenSpec.upto inferNodesSpec)

/-- 'mandrellaw08.InferGraphs', WHERE WHAT IT READS IS OF BULK AT MOST 1048576: true; the input reads as it did. -/
def inferGraphsUptoRow : OpenClaim := { program := "ytdcbjikjeicgbaagreatdoor", sum := "40acb98acfc2c194f66a321bebfe32508cc74ca87aeb95fbc744f5b1cdfcc461", func := "mandrel/mandrellaw08.InferGraphs", spec := "inferGraphs", inPlace := ["internal/bytealg.IndexByteString", "internal/bytealg.IndexString", "math.Float32frombits", "math.Float32bits", "math.sqrt", "math.archFloor", "math.Float64bits", "math.Float64frombits", "math.archTrunc"], unfollowed := true, recurses := true, named := ["mandrel/schema.ofOne", "internal/bytealg.MaxLen"], apart := false, laid := [("mandrel/schema.ofOne", laid_mandrel_schema_ofOne)], narrowed := true }
def InferGraphsUptoSaid : Prop := inferGraphsUptoRow.holds Tryz.pinned (OpenSpec.upto inferGraphsSpec)

/-- 'mandrellaw08.InferNames', WHERE WHAT IT READS IS OF BULK AT MOST 1048576: true; the input reads as it did. -/
def inferNamesUptoRow : OpenClaim := { program := "ytdcbjikjeicgbaagreatdoor", sum := "40acb98acfc2c194f66a321bebfe32508cc74ca87aeb95fbc744f5b1cdfcc461", func := "mandrel/mandrellaw08.InferNames", spec := "inferNames", inPlace := ["internal/bytealg.IndexByteString", "internal/bytealg.IndexString", "math.Float32frombits", "math.Float32bits", "math.sqrt", "math.archFloor", "math.Float64bits", "math.Float64frombits", "math.archTrunc"], unfollowed := true, recurses := true, named := ["mandrel/schema.ofOne", "internal/bytealg.MaxLen"], apart := false, laid := [("mandrel/schema.ofOne", laid_mandrel_schema_ofOne)], narrowed := true }
def InferNamesUptoSaid : Prop := inferNamesUptoRow.holds Tryz.pinned (OpenSpec.upto inferNamesSpec)

/-- 'mandrellaw08.InferMay', WHERE WHAT IT READS IS OF BULK AT MOST 1048576: true; the input reads as it did. -/
def inferMayUptoRow : OpenClaim := { program := "ytdcbjikjeicgbaagreatdoor", sum := "40acb98acfc2c194f66a321bebfe32508cc74ca87aeb95fbc744f5b1cdfcc461", func := "mandrel/mandrellaw08.InferMay", spec := "inferMay", inPlace := ["internal/bytealg.IndexByteString", "internal/bytealg.IndexString", "math.Float32frombits", "math.Float32bits", "math.sqrt", "math.archFloor", "math.Float64bits", "math.Float64frombits", "math.archTrunc"], unfollowed := true, recurses := true, named := ["mandrel/schema.ofOne", "internal/bytealg.MaxLen"], apart := false, laid := [("mandrel/schema.ofOne", laid_mandrel_schema_ofOne)], narrowed := true }
def InferMayUptoSaid : Prop := inferMayUptoRow.holds Tryz.pinned (OpenSpec.upto inferMaySpec)

/-- 'mandrellaw08.InferBatch', WHERE WHAT IT READS IS OF BULK AT MOST 1048576: true; the input reads as it did. -/
def inferBatchUptoRow : OpenClaim := { program := "ytdcbjikjeicgbaagreatdoor", sum := "40acb98acfc2c194f66a321bebfe32508cc74ca87aeb95fbc744f5b1cdfcc461", func := "mandrel/mandrellaw08.InferBatch", spec := "inferBatch", inPlace := ["internal/bytealg.IndexByteString", "internal/bytealg.IndexString", "math.Float32frombits", "math.Float32bits", "math.sqrt", "math.archFloor", "math.Float64bits", "math.Float64frombits", "math.archTrunc"], unfollowed := true, recurses := true, named := ["mandrel/schema.ofOne", "internal/bytealg.MaxLen"], apart := false, laid := [("mandrel/schema.ofOne", laid_mandrel_schema_ofOne)], narrowed := true }
def InferBatchUptoSaid : Prop := inferBatchUptoRow.holds Tryz.pinned (OpenSpec.upto inferBatchSpec)

end Rows
end Go.Proofs.YtdcbjikjeicgbaaGreatDoor
