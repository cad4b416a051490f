/-
  NARROWER THAN 'FOR EVERY INPUT', by the rows' own cells (each row's printed sentence says how): MoveKeeps: laid · MoveBack: laid · MoveJoined: laid · MoveCut: laid · MoveAll: laid · LinearBatch: laid.
  DERIVED. THE GIVEN ROWS OF THIS SEAT. 6 by the template 'for every input the law returns true; each argument reads behind the call as it read before'; 0 by the template 'total and deterministic' (their statements: YtaoplfpigjkgpaaGreatDoorTotals.lean).
  GIVEN WITH THE SEED: the statements are not yours to turn. If you find one false, say at which input.
  Laid BY PROGRAM, IN A SANDBOX (cutbox-rows.mjs): the forced cells as the released guide's own fill.sh prints them over the translation 4a1256810fe35d7d… (all of the seat's roots in one cut). By AI agents, Wed Nov 11 2026. No macro, syntax, notation, axiom, sorry.
-/
import Derived.Test.YtaoplfpigjkgpaaGreatDoorChecked
import GoSem.Claim
import GoSem.ClaimJoined
import GoSem.ClaimMapViews
import Derived.JoinedTies
import Derived.KernelRfl
namespace Go.Proofs.YtaoplfpigjkgpaaGreatDoor
/- THE CELL 'sum', in the pinned program and in every row, IS THE sha256 OF THE DUMP (.gsa) THAT YtaoplfpigjkgpaaGreatDoorProg.lean LOADS. Nothing in Lean hashes anything: it is a label: what it is worth is what the hold of that sum in a sandbox is worth. -/
noncomputable def Tryz.pinned : Pinned := { name := "ytaoplfpigjkgpaagreatdoor", sum := "4a1256810fe35d7d4627f5a88b16e81314082bfb0bb3c9034469f636915fabc0", checked := Tryz.checked }
namespace Rows
def none {H : Type} : Left H := { results := [], args := [] }

/- WHAT THE LISTED PACKAGE-LEVEL VARIABLES READ AS WHEN THE CALL BEGINS. Each datum BY PROGRAM (the guide's laid-datum.mjs) off the statement by which the dump's own 'gosem.cut.vars' lays the variable. In a bare row this is a premise. The card (YtaoplfpigjkgpaaGreatDoorCards.lean) ties it to the program's text. -/
def laid_mandrel_schema_ofOne {H : Type} : DataW H := .agg [.lit (.string [73, 100, 101, 110, 116, 105, 116, 121]), .lit (.string [78, 101, 103]), .lit (.string [65, 98, 115]), .lit (.string [78, 111, 116]), .lit (.string [82, 101, 108, 117]), .lit (.string [83, 113, 114, 116]), .lit (.string [70, 108, 111, 111, 114]), .lit (.string [69, 120, 112]), .lit (.string [83, 105, 103, 109, 111, 105, 100]), .lit (.string [84, 97, 110, 104])]

/-- 'mandrellaw10.MoveKeeps': WHATEVER THE INPUT: true; the input reads as it did. -/
def moveKeepsSpec : ChangeSpec := { name := "moveKeeps", fn := fun _ => fun
  | [d1, d2] => { results := [.lit (.bool true)], args := [d1, d2] }
  | _ => none }
def moveKeepsRow : OpenClaim := { program := "ytaoplfpigjkgpaagreatdoor", sum := "4a1256810fe35d7d4627f5a88b16e81314082bfb0bb3c9034469f636915fabc0", func := "mandrel/mandrellaw10.MoveKeeps", spec := "moveKeeps", inPlace := ["internal/bytealg.IndexByteString", "internal/bytealg.IndexString", "math.Float32frombits", "math.Float32bits", "math.sqrt", "math.archFloor", "math.Float64bits", "math.Float64frombits", "math.archTrunc"], unfollowed := true, recurses := true, named := ["mandrel/schema.ofOne", "internal/bytealg.MaxLen"], apart := false, laid := [("mandrel/schema.ofOne", laid_mandrel_schema_ofOne)] }
def MoveKeepsSaid : Prop := moveKeepsRow.holds Tryz.pinned (OpenSpec.ofChange moveKeepsSpec)

/-- ITS FALSE NEIGHBOUR: 'it returns false'. Refute it at one input. -/
def moveKeepsWrong : ChangeSpec := { name := "moveKeeps", fn := fun _ => fun
  | [d1, d2] => { results := [.lit (.bool false)], args := [d1, d2] }
  | _ => none }
def MoveKeepsWrongFalsely : Prop := moveKeepsRow.holds Tryz.pinned (OpenSpec.ofChange moveKeepsWrong)

/-- 'mandrellaw10.MoveBack': WHATEVER THE INPUT: true; the input reads as it did. -/
def moveBackSpec : ChangeSpec := { name := "moveBack", fn := fun _ => fun
  | [d1, d2] => { results := [.lit (.bool true)], args := [d1, d2] }
  | _ => none }
def moveBackRow : OpenClaim := { program := "ytaoplfpigjkgpaagreatdoor", sum := "4a1256810fe35d7d4627f5a88b16e81314082bfb0bb3c9034469f636915fabc0", func := "mandrel/mandrellaw10.MoveBack", spec := "moveBack", inPlace := ["internal/bytealg.IndexByteString", "internal/bytealg.IndexString", "math.Float32frombits", "math.Float32bits", "math.sqrt", "math.archFloor", "math.Float64bits", "math.Float64frombits", "math.archTrunc"], unfollowed := true, recurses := true, named := ["mandrel/schema.ofOne", "internal/bytealg.MaxLen"], apart := false, laid := [("mandrel/schema.ofOne", laid_mandrel_schema_ofOne)] }
def MoveBackSaid : Prop := moveBackRow.holds Tryz.pinned (OpenSpec.ofChange moveBackSpec)

/-- ITS FALSE NEIGHBOUR: 'it returns false'. Refute it at one input. -/
def moveBackWrong : ChangeSpec := { name := "moveBack", fn := fun _ => fun
  | [d1, d2] => { results := [.lit (.bool false)], args := [d1, d2] }
  | _ => none }
def MoveBackWrongFalsely : Prop := moveBackRow.holds Tryz.pinned (OpenSpec.ofChange moveBackWrong)

/-- 'mandrellaw10.MoveJoined': WHATEVER THE INPUT: true; the input reads as it did. -/
def moveJoinedSpec : ChangeSpec := { name := "moveJoined", fn := fun _ => fun
  | [d1, d2, d3] => { results := [.lit (.bool true)], args := [d1, d2, d3] }
  | _ => none }
def moveJoinedRow : OpenClaim := { program := "ytaoplfpigjkgpaagreatdoor", sum := "4a1256810fe35d7d4627f5a88b16e81314082bfb0bb3c9034469f636915fabc0", func := "mandrel/mandrellaw10.MoveJoined", spec := "moveJoined", inPlace := ["internal/bytealg.IndexByteString", "internal/bytealg.IndexString", "math.Float32frombits", "math.Float32bits", "math.sqrt", "math.archFloor", "math.Float64bits", "math.Float64frombits", "math.archTrunc"], unfollowed := true, recurses := true, named := ["mandrel/schema.ofOne", "internal/bytealg.MaxLen"], apart := false, laid := [("mandrel/schema.ofOne", laid_mandrel_schema_ofOne)] }
def MoveJoinedSaid : Prop := moveJoinedRow.holds Tryz.pinned (OpenSpec.ofChange moveJoinedSpec)

/-- ITS FALSE NEIGHBOUR: 'it returns false'. Refute it at one input. -/
def moveJoinedWrong : ChangeSpec := { name := "moveJoined", fn := fun _ => fun
  | [d1, d2, d3] => { results := [.lit (.bool false)], args := [d1, d2, d3] }
  | _ => none }
def MoveJoinedWrongFalsely : Prop := moveJoinedRow.holds Tryz.pinned (OpenSpec.ofChange moveJoinedWrong)

/-- 'mandrellaw10.MoveCut': WHATEVER THE INPUT: true; the input reads as it did. -/
def moveCutSpec : ChangeSpec := { name := "moveCut", fn := fun _ => fun
  | [d1, d2] => { results := [.lit (.bool true)], args := [d1, d2] }
  | _ => none }
def moveCutRow : OpenClaim := { program := "ytaoplfpigjkgpaagreatdoor", sum := "4a1256810fe35d7d4627f5a88b16e81314082bfb0bb3c9034469f636915fabc0", func := "mandrel/mandrellaw10.MoveCut", spec := "moveCut", inPlace := ["internal/bytealg.IndexByteString", "internal/bytealg.IndexString", "math.Float32frombits", "math.Float32bits", "math.sqrt", "math.archFloor", "math.Float64bits", "math.Float64frombits", "math.archTrunc"], unfollowed := true, recurses := true, named := ["mandrel/schema.ofOne", "internal/bytealg.MaxLen"], apart := false, laid := [("mandrel/schema.ofOne", laid_mandrel_schema_ofOne)] }
def MoveCutSaid : Prop := moveCutRow.holds Tryz.pinned (OpenSpec.ofChange moveCutSpec)

/-- ITS FALSE NEIGHBOUR: 'it returns false'. Refute it at one input. -/
def moveCutWrong : ChangeSpec := { name := "moveCut", fn := fun _ => fun
  | [d1, d2] => { results := [.lit (.bool false)], args := [d1, d2] }
  | _ => none }
def MoveCutWrongFalsely : Prop := moveCutRow.holds Tryz.pinned (OpenSpec.ofChange moveCutWrong)

/-- 'mandrellaw10.MoveAll': WHATEVER THE INPUT: true; the input reads as it did. -/
def moveAllSpec : ChangeSpec := { name := "moveAll", fn := fun _ => fun
  | [d1, d2] => { results := [.lit (.bool true)], args := [d1, d2] }
  | _ => none }
def moveAllRow : OpenClaim := { program := "ytaoplfpigjkgpaagreatdoor", sum := "4a1256810fe35d7d4627f5a88b16e81314082bfb0bb3c9034469f636915fabc0", func := "mandrel/mandrellaw10.MoveAll", spec := "moveAll", inPlace := ["internal/bytealg.IndexByteString", "internal/bytealg.IndexString", "math.Float32frombits", "math.Float32bits", "math.sqrt", "math.archFloor", "math.Float64bits", "math.Float64frombits", "math.archTrunc"], unfollowed := true, recurses := true, named := ["mandrel/schema.ofOne", "internal/bytealg.MaxLen"], apart := false, laid := [("mandrel/schema.ofOne", laid_mandrel_schema_ofOne)] }
def MoveAllSaid : Prop := moveAllRow.holds Tryz.pinned (OpenSpec.ofChange moveAllSpec)

/-- ITS FALSE NEIGHBOUR: 'it returns false'. Refute it at one input. -/
def moveAllWrong : ChangeSpec := { name := "moveAll", fn := fun _ => fun
  | [d1, d2] => { results := [.lit (.bool false)], args := [d1, d2] }
  | _ => none }
def MoveAllWrongFalsely : Prop := moveAllRow.holds Tryz.pinned (OpenSpec.ofChange moveAllWrong)

/-- 'mandrellaw12.LinearBatch': WHATEVER THE INPUT: true; the input reads as it did. -/
def linearBatchSpec : ChangeSpec := { name := "linearBatch", fn := fun _ => fun
  | [d1, d2, d3] => { results := [.lit (.bool true)], args := [d1, d2, d3] }
  | _ => none }
def linearBatchRow : OpenClaim := { program := "ytaoplfpigjkgpaagreatdoor", sum := "4a1256810fe35d7d4627f5a88b16e81314082bfb0bb3c9034469f636915fabc0", func := "mandrel/mandrellaw12.LinearBatch", spec := "linearBatch", inPlace := ["internal/bytealg.IndexByteString", "internal/bytealg.IndexString", "math.Float32frombits", "math.Float32bits", "math.sqrt", "math.archFloor", "math.Float64bits", "math.Float64frombits", "math.archTrunc"], unfollowed := true, recurses := true, named := ["mandrel/schema.ofOne", "internal/bytealg.MaxLen"], apart := false, laid := [("mandrel/schema.ofOne", laid_mandrel_schema_ofOne)] }
def LinearBatchSaid : Prop := linearBatchRow.holds Tryz.pinned (OpenSpec.ofChange linearBatchSpec)

/-- ITS FALSE NEIGHBOUR: 'it returns false'. Refute it at one input. -/
def linearBatchWrong : ChangeSpec := { name := "linearBatch", fn := fun _ => fun
  | [d1, d2, d3] => { results := [.lit (.bool false)], args := [d1, d2, d3] }
  | _ => none }
def LinearBatchWrongFalsely : Prop := linearBatchRow.holds Tryz.pinned (OpenSpec.ofChange linearBatchWrong)

/- THE SECOND FORM. 'bulk': how many values and letters a reading holds, each counted each time it is reached (what is shared counts as often as it is met; a slice's spare places count too). A statement '..UptoSaid' is the law's where the arguments, and the package variables that the reading takes, are together of bulk at most 1048576: NARROWER than '..Said'. Prove '..Said' where nothing that the law and all that it calls make is longer than what came in: it says more and counts as full. Else prove '..UptoSaid'. A law counts once. -/
mutual
def uptoBulk {H : Type} : DataW H → Nat
  | .lit (.string bytes) => bytes.length + 1
  | .lit _ => 1
  | .nil => 1
  | .ptr d => uptoBulk d + 1
  | .slice elems spare => uptoBulkAll elems + uptoBulkAll spare + 1
  | .agg parts => uptoBulkAll parts + 1
  | .iface _ d => uptoBulk d + 1
  | .map entries => uptoBulkEntries entries + 1
  | .held _ => 1
def uptoBulkAll {H : Type} : List (DataW H) → Nat
  | [] => 0
  | d :: r => uptoBulk d + uptoBulkAll r
def uptoBulkEntries {H : Type} : List (Lit × DataW H) → Nat
  | [] => 0
  | x :: r => uptoBulkEntry x + uptoBulkEntries r
def uptoBulkEntry {H : Type} : Lit × DataW H → Nat
  | (.string bytes, d) => bytes.length + uptoBulk d + 1
  | (_, d) => uptoBulk d + 1
 end
def uptoSmall : (H : Type) → List (DataW H) → Bool := fun _ ds => decide (uptoBulkAll ds ≤ 1048576)
def OpenSpec.upto (s : _root_.Go.ChangeSpec) : _root_.Go.OpenSpec := { _root_.Go.OpenSpec.ofChange s with cond := some uptoSmall }

/-- 'mandrellaw10.MoveKeeps', WHERE WHAT IT READS IS OF BULK AT MOST 1048576: true; the input reads as it did. -/
def moveKeepsUptoRow : OpenClaim := { program := "ytaoplfpigjkgpaagreatdoor", sum := "4a1256810fe35d7d4627f5a88b16e81314082bfb0bb3c9034469f636915fabc0", func := "mandrel/mandrellaw10.MoveKeeps", spec := "moveKeeps", inPlace := ["internal/bytealg.IndexByteString", "internal/bytealg.IndexString", "math.Float32frombits", "math.Float32bits", "math.sqrt", "math.archFloor", "math.Float64bits", "math.Float64frombits", "math.archTrunc"], unfollowed := true, recurses := true, named := ["mandrel/schema.ofOne", "internal/bytealg.MaxLen"], apart := false, laid := [("mandrel/schema.ofOne", laid_mandrel_schema_ofOne)], narrowed := true }
def MoveKeepsUptoSaid : Prop := moveKeepsUptoRow.holds Tryz.pinned (OpenSpec.upto moveKeepsSpec)

/-- 'mandrellaw10.MoveBack', WHERE WHAT IT READS IS OF BULK AT MOST 1048576: true; the input reads as it did. -/
def moveBackUptoRow : OpenClaim := { program := "ytaoplfpigjkgpaagreatdoor", sum := "4a1256810fe35d7d4627f5a88b16e81314082bfb0bb3c9034469f636915fabc0", func := "mandrel/mandrellaw10.MoveBack", spec := "moveBack", inPlace := ["internal/bytealg.IndexByteString", "internal/bytealg.IndexString", "math.Float32frombits", "math.Float32bits", "math.sqrt", "math.archFloor", "math.Float64bits", "math.Float64frombits", "math.archTrunc"], unfollowed := true, recurses := true, named := ["mandrel/schema.ofOne", "internal/bytealg.MaxLen"], apart := false, laid := [("mandrel/schema.ofOne", laid_mandrel_schema_ofOne)], narrowed := true }
def MoveBackUptoSaid : Prop := moveBackUptoRow.holds Tryz.pinned (OpenSpec.upto moveBackSpec)

/-- 'mandrellaw10.MoveJoined', WHERE WHAT IT READS IS OF BULK AT MOST 1048576: true; the input reads as it did. -/
def moveJoinedUptoRow : OpenClaim := { program := "ytaoplfpigjkgpaagreatdoor", sum := "4a1256810fe35d7d4627f5a88b16e81314082bfb0bb3c9034469f636915fabc0", func := "mandrel/mandrellaw10.MoveJoined", spec := "moveJoined", inPlace := ["internal/bytealg.IndexByteString", "internal/bytealg.IndexString", "math.Float32frombits", "math.Float32bits", "math.sqrt", "math.archFloor", "math.Float64bits", "math.Float64frombits", "math.archTrunc"], unfollowed := true, recurses := true, named := ["mandrel/schema.ofOne", "internal/bytealg.MaxLen"], apart := false, laid := [("mandrel/schema.ofOne", laid_mandrel_schema_ofOne)], narrowed := true }
def MoveJoinedUptoSaid : Prop := moveJoinedUptoRow.holds Tryz.pinned (OpenSpec.upto moveJoinedSpec)

/-- 'mandrellaw10.MoveCut', WHERE WHAT IT READS IS OF BULK AT MOST 1048576: true; the input reads as it did. -/
def moveCutUptoRow : OpenClaim := { program := "ytaoplfpigjkgpaagreatdoor", sum := "4a1256810fe35d7d4627f5a88b16e81314082bfb0bb3c9034469f636915fabc0", func := "mandrel/mandrellaw10.MoveCut", spec := "moveCut", inPlace := ["internal/bytealg.IndexByteString", "internal/bytealg.IndexString", "math.Float32frombits", "math.Float32bits", "math.sqrt", "math.archFloor", "math.Float64bits", "math.Float64frombits", "math.archTrunc"], unfollowed := true, recurses := true, named := ["mandrel/schema.ofOne", "internal/bytealg.MaxLen"], apart := false, laid := [("mandrel/schema.ofOne", laid_mandrel_schema_ofOne)], narrowed := true }
def MoveCutUptoSaid : Prop := moveCutUptoRow.holds Tryz.pinned (OpenSpec.upto moveCutSpec)

/-- 'mandrellaw10.MoveAll', WHERE WHAT IT READS IS OF BULK AT MOST 1048576: true; the input reads as it did. -/
def moveAllUptoRow : OpenClaim := { program := "ytaoplfpigjkgpaagreatdoor", sum := "4a1256810fe35d7d4627f5a88b16e81314082bfb0bb3c9034469f636915fabc0", func := "mandrel/mandrellaw10.MoveAll", spec := "moveAll", inPlace := ["internal/bytealg.IndexByteString", "internal/bytealg.IndexString", "math.Float32frombits", "math.Float32bits", "math.sqrt", "math.archFloor", "math.Float64bits", "math.Float64frombits", "math.archTrunc"], unfollowed := true, recurses := true, named := ["mandrel/schema.ofOne", "internal/bytealg.MaxLen"], apart := false, laid := [("mandrel/schema.ofOne", laid_mandrel_schema_ofOne)], narrowed := true }
def MoveAllUptoSaid : Prop := moveAllUptoRow.holds Tryz.pinned (OpenSpec.upto moveAllSpec)

/-- 'mandrellaw12.LinearBatch', WHERE WHAT IT READS IS OF BULK AT MOST 1048576: true; the input reads as it did. -/
def linearBatchUptoRow : OpenClaim := { program := "ytaoplfpigjkgpaagreatdoor", sum := "4a1256810fe35d7d4627f5a88b16e81314082bfb0bb3c9034469f636915fabc0", func := "mandrel/mandrellaw12.LinearBatch", spec := "linearBatch", inPlace := ["internal/bytealg.IndexByteString", "internal/bytealg.IndexString", "math.Float32frombits", "math.Float32bits", "math.sqrt", "math.archFloor", "math.Float64bits", "math.Float64frombits", "math.archTrunc"], unfollowed := true, recurses := true, named := ["mandrel/schema.ofOne", "internal/bytealg.MaxLen"], apart := false, laid := [("mandrel/schema.ofOne", laid_mandrel_schema_ofOne)], narrowed := true }
def LinearBatchUptoSaid : Prop := linearBatchUptoRow.holds Tryz.pinned (OpenSpec.upto linearBatchSpec)

end Rows
end Go.Proofs.YtaoplfpigjkgpaaGreatDoor
