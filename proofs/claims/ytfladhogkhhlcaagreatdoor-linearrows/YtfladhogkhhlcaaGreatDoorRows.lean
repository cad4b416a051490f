/-
  NARROWER THAN 'FOR EVERY INPUT', by the rows' own cells (each row's printed sentence says how): LinearOne: laid · LinearRows: laid · LinearGemm: laid · LinearTurned: laid · LinearBatch: laid.
  DERIVED. THE GIVEN ROWS OF THIS SEAT. 5 by the template 'for every input the law returns true; each argument reads behind the call as it read before'; 0 by the template 'total and deterministic' (their statements: YtfladhogkhhlcaaGreatDoorTotals.lean).
  GIVEN WITH THE SEED: the statements are not yours to turn. If you find one false, say at which input.
  Laid BY PROGRAM, IN A SANDBOX (cutbox-rows.mjs): the forced cells as the released guide's own fill.sh prints them over the translation 2daf4d64853d46b6… (all of the seat's roots in one cut). By AI agents, Wed Nov 11 2026. No macro, syntax, notation, axiom, sorry.
-/
import Derived.Test.YtfladhogkhhlcaaGreatDoorChecked
import GoSem.Claim
import GoSem.ClaimJoined
import GoSem.ClaimMapViews
import Derived.JoinedTies
import Derived.KernelRfl
namespace Go.Proofs.YtfladhogkhhlcaaGreatDoor
/- THE CELL 'sum', in the pinned program and in every row, IS THE sha256 OF THE DUMP (.gsa) THAT YtfladhogkhhlcaaGreatDoorProg.lean LOADS. Nothing in Lean hashes anything: it is a label: what it is worth is what the hold of that sum in a sandbox is worth. -/
noncomputable def Tryz.pinned : Pinned := { name := "ytfladhogkhhlcaagreatdoor", sum := "2daf4d64853d46b621c2e55586eb2363329e3db24e25ed2cc68c05c6ad058ee4", checked := Tryz.checked }
namespace Rows
def none {H : Type} : Left H := { results := [], args := [] }

/- WHAT THE LISTED PACKAGE-LEVEL VARIABLES READ AS WHEN THE CALL BEGINS. Each datum BY PROGRAM (the guide's laid-datum.mjs) off the statement by which the dump's own 'gosem.cut.vars' lays the variable. In a bare row this is a premise. The card (YtfladhogkhhlcaaGreatDoorCards.lean) ties it to the program's text. -/
def laid_mandrel_schema_ofOne {H : Type} : DataW H := .agg [.lit (.string [73, 100, 101, 110, 116, 105, 116, 121]), .lit (.string [78, 101, 103]), .lit (.string [65, 98, 115]), .lit (.string [78, 111, 116]), .lit (.string [82, 101, 108, 117]), .lit (.string [83, 113, 114, 116]), .lit (.string [70, 108, 111, 111, 114]), .lit (.string [69, 120, 112]), .lit (.string [83, 105, 103, 109, 111, 105, 100]), .lit (.string [84, 97, 110, 104])]

/-- 'mandrellaw12.LinearOne': WHATEVER THE INPUT: true; the input reads as it did. -/
def linearOneSpec : ChangeSpec := { name := "linearOne", fn := fun _ => fun
  | [d] => { results := [.lit (.bool true)], args := [d] }
  | _ => none }
def linearOneRow : OpenClaim := { program := "ytfladhogkhhlcaagreatdoor", sum := "2daf4d64853d46b621c2e55586eb2363329e3db24e25ed2cc68c05c6ad058ee4", func := "mandrel/mandrellaw12.LinearOne", spec := "linearOne", inPlace := ["internal/bytealg.IndexByteString", "internal/bytealg.IndexString", "math.Float32frombits", "math.Float32bits", "math.sqrt", "math.archFloor", "math.Float64bits", "math.Float64frombits", "math.archTrunc"], unfollowed := true, recurses := true, named := ["mandrel/schema.ofOne", "internal/bytealg.MaxLen"], apart := false, laid := [("mandrel/schema.ofOne", laid_mandrel_schema_ofOne)] }
def LinearOneSaid : Prop := linearOneRow.holds Tryz.pinned (OpenSpec.ofChange linearOneSpec)

/-- ITS FALSE NEIGHBOUR: 'it returns false'. Refute it at one input. -/
def linearOneWrong : ChangeSpec := { name := "linearOne", fn := fun _ => fun
  | [d] => { results := [.lit (.bool false)], args := [d] }
  | _ => none }
def LinearOneWrongFalsely : Prop := linearOneRow.holds Tryz.pinned (OpenSpec.ofChange linearOneWrong)

/-- 'mandrellaw12.LinearRows': WHATEVER THE INPUT: true; the input reads as it did. -/
def linearRowsSpec : ChangeSpec := { name := "linearRows", fn := fun _ => fun
  | [d1, d2, d3] => { results := [.lit (.bool true)], args := [d1, d2, d3] }
  | _ => none }
def linearRowsRow : OpenClaim := { program := "ytfladhogkhhlcaagreatdoor", sum := "2daf4d64853d46b621c2e55586eb2363329e3db24e25ed2cc68c05c6ad058ee4", func := "mandrel/mandrellaw12.LinearRows", spec := "linearRows", inPlace := ["internal/bytealg.IndexByteString", "internal/bytealg.IndexString", "math.Float32frombits", "math.Float32bits", "math.sqrt", "math.archFloor", "math.Float64bits", "math.Float64frombits", "math.archTrunc"], unfollowed := true, recurses := true, named := ["mandrel/schema.ofOne", "internal/bytealg.MaxLen"], apart := false, laid := [("mandrel/schema.ofOne", laid_mandrel_schema_ofOne)] }
def LinearRowsSaid : Prop := linearRowsRow.holds Tryz.pinned (OpenSpec.ofChange linearRowsSpec)

/-- ITS FALSE NEIGHBOUR: 'it returns false'. Refute it at one input. -/
def linearRowsWrong : ChangeSpec := { name := "linearRows", fn := fun _ => fun
  | [d1, d2, d3] => { results := [.lit (.bool false)], args := [d1, d2, d3] }
  | _ => none }
def LinearRowsWrongFalsely : Prop := linearRowsRow.holds Tryz.pinned (OpenSpec.ofChange linearRowsWrong)

/-- 'mandrellaw12.LinearGemm': WHATEVER THE INPUT: true; the input reads as it did. -/
def linearGemmSpec : ChangeSpec := { name := "linearGemm", fn := fun _ => fun
  | [d1, d2] => { results := [.lit (.bool true)], args := [d1, d2] }
  | _ => none }
def linearGemmRow : OpenClaim := { program := "ytfladhogkhhlcaagreatdoor", sum := "2daf4d64853d46b621c2e55586eb2363329e3db24e25ed2cc68c05c6ad058ee4", func := "mandrel/mandrellaw12.LinearGemm", spec := "linearGemm", inPlace := ["internal/bytealg.IndexByteString", "internal/bytealg.IndexString", "math.Float32frombits", "math.Float32bits", "math.sqrt", "math.archFloor", "math.Float64bits", "math.Float64frombits", "math.archTrunc"], unfollowed := true, recurses := true, named := ["mandrel/schema.ofOne", "internal/bytealg.MaxLen"], apart := false, laid := [("mandrel/schema.ofOne", laid_mandrel_schema_ofOne)] }
def LinearGemmSaid : Prop := linearGemmRow.holds Tryz.pinned (OpenSpec.ofChange linearGemmSpec)

/-- ITS FALSE NEIGHBOUR: 'it returns false'. Refute it at one input. -/
def linearGemmWrong : ChangeSpec := { name := "linearGemm", fn := fun _ => fun
  | [d1, d2] => { results := [.lit (.bool false)], args := [d1, d2] }
  | _ => none }
def LinearGemmWrongFalsely : Prop := linearGemmRow.holds Tryz.pinned (OpenSpec.ofChange linearGemmWrong)

/-- 'mandrellaw12.LinearTurned': WHATEVER THE INPUT: true; the input reads as it did. -/
def linearTurnedSpec : ChangeSpec := { name := "linearTurned", fn := fun _ => fun
  | [d1, d2] => { results := [.lit (.bool true)], args := [d1, d2] }
  | _ => none }
def linearTurnedRow : OpenClaim := { program := "ytfladhogkhhlcaagreatdoor", sum := "2daf4d64853d46b621c2e55586eb2363329e3db24e25ed2cc68c05c6ad058ee4", func := "mandrel/mandrellaw12.LinearTurned", spec := "linearTurned", inPlace := ["internal/bytealg.IndexByteString", "internal/bytealg.IndexString", "math.Float32frombits", "math.Float32bits", "math.sqrt", "math.archFloor", "math.Float64bits", "math.Float64frombits", "math.archTrunc"], unfollowed := true, recurses := true, named := ["mandrel/schema.ofOne", "internal/bytealg.MaxLen"], apart := false, laid := [("mandrel/schema.ofOne", laid_mandrel_schema_ofOne)] }
def LinearTurnedSaid : Prop := linearTurnedRow.holds Tryz.pinned (OpenSpec.ofChange linearTurnedSpec)

/-- ITS FALSE NEIGHBOUR: 'it returns false'. Refute it at one input. -/
def linearTurnedWrong : ChangeSpec := { name := "linearTurned", fn := fun _ => fun
  | [d1, d2] => { results := [.lit (.bool false)], args := [d1, d2] }
  | _ => none }
def LinearTurnedWrongFalsely : Prop := linearTurnedRow.holds Tryz.pinned (OpenSpec.ofChange linearTurnedWrong)

/-- 'mandrellaw12.LinearBatch': WHATEVER THE INPUT: true; the input reads as it did. -/
def linearBatchSpec : ChangeSpec := { name := "linearBatch", fn := fun _ => fun
  | [d1, d2, d3] => { results := [.lit (.bool true)], args := [d1, d2, d3] }
  | _ => none }
def linearBatchRow : OpenClaim := { program := "ytfladhogkhhlcaagreatdoor", sum := "2daf4d64853d46b621c2e55586eb2363329e3db24e25ed2cc68c05c6ad058ee4", func := "mandrel/mandrellaw12.LinearBatch", spec := "linearBatch", inPlace := ["internal/bytealg.IndexByteString", "internal/bytealg.IndexString", "math.Float32frombits", "math.Float32bits", "math.sqrt", "math.archFloor", "math.Float64bits", "math.Float64frombits", "math.archTrunc"], unfollowed := true, recurses := true, named := ["mandrel/schema.ofOne", "internal/bytealg.MaxLen"], apart := false, laid := [("mandrel/schema.ofOne", laid_mandrel_schema_ofOne)] }
def LinearBatchSaid : Prop := linearBatchRow.holds Tryz.pinned (OpenSpec.ofChange linearBatchSpec)

/-- ITS FALSE NEIGHBOUR: 'it returns false'. Refute it at one input. -/
def linearBatchWrong : ChangeSpec := { name := "linearBatch", fn := fun _ => fun
  | [d1, d2, d3] => { results := [.lit (.bool false)], args := [d1, d2, d3] }
  | _ => none }
def LinearBatchWrongFalsely : Prop := linearBatchRow.holds Tryz.pinned (OpenSpec.ofChange linearBatchWrong)

/- THE SECOND FORM. 'bulk': how many values and letters a reading holds, each counted each time it is reached (what is shared counts as often as it is met; a slice's spare places count too). A statement '..UptoSaid' is the law's where the arguments, and the package variables that the reading takes, are together of bulk at most 1048576: NARROWER than '..Said'. Prove '..Said' where nothing that the law and all that it calls make is longer than what came in: it says more and counts as full. Else prove '..UptoSaid'. A law counts once. -/
mutual
def uptoBulk {H : Type} : DataW H → Nat
  | .lit (.string bytes) => bytes.length + 1
  | .lit _ => 1
  | .nil => 1
  | .ptr d => uptoBulk d + 1
  | .slice elems spare => uptoBulkAll elems + uptoBulkAll spare + 1
  | .agg parts => uptoBulkAll parts + 1
  | .iface _ d => uptoBulk d + 1
  | .map entries => uptoBulkEntries entries + 1
  | .held _ => 1
def uptoBulkAll {H : Type} : List (DataW H) → Nat
  | [] => 0
  | d :: r => uptoBulk d + uptoBulkAll r
def uptoBulkEntries {H : Type} : List (Lit × DataW H) → Nat
  | [] => 0
  | x :: r => uptoBulkEntry x + uptoBulkEntries r
def uptoBulkEntry {H : Type} : Lit × DataW H → Nat
  | (.string bytes, d) => bytes.length + uptoBulk d + 1
  | (_, d) => uptoBulk d + 1
 end
def uptoSmall : (H : Type) → List (DataW H) → Bool := fun _ ds => decide (uptoBulkAll ds ≤ 1048576)
def OpenSpec.upto (s : _root_.Go.ChangeSpec) : _root_.Go.OpenSpec := { _root_.Go.OpenSpec.ofChange s with cond := some uptoSmall }

/-- 'mandrellaw12.LinearOne', WHERE WHAT IT READS IS OF BULK AT MOST 1048576: true; the input reads as it did. -/
def linearOneUptoRow : OpenClaim := { program := "ytfladhogkhhlcaagreatdoor", sum := "2daf4d64853d46b621c2e55586eb2363329e3db24e25ed2cc68c05c6ad058ee4", func := "mandrel/mandrellaw12.LinearOne", spec := "linearOne", inPlace := ["internal/bytealg.IndexByteString", "internal/bytealg.IndexString", "math.Float32frombits", "math.Float32bits", "math.sqrt", "math.archFloor", "math.Float64bits", "math.Float64frombits", "math.archTrunc"], unfollowed := true, recurses := true, named := ["mandrel/schema.ofOne", "internal/bytealg.MaxLen"], apart := false, laid := [("mandrel/schema.ofOne", laid_mandrel_schema_ofOne)], narrowed := true }
def LinearOneUptoSaid : Prop := linearOneUptoRow.holds Tryz.pinned (OpenSpec.upto linearOneSpec)

/-- 'mandrellaw12.LinearRows', WHERE WHAT IT READS IS OF BULK AT MOST 1048576: true; the input reads as it did. -/
def linearRowsUptoRow : OpenClaim := { program := "ytfladhogkhhlcaagreatdoor", sum := "2daf4d64853d46b621c2e55586eb2363329e3db24e25ed2cc68c05c6ad058ee4", func := "mandrel/mandrellaw12.LinearRows", spec := "linearRows", inPlace := ["internal/bytealg.IndexByteString", "internal/bytealg.IndexString", "math.Float32frombits", "math.Float32bits", "math.sqrt", "math.archFloor", "math.Float64bits", "math.Float64frombits", "math.archTrunc"], unfollowed := true, recurses := true, named := ["mandrel/schema.ofOne", "internal/bytealg.MaxLen"], apart := false, laid := [("mandrel/schema.ofOne", laid_mandrel_schema_ofOne)], narrowed := true }
def LinearRowsUptoSaid : Prop := linearRowsUptoRow.holds Tryz.pinned (OpenSpec.upto linearRowsSpec)

/-- 'mandrellaw12.LinearGemm', WHERE WHAT IT READS IS OF BULK AT MOST 1048576: true; the input reads as it did. -/
def linearGemmUptoRow : OpenClaim := { program := "ytfladhogkhhlcaagreatdoor", sum := "2daf4d64853d46b621c2e55586eb2363329e3db24e25ed2cc68c05c6ad058ee4", func := "mandrel/mandrellaw12.LinearGemm", spec := "linearGemm", inPlace := ["internal/bytealg.IndexByteString", "internal/bytealg.IndexString", "math.Float32frombits", "math.Float32bits", "math.sqrt", "math.archFloor", "math.Float64bits", "math.Float64frombits", "math.archTrunc"], unfollowed := true, recurses := true, named := ["mandrel/schema.ofOne", "internal/bytealg.MaxLen"], apart := false, laid := [("mandrel/schema.ofOne", laid_mandrel_schema_ofOne)], narrowed := true }
def LinearGemmUptoSaid : Prop := linearGemmUptoRow.holds Tryz.pinned (OpenSpec.upto linearGemmSpec)

/-- 'mandrellaw12.LinearTurned', WHERE WHAT IT READS IS OF BULK AT MOST 1048576: true; the input reads as it did. -/
def linearTurnedUptoRow : OpenClaim := { program := "ytfladhogkhhlcaagreatdoor", sum := "2daf4d64853d46b621c2e55586eb2363329e3db24e25ed2cc68c05c6ad058ee4", func := "mandrel/mandrellaw12.LinearTurned", spec := "linearTurned", inPlace := ["internal/bytealg.IndexByteString", "internal/bytealg.IndexString", "math.Float32frombits", "math.Float32bits", "math.sqrt", "math.archFloor", "math.Float64bits", "math.Float64frombits", "math.archTrunc"], unfollowed := true, recurses := true, named := ["mandrel/schema.ofOne", "internal/bytealg.MaxLen"], apart := false, laid := [("mandrel/schema.ofOne", laid_mandrel_schema_ofOne)], narrowed := true }
def LinearTurnedUptoSaid : Prop := linearTurnedUptoRow.holds Tryz.pinned (OpenSpec.upto linearTurnedSpec)

/-- 'mandrellaw12.LinearBatch', WHERE WHAT IT READS IS OF BULK AT MOST 1048576: true; the input reads as it did. -/
def linearBatchUptoRow : OpenClaim := { program := "ytfladhogkhhlcaagreatdoor", sum := "2daf4d64853d46b621c2e55586eb2363329e3db24e25ed2cc68c05c6ad058ee4", func := "mandrel/mandrellaw12.LinearBatch", spec := "linearBatch", inPlace := ["internal/bytealg.IndexByteString", "internal/bytealg.IndexString", "math.Float32frombits", "math.Float32bits", "math.sqrt", "math.archFloor", "math.Float64bits", "math.Float64frombits", "math.archTrunc"], unfollowed := true, recurses := true, named := ["mandrel/schema.ofOne", "internal/bytealg.MaxLen"], apart := false, laid := [("mandrel/schema.ofOne", laid_mandrel_schema_ofOne)], narrowed := true }
def LinearBatchUptoSaid : Prop := linearBatchUptoRow.holds Tryz.pinned (OpenSpec.upto linearBatchSpec)

end Rows
end Go.Proofs.YtfladhogkhhlcaaGreatDoor
