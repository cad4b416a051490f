/-
  NARROWER THAN 'FOR EVERY INPUT', by the rows' own cells (each row's printed sentence says how): ElemMay: laid · ElemPlace: laid · ElemTurned: laid.
  DERIVED. THE GIVEN ROWS OF THIS SEAT. 3 by the template 'for every input the law returns true; each argument reads behind the call as it read before'; 0 by the template 'total and deterministic' (their statements: YteigfipgmghgmaaGreatDoorTotals.lean).
  GIVEN WITH THE SEED: the statements are not yours to turn. If you find one false, say at which input.
  Laid BY PROGRAM, IN A SANDBOX (cutbox-rows.mjs): the forced cells as the released guide's own fill.sh prints them over the translation e78e3dded5c5b746… (all of the seat's roots in one cut). By AI agents, Wed Nov 11 2026. No macro, syntax, notation, axiom, sorry.
-/
import Derived.Test.YteigfipgmghgmaaGreatDoorChecked
import GoSem.Claim
import GoSem.ClaimJoined
import GoSem.ClaimMapViews
import Derived.JoinedTies
import Derived.KernelRfl
namespace Go.Proofs.YteigfipgmghgmaaGreatDoor
/- THE CELL 'sum', in the pinned program and in every row, IS THE sha256 OF THE DUMP (.gsa) THAT YteigfipgmghgmaaGreatDoorProg.lean LOADS. Nothing in Lean hashes anything: it is a label: what it is worth is what the hold of that sum in a sandbox is worth. -/
noncomputable def Tryz.pinned : Pinned := { name := "yteigfipgmghgmaagreatdoor", sum := "e78e3dded5c5b746cd4831299efcc5995c792f4845aea219f947030904ea38a9", checked := Tryz.checked }
namespace Rows
def none {H : Type} : Left H := { results := [], args := [] }

/- WHAT THE LISTED PACKAGE-LEVEL VARIABLES READ AS WHEN THE CALL BEGINS. Each datum BY PROGRAM (the guide's laid-datum.mjs) off the statement by which the dump's own 'gosem.cut.vars' lays the variable. In a bare row this is a premise. The card (YteigfipgmghgmaaGreatDoorCards.lean) ties it to the program's text. -/
def laid_mandrel_schema_ofOne {H : Type} : DataW H := .agg [.lit (.string [73, 100, 101, 110, 116, 105, 116, 121]), .lit (.string [78, 101, 103]), .lit (.string [65, 98, 115]), .lit (.string [78, 111, 116]), .lit (.string [82, 101, 108, 117]), .lit (.string [83, 113, 114, 116]), .lit (.string [70, 108, 111, 111, 114]), .lit (.string [69, 120, 112]), .lit (.string [83, 105, 103, 109, 111, 105, 100]), .lit (.string [84, 97, 110, 104])]

/-- 'mandrellaw09.ElemMay': WHATEVER THE INPUT: true; the input reads as it did. -/
def elemMaySpec : ChangeSpec := { name := "elemMay", fn := fun _ => fun
  | [d1, d2] => { results := [.lit (.bool true)], args := [d1, d2] }
  | _ => none }
def elemMayRow : OpenClaim := { program := "yteigfipgmghgmaagreatdoor", sum := "e78e3dded5c5b746cd4831299efcc5995c792f4845aea219f947030904ea38a9", func := "mandrel/mandrellaw09.ElemMay", spec := "elemMay", inPlace := ["internal/bytealg.IndexByteString", "internal/bytealg.IndexString", "math.Float32frombits", "math.Float32bits", "math.sqrt", "math.archFloor", "math.Float64bits", "math.Float64frombits", "math.archTrunc"], unfollowed := true, recurses := true, named := ["mandrel/schema.ofOne", "internal/bytealg.MaxLen"], apart := false, laid := [("mandrel/schema.ofOne", laid_mandrel_schema_ofOne)] }
def ElemMaySaid : Prop := elemMayRow.holds Tryz.pinned (OpenSpec.ofChange elemMaySpec)

/-- ITS FALSE NEIGHBOUR: 'it returns false'. Refute it at one input. -/
def elemMayWrong : ChangeSpec := { name := "elemMay", fn := fun _ => fun
  | [d1, d2] => { results := [.lit (.bool false)], args := [d1, d2] }
  | _ => none }
def ElemMayWrongFalsely : Prop := elemMayRow.holds Tryz.pinned (OpenSpec.ofChange elemMayWrong)

/-- 'mandrellaw09.ElemPlace': WHATEVER THE INPUT: true; the input reads as it did. -/
def elemPlaceSpec : ChangeSpec := { name := "elemPlace", fn := fun _ => fun
  | [d1, d2, d3] => { results := [.lit (.bool true)], args := [d1, d2, d3] }
  | _ => none }
def elemPlaceRow : OpenClaim := { program := "yteigfipgmghgmaagreatdoor", sum := "e78e3dded5c5b746cd4831299efcc5995c792f4845aea219f947030904ea38a9", func := "mandrel/mandrellaw09.ElemPlace", spec := "elemPlace", inPlace := ["internal/bytealg.IndexByteString", "internal/bytealg.IndexString", "math.Float32frombits", "math.Float32bits", "math.sqrt", "math.archFloor", "math.Float64bits", "math.Float64frombits", "math.archTrunc"], unfollowed := true, recurses := true, named := ["mandrel/schema.ofOne", "internal/bytealg.MaxLen"], apart := false, laid := [("mandrel/schema.ofOne", laid_mandrel_schema_ofOne)] }
def ElemPlaceSaid : Prop := elemPlaceRow.holds Tryz.pinned (OpenSpec.ofChange elemPlaceSpec)

/-- ITS FALSE NEIGHBOUR: 'it returns false'. Refute it at one input. -/
def elemPlaceWrong : ChangeSpec := { name := "elemPlace", fn := fun _ => fun
  | [d1, d2, d3] => { results := [.lit (.bool false)], args := [d1, d2, d3] }
  | _ => none }
def ElemPlaceWrongFalsely : Prop := elemPlaceRow.holds Tryz.pinned (OpenSpec.ofChange elemPlaceWrong)

/-- 'mandrellaw09.ElemTurned': WHATEVER THE INPUT: true; the input reads as it did. -/
def elemTurnedSpec : ChangeSpec := { name := "elemTurned", fn := fun _ => fun
  | [d1, d2] => { results := [.lit (.bool true)], args := [d1, d2] }
  | _ => none }
def elemTurnedRow : OpenClaim := { program := "yteigfipgmghgmaagreatdoor", sum := "e78e3dded5c5b746cd4831299efcc5995c792f4845aea219f947030904ea38a9", func := "mandrel/mandrellaw09.ElemTurned", spec := "elemTurned", inPlace := ["internal/bytealg.IndexByteString", "internal/bytealg.IndexString", "math.Float32frombits", "math.Float32bits", "math.sqrt", "math.archFloor", "math.Float64bits", "math.Float64frombits", "math.archTrunc"], unfollowed := true, recurses := true, named := ["mandrel/schema.ofOne", "internal/bytealg.MaxLen"], apart := false, laid := [("mandrel/schema.ofOne", laid_mandrel_schema_ofOne)] }
def ElemTurnedSaid : Prop := elemTurnedRow.holds Tryz.pinned (OpenSpec.ofChange elemTurnedSpec)

/-- ITS FALSE NEIGHBOUR: 'it returns false'. Refute it at one input. -/
def elemTurnedWrong : ChangeSpec := { name := "elemTurned", fn := fun _ => fun
  | [d1, d2] => { results := [.lit (.bool false)], args := [d1, d2] }
  | _ => none }
def ElemTurnedWrongFalsely : Prop := elemTurnedRow.holds Tryz.pinned (OpenSpec.ofChange elemTurnedWrong)

/- THE SECOND FORM. 'bulk': how many values and letters a reading holds, each counted each time it is reached (what is shared counts as often as it is met; a slice's spare places count too). A statement '..UptoSaid' is the law's where the arguments, and the package variables that the reading takes, are together of bulk at most 1048576: NARROWER than '..Said'. Prove '..Said' where nothing that the law and all that it calls make is longer than what came in: it says more and counts as full. Else prove '..UptoSaid'. A law counts once. -/
mutual
def uptoBulk {H : Type} : DataW H → Nat
  | .lit (.string bytes) => bytes.length + 1
  | .lit _ => 1
  | .nil => 1
  | .ptr d => uptoBulk d + 1
  | .slice elems spare => uptoBulkAll elems + uptoBulkAll spare + 1
  | .agg parts => uptoBulkAll parts + 1
  | .iface _ d => uptoBulk d + 1
  | .map entries => uptoBulkEntries entries + 1
  | .held _ => 1
def uptoBulkAll {H : Type} : List (DataW H) → Nat
  | [] => 0
  | d :: r => uptoBulk d + uptoBulkAll r
def uptoBulkEntries {H : Type} : List (Lit × DataW H) → Nat
  | [] => 0
  | x :: r => uptoBulkEntry x + uptoBulkEntries r
def uptoBulkEntry {H : Type} : Lit × DataW H → Nat
  | (.string bytes, d) => bytes.length + uptoBulk d + 1
  | (_, d) => uptoBulk d + 1
 end
def uptoSmall : (H : Type) → List (DataW H) → Bool := fun _ ds => decide (uptoBulkAll ds ≤ 1048576)
def OpenSpec.upto (s : _root_.Go.ChangeSpec) : _root_.Go.OpenSpec := { _root_.Go.OpenSpec.ofChange s with cond := some uptoSmall }

/-- 'mandrellaw09.ElemMay', WHERE WHAT IT READS IS OF BULK AT MOST 1048576: true; the input reads as it did. -/
def elemMayUptoRow : OpenClaim := { program := "yteigfipgmghgmaagreatdoor", sum := "e78e3dded5c5b746cd4831299efcc5995c792f4845aea219f947030904ea38a9", func := "mandrel/mandrellaw09.ElemMay", spec := "elemMay", inPlace := ["internal/bytealg.IndexByteString", "internal/bytealg.IndexString", "math.Float32frombits", "math.Float32bits", "math.sqrt", "math.archFloor", "math.Float64bits", "math.Float64frombits", "math.archTrunc"], unfollowed := true, recurses := true, named := ["mandrel/schema.ofOne", "internal/bytealg.MaxLen"], apart := false, laid := [("mandrel/schema.ofOne", laid_mandrel_schema_ofOne)], narrowed := true }
def ElemMayUptoSaid : Prop := elemMayUptoRow.holds Tryz.pinned (OpenSpec.upto elemMaySpec)

/-- 'mandrellaw09.ElemPlace', WHERE WHAT IT READS IS OF BULK AT MOST 1048576: true; the input reads as it did. -/
def elemPlaceUptoRow : OpenClaim := { program := "yteigfipgmghgmaagreatdoor", sum := "e78e3dded5c5b746cd4831299efcc5995c792f4845aea219f947030904ea38a9", func := "mandrel/mandrellaw09.ElemPlace", spec := "elemPlace", inPlace := ["internal/bytealg.IndexByteString", "internal/bytealg.IndexString", "math.Float32frombits", "math.Float32bits", "math.sqrt", "math.archFloor", "math.Float64bits", "math.Float64frombits", "math.archTrunc"], unfollowed := true, recurses := true, named := ["mandrel/schema.ofOne", "internal/bytealg.MaxLen"], apart := false, laid := [("mandrel/schema.ofOne", laid_mandrel_schema_ofOne)], narrowed := true }
def ElemPlaceUptoSaid : Prop := elemPlaceUptoRow.holds Tryz.pinned (OpenSpec.upto elemPlaceSpec)

/-- 'mandrellaw09.ElemTurned', WHERE WHAT IT READS IS OF BULK AT MOST 1048576: true; the input reads as it did. -/
def elemTurnedUptoRow : OpenClaim := { program := "yteigfipgmghgmaagreatdoor", sum := "e78e3dded5c5b746cd4831299efcc5995c792f4845aea219f947030904ea38a9", func := "mandrel/mandrellaw09.ElemTurned", spec := "elemTurned", inPlace := ["internal/bytealg.IndexByteString", "internal/bytealg.IndexString", "math.Float32frombits", "math.Float32bits", "math.sqrt", "math.archFloor", "math.Float64bits", "math.Float64frombits", "math.archTrunc"], unfollowed := true, recurses := true, named := ["mandrel/schema.ofOne", "internal/bytealg.MaxLen"], apart := false, laid := [("mandrel/schema.ofOne", laid_mandrel_schema_ofOne)], narrowed := true }
def ElemTurnedUptoSaid : Prop := elemTurnedUptoRow.holds Tryz.pinned (OpenSpec.upto elemTurnedSpec)

end Rows
end Go.Proofs.YteigfipgmghgmaaGreatDoor
