/-
  NARROWER THAN 'FOR EVERY INPUT', by the rows' own cells (each row's printed sentence says how): LiveRows: laid · LiveApart: laid · LiveGoesOn: laid · LiveBefore: laid · LiveOutputs: laid.
  DERIVED. THE GIVEN ROWS OF THIS SEAT. 5 by the template 'for every input the law returns true; each argument reads behind the call as it read before'; 0 by the template 'total and deterministic' (their statements: YtmdpeckeliplkaaDoorTotals.lean).
  GIVEN WITH THE SEED: the statements are not yours to turn. If you find one false, say at which input.
  Laid BY PROGRAM, IN A SANDBOX (cutbox-rows.mjs): the forced cells as the released guide's own fill.sh prints them over the translation a9b0ac546d13b6f2… (all of the seat's roots in one cut). By AI agents, Wed Nov 11 2026. No macro, syntax, notation, axiom, sorry.
-/
import Derived.Test.YtmdpeckeliplkaaDoorChecked
import GoSem.Claim
import GoSem.ClaimJoined
import GoSem.ClaimMapViews
import Derived.JoinedTies
import Derived.KernelRfl
namespace Go.Proofs.YtmdpeckeliplkaaDoor
/- THE CELL 'sum', in the pinned program and in every row, IS THE sha256 OF THE DUMP (.gsa) THAT YtmdpeckeliplkaaDoorProg.lean LOADS. Nothing in Lean hashes anything: it is a label: what it is worth is what the hold of that sum in a sandbox is worth. -/
noncomputable def Tryd.pinned : Pinned := { name := "ytmdpeckeliplkaadoor", sum := "a9b0ac546d13b6f2f4ca83832abeb25bd296aad0b2b23c96258f8b2f2534753e", checked := Tryd.checked }
namespace Rows
def none {H : Type} : Left H := { results := [], args := [] }

/- WHAT THE LISTED PACKAGE-LEVEL VARIABLES READ AS WHEN THE CALL BEGINS. Each datum BY PROGRAM (the guide's laid-datum.mjs) off the statement by which the dump's own 'gosem.cut.vars' lays the variable. In a bare row this is a premise. The card (YtmdpeckeliplkaaDoorCards.lean) ties it to the program's text. -/
def laid_mandrel_schema_ofOne {H : Type} : DataW H := .agg [.lit (.string [73, 100, 101, 110, 116, 105, 116, 121]), .lit (.string [78, 101, 103]), .lit (.string [65, 98, 115]), .lit (.string [78, 111, 116]), .lit (.string [82, 101, 108, 117]), .lit (.string [83, 113, 114, 116]), .lit (.string [70, 108, 111, 111, 114]), .lit (.string [69, 120, 112]), .lit (.string [83, 105, 103, 109, 111, 105, 100]), .lit (.string [84, 97, 110, 104])]

/-- 'mandrellaw19.LiveRows': WHATEVER THE INPUT: true; the input reads as it did. -/
def liveRowsSpec : ChangeSpec := { name := "liveRows", fn := fun _ => fun
  | [d] => { results := [.lit (.bool true)], args := [d] }
  | _ => none }
def liveRowsRow : OpenClaim := { program := "ytmdpeckeliplkaadoor", sum := "a9b0ac546d13b6f2f4ca83832abeb25bd296aad0b2b23c96258f8b2f2534753e", func := "mandrel/mandrellaw19.LiveRows", spec := "liveRows", inPlace := ["internal/bytealg.IndexByteString", "internal/bytealg.IndexString", "math.Float32frombits"], unfollowed := true, recurses := true, named := ["mandrel/schema.ofOne", "internal/bytealg.MaxLen"], apart := false, laid := [("mandrel/schema.ofOne", laid_mandrel_schema_ofOne)] }
def LiveRowsSaid : Prop := liveRowsRow.holds Tryd.pinned (OpenSpec.ofChange liveRowsSpec)

/-- ITS FALSE NEIGHBOUR: 'it returns false'. Refute it at one input. -/
def liveRowsWrong : ChangeSpec := { name := "liveRows", fn := fun _ => fun
  | [d] => { results := [.lit (.bool false)], args := [d] }
  | _ => none }
def LiveRowsWrongFalsely : Prop := liveRowsRow.holds Tryd.pinned (OpenSpec.ofChange liveRowsWrong)

/-- 'mandrellaw19.LiveApart': WHATEVER THE INPUT: true; the input reads as it did. -/
def liveApartSpec : ChangeSpec := { name := "liveApart", fn := fun _ => fun
  | [d1, d2, d3] => { results := [.lit (.bool true)], args := [d1, d2, d3] }
  | _ => none }
def liveApartRow : OpenClaim := { program := "ytmdpeckeliplkaadoor", sum := "a9b0ac546d13b6f2f4ca83832abeb25bd296aad0b2b23c96258f8b2f2534753e", func := "mandrel/mandrellaw19.LiveApart", spec := "liveApart", inPlace := ["internal/bytealg.IndexByteString", "internal/bytealg.IndexString", "math.Float32frombits"], unfollowed := true, recurses := true, named := ["mandrel/schema.ofOne", "internal/bytealg.MaxLen"], apart := false, laid := [("mandrel/schema.ofOne", laid_mandrel_schema_ofOne)] }
def LiveApartSaid : Prop := liveApartRow.holds Tryd.pinned (OpenSpec.ofChange liveApartSpec)

/-- ITS FALSE NEIGHBOUR: 'it returns false'. Refute it at one input. -/
def liveApartWrong : ChangeSpec := { name := "liveApart", fn := fun _ => fun
  | [d1, d2, d3] => { results := [.lit (.bool false)], args := [d1, d2, d3] }
  | _ => none }
def LiveApartWrongFalsely : Prop := liveApartRow.holds Tryd.pinned (OpenSpec.ofChange liveApartWrong)

/-- 'mandrellaw19.LiveGoesOn': WHATEVER THE INPUT: true; the input reads as it did. -/
def liveGoesOnSpec : ChangeSpec := { name := "liveGoesOn", fn := fun _ => fun
  | [d] => { results := [.lit (.bool true)], args := [d] }
  | _ => none }
def liveGoesOnRow : OpenClaim := { program := "ytmdpeckeliplkaadoor", sum := "a9b0ac546d13b6f2f4ca83832abeb25bd296aad0b2b23c96258f8b2f2534753e", func := "mandrel/mandrellaw19.LiveGoesOn", spec := "liveGoesOn", inPlace := ["internal/bytealg.IndexByteString", "internal/bytealg.IndexString"], unfollowed := true, recurses := true, named := ["mandrel/schema.ofOne", "internal/bytealg.MaxLen"], apart := false, laid := [("mandrel/schema.ofOne", laid_mandrel_schema_ofOne)] }
def LiveGoesOnSaid : Prop := liveGoesOnRow.holds Tryd.pinned (OpenSpec.ofChange liveGoesOnSpec)

/-- ITS FALSE NEIGHBOUR: 'it returns false'. Refute it at one input. -/
def liveGoesOnWrong : ChangeSpec := { name := "liveGoesOn", fn := fun _ => fun
  | [d] => { results := [.lit (.bool false)], args := [d] }
  | _ => none }
def LiveGoesOnWrongFalsely : Prop := liveGoesOnRow.holds Tryd.pinned (OpenSpec.ofChange liveGoesOnWrong)

/-- 'mandrellaw19.LiveBefore': WHATEVER THE INPUT: true; the input reads as it did. -/
def liveBeforeSpec : ChangeSpec := { name := "liveBefore", fn := fun _ => fun
  | [d1, d2, d3] => { results := [.lit (.bool true)], args := [d1, d2, d3] }
  | _ => none }
def liveBeforeRow : OpenClaim := { program := "ytmdpeckeliplkaadoor", sum := "a9b0ac546d13b6f2f4ca83832abeb25bd296aad0b2b23c96258f8b2f2534753e", func := "mandrel/mandrellaw19.LiveBefore", spec := "liveBefore", inPlace := ["internal/bytealg.IndexByteString", "internal/bytealg.IndexString"], unfollowed := true, recurses := true, named := ["mandrel/schema.ofOne", "internal/bytealg.MaxLen"], apart := false, laid := [("mandrel/schema.ofOne", laid_mandrel_schema_ofOne)] }
def LiveBeforeSaid : Prop := liveBeforeRow.holds Tryd.pinned (OpenSpec.ofChange liveBeforeSpec)

/-- ITS FALSE NEIGHBOUR: 'it returns false'. Refute it at one input. -/
def liveBeforeWrong : ChangeSpec := { name := "liveBefore", fn := fun _ => fun
  | [d1, d2, d3] => { results := [.lit (.bool false)], args := [d1, d2, d3] }
  | _ => none }
def LiveBeforeWrongFalsely : Prop := liveBeforeRow.holds Tryd.pinned (OpenSpec.ofChange liveBeforeWrong)

/-- 'mandrellaw19.LiveOutputs': WHATEVER THE INPUT: true; the input reads as it did. -/
def liveOutputsSpec : ChangeSpec := { name := "liveOutputs", fn := fun _ => fun
  | [d1, d2, d3] => { results := [.lit (.bool true)], args := [d1, d2, d3] }
  | _ => none }
def liveOutputsRow : OpenClaim := { program := "ytmdpeckeliplkaadoor", sum := "a9b0ac546d13b6f2f4ca83832abeb25bd296aad0b2b23c96258f8b2f2534753e", func := "mandrel/mandrellaw19.LiveOutputs", spec := "liveOutputs", inPlace := ["internal/bytealg.IndexByteString", "internal/bytealg.IndexString", "math.Float32frombits"], unfollowed := true, recurses := true, named := ["mandrel/schema.ofOne", "internal/bytealg.MaxLen"], apart := false, laid := [("mandrel/schema.ofOne", laid_mandrel_schema_ofOne)] }
def LiveOutputsSaid : Prop := liveOutputsRow.holds Tryd.pinned (OpenSpec.ofChange liveOutputsSpec)

/-- ITS FALSE NEIGHBOUR: 'it returns false'. Refute it at one input. -/
def liveOutputsWrong : ChangeSpec := { name := "liveOutputs", fn := fun _ => fun
  | [d1, d2, d3] => { results := [.lit (.bool false)], args := [d1, d2, d3] }
  | _ => none }
def LiveOutputsWrongFalsely : Prop := liveOutputsRow.holds Tryd.pinned (OpenSpec.ofChange liveOutputsWrong)

/- THE SECOND FORM. 'bulk': how many values and letters a reading holds, each counted each time it is reached (what is shared counts as often as it is met; a slice's spare places count too). A statement '..UptoSaid' is the law's where the arguments, and the package variables that the reading takes, are together of bulk at most 1048576: NARROWER than '..Said'. Prove '..Said' where nothing that the law and all that it calls make is longer than what came in: it says more and counts as full. Else prove '..UptoSaid'. A law counts once. -/
mutual
def uptoBulk {H : Type} : DataW H → Nat
  | .lit (.string bytes) => bytes.length + 1
  | .lit _ => 1
  | .nil => 1
  | .ptr d => uptoBulk d + 1
  | .slice elems spare => uptoBulkAll elems + uptoBulkAll spare + 1
  | .agg parts => uptoBulkAll parts + 1
  | .iface _ d => uptoBulk d + 1
  | .map entries => uptoBulkEntries entries + 1
  | .held _ => 1
def uptoBulkAll {H : Type} : List (DataW H) → Nat
  | [] => 0
  | d :: r => uptoBulk d + uptoBulkAll r
def uptoBulkEntries {H : Type} : List (Lit × DataW H) → Nat
  | [] => 0
  | x :: r => uptoBulkEntry x + uptoBulkEntries r
def uptoBulkEntry {H : Type} : Lit × DataW H → Nat
  | (.string bytes, d) => bytes.length + uptoBulk d + 1
  | (_, d) => uptoBulk d + 1
 end
def uptoSmall : (H : Type) → List (DataW H) → Bool := fun _ ds => decide (uptoBulkAll ds ≤ 1048576)
def OpenSpec.upto (s : _root_.Go.ChangeSpec) : _root_.Go.OpenSpec := { _root_.Go.OpenSpec.ofChange s with cond := some uptoSmall }

/-- 'mandrellaw19.LiveRows', WHERE WHAT IT READS IS OF BULK AT MOST 1048576: true; the input reads as it did. -/
def liveRowsUptoRow : OpenClaim := { program := "ytmdpeckeliplkaadoor", sum := "a9b0ac546d13b6f2f4ca83832abeb25bd296aad0b2b23c96258f8b2f2534753e", func := "mandrel/mandrellaw19.LiveRows", spec := "liveRows", inPlace := ["internal/bytealg.IndexByteString", "internal/bytealg.IndexString", "math.Float32frombits"], unfollowed := true, recurses := true, named := ["mandrel/schema.ofOne", "internal/bytealg.MaxLen"], apart := false, laid := [("mandrel/schema.ofOne", laid_mandrel_schema_ofOne)], narrowed := true }
def LiveRowsUptoSaid : Prop := liveRowsUptoRow.holds Tryd.pinned (OpenSpec.upto liveRowsSpec)

/-- 'mandrellaw19.LiveApart', WHERE WHAT IT READS IS OF BULK AT MOST 1048576: true; the input reads as it did. -/
def liveApartUptoRow : OpenClaim := { program := "ytmdpeckeliplkaadoor", sum := "a9b0ac546d13b6f2f4ca83832abeb25bd296aad0b2b23c96258f8b2f2534753e", func := "mandrel/mandrellaw19.LiveApart", spec := "liveApart", inPlace := ["internal/bytealg.IndexByteString", "internal/bytealg.IndexString", "math.Float32frombits"], unfollowed := true, recurses := true, named := ["mandrel/schema.ofOne", "internal/bytealg.MaxLen"], apart := false, laid := [("mandrel/schema.ofOne", laid_mandrel_schema_ofOne)], narrowed := true }
def LiveApartUptoSaid : Prop := liveApartUptoRow.holds Tryd.pinned (OpenSpec.upto liveApartSpec)

/-- 'mandrellaw19.LiveGoesOn', WHERE WHAT IT READS IS OF BULK AT MOST 1048576: true; the input reads as it did. -/
def liveGoesOnUptoRow : OpenClaim := { program := "ytmdpeckeliplkaadoor", sum := "a9b0ac546d13b6f2f4ca83832abeb25bd296aad0b2b23c96258f8b2f2534753e", func := "mandrel/mandrellaw19.LiveGoesOn", spec := "liveGoesOn", inPlace := ["internal/bytealg.IndexByteString", "internal/bytealg.IndexString"], unfollowed := true, recurses := true, named := ["mandrel/schema.ofOne", "internal/bytealg.MaxLen"], apart := false, laid := [("mandrel/schema.ofOne", laid_mandrel_schema_ofOne)], narrowed := true }
def LiveGoesOnUptoSaid : Prop := liveGoesOnUptoRow.holds Tryd.pinned (OpenSpec.upto liveGoesOnSpec)

/-- 'mandrellaw19.LiveBefore', WHERE WHAT IT READS IS OF BULK AT MOST 1048576: true; the input reads as it did. -/
def liveBeforeUptoRow : OpenClaim := { program := "ytmdpeckeliplkaadoor", sum := "a9b0ac546d13b6f2f4ca83832abeb25bd296aad0b2b23c96258f8b2f2534753e", func := "mandrel/mandrellaw19.LiveBefore", spec := "liveBefore", inPlace := ["internal/bytealg.IndexByteString", "internal/bytealg.IndexString"], unfollowed := true, recurses := true, named := ["mandrel/schema.ofOne", "internal/bytealg.MaxLen"], apart := false, laid := [("mandrel/schema.ofOne", laid_mandrel_schema_ofOne)], narrowed := true }
def LiveBeforeUptoSaid : Prop := liveBeforeUptoRow.holds Tryd.pinned (OpenSpec.upto liveBeforeSpec)

/-- 'mandrellaw19.LiveOutputs', WHERE WHAT IT READS IS OF BULK AT MOST 1048576: true; the input reads as it did. -/
def liveOutputsUptoRow : OpenClaim := { program := "ytmdpeckeliplkaadoor", sum := "a9b0ac546d13b6f2f4ca83832abeb25bd296aad0b2b23c96258f8b2f2534753e", func := "mandrel/mandrellaw19.LiveOutputs", spec := "liveOutputs", inPlace := ["internal/bytealg.IndexByteString", "internal/bytealg.IndexString", "math.Float32frombits"], unfollowed := true, recurses := true, named := ["mandrel/schema.ofOne", "internal/bytealg.MaxLen"], apart := false, laid := [("mandrel/schema.ofOne", laid_mandrel_schema_ofOne)], narrowed := true }
def LiveOutputsUptoSaid : Prop := liveOutputsUptoRow.holds Tryd.pinned (OpenSpec.upto liveOutputsSpec)

end Rows
end Go.Proofs.YtmdpeckeliplkaaDoor
