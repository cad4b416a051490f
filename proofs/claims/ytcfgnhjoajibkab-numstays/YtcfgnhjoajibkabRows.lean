/-
  No cell of these rows narrows 'for every input' (looked for: loops, veiled, ifaces, maps, wideKeys, modest, calm, conditions, laid).
  DERIVED. THE GIVEN ROWS OF THIS SEAT. 6 by the template 'for every input the law returns true; each argument reads behind the call as it read before'; 0 by the template 'total and deterministic' (their statements: YtcfgnhjoajibkabTotals.lean).
  GIVEN WITH THE SEED: the statements are not yours to turn. If you find one false, say at which input.
  Laid BY PROGRAM, IN A SANDBOX (cutbox-rows.mjs): the forced cells as the released guide's own fill.sh prints them over the translation ce25efca3955812c… (all of the seat's roots in one cut). By AI agents, Wed Nov 11 2026. No macro, syntax, notation, axiom, sorry.
-/
import Derived.Test.YtcfgnhjoajibkabChecked
import GoSem.Claim
import GoSem.ClaimJoined
import GoSem.ClaimMapViews
import Derived.JoinedTies
import Derived.KernelRfl
namespace Go.Proofs.Ytcfgnhjoajibkab
/- THE CELL 'sum', in the pinned program and in every row, IS THE sha256 OF THE DUMP (.gsa) THAT YtcfgnhjoajibkabProg.lean LOADS. Nothing in Lean hashes anything: it is a label: what it is worth is what the hold of that sum in a sandbox is worth. -/
noncomputable def Try.pinned : Pinned := { name := "ytcfgnhjoajibkab", sum := "ce25efca3955812cc121192a378da12774982285be7e54e804cf0c40ee34f149", checked := Try.checked }
namespace Rows
def none {H : Type} : Left H := { results := [], args := [] }

/-- 'mandrellaw02.NumUnary': WHATEVER THE INPUT: true; the input reads as it did. -/
def numUnarySpec : ChangeSpec := { name := "numUnary", fn := fun _ => fun
  | [d1, d2, d3] => { results := [.lit (.bool true)], args := [d1, d2, d3] }
  | _ => none }
def numUnaryRow : OpenClaim := { program := "ytcfgnhjoajibkab", sum := "ce25efca3955812cc121192a378da12774982285be7e54e804cf0c40ee34f149", func := "mandrel/mandrellaw02.NumUnary", spec := "numUnary", inPlace := ["math.Float32frombits", "math.Float32bits", "math.sqrt", "math.archFloor", "math.Float64bits", "math.Float64frombits", "math.archTrunc"], recurses := true, apart := false }
def NumUnarySaid : Prop := numUnaryRow.holds Try.pinned (OpenSpec.ofChange numUnarySpec)

/-- ITS FALSE NEIGHBOUR: 'it returns false'. Refute it at one input. -/
def numUnaryWrong : ChangeSpec := { name := "numUnary", fn := fun _ => fun
  | [d1, d2, d3] => { results := [.lit (.bool false)], args := [d1, d2, d3] }
  | _ => none }
def NumUnaryWrongFalsely : Prop := numUnaryRow.holds Try.pinned (OpenSpec.ofChange numUnaryWrong)

/-- 'mandrellaw02.NumBinary': WHATEVER THE INPUT: true; the input reads as it did. -/
def numBinarySpec : ChangeSpec := { name := "numBinary", fn := fun _ => fun
  | [d1, d2, d3] => { results := [.lit (.bool true)], args := [d1, d2, d3] }
  | _ => none }
def numBinaryRow : OpenClaim := { program := "ytcfgnhjoajibkab", sum := "ce25efca3955812cc121192a378da12774982285be7e54e804cf0c40ee34f149", func := "mandrel/mandrellaw02.NumBinary", spec := "numBinary", inPlace := ["math.Float32frombits", "math.Float32bits", "math.sqrt", "math.archFloor", "math.Float64bits", "math.Float64frombits", "math.archTrunc"], apart := false }
def NumBinarySaid : Prop := numBinaryRow.holds Try.pinned (OpenSpec.ofChange numBinarySpec)

/-- ITS FALSE NEIGHBOUR: 'it returns false'. Refute it at one input. -/
def numBinaryWrong : ChangeSpec := { name := "numBinary", fn := fun _ => fun
  | [d1, d2, d3] => { results := [.lit (.bool false)], args := [d1, d2, d3] }
  | _ => none }
def NumBinaryWrongFalsely : Prop := numBinaryRow.holds Try.pinned (OpenSpec.ofChange numBinaryWrong)

/-- 'mandrellaw02.NumCast': WHATEVER THE INPUT: true; the input reads as it did. -/
def numCastSpec : ChangeSpec := { name := "numCast", fn := fun _ => fun
  | [d1, d2, d3] => { results := [.lit (.bool true)], args := [d1, d2, d3] }
  | _ => none }
def numCastRow : OpenClaim := { program := "ytcfgnhjoajibkab", sum := "ce25efca3955812cc121192a378da12774982285be7e54e804cf0c40ee34f149", func := "mandrel/mandrellaw02.NumCast", spec := "numCast", inPlace := ["math.Float32frombits", "math.Float32bits", "math.sqrt", "math.archFloor", "math.Float64bits", "math.Float64frombits", "math.archTrunc"], apart := false }
def NumCastSaid : Prop := numCastRow.holds Try.pinned (OpenSpec.ofChange numCastSpec)

/-- ITS FALSE NEIGHBOUR: 'it returns false'. Refute it at one input. -/
def numCastWrong : ChangeSpec := { name := "numCast", fn := fun _ => fun
  | [d1, d2, d3] => { results := [.lit (.bool false)], args := [d1, d2, d3] }
  | _ => none }
def NumCastWrongFalsely : Prop := numCastRow.holds Try.pinned (OpenSpec.ofChange numCastWrong)

/-- 'mandrellaw02.NumStays': WHATEVER THE INPUT: true; the input reads as it did. -/
def numStaysSpec : ChangeSpec := { name := "numStays", fn := fun _ => fun
  | [d1, d2, d3] => { results := [.lit (.bool true)], args := [d1, d2, d3] }
  | _ => none }
def numStaysRow : OpenClaim := { program := "ytcfgnhjoajibkab", sum := "ce25efca3955812cc121192a378da12774982285be7e54e804cf0c40ee34f149", func := "mandrel/mandrellaw02.NumStays", spec := "numStays", inPlace := ["math.Float32frombits", "math.Float32bits", "math.sqrt", "math.archFloor", "math.Float64bits", "math.Float64frombits", "math.archTrunc"], apart := false }
def NumStaysSaid : Prop := numStaysRow.holds Try.pinned (OpenSpec.ofChange numStaysSpec)

/-- ITS FALSE NEIGHBOUR: 'it returns false'. Refute it at one input. -/
def numStaysWrong : ChangeSpec := { name := "numStays", fn := fun _ => fun
  | [d1, d2, d3] => { results := [.lit (.bool false)], args := [d1, d2, d3] }
  | _ => none }
def NumStaysWrongFalsely : Prop := numStaysRow.holds Try.pinned (OpenSpec.ofChange numStaysWrong)

/-- 'mandrellaw02.NumTurns': WHATEVER THE INPUT: true; the input reads as it did. -/
def numTurnsSpec : ChangeSpec := { name := "numTurns", fn := fun _ => fun
  | [d1, d2, d3] => { results := [.lit (.bool true)], args := [d1, d2, d3] }
  | _ => none }
def numTurnsRow : OpenClaim := { program := "ytcfgnhjoajibkab", sum := "ce25efca3955812cc121192a378da12774982285be7e54e804cf0c40ee34f149", func := "mandrel/mandrellaw02.NumTurns", spec := "numTurns", inPlace := ["math.Float32frombits", "math.Float32bits", "math.sqrt", "math.archFloor", "math.Float64bits", "math.Float64frombits", "math.archTrunc"], apart := false }
def NumTurnsSaid : Prop := numTurnsRow.holds Try.pinned (OpenSpec.ofChange numTurnsSpec)

/-- ITS FALSE NEIGHBOUR: 'it returns false'. Refute it at one input. -/
def numTurnsWrong : ChangeSpec := { name := "numTurns", fn := fun _ => fun
  | [d1, d2, d3] => { results := [.lit (.bool false)], args := [d1, d2, d3] }
  | _ => none }
def NumTurnsWrongFalsely : Prop := numTurnsRow.holds Try.pinned (OpenSpec.ofChange numTurnsWrong)

/-- 'mandrellaw02.NumLess': WHATEVER THE INPUT: true; the input reads as it did. -/
def numLessSpec : ChangeSpec := { name := "numLess", fn := fun _ => fun
  | [d1, d2] => { results := [.lit (.bool true)], args := [d1, d2] }
  | _ => none }
def numLessRow : OpenClaim := { program := "ytcfgnhjoajibkab", sum := "ce25efca3955812cc121192a378da12774982285be7e54e804cf0c40ee34f149", func := "mandrel/mandrellaw02.NumLess", spec := "numLess", inPlace := ["math.Float32frombits", "math.Float32bits", "math.sqrt", "math.archFloor", "math.Float64bits", "math.Float64frombits", "math.archTrunc"], apart := false }
def NumLessSaid : Prop := numLessRow.holds Try.pinned (OpenSpec.ofChange numLessSpec)

/-- ITS FALSE NEIGHBOUR: 'it returns false'. Refute it at one input. -/
def numLessWrong : ChangeSpec := { name := "numLess", fn := fun _ => fun
  | [d1, d2] => { results := [.lit (.bool false)], args := [d1, d2] }
  | _ => none }
def NumLessWrongFalsely : Prop := numLessRow.holds Try.pinned (OpenSpec.ofChange numLessWrong)

/- THE SECOND FORM. 'bulk': how many values and letters a reading holds, each counted each time it is reached (what is shared counts as often as it is met; a slice's spare places count too). A statement '..UptoSaid' is the law's where the arguments, and the package variables that the reading takes, are together of bulk at most 1048576: NARROWER than '..Said'. Prove '..Said' where nothing that the law and all that it calls make is longer than what came in: it says more and counts as full. Else prove '..UptoSaid'. A law counts once. -/
mutual
def uptoBulk {H : Type} : DataW H → Nat
  | .lit (.string bytes) => bytes.length + 1
  | .lit _ => 1
  | .nil => 1
  | .ptr d => uptoBulk d + 1
  | .slice elems spare => uptoBulkAll elems + uptoBulkAll spare + 1
  | .agg parts => uptoBulkAll parts + 1
  | .iface _ d => uptoBulk d + 1
  | .map entries => uptoBulkEntries entries + 1
  | .held _ => 1
def uptoBulkAll {H : Type} : List (DataW H) → Nat
  | [] => 0
  | d :: r => uptoBulk d + uptoBulkAll r
def uptoBulkEntries {H : Type} : List (Lit × DataW H) → Nat
  | [] => 0
  | x :: r => uptoBulkEntry x + uptoBulkEntries r
def uptoBulkEntry {H : Type} : Lit × DataW H → Nat
  | (.string bytes, d) => bytes.length + uptoBulk d + 1
  | (_, d) => uptoBulk d + 1
 end
def uptoSmall : (H : Type) → List (DataW H) → Bool := fun _ ds => decide (uptoBulkAll ds ≤ 1048576)
def OpenSpec.upto (s : _root_.Go.ChangeSpec) : _root_.Go.OpenSpec := { _root_.Go.OpenSpec.ofChange s with cond := some uptoSmall }

/-- 'mandrellaw02.NumUnary', WHERE WHAT IT READS IS OF BULK AT MOST 1048576: true; the input reads as it did. -/
def numUnaryUptoRow : OpenClaim := { program := "ytcfgnhjoajibkab", sum := "ce25efca3955812cc121192a378da12774982285be7e54e804cf0c40ee34f149", func := "mandrel/mandrellaw02.NumUnary", spec := "numUnary", inPlace := ["math.Float32frombits", "math.Float32bits", "math.sqrt", "math.archFloor", "math.Float64bits", "math.Float64frombits", "math.archTrunc"], recurses := true, apart := false, narrowed := true }
def NumUnaryUptoSaid : Prop := numUnaryUptoRow.holds Try.pinned (OpenSpec.upto numUnarySpec)

/-- 'mandrellaw02.NumBinary', WHERE WHAT IT READS IS OF BULK AT MOST 1048576: true; the input reads as it did. -/
def numBinaryUptoRow : OpenClaim := { program := "ytcfgnhjoajibkab", sum := "ce25efca3955812cc121192a378da12774982285be7e54e804cf0c40ee34f149", func := "mandrel/mandrellaw02.NumBinary", spec := "numBinary", inPlace := ["math.Float32frombits", "math.Float32bits", "math.sqrt", "math.archFloor", "math.Float64bits", "math.Float64frombits", "math.archTrunc"], apart := false, narrowed := true }
def NumBinaryUptoSaid : Prop := numBinaryUptoRow.holds Try.pinned (OpenSpec.upto numBinarySpec)

/-- 'mandrellaw02.NumCast', WHERE WHAT IT READS IS OF BULK AT MOST 1048576: true; the input reads as it did. -/
def numCastUptoRow : OpenClaim := { program := "ytcfgnhjoajibkab", sum := "ce25efca3955812cc121192a378da12774982285be7e54e804cf0c40ee34f149", func := "mandrel/mandrellaw02.NumCast", spec := "numCast", inPlace := ["math.Float32frombits", "math.Float32bits", "math.sqrt", "math.archFloor", "math.Float64bits", "math.Float64frombits", "math.archTrunc"], apart := false, narrowed := true }
def NumCastUptoSaid : Prop := numCastUptoRow.holds Try.pinned (OpenSpec.upto numCastSpec)

/-- 'mandrellaw02.NumStays', WHERE WHAT IT READS IS OF BULK AT MOST 1048576: true; the input reads as it did. -/
def numStaysUptoRow : OpenClaim := { program := "ytcfgnhjoajibkab", sum := "ce25efca3955812cc121192a378da12774982285be7e54e804cf0c40ee34f149", func := "mandrel/mandrellaw02.NumStays", spec := "numStays", inPlace := ["math.Float32frombits", "math.Float32bits", "math.sqrt", "math.archFloor", "math.Float64bits", "math.Float64frombits", "math.archTrunc"], apart := false, narrowed := true }
def NumStaysUptoSaid : Prop := numStaysUptoRow.holds Try.pinned (OpenSpec.upto numStaysSpec)

/-- 'mandrellaw02.NumTurns', WHERE WHAT IT READS IS OF BULK AT MOST 1048576: true; the input reads as it did. -/
def numTurnsUptoRow : OpenClaim := { program := "ytcfgnhjoajibkab", sum := "ce25efca3955812cc121192a378da12774982285be7e54e804cf0c40ee34f149", func := "mandrel/mandrellaw02.NumTurns", spec := "numTurns", inPlace := ["math.Float32frombits", "math.Float32bits", "math.sqrt", "math.archFloor", "math.Float64bits", "math.Float64frombits", "math.archTrunc"], apart := false, narrowed := true }
def NumTurnsUptoSaid : Prop := numTurnsUptoRow.holds Try.pinned (OpenSpec.upto numTurnsSpec)

/-- 'mandrellaw02.NumLess', WHERE WHAT IT READS IS OF BULK AT MOST 1048576: true; the input reads as it did. -/
def numLessUptoRow : OpenClaim := { program := "ytcfgnhjoajibkab", sum := "ce25efca3955812cc121192a378da12774982285be7e54e804cf0c40ee34f149", func := "mandrel/mandrellaw02.NumLess", spec := "numLess", inPlace := ["math.Float32frombits", "math.Float32bits", "math.sqrt", "math.archFloor", "math.Float64bits", "math.Float64frombits", "math.archTrunc"], apart := false, narrowed := true }
def NumLessUptoSaid : Prop := numLessUptoRow.holds Try.pinned (OpenSpec.upto numLessSpec)

end Rows
end Go.Proofs.Ytcfgnhjoajibkab
