/-
  DERIVED. GIVEN WITH THE SEED: THE CARDS: each row of YtdcbjikjeicgbaaGreatDoorRows.lean that lists a variable, with what it lists TIED to the program's text (the seventh form; the later family's looks); each row that meets fmt, with fmt's text TOLD by the authors' own Lean function (tested against real Go, not proved from fmt's source: count such statements apart). THE CARD IS WHAT COUNTS. Prove the row's statement (the work); the ties are given (YtdcbjikjeicgbaaGreatDoorTie.lean); close each card by the builder's one call (the guide's Derived/Test/ToyasCard.lean, 'card_holds'). Laid BY PROGRAM, IN A SANDBOX (cutbox-door.mjs). By AI agents, Wed Nov 11 2026. No macro, syntax, notation, axiom, sorry.
-/
import Derived.Test.YtdcbjikjeicgbaaGreatDoorRows
import GoSem.ClaimSeven
namespace Go.Proofs.YtdcbjikjeicgbaaGreatDoor
namespace Rows

/-- THE TIED CARD OF 'mandrellaw08.InferNodes'. -/
def inferNodesCard : Claim7 := { stood := { row := inferNodesRow, standIns := [], harness := (true, "6a1b2404e8ed743c5689f1a4ff252b8424eb679e54d736dcc27fc7a06fc88616"), looks := true }, kinds := [], alts := [], laidByText := true, laidKinds := [.data], laidTests := true, laidLooks := .later }
def InferNodesCardSaid : Prop := Claim7.holds Tryz.pinned (.plain (OpenSpec.ofChange inferNodesSpec)) inferNodesCard

/-- THE TIED CARD OF 'mandrellaw08.InferGraphs'. -/
def inferGraphsCard : Claim7 := { stood := { row := inferGraphsRow, standIns := [], harness := (true, "6a1b2404e8ed743c5689f1a4ff252b8424eb679e54d736dcc27fc7a06fc88616"), looks := true }, kinds := [], alts := [], laidByText := true, laidKinds := [.data], laidTests := true, laidLooks := .later }
def InferGraphsCardSaid : Prop := Claim7.holds Tryz.pinned (.plain (OpenSpec.ofChange inferGraphsSpec)) inferGraphsCard

/-- THE TIED CARD OF 'mandrellaw08.InferNames'. -/
def inferNamesCard : Claim7 := { stood := { row := inferNamesRow, standIns := [], harness := (true, "6a1b2404e8ed743c5689f1a4ff252b8424eb679e54d736dcc27fc7a06fc88616"), looks := true }, kinds := [], alts := [], laidByText := true, laidKinds := [.data], laidTests := true, laidLooks := .later }
def InferNamesCardSaid : Prop := Claim7.holds Tryz.pinned (.plain (OpenSpec.ofChange inferNamesSpec)) inferNamesCard

/-- THE TIED CARD OF 'mandrellaw08.InferMay'. -/
def inferMayCard : Claim7 := { stood := { row := inferMayRow, standIns := [], harness := (true, "6a1b2404e8ed743c5689f1a4ff252b8424eb679e54d736dcc27fc7a06fc88616"), looks := true }, kinds := [], alts := [], laidByText := true, laidKinds := [.data], laidTests := true, laidLooks := .later }
def InferMayCardSaid : Prop := Claim7.holds Tryz.pinned (.plain (OpenSpec.ofChange inferMaySpec)) inferMayCard

/-- THE TIED CARD OF 'mandrellaw08.InferBatch'. -/
def inferBatchCard : Claim7 := { stood := { row := inferBatchRow, standIns := [], harness := (true, "6a1b2404e8ed743c5689f1a4ff252b8424eb679e54d736dcc27fc7a06fc88616"), looks := true }, kinds := [], alts := [], laidByText := true, laidKinds := [.data], laidTests := true, laidLooks := .later }
def InferBatchCardSaid : Prop := Claim7.holds Tryz.pinned (.plain (OpenSpec.ofChange inferBatchSpec)) inferBatchCard

/-- THE SECOND FORM's CARD OF 'mandrellaw08.InferNodes'. -/
def inferNodesUptoCard : Claim7 := { stood := { row := inferNodesUptoRow, standIns := [], harness := (true, "6a1b2404e8ed743c5689f1a4ff252b8424eb679e54d736dcc27fc7a06fc88616"), looks := true }, kinds := [], alts := [], laidByText := true, laidKinds := [.data], laidTests := true, laidLooks := .later }
def InferNodesUptoCardSaid : Prop := Claim7.holds Tryz.pinned (.plain (OpenSpec.upto inferNodesSpec)) inferNodesUptoCard

/-- THE SECOND FORM's CARD OF 'mandrellaw08.InferGraphs'. -/
def inferGraphsUptoCard : Claim7 := { stood := { row := inferGraphsUptoRow, standIns := [], harness := (true, "6a1b2404e8ed743c5689f1a4ff252b8424eb679e54d736dcc27fc7a06fc88616"), looks := true }, kinds := [], alts := [], laidByText := true, laidKinds := [.data], laidTests := true, laidLooks := .later }
def InferGraphsUptoCardSaid : Prop := Claim7.holds Tryz.pinned (.plain (OpenSpec.upto inferGraphsSpec)) inferGraphsUptoCard

/-- THE SECOND FORM's CARD OF 'mandrellaw08.InferNames'. -/
def inferNamesUptoCard : Claim7 := { stood := { row := inferNamesUptoRow, standIns := [], harness := (true, "6a1b2404e8ed743c5689f1a4ff252b8424eb679e54d736dcc27fc7a06fc88616"), looks := true }, kinds := [], alts := [], laidByText := true, laidKinds := [.data], laidTests := true, laidLooks := .later }
def InferNamesUptoCardSaid : Prop := Claim7.holds Tryz.pinned (.plain (OpenSpec.upto inferNamesSpec)) inferNamesUptoCard

/-- THE SECOND FORM's CARD OF 'mandrellaw08.InferMay'. -/
def inferMayUptoCard : Claim7 := { stood := { row := inferMayUptoRow, standIns := [], harness := (true, "6a1b2404e8ed743c5689f1a4ff252b8424eb679e54d736dcc27fc7a06fc88616"), looks := true }, kinds := [], alts := [], laidByText := true, laidKinds := [.data], laidTests := true, laidLooks := .later }
def InferMayUptoCardSaid : Prop := Claim7.holds Tryz.pinned (.plain (OpenSpec.upto inferMaySpec)) inferMayUptoCard

/-- THE SECOND FORM's CARD OF 'mandrellaw08.InferBatch'. -/
def inferBatchUptoCard : Claim7 := { stood := { row := inferBatchUptoRow, standIns := [], harness := (true, "6a1b2404e8ed743c5689f1a4ff252b8424eb679e54d736dcc27fc7a06fc88616"), looks := true }, kinds := [], alts := [], laidByText := true, laidKinds := [.data], laidTests := true, laidLooks := .later }
def InferBatchUptoCardSaid : Prop := Claim7.holds Tryz.pinned (.plain (OpenSpec.upto inferBatchSpec)) inferBatchUptoCard
end Rows
end Go.Proofs.YtdcbjikjeicgbaaGreatDoor
