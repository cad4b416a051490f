/-
  DERIVED. GIVEN WITH THE SEED: THE CARDS: each row of YtfladhogkhhlcaaGreatDoorRows.lean that lists a variable, with what it lists TIED to the program's text (the seventh form; the later family's looks); each row that meets fmt, with fmt's text TOLD by the authors' own Lean function (tested against real Go, not proved from fmt's source: count such statements apart). THE CARD IS WHAT COUNTS. Prove the row's statement (the work); the ties are given (YtfladhogkhhlcaaGreatDoorTie.lean); close each card by the builder's one call (the guide's Derived/Test/ToyasCard.lean, 'card_holds'). Laid BY PROGRAM, IN A SANDBOX (cutbox-door.mjs). By AI agents, Wed Nov 11 2026. No macro, syntax, notation, axiom, sorry.
-/
import Derived.Test.YtfladhogkhhlcaaGreatDoorRows
import GoSem.ClaimSeven
namespace Go.Proofs.YtfladhogkhhlcaaGreatDoor
namespace Rows

/-- THE TIED CARD OF 'mandrellaw12.LinearOne'. -/
def linearOneCard : Claim7 := { stood := { row := linearOneRow, standIns := [], harness := (true, "7d5854189357b96117fa3994695906d6fcadad19e4313cbd139994c624e08b51"), looks := true }, kinds := [], alts := [], laidByText := true, laidKinds := [.data], laidTests := true, laidLooks := .later }
def LinearOneCardSaid : Prop := Claim7.holds Tryz.pinned (.plain (OpenSpec.ofChange linearOneSpec)) linearOneCard

/-- THE TIED CARD OF 'mandrellaw12.LinearRows'. -/
def linearRowsCard : Claim7 := { stood := { row := linearRowsRow, standIns := [], harness := (true, "7d5854189357b96117fa3994695906d6fcadad19e4313cbd139994c624e08b51"), looks := true }, kinds := [], alts := [], laidByText := true, laidKinds := [.data], laidTests := true, laidLooks := .later }
def LinearRowsCardSaid : Prop := Claim7.holds Tryz.pinned (.plain (OpenSpec.ofChange linearRowsSpec)) linearRowsCard

/-- THE TIED CARD OF 'mandrellaw12.LinearGemm'. -/
def linearGemmCard : Claim7 := { stood := { row := linearGemmRow, standIns := [], harness := (true, "7d5854189357b96117fa3994695906d6fcadad19e4313cbd139994c624e08b51"), looks := true }, kinds := [], alts := [], laidByText := true, laidKinds := [.data], laidTests := true, laidLooks := .later }
def LinearGemmCardSaid : Prop := Claim7.holds Tryz.pinned (.plain (OpenSpec.ofChange linearGemmSpec)) linearGemmCard

/-- THE TIED CARD OF 'mandrellaw12.LinearTurned'. -/
def linearTurnedCard : Claim7 := { stood := { row := linearTurnedRow, standIns := [], harness := (true, "7d5854189357b96117fa3994695906d6fcadad19e4313cbd139994c624e08b51"), looks := true }, kinds := [], alts := [], laidByText := true, laidKinds := [.data], laidTests := true, laidLooks := .later }
def LinearTurnedCardSaid : Prop := Claim7.holds Tryz.pinned (.plain (OpenSpec.ofChange linearTurnedSpec)) linearTurnedCard

/-- THE TIED CARD OF 'mandrellaw12.LinearBatch'. -/
def linearBatchCard : Claim7 := { stood := { row := linearBatchRow, standIns := [], harness := (true, "7d5854189357b96117fa3994695906d6fcadad19e4313cbd139994c624e08b51"), looks := true }, kinds := [], alts := [], laidByText := true, laidKinds := [.data], laidTests := true, laidLooks := .later }
def LinearBatchCardSaid : Prop := Claim7.holds Tryz.pinned (.plain (OpenSpec.ofChange linearBatchSpec)) linearBatchCard

/-- THE SECOND FORM's CARD OF 'mandrellaw12.LinearOne'. -/
def linearOneUptoCard : Claim7 := { stood := { row := linearOneUptoRow, standIns := [], harness := (true, "7d5854189357b96117fa3994695906d6fcadad19e4313cbd139994c624e08b51"), looks := true }, kinds := [], alts := [], laidByText := true, laidKinds := [.data], laidTests := true, laidLooks := .later }
def LinearOneUptoCardSaid : Prop := Claim7.holds Tryz.pinned (.plain (OpenSpec.upto linearOneSpec)) linearOneUptoCard

/-- THE SECOND FORM's CARD OF 'mandrellaw12.LinearRows'. -/
def linearRowsUptoCard : Claim7 := { stood := { row := linearRowsUptoRow, standIns := [], harness := (true, "7d5854189357b96117fa3994695906d6fcadad19e4313cbd139994c624e08b51"), looks := true }, kinds := [], alts := [], laidByText := true, laidKinds := [.data], laidTests := true, laidLooks := .later }
def LinearRowsUptoCardSaid : Prop := Claim7.holds Tryz.pinned (.plain (OpenSpec.upto linearRowsSpec)) linearRowsUptoCard

/-- THE SECOND FORM's CARD OF 'mandrellaw12.LinearGemm'. -/
def linearGemmUptoCard : Claim7 := { stood := { row := linearGemmUptoRow, standIns := [], harness := (true, "7d5854189357b96117fa3994695906d6fcadad19e4313cbd139994c624e08b51"), looks := true }, kinds := [], alts := [], laidByText := true, laidKinds := [.data], laidTests := true, laidLooks := .later }
def LinearGemmUptoCardSaid : Prop := Claim7.holds Tryz.pinned (.plain (OpenSpec.upto linearGemmSpec)) linearGemmUptoCard

/-- THE SECOND FORM's CARD OF 'mandrellaw12.LinearTurned'. -/
def linearTurnedUptoCard : Claim7 := { stood := { row := linearTurnedUptoRow, standIns := [], harness := (true, "7d5854189357b96117fa3994695906d6fcadad19e4313cbd139994c624e08b51"), looks := true }, kinds := [], alts := [], laidByText := true, laidKinds := [.data], laidTests := true, laidLooks := .later }
def LinearTurnedUptoCardSaid : Prop := Claim7.holds Tryz.pinned (.plain (OpenSpec.upto linearTurnedSpec)) linearTurnedUptoCard

/-- THE SECOND FORM's CARD OF 'mandrellaw12.LinearBatch'. -/
def linearBatchUptoCard : Claim7 := { stood := { row := linearBatchUptoRow, standIns := [], harness := (true, "7d5854189357b96117fa3994695906d6fcadad19e4313cbd139994c624e08b51"), looks := true }, kinds := [], alts := [], laidByText := true, laidKinds := [.data], laidTests := true, laidLooks := .later }
def LinearBatchUptoCardSaid : Prop := Claim7.holds Tryz.pinned (.plain (OpenSpec.upto linearBatchSpec)) linearBatchUptoCard
end Rows
end Go.Proofs.YtfladhogkhhlcaaGreatDoor
