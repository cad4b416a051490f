/-
  DERIVED. GIVEN WITH THE SEED: THE CARDS: each row of YtaoplfpigjkgpaaGreatDoorRows.lean that lists a variable, with what it lists TIED to the program's text (the seventh form; the later family's looks); each row that meets fmt, with fmt's text TOLD by the authors' own Lean function (tested against real Go, not proved from fmt's source: count such statements apart). THE CARD IS WHAT COUNTS. Prove the row's statement (the work); the ties are given (YtaoplfpigjkgpaaGreatDoorTie.lean); close each card by the builder's one call (the guide's Derived/Test/ToyasCard.lean, 'card_holds'). Laid BY PROGRAM, IN A SANDBOX (cutbox-door.mjs). By AI agents, Wed Nov 11 2026. No macro, syntax, notation, axiom, sorry.
-/
import Derived.Test.YtaoplfpigjkgpaaGreatDoorRows
import GoSem.ClaimSeven
namespace Go.Proofs.YtaoplfpigjkgpaaGreatDoor
namespace Rows

/-- THE TIED CARD OF 'mandrellaw10.MoveKeeps'. -/
def moveKeepsCard : Claim7 := { stood := { row := moveKeepsRow, standIns := [], harness := (true, "7774fbacb10a7fe20b57fe75527cda6f5da9b7a1493c586df0f678b91be5cc51"), looks := true }, kinds := [], alts := [], laidByText := true, laidKinds := [.data], laidTests := true, laidLooks := .later }
def MoveKeepsCardSaid : Prop := Claim7.holds Tryz.pinned (.plain (OpenSpec.ofChange moveKeepsSpec)) moveKeepsCard

/-- THE TIED CARD OF 'mandrellaw10.MoveBack'. -/
def moveBackCard : Claim7 := { stood := { row := moveBackRow, standIns := [], harness := (true, "7774fbacb10a7fe20b57fe75527cda6f5da9b7a1493c586df0f678b91be5cc51"), looks := true }, kinds := [], alts := [], laidByText := true, laidKinds := [.data], laidTests := true, laidLooks := .later }
def MoveBackCardSaid : Prop := Claim7.holds Tryz.pinned (.plain (OpenSpec.ofChange moveBackSpec)) moveBackCard

/-- THE TIED CARD OF 'mandrellaw10.MoveJoined'. -/
def moveJoinedCard : Claim7 := { stood := { row := moveJoinedRow, standIns := [], harness := (true, "7774fbacb10a7fe20b57fe75527cda6f5da9b7a1493c586df0f678b91be5cc51"), looks := true }, kinds := [], alts := [], laidByText := true, laidKinds := [.data], laidTests := true, laidLooks := .later }
def MoveJoinedCardSaid : Prop := Claim7.holds Tryz.pinned (.plain (OpenSpec.ofChange moveJoinedSpec)) moveJoinedCard

/-- THE TIED CARD OF 'mandrellaw10.MoveCut'. -/
def moveCutCard : Claim7 := { stood := { row := moveCutRow, standIns := [], harness := (true, "7774fbacb10a7fe20b57fe75527cda6f5da9b7a1493c586df0f678b91be5cc51"), looks := true }, kinds := [], alts := [], laidByText := true, laidKinds := [.data], laidTests := true, laidLooks := .later }
def MoveCutCardSaid : Prop := Claim7.holds Tryz.pinned (.plain (OpenSpec.ofChange moveCutSpec)) moveCutCard

/-- THE TIED CARD OF 'mandrellaw10.MoveAll'. -/
def moveAllCard : Claim7 := { stood := { row := moveAllRow, standIns := [], harness := (true, "7774fbacb10a7fe20b57fe75527cda6f5da9b7a1493c586df0f678b91be5cc51"), looks := true }, kinds := [], alts := [], laidByText := true, laidKinds := [.data], laidTests := true, laidLooks := .later }
def MoveAllCardSaid : Prop := Claim7.holds Tryz.pinned (.plain (OpenSpec.ofChange moveAllSpec)) moveAllCard

/-- THE TIED CARD OF 'mandrellaw12.LinearBatch'. -/
def linearBatchCard : Claim7 := { stood := { row := linearBatchRow, standIns := [], harness := (true, "7774fbacb10a7fe20b57fe75527cda6f5da9b7a1493c586df0f678b91be5cc51"), looks := true }, kinds := [], alts := [], laidByText := true, laidKinds := [.data], laidTests := true, laidLooks := .later }
def LinearBatchCardSaid : Prop := Claim7.holds Tryz.pinned (.plain (OpenSpec.ofChange linearBatchSpec)) linearBatchCard

/-- THE SECOND FORM's CARD OF 'mandrellaw10.MoveKeeps'. -/
def moveKeepsUptoCard : Claim7 := { stood := { row := moveKeepsUptoRow, standIns := [], harness := (true, "7774fbacb10a7fe20b57fe75527cda6f5da9b7a1493c586df0f678b91be5cc51"), looks := true }, kinds := [], alts := [], laidByText := true, laidKinds := [.data], laidTests := true, laidLooks := .later }
def MoveKeepsUptoCardSaid : Prop := Claim7.holds Tryz.pinned (.plain (OpenSpec.upto moveKeepsSpec)) moveKeepsUptoCard

/-- THE SECOND FORM's CARD OF 'mandrellaw10.MoveBack'. -/
def moveBackUptoCard : Claim7 := { stood := { row := moveBackUptoRow, standIns := [], harness := (true, "7774fbacb10a7fe20b57fe75527cda6f5da9b7a1493c586df0f678b91be5cc51"), looks := true }, kinds := [], alts := [], laidByText := true, laidKinds := [.data], laidTests := true, laidLooks := .later }
def MoveBackUptoCardSaid : Prop := Claim7.holds Tryz.pinned (.plain (OpenSpec.upto moveBackSpec)) moveBackUptoCard

/-- THE SECOND FORM's CARD OF 'mandrellaw10.MoveJoined'. -/
def moveJoinedUptoCard : Claim7 := { stood := { row := moveJoinedUptoRow, standIns := [], harness := (true, "7774fbacb10a7fe20b57fe75527cda6f5da9b7a1493c586df0f678b91be5cc51"), looks := true }, kinds := [], alts := [], laidByText := true, laidKinds := [.data], laidTests := true, laidLooks := .later }
def MoveJoinedUptoCardSaid : Prop := Claim7.holds Tryz.pinned (.plain (OpenSpec.upto moveJoinedSpec)) moveJoinedUptoCard

/-- THE SECOND FORM's CARD OF 'mandrellaw10.MoveCut'. -/
def moveCutUptoCard : Claim7 := { stood := { row := moveCutUptoRow, standIns := [], harness := (true, "7774fbacb10a7fe20b57fe75527cda6f5da9b7a1493c586df0f678b91be5cc51"), looks := true }, kinds := [], alts := [], laidByText := true, laidKinds := [.data], laidTests := true, laidLooks := .later }
def MoveCutUptoCardSaid : Prop := Claim7.holds Tryz.pinned (.plain (OpenSpec.upto moveCutSpec)) moveCutUptoCard

/-- THE SECOND FORM's CARD OF 'mandrellaw10.MoveAll'. -/
def moveAllUptoCard : Claim7 := { stood := { row := moveAllUptoRow, standIns := [], harness := (true, "7774fbacb10a7fe20b57fe75527cda6f5da9b7a1493c586df0f678b91be5cc51"), looks := true }, kinds := [], alts := [], laidByText := true, laidKinds := [.data], laidTests := true, laidLooks := .later }
def MoveAllUptoCardSaid : Prop := Claim7.holds Tryz.pinned (.plain (OpenSpec.upto moveAllSpec)) moveAllUptoCard

/-- THE SECOND FORM's CARD OF 'mandrellaw12.LinearBatch'. -/
def linearBatchUptoCard : Claim7 := { stood := { row := linearBatchUptoRow, standIns := [], harness := (true, "7774fbacb10a7fe20b57fe75527cda6f5da9b7a1493c586df0f678b91be5cc51"), looks := true }, kinds := [], alts := [], laidByText := true, laidKinds := [.data], laidTests := true, laidLooks := .later }
def LinearBatchUptoCardSaid : Prop := Claim7.holds Tryz.pinned (.plain (OpenSpec.upto linearBatchSpec)) linearBatchUptoCard
end Rows
end Go.Proofs.YtaoplfpigjkgpaaGreatDoor
