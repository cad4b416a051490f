/-
  DERIVED. GIVEN WITH THE SEED: THE CARDS: each row of YteigfipgmghgmaaGreatDoorRows.lean that lists a variable, with what it lists TIED to the program's text (the seventh form; the later family's looks); each row that meets fmt, with fmt's text TOLD by the authors' own Lean function (tested against real Go, not proved from fmt's source: count such statements apart). THE CARD IS WHAT COUNTS. Prove the row's statement (the work); the ties are given (YteigfipgmghgmaaGreatDoorTie.lean); close each card by the builder's one call (the guide's Derived/Test/ToyasCard.lean, 'card_holds'). Laid BY PROGRAM, IN A SANDBOX (cutbox-door.mjs). By AI agents, Wed Nov 11 2026. No macro, syntax, notation, axiom, sorry.
-/
import Derived.Test.YteigfipgmghgmaaGreatDoorRows
import GoSem.ClaimSeven
namespace Go.Proofs.YteigfipgmghgmaaGreatDoor
namespace Rows

/-- THE TIED CARD OF 'mandrellaw09.ElemMay'. -/
def elemMayCard : Claim7 := { stood := { row := elemMayRow, standIns := [], harness := (true, "304a13386c90bf784982fff8724f71bfaba027b77e7230a0973518a6f11f2a22"), looks := true }, kinds := [], alts := [], laidByText := true, laidKinds := [.data], laidTests := true, laidLooks := .later }
def ElemMayCardSaid : Prop := Claim7.holds Tryz.pinned (.plain (OpenSpec.ofChange elemMaySpec)) elemMayCard

/-- THE TIED CARD OF 'mandrellaw09.ElemPlace'. -/
def elemPlaceCard : Claim7 := { stood := { row := elemPlaceRow, standIns := [], harness := (true, "304a13386c90bf784982fff8724f71bfaba027b77e7230a0973518a6f11f2a22"), looks := true }, kinds := [], alts := [], laidByText := true, laidKinds := [.data], laidTests := true, laidLooks := .later }
def ElemPlaceCardSaid : Prop := Claim7.holds Tryz.pinned (.plain (OpenSpec.ofChange elemPlaceSpec)) elemPlaceCard

/-- THE TIED CARD OF 'mandrellaw09.ElemTurned'. -/
def elemTurnedCard : Claim7 := { stood := { row := elemTurnedRow, standIns := [], harness := (true, "304a13386c90bf784982fff8724f71bfaba027b77e7230a0973518a6f11f2a22"), looks := true }, kinds := [], alts := [], laidByText := true, laidKinds := [.data], laidTests := true, laidLooks := .later }
def ElemTurnedCardSaid : Prop := Claim7.holds Tryz.pinned (.plain (OpenSpec.ofChange elemTurnedSpec)) elemTurnedCard

/-- THE SECOND FORM's CARD OF 'mandrellaw09.ElemMay'. -/
def elemMayUptoCard : Claim7 := { stood := { row := elemMayUptoRow, standIns := [], harness := (true, "304a13386c90bf784982fff8724f71bfaba027b77e7230a0973518a6f11f2a22"), looks := true }, kinds := [], alts := [], laidByText := true, laidKinds := [.data], laidTests := true, laidLooks := .later }
def ElemMayUptoCardSaid : Prop := Claim7.holds Tryz.pinned (.plain (OpenSpec.upto elemMaySpec)) elemMayUptoCard

/-- THE SECOND FORM's CARD OF 'mandrellaw09.ElemPlace'. -/
def elemPlaceUptoCard : Claim7 := { stood := { row := elemPlaceUptoRow, standIns := [], harness := (true, "304a13386c90bf784982fff8724f71bfaba027b77e7230a0973518a6f11f2a22"), looks := true }, kinds := [], alts := [], laidByText := true, laidKinds := [.data], laidTests := true, laidLooks := .later }
def ElemPlaceUptoCardSaid : Prop := Claim7.holds Tryz.pinned (.plain (OpenSpec.upto elemPlaceSpec)) elemPlaceUptoCard

/-- THE SECOND FORM's CARD OF 'mandrellaw09.ElemTurned'. -/
def elemTurnedUptoCard : Claim7 := { stood := { row := elemTurnedUptoRow, standIns := [], harness := (true, "304a13386c90bf784982fff8724f71bfaba027b77e7230a0973518a6f11f2a22"), looks := true }, kinds := [], alts := [], laidByText := true, laidKinds := [.data], laidTests := true, laidLooks := .later }
def ElemTurnedUptoCardSaid : Prop := Claim7.holds Tryz.pinned (.plain (OpenSpec.upto elemTurnedSpec)) elemTurnedUptoCard
end Rows
end Go.Proofs.YteigfipgmghgmaaGreatDoor
