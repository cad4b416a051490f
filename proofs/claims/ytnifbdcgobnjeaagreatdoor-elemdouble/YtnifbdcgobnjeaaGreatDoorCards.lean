/-
  DERIVED. GIVEN WITH THE SEED: THE CARDS: each row of YtnifbdcgobnjeaaGreatDoorRows.lean that lists a variable, with what it lists TIED to the program's text (the seventh form; the later family's looks); each row that meets fmt, with fmt's text TOLD by the authors' own Lean function (tested against real Go, not proved from fmt's source: count such statements apart). THE CARD IS WHAT COUNTS. Prove the row's statement (the work); the ties are given (YtnifbdcgobnjeaaGreatDoorTie.lean); close each card by the builder's one call (the guide's Derived/Test/ToyasCard.lean, 'card_holds'). Laid BY PROGRAM, IN A SANDBOX (cutbox-door.mjs). By AI agents, Wed Nov 11 2026. No macro, syntax, notation, axiom, sorry.
-/
import Derived.Test.YtnifbdcgobnjeaaGreatDoorRows
import GoSem.ClaimSeven
namespace Go.Proofs.YtnifbdcgobnjeaaGreatDoor
namespace Rows

/-- THE TIED CARD OF 'mandrellaw09.ElemDouble'. -/
def elemDoubleCard : Claim7 := { stood := { row := elemDoubleRow, standIns := [], harness := (true, "55dbd912b270333f08d7b51afb18e63b71189784902f58f4a1eba53aa540c634"), looks := true }, kinds := [], alts := [], laidByText := true, laidKinds := [.data], laidTests := true, laidLooks := .later }
def ElemDoubleCardSaid : Prop := Claim7.holds Tryz.pinned (.plain (OpenSpec.ofChange elemDoubleSpec)) elemDoubleCard

/-- THE TIED CARD OF 'mandrellaw09.ElemNot'. -/
def elemNotCard : Claim7 := { stood := { row := elemNotRow, standIns := [], harness := (true, "55dbd912b270333f08d7b51afb18e63b71189784902f58f4a1eba53aa540c634"), looks := true }, kinds := [], alts := [], laidByText := true, laidKinds := [.data], laidTests := true, laidLooks := .later }
def ElemNotCardSaid : Prop := Claim7.holds Tryz.pinned (.plain (OpenSpec.ofChange elemNotSpec)) elemNotCard

/-- THE SECOND FORM's CARD OF 'mandrellaw09.ElemDouble'. -/
def elemDoubleUptoCard : Claim7 := { stood := { row := elemDoubleUptoRow, standIns := [], harness := (true, "55dbd912b270333f08d7b51afb18e63b71189784902f58f4a1eba53aa540c634"), looks := true }, kinds := [], alts := [], laidByText := true, laidKinds := [.data], laidTests := true, laidLooks := .later }
def ElemDoubleUptoCardSaid : Prop := Claim7.holds Tryz.pinned (.plain (OpenSpec.upto elemDoubleSpec)) elemDoubleUptoCard

/-- THE SECOND FORM's CARD OF 'mandrellaw09.ElemNot'. -/
def elemNotUptoCard : Claim7 := { stood := { row := elemNotUptoRow, standIns := [], harness := (true, "55dbd912b270333f08d7b51afb18e63b71189784902f58f4a1eba53aa540c634"), looks := true }, kinds := [], alts := [], laidByText := true, laidKinds := [.data], laidTests := true, laidLooks := .later }
def ElemNotUptoCardSaid : Prop := Claim7.holds Tryz.pinned (.plain (OpenSpec.upto elemNotSpec)) elemNotUptoCard
end Rows
end Go.Proofs.YtnifbdcgobnjeaaGreatDoor
