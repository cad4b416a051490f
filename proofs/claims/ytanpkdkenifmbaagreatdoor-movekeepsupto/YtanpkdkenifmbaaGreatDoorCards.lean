/-
  DERIVED. GIVEN WITH THE SEED: THE CARDS: each row of YtanpkdkenifmbaaGreatDoorRows.lean that lists a variable, with what it lists TIED to the program's text (the seventh form; the later family's looks); each row that meets fmt, with fmt's text TOLD by the authors' own Lean function (tested against real Go, not proved from fmt's source: count such statements apart). THE CARD IS WHAT COUNTS. Prove the row's statement (the work); the ties are given (YtanpkdkenifmbaaGreatDoorTie.lean); close each card by the builder's one call (the guide's Derived/Test/ToyasCard.lean, 'card_holds'). Laid BY PROGRAM, IN A SANDBOX (cutbox-door.mjs). By AI agents, Wed Nov 11 2026. No macro, syntax, notation, axiom, sorry.
-/
import Derived.Test.YtanpkdkenifmbaaGreatDoorRows
import GoSem.ClaimSeven
namespace Go.Proofs.YtanpkdkenifmbaaGreatDoor
namespace Rows

/-- THE TIED CARD OF 'mandrellaw10.MoveKeeps'. -/
def moveKeepsCard : Claim7 := { stood := { row := moveKeepsRow, standIns := [], harness := (true, "913001f7a36aa4e7f7fd10eb17c23d681cb7d78cadbd07ff89c46aefd843a78e"), looks := true }, kinds := [], alts := [], laidByText := true, laidKinds := [.data], laidTests := true, laidLooks := .later }
def MoveKeepsCardSaid : Prop := Claim7.holds Tryz.pinned (.plain (OpenSpec.ofChange moveKeepsSpec)) moveKeepsCard

/-- THE SECOND FORM's CARD OF 'mandrellaw10.MoveKeeps'. -/
def moveKeepsUptoCard : Claim7 := { stood := { row := moveKeepsUptoRow, standIns := [], harness := (true, "913001f7a36aa4e7f7fd10eb17c23d681cb7d78cadbd07ff89c46aefd843a78e"), looks := true }, kinds := [], alts := [], laidByText := true, laidKinds := [.data], laidTests := true, laidLooks := .later }
def MoveKeepsUptoCardSaid : Prop := Claim7.holds Tryz.pinned (.plain (OpenSpec.upto moveKeepsSpec)) moveKeepsUptoCard
end Rows
end Go.Proofs.YtanpkdkenifmbaaGreatDoor
