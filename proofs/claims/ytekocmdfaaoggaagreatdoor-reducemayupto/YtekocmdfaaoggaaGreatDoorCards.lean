/-
  DERIVED. GIVEN WITH THE SEED: THE CARDS: each row of YtekocmdfaaoggaaGreatDoorRows.lean that lists a variable, with what it lists TIED to the program's text (the seventh form; the later family's looks); each row that meets fmt, with fmt's text TOLD by the authors' own Lean function (tested against real Go, not proved from fmt's source: count such statements apart). THE CARD IS WHAT COUNTS. Prove the row's statement (the work); the ties are given (YtekocmdfaaoggaaGreatDoorTie.lean); close each card by the builder's one call (the guide's Derived/Test/ToyasCard.lean, 'card_holds'). Laid BY PROGRAM, IN A SANDBOX (cutbox-door.mjs). By AI agents, Wed Nov 11 2026. No macro, syntax, notation, axiom, sorry.
-/
import Derived.Test.YtekocmdfaaoggaaGreatDoorRows
import GoSem.ClaimSeven
namespace Go.Proofs.YtekocmdfaaoggaaGreatDoor
namespace Rows

/-- THE TIED CARD OF 'mandrellaw11.ReduceMay'. -/
def reduceMayCard : Claim7 := { stood := { row := reduceMayRow, standIns := [], harness := (true, "16264c56bd06af3757fa5d59bcd2a1243bd2a430606c7fd3c2bbb63a5ddff3e9"), looks := true }, kinds := [], alts := [], laidByText := true, laidKinds := [.data], laidTests := true, laidLooks := .later }
def ReduceMayCardSaid : Prop := Claim7.holds Tryz.pinned (.plain (OpenSpec.ofChange reduceMaySpec)) reduceMayCard

/-- THE SECOND FORM's CARD OF 'mandrellaw11.ReduceMay'. -/
def reduceMayUptoCard : Claim7 := { stood := { row := reduceMayUptoRow, standIns := [], harness := (true, "16264c56bd06af3757fa5d59bcd2a1243bd2a430606c7fd3c2bbb63a5ddff3e9"), looks := true }, kinds := [], alts := [], laidByText := true, laidKinds := [.data], laidTests := true, laidLooks := .later }
def ReduceMayUptoCardSaid : Prop := Claim7.holds Tryz.pinned (.plain (OpenSpec.upto reduceMaySpec)) reduceMayUptoCard
end Rows
end Go.Proofs.YtekocmdfaaoggaaGreatDoor
