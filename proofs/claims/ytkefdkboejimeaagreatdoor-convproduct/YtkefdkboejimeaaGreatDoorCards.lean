/-
  DERIVED. GIVEN WITH THE SEED: THE CARDS: each row of YtkefdkboejimeaaGreatDoorRows.lean that lists a variable, with what it lists TIED to the program's text (the seventh form; the later family's looks); each row that meets fmt, with fmt's text TOLD by the authors' own Lean function (tested against real Go, not proved from fmt's source: count such statements apart). THE CARD IS WHAT COUNTS. Prove the row's statement (the work); the ties are given (YtkefdkboejimeaaGreatDoorTie.lean); close each card by the builder's one call (the guide's Derived/Test/ToyasCard.lean, 'card_holds'). Laid BY PROGRAM, IN A SANDBOX (cutbox-door.mjs). By AI agents, Wed Nov 11 2026. No macro, syntax, notation, axiom, sorry.
-/
import Derived.Test.YtkefdkboejimeaaGreatDoorRows
import GoSem.ClaimSeven
namespace Go.Proofs.YtkefdkboejimeaaGreatDoor
namespace Rows

/-- THE TIED CARD OF 'mandrellaw13.ConvProduct'. -/
def convProductCard : Claim7 := { stood := { row := convProductRow, standIns := [], harness := (true, "42f9663dbb765459dd05f8ee4ecde3ac1cfd4bed689258f42d79d5653a92c8e6"), looks := true }, kinds := [], alts := [], laidByText := true, laidKinds := [.data], laidTests := true, laidLooks := .later }
def ConvProductCardSaid : Prop := Claim7.holds Tryz.pinned (.plain (OpenSpec.ofChange convProductSpec)) convProductCard

/-- THE TIED CARD OF 'mandrellaw13.ConvGlobal'. -/
def convGlobalCard : Claim7 := { stood := { row := convGlobalRow, standIns := [], harness := (true, "42f9663dbb765459dd05f8ee4ecde3ac1cfd4bed689258f42d79d5653a92c8e6"), looks := true }, kinds := [], alts := [], laidByText := true, laidKinds := [.data], laidTests := true, laidLooks := .later }
def ConvGlobalCardSaid : Prop := Claim7.holds Tryz.pinned (.plain (OpenSpec.ofChange convGlobalSpec)) convGlobalCard

/-- THE TIED CARD OF 'mandrellaw13.ConvOne'. -/
def convOneCard : Claim7 := { stood := { row := convOneRow, standIns := [], harness := (true, "42f9663dbb765459dd05f8ee4ecde3ac1cfd4bed689258f42d79d5653a92c8e6"), looks := true }, kinds := [], alts := [], laidByText := true, laidKinds := [.data], laidTests := true, laidLooks := .later }
def ConvOneCardSaid : Prop := Claim7.holds Tryz.pinned (.plain (OpenSpec.ofChange convOneSpec)) convOneCard

/-- THE TIED CARD OF 'mandrellaw13.ConvMost'. -/
def convMostCard : Claim7 := { stood := { row := convMostRow, standIns := [], harness := (true, "42f9663dbb765459dd05f8ee4ecde3ac1cfd4bed689258f42d79d5653a92c8e6"), looks := true }, kinds := [], alts := [], laidByText := true, laidKinds := [.data], laidTests := true, laidLooks := .later }
def ConvMostCardSaid : Prop := Claim7.holds Tryz.pinned (.plain (OpenSpec.ofChange convMostSpec)) convMostCard

/-- THE SECOND FORM's CARD OF 'mandrellaw13.ConvProduct'. -/
def convProductUptoCard : Claim7 := { stood := { row := convProductUptoRow, standIns := [], harness := (true, "42f9663dbb765459dd05f8ee4ecde3ac1cfd4bed689258f42d79d5653a92c8e6"), looks := true }, kinds := [], alts := [], laidByText := true, laidKinds := [.data], laidTests := true, laidLooks := .later }
def ConvProductUptoCardSaid : Prop := Claim7.holds Tryz.pinned (.plain (OpenSpec.upto convProductSpec)) convProductUptoCard

/-- THE SECOND FORM's CARD OF 'mandrellaw13.ConvGlobal'. -/
def convGlobalUptoCard : Claim7 := { stood := { row := convGlobalUptoRow, standIns := [], harness := (true, "42f9663dbb765459dd05f8ee4ecde3ac1cfd4bed689258f42d79d5653a92c8e6"), looks := true }, kinds := [], alts := [], laidByText := true, laidKinds := [.data], laidTests := true, laidLooks := .later }
def ConvGlobalUptoCardSaid : Prop := Claim7.holds Tryz.pinned (.plain (OpenSpec.upto convGlobalSpec)) convGlobalUptoCard

/-- THE SECOND FORM's CARD OF 'mandrellaw13.ConvOne'. -/
def convOneUptoCard : Claim7 := { stood := { row := convOneUptoRow, standIns := [], harness := (true, "42f9663dbb765459dd05f8ee4ecde3ac1cfd4bed689258f42d79d5653a92c8e6"), looks := true }, kinds := [], alts := [], laidByText := true, laidKinds := [.data], laidTests := true, laidLooks := .later }
def ConvOneUptoCardSaid : Prop := Claim7.holds Tryz.pinned (.plain (OpenSpec.upto convOneSpec)) convOneUptoCard

/-- THE SECOND FORM's CARD OF 'mandrellaw13.ConvMost'. -/
def convMostUptoCard : Claim7 := { stood := { row := convMostUptoRow, standIns := [], harness := (true, "42f9663dbb765459dd05f8ee4ecde3ac1cfd4bed689258f42d79d5653a92c8e6"), looks := true }, kinds := [], alts := [], laidByText := true, laidKinds := [.data], laidTests := true, laidLooks := .later }
def ConvMostUptoCardSaid : Prop := Claim7.holds Tryz.pinned (.plain (OpenSpec.upto convMostSpec)) convMostUptoCard
end Rows
end Go.Proofs.YtkefdkboejimeaaGreatDoor
