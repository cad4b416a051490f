/- Joined texts: VwRead. -/
import Derived.Test.YtahmmilhmoogbaaGreatDoorPartBL
import Derived.RangeFuncBox
import Derived.Maps.AppendAt
namespace Go.Proofs.YtahmmilhmoogbaaGreatDoor.Vw

open Go.RowKit Go.Shelf

attribute [local go_sem] Oper.semAt_some

def shows (off : Int) (ds ss data : List Int) : List Int := (plc ds ss off).map (fun x => data.getD x.toNat 0)
def rdOk (off : Int) (ds ss data : List Int) : Bool := mayB off ds ss && decide (off + lst ds ss < data.length)
def rdE (off : Int) (ds ss data : List Int) : Int := if rdOk off ds ss data = true then 0 else 1
def rdL (off : Int) (ds ss data : List Int) : List Int := if rdOk off ds ss data = true then shows off ds ss data else []

end Go.Proofs.YtahmmilhmoogbaaGreatDoor.Vw
