/- A part. -/
import Derived.Test.YteigfipgmghgmaaGreatDoorQartBH
import Derived.Test.YteigfipgmghgmaaGreatDoorQartBJ
namespace Go.Proofs.YteigfipgmghgmaaGreatDoor.Vw
open Go.RowKit
theorem may_whole {ds:List Int} (h:Fine ds):MayV 0 ds (jdz ds) :=
 ⟨h,jdJ ds,by omega,by omega,fun s hs=>by have:=jle h s hs;omega⟩
end Go.Proofs.YteigfipgmghgmaaGreatDoor.Vw
