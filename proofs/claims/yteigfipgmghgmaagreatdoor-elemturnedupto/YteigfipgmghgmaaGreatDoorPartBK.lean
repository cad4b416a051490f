/- A part. -/
import Derived.Test.YteigfipgmghgmaaGreatDoorPartBH
import Derived.Test.YteigfipgmghgmaaGreatDoorPartBJ
namespace Go.Proofs.YteigfipgmghgmaaGreatDoor.Vw
open Go.RowKit
theorem may_whole {ds : List Int} (h : Fine ds) : MayV 0 ds (jdn ds) :=
 ⟨h, jdw ds, by omega, by omega, fun s hs => by have := jkG h s hs; omega⟩
end Go.Proofs.YteigfipgmghgmaaGreatDoor.Vw
