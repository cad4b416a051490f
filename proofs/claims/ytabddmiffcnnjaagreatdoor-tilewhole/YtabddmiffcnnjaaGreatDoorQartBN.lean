/- Joined texts: VwWhole. -/
import Derived.Test.YtabddmiffcnnjaaGreatDoorQartBJ
import Derived.Test.YtabddmiffcnnjaaGreatDoorQartBM
namespace Go.Proofs.YtabddmiffcnnjaaGreatDoor.Vw

open Go.RowKit

theorem may_whole {ds : List Int} (h : Fine ds) : MayV 0 ds (strd ds) :=
  ⟨h, strd_length ds, by omega, by omega, fun s hs => by have := strd_le h s hs; omega⟩

end Go.Proofs.YtabddmiffcnnjaaGreatDoor.Vw
