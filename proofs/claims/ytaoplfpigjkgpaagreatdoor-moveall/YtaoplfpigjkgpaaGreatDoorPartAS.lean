/- Joined texts: NCheck. -/
import Derived.Test.YtaoplfpigjkgpaaGreatDoorPartAR
namespace Go.Proofs.YtaoplfpigjkgpaaGreatDoor

open Go.RowKit

def checkE (r : Option (Int × Int × List Ra)) (ins : List ByteArray) (out : ByteArray) (xs : List Atr) : Int := match r with
  | none => 5
  | some (lo, hi, rs) => if (ins.length : Int) < lo then 4 else if hi < (ins.length : Int) then 4 else if (out.toList == []) || ins.any (isS ⟨#[]⟩) then 5 else if attrsE rs xs = 0 then thenE (xs.find? (isA ⟨#[116, 104, 101, 110]⟩ 3)) else attrsE rs xs

end Go.Proofs.YtaoplfpigjkgpaaGreatDoor
