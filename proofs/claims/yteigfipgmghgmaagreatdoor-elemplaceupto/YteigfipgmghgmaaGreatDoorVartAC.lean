/- A part. -/
import Derived.Test.YteigfipgmghgmaaGreatDoorVartAB
import Derived.ProofKit
import Derived.OpenShut
import Derived.SizedLaws
import Derived.ShutString
namespace Go.Proofs.YteigfipgmghgmaaGreatDoor
open Go.ChangeShapes Go.WideShapes Go.ChangeAt Go.RowKit
theorem own:ownKnob Tryz.prog.godebug=none:=by kernel_rfl
theorem jjF:laidOutB Tryz.prog=true:=by kernel_rfl
theorem jhq:Tryz.prog.cellsOf 3=1:=by kernel_rfl
theorem bytesInt:Tryz.prog.bytesOf 3=8:=by kernel_rfl
theorem jdz {z:Int} (h:(Lit.int .i64 z).wf=true) : -9223372036854775808≤z∧z≤9223372036854775807:=by
 have e:IntKind.i64.min = -9223372036854775808:=by decide
 simp [Lit.wf,e] at h;exact h
end Go.Proofs.YteigfipgmghgmaaGreatDoor
