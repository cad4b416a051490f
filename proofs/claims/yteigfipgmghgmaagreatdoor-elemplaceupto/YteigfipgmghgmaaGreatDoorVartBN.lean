/- A part. -/
import Derived.Test.YteigfipgmghgmaaGreatDoorVartAI
import Derived.Test.YteigfipgmghgmaaGreatDoorVartAB
import Derived.Test.YteigfipgmghgmaaGreatDoorVartAF
namespace Go.Proofs.YteigfipgmghgmaaGreatDoor
open Go.RowKit
def fb (x:Int):Nat:=(x % 4294967296).toNat
theorem jcO (x:Int):fb x<4294967296:=by unfold fb;omega
theorem jby (d:Ieee.Datum):d.order d=if d.isNaN then none else some .eq:=by
 cases d <;> simp [Ieee.Datum.order,Ieee.Datum.isNaN]
theorem jcZ (b:Nat):FloatKind.f32.format.order b b=if (FloatKind.f32.format.read b).isNaN then none else some .eq:=jby _
theorem jbs (b:Nat) (_h:b<4294967296):(FloatKind.f32.format.read b).isNaN=decide (2139095040<b % 2147483648):=by
 have e1:FloatKind.f32.format.signWeight=2147483648:=rfl;have e2:FloatKind.f32.format.binade=8388608:=rfl;have e3:FloatKind.f32.format.infRung=2139095040:=rfl;have e4:FloatKind.f32.format.leastPlace = -149:=rfl;unfold Ieee.Format.read;simp only [e1,e2,e3,e4]
 split
 ·simp [Ieee.Datum.isNaN];omega
 ·split
  ·simp [Ieee.Datum.isNaN];omega
  ·split
   ·simp [Ieee.Datum.isNaN];omega
   ·simp [Ieee.Datum.isNaN];omega
theorem jbq (n:Int) (w:World):(callFunc 42 #[.int .u32 n]).run Tryz.prog w=.ok (.value (.float .f32 n.toNat)) w:=by kernel_rfl
attribute [local go_sem] jbq
end Go.Proofs.YteigfipgmghgmaaGreatDoor
