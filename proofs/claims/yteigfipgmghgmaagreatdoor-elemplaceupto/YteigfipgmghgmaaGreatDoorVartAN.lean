/- A part. -/
import Derived.Test.YteigfipgmghgmaaGreatDoorVartAK
import Derived.Test.YteigfipgmghgmaaGreatDoorVartAM
namespace Go.Proofs.YteigfipgmghgmaaGreatDoor
open Go.RowKit Go.ChangeShapes
theorem jk9 {α β:Type} {Q:α→β→Prop} : ∀ {xs:List α},(∀ a∈xs,∃ b,Q a b)→∃ ps:List (α×β),ps.map (·.1)=xs∧∀ p∈ps,Q p.1 p.2
 | [],_=>⟨[],rfl,fun p hp=>by cases hp⟩
 | x::l,h=>by
  obtain ⟨b,hb⟩:=h x (by simp);obtain ⟨ps,e,hps⟩:=jk9 (xs:=l) (fun a ha=>h a (by simp [ha]));refine ⟨(x,b)::ps,by simp [e],fun p hp=>?_⟩
  rcases List.mem_cons.1 hp with rfl | hp
  ·exact hb
  ·exact hps p hp
section
variable {H : Type} {enc : TypeId × Value → H} {W : World}
end
end Go.Proofs.YteigfipgmghgmaaGreatDoor
