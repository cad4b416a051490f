/- A part. -/
import Derived.Test.YteigfipgmghgmaaGreatDoorVartAC
import Derived.Test.YteigfipgmghgmaaGreatDoorVartAF
import Derived.LaidMore
import Derived.Stop.Joined
set_option maxRecDepth 100000
namespace Go.Proofs.YteigfipgmghgmaaGreatDoor
open Go.ChangeShapes Go.WideShapes Go.ChangeAt Go.WideMaps Go.WideElems Go.RowKit
theorem gOnes : Tryz.prog.globalNamed "mandrel/schema.ofOne" = some 1 := by kernel_rfl
theorem tOnes:(Tryz.prog.globals[1]?).map (·.type)=some 180:=by kernel_rfl
theorem cStr:Tryz.prog.cellsOf 9=1:=by kernel_rfl
abbrev juo : List (String × DataW Unit) := [("mandrel/schema.ofOne", Rows.laid_mandrel_schema_ofOne)]
theorem jsE {W:World} (h:laidMetH Tryz.prog juo W):Laid W:=by
 rw [MakeChecks.laidMetH_plain _ _ _ (by kernel_rfl)] at h;obtain ⟨ps,⟨g0,t0,cs0,f0,p0,q0,hg0,ht0,hv0,hd0,_,_⟩,_,_⟩:=h;obtain rfl:=Option.some.inj (gOnes.symm.trans hg0);obtain rfl:=Option.some.inj (tOnes.symm.trans ht0);obtain ⟨xs,m1,rfl,hx1,hlen,hn3,hel⟩:=DataW.trod_array Tryz.underlying180 hd0;have hc:=fun j=>World.var?_cell hg0 hv0 j;simp only [Prod.mk.injEq,DataW.agg.injEq,Rows.laid_mandrel_schema_ofOne] at hx1
 have key:∀ (i:Nat) (n:List UInt8),i<10→(xs.map (fun x=>x.fst))[i]?=some (.lit (.string n))→W.cell? ⟨1,i,none⟩=some (.string ⟨n.toArray⟩):=by
  intro i n hi hn;have h:=hel i hi;rw [cStr,Nat.mul_one] at h;rw [List.getElem?_map] at hn
  cases hx:xs[i]? with
  | none=>rw [hx] at hn;cases hn
  | some x =>
   rw [hx] at h hn;obtain ⟨s,e1,e2,-⟩:=DataW.trod_string Tryz.underlying9 h;rw [e2] at hn;simp only [Option.map_some,Option.some.injEq,DataW.lit.injEq,Lit.string.injEq] at hn;rw [hc i,← Array.getElem?_toList]
   have h3:cs0.toList[i]?=some (.string s):=by
    have h4:(List.take 1 (List.drop i cs0.toList))[0]?=some (.string s):=by rw [e1];rfl
    simpa [List.getElem?_take,List.getElem?_drop] using h4
   rw [h3,← hn]
 rw [← hx1.1] at key;exact ⟨key 0 _ (by decide) rfl,key 1 _ (by decide) rfl,key 2 _ (by decide) rfl,key 3 _ (by decide) rfl,key 4 _ (by decide) rfl,key 5 _ (by decide) rfl,key 6 _ (by decide) rfl,key 7 _ (by decide) rfl,key 8 _ (by decide) rfl,key 9 _ (by decide) rfl⟩
end Go.Proofs.YteigfipgmghgmaaGreatDoor
