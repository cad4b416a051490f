/- A part. -/
import Derived.Test.YteigfipgmghgmaaGreatDoorVartAV
import Derived.Test.YteigfipgmghgmaaGreatDoorVartAR
import Derived.Test.YteigfipgmghgmaaGreatDoorVartAS
import Derived.Deep.QuietTactic
import Derived.BigQuiet
set_option maxHeartbeats 16000000
set_option maxRecDepth 100000
namespace Go.Proofs.YteigfipgmghgmaaGreatDoor
open Go.RowKit
theorem jkG (n:Nod) (hop:n.op∈([⟨#[65,100,100]⟩,⟨#[83,117,98]⟩,⟨#[77,117,108]⟩,⟨#[68,105,118]⟩,⟨#[77,97,120]⟩,⟨#[77,105,110]⟩,⟨#[65,110,100]⟩,⟨#[79,114]⟩,⟨#[88,111,114]⟩,⟨#[69,113,117,97,108]⟩,⟨#[76,101,115,115]⟩,⟨#[71,114,101,97,116,101,114]⟩]:List ByteArray)) (u:Sl) (a0 a1 a2:Value) (w:World) :
    Calls Tryz.prog 21 #[jaz n,.slice u.a u.n u.c,.agg #[a0,a1,a2]] w fun e w'=>e=.returned (.func (.func 30) #[] #[.pointer (some ⟨w.heap.size,0,none⟩),.pointer (some ⟨w.heap.size+1,0,none⟩)])∧w.grownBy w' none∧w'.heap[w.heap.size]?=some (.cells #[.string n.op,.string n.name,.slice n.iv.a n.iv.n n.iv.c,.string n.out,.slice n.av.a n.av.n n.av.c] 25 (0,0))∧w'.heap[w.heap.size+1]?=some (.cells #[.slice u.a u.n u.c] 26 (0,0)):=by
     have hmf:∀ (fn:Fn) (first cap:Array Value) (w:World),(Instr.makeFunc fn first cap).run Tryz.prog w=.ok (.func fn first cap) w:=fun _ _ _ _=>rfl;obtain ⟨op,nam,⟨ia,il,ic⟩,out,⟨ao,al,cap⟩⟩:=n;obtain ⟨ua,un,uc⟩:=u;unfold jaz;simp only at hop ⊢;have B3:=jac (jbT w (.cells #[.string op,.string nam,.slice ia il ic,.string out,.slice ao al cap] 25) (.cells #[.slice ua un uc] 26) (.cells #[a0,a1,a2] 53));have G3:=jac (jaa (jaa (jab w (.cells #[.string op,.string nam,.slice ia il ic,.string out,.slice ao al cap] 25)) (jab _ (.cells #[.slice ua un uc] 26))) (jab _ (.cells #[a0,a1,a2] 53)));simp only [List.mem_cons,List.not_mem_nil,or_false] at hop
     rcases hop with rfl | rfl | rfl | rfl | rfl | rfl | rfl | rfl | rfl | rfl | rfl | rfl
     all_goals
      go_enter Tryz.func21,Tryz.ntmps21;go_wp2;go_ret;exact ⟨rfl,G3.out,B3.out.1,B3.out.2.1⟩
end Go.Proofs.YteigfipgmghgmaaGreatDoor
