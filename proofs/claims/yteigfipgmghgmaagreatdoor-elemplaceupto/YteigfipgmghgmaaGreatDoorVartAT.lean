/- A part. -/
import Derived.Test.YteigfipgmghgmaaGreatDoorVartAM
import Derived.Test.YteigfipgmghgmaaGreatDoorVartAS
set_option maxHeartbeats 1600000
set_option maxRecDepth 100000
namespace Go.Proofs.YteigfipgmghgmaaGreatDoor
open Go.RowKit
def jha:List (List UInt8):=[[73,100,101,110,116,105,116,121],[78,101,103],[65,98,115],[78,111,116],[82,101,108,117],[83,113,114,116],[70,108,111,111,114],[69,120,112],[83,105,103,109,111,105,100],[84,97,110,104]]
def jdG:List (List UInt8):=[[65,100,100],[83,117,98],[77,117,108],[68,105,118],[77,97,120],[77,105,110],[65,110,100],[79,114],[88,111,114],[69,113,117,97,108],[76,101,115,115],[71,114,101,97,116,101,114]]
def jcx (op:List UInt8) (t:Int):Bool:=op==[73,100,101,110,116,105,116,121]||(t==1&&[[78,101,103],[65,98,115],[82,101,108,117],[83,113,114,116],[70,108,111,111,114],[69,120,112],[83,105,103,109,111,105,100],[84,97,110,104]].contains op)||(t==9&&op==[78,111,116])||((t==6||t==7)&&[[78,101,103],[65,98,115]].contains op)
def jbn (op:List UInt8) (t:Int):Bool:=(t==9&&[[65,110,100],[79,114],[88,111,114],[69,113,117,97,108]].contains op)||((t==1||t==6||t==7)&&[[65,100,100],[83,117,98],[77,117,108],[68,105,118],[77,97,120],[77,105,110],[69,113,117,97,108],[76,101,115,115],[71,114,101,97,116,101,114]].contains op)
def Opd (w:World) (c:Int) (e:Ending) (w':World):Prop:=∃ z,e=.returned (.tuple #[.int .i64 z,.int .i64 c])∧w.grownBy w' none
theorem jaF {w:World} {z c d:Int} (h:c=d):∀ e w',(e=Ending.returned (.tuple #[.int .i64 z,.int .i64 c])∧w'=w)→Opd w d e w':=by
 rintro e w' ⟨rfl,rfl⟩;exact ⟨z,by rw [h],jad _⟩
theorem jay {w:World} {z c d:Int} (h:c=d):∀ e w',(e=Ending.returned (.tuple #[.int .i64 z,.int .i64 c])∧∃ n,w'=w.drewN n)→Opd w d e w':=by
 rintro e w' ⟨rfl,n,rfl⟩;exact ⟨z,by rw [h],⟨rfl,rfl,rfl,Nat.le_refl _,fun k hk hn=>rfl⟩⟩
theorem jdH {w:World} : ∀ e w',(∃ r n,r<4294967296∧e=Ending.returned (.tuple #[.int .i64 (Nu.tob r),.int .i64 0])∧w'=w.drewN n)→Opd w 0 e w':=by
 rintro e w' ⟨r,n,-,rfl,rfl⟩;exact ⟨_,rfl,⟨rfl,rfl,rfl,Nat.le_refl _,fun k hk hn=>rfl⟩⟩
theorem jaP {t:Int} (h:jao t=true):t=1∨t=6∨t=7∨t=9:=by
 simpa [jao,or_assoc] using h
theorem ji0 (t:Int) (ht:jao t=true) (w:World):Calls Tryz.prog 29 #[.string ⟨#[73,100,101,110,116,105,116,121]⟩,.int .i64 t,.int .i64 1] w (Opd w (if jcx [73,100,101,110,116,105,116,121] t=true then 0 else 1)):=by
 rcases jaP ht with rfl | rfl | rfl | rfl
 ·exact (Nu.unary0 1 1 w).mono (jaF (by rw [Nu.un_0 1 1 (by decide)];decide))
 ·exact (Nu.unary0 6 1 w).mono (jaF (by rw [Nu.un_0 6 1 (by decide)];decide))
 ·exact (Nu.unary0 7 1 w).mono (jaF (by rw [Nu.un_0 7 1 (by decide)];decide))
 ·exact (Nu.unary0 9 1 w).mono (jaF (by rw [Nu.un_0 9 1 (by decide)];decide))
theorem jto (t:Int) (ht:jao t=true) (w:World):Calls Tryz.prog 29 #[.string ⟨#[78,101,103]⟩,.int .i64 t,.int .i64 1] w (Opd w (if jcx [78,101,103] t=true then 0 else 1)):=by
 rcases jaP ht with rfl | rfl | rfl | rfl
 ·exact (Nu.unary1_1 1 w (by decide)).mono (jaF (by rw [Nu.un_1 1 1 (by decide) (by decide)];rfl))
 ·exact (Nu.unary1_6 1 w (by decide)).mono (jaF (by rw [Nu.un_6 1 1 (by decide) (by decide)];rfl))
 ·exact (Nu.unary1_7 1 w (by decide)).mono (jaF (by rw [Nu.un_7 1 1 (by decide) (by decide)];rfl))
 ·exact (Nu.unary1_9 1 w (by decide)).mono (jaF (by rw [Nu.un_9 1 1 (by decide) (by decide)];rfl))
theorem jtp (t:Int) (ht:jao t=true) (w:World):Calls Tryz.prog 29 #[.string ⟨#[65,98,115]⟩,.int .i64 t,.int .i64 1] w (Opd w (if jcx [65,98,115] t=true then 0 else 1)):=by
 rcases jaP ht with rfl | rfl | rfl | rfl
 ·exact (Nu.unary2_1 1 w (by decide)).mono (jaF (by rw [Nu.un_1 2 1 (by decide) (by decide)];rfl))
 ·exact (Nu.unary2_6 1 w (by decide)).mono (jaF (by rw [Nu.un_6 2 1 (by decide) (by decide)];rfl))
 ·exact (Nu.unary2_7 1 w (by decide)).mono (jaF (by rw [Nu.un_7 2 1 (by decide) (by decide)];rfl))
 ·exact (Nu.unary2_9 1 w (by decide)).mono (jaF (by rw [Nu.un_9 2 1 (by decide) (by decide)];rfl))
theorem jtq (t:Int) (ht:jao t=true) (w:World):Calls Tryz.prog 29 #[.string ⟨#[78,111,116]⟩,.int .i64 t,.int .i64 1] w (Opd w (if jcx [78,111,116] t=true then 0 else 1)):=by
 rcases jaP ht with rfl | rfl | rfl | rfl
 ·exact (Nu.unary3_1 1 w (by decide)).mono (jaF (by rw [Nu.un_1 3 1 (by decide) (by decide)];rfl))
 ·exact (Nu.unary3_6 1 w (by decide)).mono (jaF (by rw [Nu.un_6 3 1 (by decide) (by decide)];rfl))
 ·exact (Nu.unary3_7 1 w (by decide)).mono (jaF (by rw [Nu.un_7 3 1 (by decide) (by decide)];rfl))
 ·exact (Nu.unary3_9 1 w (by decide)).mono (jaF (by rw [Nu.un_9 3 1 (by decide) (by decide)];rfl))
theorem jq7 (t:Int) (ht:jao t=true) (w:World):Calls Tryz.prog 29 #[.string ⟨#[82,101,108,117]⟩,.int .i64 t,.int .i64 1] w (Opd w (if jcx [82,101,108,117] t=true then 0 else 1)):=by
 rcases jaP ht with rfl | rfl | rfl | rfl
 ·exact (Nu.unary4_1 1 w (by decide)).mono (jaF (by rw [Nu.un_1 4 1 (by decide) (by decide)];rfl))
 ·exact (Nu.unary4_6 1 w (by decide)).mono (jaF (by rw [Nu.un_6 4 1 (by decide) (by decide)];rfl))
 ·exact (Nu.unary4_7 1 w (by decide)).mono (jaF (by rw [Nu.un_7 4 1 (by decide) (by decide)];rfl))
 ·exact (Nu.unary4_9 1 w (by decide)).mono (jaF (by rw [Nu.un_9 4 1 (by decide) (by decide)];rfl))
theorem jq8 (t:Int) (ht:jao t=true) (w:World):Calls Tryz.prog 29 #[.string ⟨#[83,113,114,116]⟩,.int .i64 t,.int .i64 1] w (Opd w (if jcx [83,113,114,116] t=true then 0 else 1)):=by
 rcases jaP ht with rfl | rfl | rfl | rfl
 ·exact (Nu.unary5_1 1 w (by decide)).mono jdH
 ·exact (Nu.unary5_6 1 w (by decide)).mono (jaF (by rw [Nu.un_6 5 1 (by decide) (by decide)];rfl))
 ·exact (Nu.unary5_7 1 w (by decide)).mono (jaF (by rw [Nu.un_7 5 1 (by decide) (by decide)];rfl))
 ·exact (Nu.unary5_9 1 w (by decide)).mono (jaF (by rw [Nu.un_9 5 1 (by decide) (by decide)];rfl))
theorem joI (t:Int) (ht:jao t=true) (w:World):Calls Tryz.prog 29 #[.string ⟨#[70,108,111,111,114]⟩,.int .i64 t,.int .i64 1] w (Opd w (if jcx [70,108,111,111,114] t=true then 0 else 1)):=by
 rcases jaP ht with rfl | rfl | rfl | rfl
 ·exact (Nu.unary6_1 1 w (by decide)).mono jdH
 ·exact (Nu.unary6_6 1 w (by decide)).mono (jaF (by rw [Nu.un_6 6 1 (by decide) (by decide)];rfl))
 ·exact (Nu.unary6_7 1 w (by decide)).mono (jaF (by rw [Nu.un_7 6 1 (by decide) (by decide)];rfl))
 ·exact (Nu.unary6_9 1 w (by decide)).mono (jaF (by rw [Nu.un_9 6 1 (by decide) (by decide)];rfl))
theorem jtr (t:Int) (ht:jao t=true) (w:World):Calls Tryz.prog 29 #[.string ⟨#[69,120,112]⟩,.int .i64 t,.int .i64 1] w (Opd w (if jcx [69,120,112] t=true then 0 else 1)):=by
 rcases jaP ht with rfl | rfl | rfl | rfl
 ·exact (Nu.unary7_1 1 w (by decide)).mono jdH
 ·exact (Nu.unary7_6 1 w (by decide)).mono (jaF (by rw [Nu.un_6 7 1 (by decide) (by decide)];rfl))
 ·exact (Nu.unary7_7 1 w (by decide)).mono (jaF (by rw [Nu.un_7 7 1 (by decide) (by decide)];rfl))
 ·exact (Nu.unary7_9 1 w (by decide)).mono (jaF (by rw [Nu.un_9 7 1 (by decide) (by decide)];rfl))
theorem jkc (t:Int) (ht:jao t=true) (w:World):Calls Tryz.prog 29 #[.string ⟨#[83,105,103,109,111,105,100]⟩,.int .i64 t,.int .i64 1] w (Opd w (if jcx [83,105,103,109,111,105,100] t=true then 0 else 1)):=by
 rcases jaP ht with rfl | rfl | rfl | rfl
 ·exact (Nu.unary8_1 1 w (by decide)).mono jdH
 ·exact (Nu.unary8_6 1 w (by decide)).mono (jaF (by rw [Nu.un_6 8 1 (by decide) (by decide)];rfl))
 ·exact (Nu.unary8_7 1 w (by decide)).mono (jaF (by rw [Nu.un_7 8 1 (by decide) (by decide)];rfl))
 ·exact (Nu.unary8_9 1 w (by decide)).mono (jaF (by rw [Nu.un_9 8 1 (by decide) (by decide)];rfl))
theorem jq9 (t:Int) (ht:jao t=true) (w:World):Calls Tryz.prog 29 #[.string ⟨#[84,97,110,104]⟩,.int .i64 t,.int .i64 1] w (Opd w (if jcx [84,97,110,104] t=true then 0 else 1)):=by
 rcases jaP ht with rfl | rfl | rfl | rfl
 ·exact (Nu.unary9_1 1 w (by decide)).mono jdH
 ·exact (Nu.unary9_6 1 w (by decide)).mono (jaF (by rw [Nu.un_6 9 1 (by decide) (by decide)];rfl))
 ·exact (Nu.unary9_7 1 w (by decide)).mono (jaF (by rw [Nu.un_7 9 1 (by decide) (by decide)];rfl))
 ·exact (Nu.unary9_9 1 w (by decide)).mono (jaF (by rw [Nu.un_9 9 1 (by decide) (by decide)];rfl))
theorem jts (t:Int) (ht:jao t=true) (w:World):Calls Tryz.prog 31 #[.string ⟨#[65,100,100]⟩,.int .i64 t,.int .i64 1,.int .i64 1] w (Opd w (if jbn [65,100,100] t=true then 0 else 1)):=by
 rcases jaP ht with rfl | rfl | rfl | rfl
 ·exact (Nu.binary0 1 1 1 w).mono (jay (by rfl))
 ·exact (Nu.binary0 6 1 1 w).mono (jay (by rfl))
 ·exact (Nu.binary0 7 1 1 w).mono (jay (by rfl))
 ·exact (Nu.binary0 9 1 1 w).mono (jay (by rfl))
theorem jtt (t:Int) (ht:jao t=true) (w:World):Calls Tryz.prog 31 #[.string ⟨#[83,117,98]⟩,.int .i64 t,.int .i64 1,.int .i64 1] w (Opd w (if jbn [83,117,98] t=true then 0 else 1)):=by
 rcases jaP ht with rfl | rfl | rfl | rfl
 ·exact (Nu.binary1 1 1 1 w).mono (jay (by rfl))
 ·exact (Nu.binary1 6 1 1 w).mono (jay (by rfl))
 ·exact (Nu.binary1 7 1 1 w).mono (jay (by rfl))
 ·exact (Nu.binary1 9 1 1 w).mono (jay (by rfl))
theorem jtu (t:Int) (ht:jao t=true) (w:World):Calls Tryz.prog 31 #[.string ⟨#[77,117,108]⟩,.int .i64 t,.int .i64 1,.int .i64 1] w (Opd w (if jbn [77,117,108] t=true then 0 else 1)):=by
 rcases jaP ht with rfl | rfl | rfl | rfl
 ·exact (Nu.binary2 1 1 1 w).mono (jay (by rfl))
 ·exact (Nu.binary2 6 1 1 w).mono (jay (by rfl))
 ·exact (Nu.binary2 7 1 1 w).mono (jay (by rfl))
 ·exact (Nu.binary2 9 1 1 w).mono (jay (by rfl))
theorem jtv (t:Int) (ht:jao t=true) (w:World):Calls Tryz.prog 31 #[.string ⟨#[68,105,118]⟩,.int .i64 t,.int .i64 1,.int .i64 1] w (Opd w (if jbn [68,105,118] t=true then 0 else 1)):=by
 rcases jaP ht with rfl | rfl | rfl | rfl
 ·exact (Nu.binary3 1 1 1 w).mono (jay (by rfl))
 ·exact (Nu.binary3 6 1 1 w).mono (jay (by rfl))
 ·exact (Nu.binary3 7 1 1 w).mono (jay (by rfl))
 ·exact (Nu.binary3 9 1 1 w).mono (jay (by rfl))
theorem jtw (t:Int) (ht:jao t=true) (w:World):Calls Tryz.prog 31 #[.string ⟨#[77,97,120]⟩,.int .i64 t,.int .i64 1,.int .i64 1] w (Opd w (if jbn [77,97,120] t=true then 0 else 1)):=by
 rcases jaP ht with rfl | rfl | rfl | rfl
 ·exact (Nu.binary4 1 1 1 w).mono (jay (by rfl))
 ·exact (Nu.binary4 6 1 1 w).mono (jay (by rfl))
 ·exact (Nu.binary4 7 1 1 w).mono (jay (by rfl))
 ·exact (Nu.binary4 9 1 1 w).mono (jay (by rfl))
theorem jtx (t:Int) (ht:jao t=true) (w:World):Calls Tryz.prog 31 #[.string ⟨#[77,105,110]⟩,.int .i64 t,.int .i64 1,.int .i64 1] w (Opd w (if jbn [77,105,110] t=true then 0 else 1)):=by
 rcases jaP ht with rfl | rfl | rfl | rfl
 ·exact (Nu.binary5 1 1 1 w).mono (jay (by rfl))
 ·exact (Nu.binary5 6 1 1 w).mono (jay (by rfl))
 ·exact (Nu.binary5 7 1 1 w).mono (jay (by rfl))
 ·exact (Nu.binary5 9 1 1 w).mono (jay (by rfl))
theorem jty (t:Int) (ht:jao t=true) (w:World):Calls Tryz.prog 31 #[.string ⟨#[65,110,100]⟩,.int .i64 t,.int .i64 1,.int .i64 1] w (Opd w (if jbn [65,110,100] t=true then 0 else 1)):=by
 rcases jaP ht with rfl | rfl | rfl | rfl
 ·exact (Nu.binary6 1 1 1 w).mono (jay (by rfl))
 ·exact (Nu.binary6 6 1 1 w).mono (jay (by rfl))
 ·exact (Nu.binary6 7 1 1 w).mono (jay (by rfl))
 ·exact (Nu.binary6 9 1 1 w).mono (jay (by rfl))
theorem juJ (t:Int) (ht:jao t=true) (w:World):Calls Tryz.prog 31 #[.string ⟨#[79,114]⟩,.int .i64 t,.int .i64 1,.int .i64 1] w (Opd w (if jbn [79,114] t=true then 0 else 1)):=by
 rcases jaP ht with rfl | rfl | rfl | rfl
 ·exact (Nu.binary7 1 1 1 w).mono (jay (by rfl))
 ·exact (Nu.binary7 6 1 1 w).mono (jay (by rfl))
 ·exact (Nu.binary7 7 1 1 w).mono (jay (by rfl))
 ·exact (Nu.binary7 9 1 1 w).mono (jay (by rfl))
theorem jtz (t:Int) (ht:jao t=true) (w:World):Calls Tryz.prog 31 #[.string ⟨#[88,111,114]⟩,.int .i64 t,.int .i64 1,.int .i64 1] w (Opd w (if jbn [88,111,114] t=true then 0 else 1)):=by
 rcases jaP ht with rfl | rfl | rfl | rfl
 ·exact (Nu.binary8 1 1 1 w).mono (jay (by rfl))
 ·exact (Nu.binary8 6 1 1 w).mono (jay (by rfl))
 ·exact (Nu.binary8 7 1 1 w).mono (jay (by rfl))
 ·exact (Nu.binary8 9 1 1 w).mono (jay (by rfl))
theorem joJ (t:Int) (ht:jao t=true) (w:World):Calls Tryz.prog 31 #[.string ⟨#[69,113,117,97,108]⟩,.int .i64 t,.int .i64 1,.int .i64 1] w (Opd w (if jbn [69,113,117,97,108] t=true then 0 else 1)):=by
 rcases jaP ht with rfl | rfl | rfl | rfl
 ·exact (Nu.binary9 1 1 1 w).mono (jay (by rfl))
 ·exact (Nu.binary9 6 1 1 w).mono (jay (by rfl))
 ·exact (Nu.binary9 7 1 1 w).mono (jay (by rfl))
 ·exact (Nu.binary9 9 1 1 w).mono (jay (by rfl))
theorem jra (t:Int) (ht:jao t=true) (w:World):Calls Tryz.prog 31 #[.string ⟨#[76,101,115,115]⟩,.int .i64 t,.int .i64 1,.int .i64 1] w (Opd w (if jbn [76,101,115,115] t=true then 0 else 1)):=by
 rcases jaP ht with rfl | rfl | rfl | rfl
 ·exact (Nu.binary10 1 1 1 w).mono (jay (by rfl))
 ·exact (Nu.binary10 6 1 1 w).mono (jay (by rfl))
 ·exact (Nu.binary10 7 1 1 w).mono (jay (by rfl))
 ·exact (Nu.binary10 9 1 1 w).mono (jay (by rfl))
theorem jkd (t:Int) (ht:jao t=true) (w:World):Calls Tryz.prog 31 #[.string ⟨#[71,114,101,97,116,101,114]⟩,.int .i64 t,.int .i64 1,.int .i64 1] w (Opd w (if jbn [71,114,101,97,116,101,114] t=true then 0 else 1)):=by
 rcases jaP ht with rfl | rfl | rfl | rfl
 ·exact (Nu.binary11 1 1 1 w).mono (jay (by rfl))
 ·exact (Nu.binary11 6 1 1 w).mono (jay (by rfl))
 ·exact (Nu.binary11 7 1 1 w).mono (jay (by rfl))
 ·exact (Nu.binary11 9 1 1 w).mono (jay (by rfl))
theorem jtA (op:ByteArray) (t:Int) (h:op.toList∈jha) (ht:jao t=true) (w:World):Calls Tryz.prog 29 #[.string op,.int .i64 t,.int .i64 1] w (Opd w (if jcx op.toList t=true then 0 else 1)):=by
 have e:op=B op.toList:=by rw [jaj,jk0]
 simp only [jha,List.mem_cons,List.not_mem_nil,or_false] at h
 rcases h with h | h | h | h | h | h | h | h | h | h
 ·rw [h,show op=⟨#[73,100,101,110,116,105,116,121]⟩ from e.trans (by rw [h];rfl)];exact ji0 t ht w
 ·rw [h,show op=⟨#[78,101,103]⟩ from e.trans (by rw [h];rfl)];exact jto t ht w
 ·rw [h,show op=⟨#[65,98,115]⟩ from e.trans (by rw [h];rfl)];exact jtp t ht w
 ·rw [h,show op=⟨#[78,111,116]⟩ from e.trans (by rw [h];rfl)];exact jtq t ht w
 ·rw [h,show op=⟨#[82,101,108,117]⟩ from e.trans (by rw [h];rfl)];exact jq7 t ht w
 ·rw [h,show op=⟨#[83,113,114,116]⟩ from e.trans (by rw [h];rfl)];exact jq8 t ht w
 ·rw [h,show op=⟨#[70,108,111,111,114]⟩ from e.trans (by rw [h];rfl)];exact joI t ht w
 ·rw [h,show op=⟨#[69,120,112]⟩ from e.trans (by rw [h];rfl)];exact jtr t ht w
 ·rw [h,show op=⟨#[83,105,103,109,111,105,100]⟩ from e.trans (by rw [h];rfl)];exact jkc t ht w
 ·rw [h,show op=⟨#[84,97,110,104]⟩ from e.trans (by rw [h];rfl)];exact jq9 t ht w
theorem jtB (op:ByteArray) (t:Int) (h:op.toList∈jdG) (ht:jao t=true) (w:World):Calls Tryz.prog 31 #[.string op,.int .i64 t,.int .i64 1,.int .i64 1] w (Opd w (if jbn op.toList t=true then 0 else 1)):=by
 have e:op=B op.toList:=by rw [jaj,jk0]
 simp only [jdG,List.mem_cons,List.not_mem_nil,or_false] at h
 rcases h with h | h | h | h | h | h | h | h | h | h | h | h
 ·rw [h,show op=⟨#[65,100,100]⟩ from e.trans (by rw [h];rfl)];exact jts t ht w
 ·rw [h,show op=⟨#[83,117,98]⟩ from e.trans (by rw [h];rfl)];exact jtt t ht w
 ·rw [h,show op=⟨#[77,117,108]⟩ from e.trans (by rw [h];rfl)];exact jtu t ht w
 ·rw [h,show op=⟨#[68,105,118]⟩ from e.trans (by rw [h];rfl)];exact jtv t ht w
 ·rw [h,show op=⟨#[77,97,120]⟩ from e.trans (by rw [h];rfl)];exact jtw t ht w
 ·rw [h,show op=⟨#[77,105,110]⟩ from e.trans (by rw [h];rfl)];exact jtx t ht w
 ·rw [h,show op=⟨#[65,110,100]⟩ from e.trans (by rw [h];rfl)];exact jty t ht w
 ·rw [h,show op=⟨#[79,114]⟩ from e.trans (by rw [h];rfl)];exact juJ t ht w
 ·rw [h,show op=⟨#[88,111,114]⟩ from e.trans (by rw [h];rfl)];exact jtz t ht w
 ·rw [h,show op=⟨#[69,113,117,97,108]⟩ from e.trans (by rw [h];rfl)];exact joJ t ht w
 ·rw [h,show op=⟨#[76,101,115,115]⟩ from e.trans (by rw [h];rfl)];exact jra t ht w
 ·rw [h,show op=⟨#[71,114,101,97,116,101,114]⟩ from e.trans (by rw [h];rfl)];exact jkd t ht w
theorem jfX (op:ByteArray) (t:Int) (h:op.toList∈jha) (ht:jao t=true) (w:World):Calls Tryz.prog 77 #[.string op,.int .i64 t] w (jaJ w (jal (jcx op.toList t)) fun _ v _=>v=.tuple #[]):=by
 have C:=jac (jtA op t h ht w)
 cases hx:jcx op.toList t with
 | true =>
  rw [hx,if_pos rfl] at C;clear hx h ht;go_enter Tryz.func77,Tryz.ntmps77;go_wp2_with (first | (go_at_call 29;refine C.out.mono ?_;rintro e w' ⟨z,rfl,hg⟩) | (go_at_call 71;refine (jaq _).mono ?_;rintro e w' ⟨rfl,rfl⟩))
  go_end0
  exact ⟨hg,_,rfl,rfl⟩
 | false =>
  rw [hx,if_neg (by decide)] at C;clear hx h ht;go_enter Tryz.func77,Tryz.ntmps77;go_wp2_with (first | (go_at_call 29;refine C.out.mono ?_;rintro e w' ⟨z,rfl,hg⟩) | (go_at_call 71;refine (jav _).mono ?_;rintro e w' ⟨rfl,rfl⟩));exact ⟨rfl,hg,rfl⟩
theorem jdd (op:ByteArray) (t:Int) (h:op.toList∈jdG) (ht:jao t=true) (w:World):Calls Tryz.prog 106 #[.string op,.int .i64 t] w (jaJ w (jal (jbn op.toList t)) fun _ v _=>v=.tuple #[]):=by
 have C:=jac (jtB op t h ht w)
 cases hx:jbn op.toList t with
 | true =>
  rw [hx,if_pos rfl] at C;clear hx h ht;go_enter Tryz.func106,Tryz.ntmps106;go_wp2_with (first | (go_at_call 31;refine C.out.mono ?_;rintro e w' ⟨z,rfl,hg⟩) | (go_at_call 71;refine (jaq _).mono ?_;rintro e w' ⟨rfl,rfl⟩))
  go_end0
  exact ⟨hg,_,rfl,rfl⟩
 | false =>
  rw [hx,if_neg (by decide)] at C;clear hx h ht;go_enter Tryz.func106,Tryz.ntmps106;go_wp2_with (first | (go_at_call 31;refine C.out.mono ?_;rintro e w' ⟨z,rfl,hg⟩) | (go_at_call 71;refine (jav _).mono ?_;rintro e w' ⟨rfl,rfl⟩));exact ⟨rfl,hg,rfl⟩
end Go.Proofs.YteigfipgmghgmaaGreatDoor
namespace Go.Proofs.YteigfipgmghgmaaGreatDoor
open Go.RowKit
abbrev joK:Sl:=⟨none,0,0⟩
theorem jh7 {α:Type} {te:TypeId} {size bytes:Nat} {f:α→List Value} (hf:∀ a,(f a).length=size) {w:World} {B:Nat} {xs:List α} {cur:Array Value} (hb:w.heap[B]?=some (.cells cur te (0,0))) (hc:cur.toList=xs.flatMap f) (hs:cur.size=xs.length*size) (hl:xs.length*bytes≤140737488351232) (hm:xs.length≤1048576) :
    IsL bytes size f w (.slice (some ⟨B,0,none⟩) xs.length xs.length) xs:=by
     refine jaW.isL (te:=te) (base:=0) hf ?_ hl;refine ⟨by rw [← hc,Array.length_toList,hs],Or.inr ⟨B,xs.length,cur,rfl,Nat.zero_le _,hb,Nat.le_refl _,by simp only [maxLen];omega,hs,?_⟩⟩;rw [hc,List.take_of_length_le (by rw [← hc,Array.length_toList,hs];exact Nat.le_refl _)]
theorem jrb (w:World):IsInts w (.slice none 0 0) []:=⟨none,0,rfl,by simp,by simp,by simp,fun _=>⟨rfl,rfl⟩,fun h=>by simp at h,fun z hz=>by simp at hz⟩
end Go.Proofs.YteigfipgmghgmaaGreatDoor
namespace Go.Proofs.YteigfipgmghgmaaGreatDoor
open Go.RowKit
theorem jd4 {w:World} {a:Option Addr} {l c:Nat} {zs:List Int} (h:IsInts w (.slice a l c) zs) {k:Nat} (hk:k<zs.length):∃ b off,a=some ⟨b,off,none⟩∧w.cell? ⟨b,off+k,none⟩=some (.int .i64 (zs.getD k 0)):=by
 obtain ⟨ao,cap,e,h1,h2,h3,h4,h5,h6⟩:=h
 cases e
 obtain ⟨b,off,rfl,hc⟩:=h5 (by omega);exact ⟨b,off,rfl,hc k hk⟩
theorem jke (u v:Value) (xs:List Int) (w:World) (hu:IsInts w u xs) (hv:IsInts w v xs) :
    Calls Tryz.prog 15 #[u,v] w fun e w'=>e=.returned (.bool true)∧w.grownBy w' none:=by
     have HU:=jac hu;have HV:=jac hv;obtain ⟨ua,uc,rfl,h1,h2,h3,-⟩:=hu;obtain ⟨va,vc,rfl,k1,k2,k3,-⟩:=hv;go_enter Tryz.func15,Tryz.ntmps15;go_wp2;go_loopw [5] (fun i wr=>w.grownBy wr none∧∃ k:Nat,k≤xs.length∧i=.int .i64 k) (fun i _=>xs.length - (intOf i).toNat)
     case atStart=>exact ⟨jad _,0,Nat.zero_le _,rfl⟩
     case round =>
      obtain ⟨hg,k,hk,rfl⟩:=hrel
      by_cases hlt:k<xs.length
      ·obtain ⟨ub,uo,rfl,a0⟩:=jd4 (HU.out.more hg) hlt;obtain ⟨vb,vo,rfl,b0⟩:=jd4 (HV.out.more hg) hlt;obtain ⟨X,hX⟩ : ∃ X,X=xs.getD k 0:=⟨_,rfl⟩
       rw [← hX] at a0 b0;clear hX;go_wp2;go_region
       all_goals
        go_wp2;go_roundw
        case rel=>exact ⟨jaf hg,k+1,by omega,by go_num⟩
        case measure=>simp [intOf];omega
      ·go_wp2;go_ret;exact ⟨rfl,hg⟩
theorem jme (ty:Int) (d t d' t':Value) (ds ts:List Int) (w:World) (hd:IsInts w d ds) (ht:IsInts w t ts) (hd':IsInts w d' ds) (ht':IsInts w t' ts) :
    Calls Tryz.prog 9 #[.agg #[.int .i64 ty,d,t],.agg #[.int .i64 ty,d',t']] w fun e w'=>e=.returned (.bool true)∧w.grownBy w' none:=by
     have HD:=jac hd;have HD':=jac hd';have HT:=jac ht;have HT':=jac ht';obtain ⟨da,dc,rfl,-⟩:=hd;obtain ⟨ea,ec,rfl,-⟩:=hd';obtain ⟨ua,uc,rfl,h1,h2,h3,-⟩:=ht;obtain ⟨va,vc,rfl,k1,k2,k3,-⟩:=ht';obtain ⟨w0,hw0⟩ : ∃ w0,w0=(w.alloc (.cells #[.int .i64 ty,.slice da ds.length dc,.slice ua ts.length uc] 32)).alloc (.cells #[.int .i64 ty,.slice ea ds.length ec,.slice va ts.length vc] 32):=⟨_,rfl⟩
     have g0:w.grownBy w0 none:=by rw [hw0];exact jaa (jab _ _) (jab _ _)
     have hbx:=jbi w (.cells #[.int .i64 ty,.slice da ds.length dc,.slice ua ts.length uc] 32) (.cells #[.int .i64 ty,.slice ea ds.length ec,.slice va ts.length vc] 32);have hbx0:=hbx;rw [← hw0] at hbx;have B1:Hid (∀ wx,w0.grownBy wx none→wx.heap[w.heap.size]?=some (.cells #[.int .i64 ty,.slice da ds.length dc,.slice ua ts.length uc] 32 (0,0))):=fun wx hg=>jag hbx.1 hg;have B2:Hid (∀ wx,w0.grownBy wx none→wx.heap[w.heap.size+1]?=some (.cells #[.int .i64 ty,.slice ea ds.length ec,.slice va ts.length vc] 32 (0,0))):=fun wx hg=>jag hbx.2 hg;obtain ⟨a0,a1,a2⟩:=ja3 hbx0.1;obtain ⟨b0,b1,b2⟩:=ja3 hbx0.2;clear hbx hbx0;go_enter Tryz.func9,Tryz.ntmps9;go_wp2_with fail;rw [← hw0];clear hw0 a0 a1 a2 b0 b1 b2;refine (jke _ _ ds w0 (HD.out.more g0) (HD'.out.more g0)).mono ?_;rintro e w1 ⟨rfl,hg1⟩;obtain ⟨a0,a1,a2⟩:=ja3 (B1.out w1 hg1);obtain ⟨b0,b1,b2⟩:=ja3 (B2.out w1 hg1);go_wp2_with fail;clear a0 a1 a2 b0 b1 b2;go_loopw [5] (fun i wr=>w0.grownBy wr none∧∃ k:Nat,k≤ts.length∧i=.int .i64 k) (fun i _=>ts.length - (intOf i).toNat)
     case atStart=>exact ⟨hg1,0,Nat.zero_le _,rfl⟩
     case round =>
      obtain ⟨hg,k,hk,rfl⟩:=hrel;obtain ⟨a0,a1,a2⟩:=ja3 (B1.out wr hg);obtain ⟨b0,b1,b2⟩:=ja3 (B2.out wr hg)
      by_cases hlt:k<ts.length
      ·obtain ⟨ub,uo,rfl,x0⟩:=jd4 (HT.out.more (jaa g0 hg)) hlt;obtain ⟨vb,vo,rfl,y0⟩:=jd4 (HT'.out.more (jaa g0 hg)) hlt;obtain ⟨X,hX⟩ : ∃ X,X=ts.getD k 0:=⟨_,rfl⟩
       rw [← hX] at x0 y0;clear hX;go_wp2;go_region
       all_goals
        go_wp2;go_roundw
        case rel=>exact ⟨jaf hg,k+1,by omega,by go_num⟩
        case measure=>simp [intOf];omega
      ·go_wp2;go_ret;exact ⟨rfl,jaa g0 hg⟩
end Go.Proofs.YteigfipgmghgmaaGreatDoor
