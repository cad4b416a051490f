/- A part. -/
import Derived.Test.YtekocmdfaaoggaaGreatDoorTartAT
import Derived.Test.YtekocmdfaaoggaaGreatDoorTartAR
import Derived.Test.YtekocmdfaaoggaaGreatDoorTartAS
set_option maxHeartbeats 2000000
namespace Go.Proofs.YtekocmdfaaoggaaGreatDoor.Nu
open Go.RowKit
theorem jqn (x : Nat) : Extern.MathSqrt.sqrt #[.float .f64 x] = (match FloatKind.f64.format.sqrt x with
    | some r=>pure (.float .f64 r)
    | none=>do pure (.float .f64 (← choose (.nanBits .f64 x x)))):=rfl
theorem jdC (x:Nat) (w:World):∃ r n,(callFunc 150 #[.float .f64 x]).run Tryz.prog w=.ok (.value (.float .f64 r)) (w.drewN n):=by
 have e:(callFunc 150 #[.float .f64 x]).run Tryz.prog w=((Extern.MathSqrt.sqrt #[.float .f64 x]).run Tryz.prog w).andThen fun v w'=>.ok (.value v) w' :=
  run_callFunc_extern (fn:=Tryz.f150) (by kernel_rfl) (by kernel_rfl) (by kernel_rfl) (by kernel_rfl) (by kernel_rfl) _ _
 rw [e,jqn]
 cases h:FloatKind.f64.format.sqrt x with
 | some r=>exact ⟨r,0,by simp;rfl⟩
 | none=>exact ⟨_,1,by simp [Question.forced];exact ⟨rfl,rfl⟩⟩
theorem jc4 (x:Nat) (w:World):∃ r n,(callFunc 151 #[.float .f64 x]).run Tryz.prog w=.ok (.value (.float .f64 r)) (w.drewN n):=by
 have e : (callFunc 151 #[.float .f64 x]).run Tryz.prog w = ((Extern.MathFloor.toIntegral "math.archFloor" .down #[.float .f64 x]).run Tryz.prog w).andThen fun v w' => .ok (.value v) w' :=
  run_callFunc_extern (fn:=Tryz.f151) (by kernel_rfl) (by kernel_rfl) (by kernel_rfl) (by kernel_rfl) (by kernel_rfl) _ _
 rw [e]
 have e2 : ∃ q : Question, q.forced = false ∧ Extern.MathFloor.toIntegral "math.archFloor" .down #[.float .f64 x] = (match FloatKind.f64.decode x with
  | .nan s t =>
   if FloatKind.f64.format.quiet t=t then pure (.float .f64 x) else do
   let kept ← choose q
   pure (.float .f64 (if kept==1 then x else FloatKind.f64.encode (.nan s (FloatKind.f64.format.quiet t))))
  | d=>pure (.float .f64 (FloatKind.f64.encode (d.integral .down)))):=⟨_,by decide,rfl⟩
 obtain ⟨q,hq,e2⟩:=e2;rw [e2]
 cases h:FloatKind.f64.decode x with
 | number s m i=>exact ⟨_,0,by simp;exact ⟨rfl,rfl⟩⟩
 | infinity s=>exact ⟨_,0,by simp;exact ⟨rfl,rfl⟩⟩
 | nan s t =>
  by_cases ht:FloatKind.f64.format.quiet t=t
  ·exact ⟨_,0,by simp [ht];exact ⟨rfl,rfl⟩⟩
  ·exact ⟨_,1,by simp [ht,hq];exact ⟨rfl,rfl⟩⟩
theorem jop:∃ (r:Nat→World→Nat) (n:Nat→World→Nat),∀ x w,(callFunc 150 #[.float .f64 x]).run Tryz.prog w=.ok (.value (.float .f64 (r x w))) (w.drewN (n x w)) :=
 ⟨fun x w=>Classical.choose (jdC x w),fun x w=>Classical.choose (Classical.choose_spec (jdC x w)),fun x w=>Classical.choose_spec (Classical.choose_spec (jdC x w))⟩
theorem jmx:∃ (r:Nat→World→Nat) (n:Nat→World→Nat),∀ x w,(callFunc 151 #[.float .f64 x]).run Tryz.prog w=.ok (.value (.float .f64 (r x w))) (w.drewN (n x w)) :=
 ⟨fun x w=>Classical.choose (jc4 x w),fun x w=>Classical.choose (Classical.choose_spec (jc4 x w)),fun x w=>Classical.choose_spec (Classical.choose_spec (jc4 x w))⟩
theorem jiy (b:Nat) (w:World):(convert 60 118 (.float .f32 b)).run Tryz.prog w=.ok (.float .f64 (jp9 .f32 .f64 b w)) (w.drewN (cdr .f32 .f64 b)):=jjo w _ _ _ _ _ (by kernel_rfl) (by kernel_rfl)
theorem jfa (b:Nat) (w:World):(convert 118 60 (.float .f64 b)).run Tryz.prog w=.ok (.float .f32 (jp9 .f64 .f32 b w)) (w.drewN (cdr .f64 .f32 b)):=jjo w _ _ _ _ _ (by kernel_rfl) (by kernel_rfl)
theorem jgR (b:Nat) (w:World):(convert 118 3 (.float .f64 b)).run Tryz.prog w=.ok (.int .i64 (ival .f64 .i64 b w)) (w.drewN (idr .f64 .i64 b)):=joa w _ _ _ _ _ (by kernel_rfl) (by kernel_rfl)
theorem jef (b:Nat) (w:World):(callFunc 173 #[.float .f64 b]).run Tryz.prog w=.ok (.value (.int .u64 b)) w:=by kernel_rfl
theorem jeg (n:Int) (w:World):(callFunc 175 #[.int .u64 n]).run Tryz.prog w=.ok (.value (.float .f64 n.toNat)) w:=by kernel_rfl
attribute [local go_sem] jiy jfa jgR jef jeg jcO jdO jgL jgM jgN jgO jgK
theorem jmy (x:Nat) (w:World):Calls Tryz.prog 126 #[.float .f64 x] w fun e w'=>∃ r n,e=.returned (.float .f64 r)∧w'=w.drewN n:=by
 obtain ⟨r,n,h⟩:=jmx;go_enter Tryz.func126,Tryz.ntmps126;go_wp2;go_ret;exact ⟨_,_,rfl,rfl⟩
theorem jrq (x:Nat) (w:World):Calls Tryz.prog 125 #[.float .f64 x] w fun e w'=>∃ r n,e=.returned (.float .f64 r)∧w'=w.drewN n:=by
 obtain ⟨r,n,h⟩:=jop;go_enter Tryz.func125,Tryz.ntmps125;go_wp2;go_ret;exact ⟨_,_,rfl,rfl⟩
theorem jiz (x:Nat) (w:World):Calls Tryz.prog 172 #[.float .f64 x] w fun e w'=>∃ r m n,e=.returned (.tuple #[.float .f64 r,.int .i64 m])∧w'=w.drewN n:=by
 go_enter Tryz.func172,Tryz.ntmps172;go_wp2
 all_goals
  go_ret2
  first | exact ⟨_,_,0,rfl,rfl⟩ | exact ⟨_,_,_,rfl,rfl⟩
theorem jki (x y:Nat) (w:World):Calls Tryz.prog 171 #[.float .f64 x,.float .f64 y] w fun e w'=>∃ r n,e=.returned (.float .f64 r)∧w'=w.drewN n:=by
 go_enter Tryz.func171,Tryz.ntmps171;go_wp2
 all_goals
  go_ret;exact ⟨_,0,rfl,rfl⟩
end Go.Proofs.YtekocmdfaaoggaaGreatDoor.Nu
namespace Go.Proofs.YtekocmdfaaoggaaGreatDoor.Nu
open Go.RowKit
attribute [local go_sem] jiy jfa jgR jef jeg jcO jdO jgL jgM jgN jgO jgK
theorem jqo (x:Nat) (m:Int) (w:World):Calls Tryz.prog 164 #[.float .f64 x,.int .i64 m] w fun e w'=>∃ r n,e=.returned (.float .f64 r)∧w'=w.drewN n:=by
 go_enter Tryz.func164,Tryz.ntmps164;go_wp2_with (first | (go_at_call 172;refine (jiz _ _).mono ?_;rintro e w' ⟨r,m,n,rfl,rfl⟩) | (go_at_call 171;refine (jki _ _ _).mono ?_;rintro e w' ⟨r,n,rfl,rfl⟩) | go_in)
 all_goals
  go_ret
  first | exact ⟨_,0,rfl,rfl⟩ | exact ⟨_,_,rfl,rfl⟩
theorem jqp (x:Nat) (m:Int) (w:World):Calls Tryz.prog 153 #[.float .f64 x,.int .i64 m] w fun e w'=>∃ r n,e=.returned (.float .f64 r)∧w'=w.drewN n:=by
 go_enter Tryz.func153,Tryz.ntmps153;go_wp2_with (first | (go_at_call 164;refine (jqo _ _ _).mono ?_;rintro e w' ⟨r,n,rfl,rfl⟩) | go_in);go_ret;exact ⟨_,_,rfl,rfl⟩
theorem jqq (x:Nat) (w:World) (hx:x<4294967296):Calls Tryz.prog 127 #[.float .f32 x] w fun e w'=>∃ r n,r<4294967296∧e=.returned (.float .f32 r)∧w'=w.drewN n:=by
 cases h1:(FloatKind.f32.format.order x x != some .eq) with
 | true =>
  go_enter Tryz.func127,Tryz.ntmps127;go_wp2;go_ret;exact ⟨x,0,hx,rfl,rfl⟩
 | false =>
  cases h2:(FloatKind.f32.format.order x 1118961664==some .gt) with
  | true =>
   go_enter Tryz.func127,Tryz.ntmps127;go_wp2_with (first | (go_at_call 53;refine (ja2 _ _).mono ?_;rintro e w' ⟨rfl,rfl⟩) | go_in);go_ret;exact ⟨_,0,fb_lt _,rfl,rfl⟩
  | false =>
   cases h3:(FloatKind.f32.format.order x 3268542464==some .lt) with
   | true =>
    go_enter Tryz.func127,Tryz.ntmps127;go_wp2;go_ret;exact ⟨0,0,by decide,rfl,rfl⟩
   | false =>
    go_enter Tryz.func127,Tryz.ntmps127;go_wp2_with (first | (go_at_call 126;refine (jmy _ _).mono ?_;rintro e w' ⟨kf,n1,rfl,rfl⟩) | fail);go_loopw [6,7] (fun p i w'=>∃ (k r n:Nat),k≤13∧i=.int .i64 k∧p=.float .f64 r∧w'=w.drewN n) (fun _ i _=>(intOf i).toNat)
    case atStart=>exact ⟨13,_,_,Nat.le_refl _,rfl,rfl,rfl⟩
    case round =>
     obtain ⟨k,r,n,hk,rfl,rfl,rfl⟩:=hrel
     by_cases hlt:1≤k
     ·go_wp2;go_roundw
      case rel=>exact ⟨k - 1,_,_,by omega,by go_num,rfl,rfl⟩
      case measure=>simp [intOf];omega
     ·go_wp2_with (first | (go_at_call 153;refine (jqp _ _ _).mono ?_;rintro e w' ⟨rl,nl,rfl,rfl⟩) | (go_at_call 53;refine (ja2 _ _).mono ?_;rintro e w' ⟨rfl,rfl⟩) | go_in)
      all_goals
       go_ret
       first | exact ⟨_,_,fb_lt _,rfl,rfl⟩ | exact ⟨_,_,je7 _ _,rfl,rfl⟩
end Go.Proofs.YtekocmdfaaoggaaGreatDoor.Nu
namespace Go.Proofs.YtekocmdfaaoggaaGreatDoor.Nu
open Go.RowKit
attribute [local go_sem] jiy jfa jgR jef jeg jcO jdO jgL jgM jgN jgO jgK
theorem jiA (op:BinOp) (a b:Int):(bits op .u32 a b).toNat<4294967296:=by
 unfold bits;rw [IntKind.wrap_u32'];omega
theorem jpJ (x y:Nat) (w:World):Calls Tryz.prog 154 #[.float .f32 x,.float .f32 y] w fun e w'=>∃ r,r<4294967296∧e=.returned (.float .f32 r)∧w'=w:=by
 go_enter Tryz.func154,Tryz.ntmps154;go_wp2;go_ret;exact ⟨_,jiA _ _ _,rfl,rfl⟩
theorem jmz (x:Nat) (w:World) (hx:x<4294967296):Calls Tryz.prog 128 #[.float .f32 x] w fun e w'=>∃ r n,r<4294967296∧e=.returned (.float .f32 r)∧w'=w.drewN n:=by
 have hn:=jlE x hx;go_enter Tryz.func128,Tryz.ntmps128;go_wp2_with (first | (go_at_call 127;refine (jqq _ _ hn).mono ?_;rintro e w' ⟨r,n,hr,rfl,rfl⟩) | go_in);go_ret;exact ⟨_,_,jlF _ _ _ _,rfl,rfl⟩
theorem jrr (x:Nat) (w:World) (hx:x<4294967296):Calls Tryz.prog 129 #[.float .f32 x] w fun e w'=>∃ r n,r<4294967296∧e=.returned (.float .f32 r)∧w'=w.drewN n:=by
 cases h1:(FloatKind.f32.format.order (jp6 x) 1092616192==some .gt) with
 | true =>
  go_enter Tryz.func129,Tryz.ntmps129;go_wp2_with (first | (go_at_call 123;refine (jc3 _ _ hx).mono ?_;rintro e w' ⟨rfl,rfl⟩) | (go_at_call 154;refine (jpJ _ _ _).mono ?_;rintro e w' ⟨rs,hs,rfl,rfl⟩) | go_in);go_ret;exact ⟨_,0,‹_›,rfl,rfl⟩
 | false =>
  go_enter Tryz.func129,Tryz.ntmps129;go_wp2_with (first | (go_at_call 123;refine (jc3 _ _ hx).mono ?_;rintro e w' ⟨rfl,rfl⟩) | (go_at_call 127;refine (jqq _ _ (jlF _ _ _ _)).mono ?_;rintro e w' ⟨r,n,hr,rfl,rfl⟩) | (go_at_call 154;refine (jpJ _ _ _).mono ?_;rintro e w' ⟨rs,hs,rfl,rfl⟩) | go_in);go_ret;exact ⟨_,_,‹_›,rfl,rfl⟩
theorem joq (b:Nat) (w:World) (_hb:b<4294967296):Calls Tryz.prog 81 #[.string ⟨#[83,113,114,116]⟩,.float .f32 b] w fun e w'=>∃ r n,r<4294967296∧e=.returned (.tuple #[.int .i64 (tob r),.int .i64 0])∧w'=w.drewN n:=by
 go_enter Tryz.func81,Tryz.ntmps81;go_wp2_with (first | (go_at_call 125;refine (jrq _ _).mono ?_;rintro e w' ⟨r,n,rfl,rfl⟩) | (go_at_call 55;refine (to_any _ _ (je7 _ _)).mono ?_;rintro e w' ⟨rfl,rfl⟩) | go_in);go_ret2;exact ⟨_,_,je7 _ _,rfl,rfl⟩
theorem jor (b:Nat) (w:World) (_hb:b<4294967296):Calls Tryz.prog 81 #[.string ⟨#[70,108,111,111,114]⟩,.float .f32 b] w fun e w'=>∃ r n,r<4294967296∧e=.returned (.tuple #[.int .i64 (tob r),.int .i64 0])∧w'=w.drewN n:=by
 go_enter Tryz.func81,Tryz.ntmps81;go_wp2_with (first | (go_at_call 126;refine (jmy _ _).mono ?_;rintro e w' ⟨r,n,rfl,rfl⟩) | (go_at_call 55;refine (to_any _ _ (je7 _ _)).mono ?_;rintro e w' ⟨rfl,rfl⟩) | go_in);go_ret2;exact ⟨_,_,je7 _ _,rfl,rfl⟩
theorem jos (b:Nat) (w:World) (hb:b<4294967296):Calls Tryz.prog 81 #[.string ⟨#[69,120,112]⟩,.float .f32 b] w fun e w'=>∃ r n,r<4294967296∧e=.returned (.tuple #[.int .i64 (tob r),.int .i64 0])∧w'=w.drewN n:=by
 go_enter Tryz.func81,Tryz.ntmps81;go_wp2_with (first | (go_at_call 127;refine (jqq _ _ hb).mono ?_;rintro e w' ⟨r,n,hr,rfl,rfl⟩) | (go_at_call 55;refine (to_any _ _ (by assumption)).mono ?_;rintro e w' ⟨rfl,rfl⟩) | go_in);go_ret2;exact ⟨_,_,‹_›,rfl,rfl⟩
theorem jot (b:Nat) (w:World) (hb:b<4294967296):Calls Tryz.prog 81 #[.string ⟨#[83,105,103,109,111,105,100]⟩,.float .f32 b] w fun e w'=>∃ r n,r<4294967296∧e=.returned (.tuple #[.int .i64 (tob r),.int .i64 0])∧w'=w.drewN n:=by
 go_enter Tryz.func81,Tryz.ntmps81;go_wp2_with (first | (go_at_call 128;refine (jmz _ _ hb).mono ?_;rintro e w' ⟨r,n,hr,rfl,rfl⟩) | (go_at_call 55;refine (to_any _ _ (by assumption)).mono ?_;rintro e w' ⟨rfl,rfl⟩) | go_in);go_ret2;exact ⟨_,_,‹_›,rfl,rfl⟩
theorem jou (b:Nat) (w:World) (hb:b<4294967296):Calls Tryz.prog 81 #[.string ⟨#[84,97,110,104]⟩,.float .f32 b] w fun e w'=>∃ r n,r<4294967296∧e=.returned (.tuple #[.int .i64 (tob r),.int .i64 0])∧w'=w.drewN n:=by
 go_enter Tryz.func81,Tryz.ntmps81;go_wp2_with (first | (go_at_call 129;refine (jrr _ _ hb).mono ?_;rintro e w' ⟨r,n,hr,rfl,rfl⟩) | (go_at_call 55;refine (to_any _ _ (by assumption)).mono ?_;rintro e w' ⟨rfl,rfl⟩) | go_in);go_ret2;exact ⟨_,_,‹_›,rfl,rfl⟩
theorem unary5_1 (x:Int) (w:World) (hx:chk 1 x=true):Calls Tryz.prog 58 #[.string ⟨#[83,113,114,116]⟩,.int .i64 1,.int .i64 x] w fun e w'=>∃ r n,r<4294967296∧e=.returned (.tuple #[.int .i64 (tob r),.int .i64 0])∧w'=w.drewN n:=by
 go_enter Tryz.func58,Tryz.ntmps58;go_wp2_with (first | (go_at_call 42;refine (check_any _ _ _).mono ?_;rintro e w' ⟨rfl,rfl⟩) | (go_at_call 53;refine (ja2 _ _).mono ?_;rintro e w' ⟨rfl,rfl⟩) | (go_at_call 81;refine (joq _ _ (fb_lt _)).mono ?_;rintro e w' ⟨r,n,hr,rfl,rfl⟩));go_ret2;exact ⟨_,_,‹_›,rfl,rfl⟩
theorem unary6_1 (x:Int) (w:World) (hx:chk 1 x=true):Calls Tryz.prog 58 #[.string ⟨#[70,108,111,111,114]⟩,.int .i64 1,.int .i64 x] w fun e w'=>∃ r n,r<4294967296∧e=.returned (.tuple #[.int .i64 (tob r),.int .i64 0])∧w'=w.drewN n:=by
 go_enter Tryz.func58,Tryz.ntmps58;go_wp2_with (first | (go_at_call 42;refine (check_any _ _ _).mono ?_;rintro e w' ⟨rfl,rfl⟩) | (go_at_call 53;refine (ja2 _ _).mono ?_;rintro e w' ⟨rfl,rfl⟩) | (go_at_call 81;refine (jor _ _ (fb_lt _)).mono ?_;rintro e w' ⟨r,n,hr,rfl,rfl⟩));go_ret2;exact ⟨_,_,‹_›,rfl,rfl⟩
theorem unary7_1 (x:Int) (w:World) (hx:chk 1 x=true):Calls Tryz.prog 58 #[.string ⟨#[69,120,112]⟩,.int .i64 1,.int .i64 x] w fun e w'=>∃ r n,r<4294967296∧e=.returned (.tuple #[.int .i64 (tob r),.int .i64 0])∧w'=w.drewN n:=by
 go_enter Tryz.func58,Tryz.ntmps58;go_wp2_with (first | (go_at_call 42;refine (check_any _ _ _).mono ?_;rintro e w' ⟨rfl,rfl⟩) | (go_at_call 53;refine (ja2 _ _).mono ?_;rintro e w' ⟨rfl,rfl⟩) | (go_at_call 81;refine (jos _ _ (fb_lt _)).mono ?_;rintro e w' ⟨r,n,hr,rfl,rfl⟩));go_ret2;exact ⟨_,_,‹_›,rfl,rfl⟩
theorem unary8_1 (x:Int) (w:World) (hx:chk 1 x=true):Calls Tryz.prog 58 #[.string ⟨#[83,105,103,109,111,105,100]⟩,.int .i64 1,.int .i64 x] w fun e w'=>∃ r n,r<4294967296∧e=.returned (.tuple #[.int .i64 (tob r),.int .i64 0])∧w'=w.drewN n:=by
 go_enter Tryz.func58,Tryz.ntmps58;go_wp2_with (first | (go_at_call 42;refine (check_any _ _ _).mono ?_;rintro e w' ⟨rfl,rfl⟩) | (go_at_call 53;refine (ja2 _ _).mono ?_;rintro e w' ⟨rfl,rfl⟩) | (go_at_call 81;refine (jot _ _ (fb_lt _)).mono ?_;rintro e w' ⟨r,n,hr,rfl,rfl⟩));go_ret2;exact ⟨_,_,‹_›,rfl,rfl⟩
theorem unary9_1 (x:Int) (w:World) (hx:chk 1 x=true):Calls Tryz.prog 58 #[.string ⟨#[84,97,110,104]⟩,.int .i64 1,.int .i64 x] w fun e w'=>∃ r n,r<4294967296∧e=.returned (.tuple #[.int .i64 (tob r),.int .i64 0])∧w'=w.drewN n:=by
 go_enter Tryz.func58,Tryz.ntmps58;go_wp2_with (first | (go_at_call 42;refine (check_any _ _ _).mono ?_;rintro e w' ⟨rfl,rfl⟩) | (go_at_call 53;refine (ja2 _ _).mono ?_;rintro e w' ⟨rfl,rfl⟩) | (go_at_call 81;refine (jou _ _ (fb_lt _)).mono ?_;rintro e w' ⟨r,n,hr,rfl,rfl⟩));go_ret2;exact ⟨_,_,‹_›,rfl,rfl⟩
theorem wrapT_stays (t n:Int) (h:t=6∨t=7):chk t (wrapT t n)=true:=by
 rcases h with rfl | rfl
 ·have : -2147483648 ≤ wrapT 6 n ∧ wrapT 6 n ≤ 2147483647 := by
    simp only [wrapT,if_true];unfold wrap64 wrap32;omega
  simpa [chk] using this
 ·simp [chk]
end Go.Proofs.YtekocmdfaaoggaaGreatDoor.Nu
namespace Go.Proofs.YtekocmdfaaoggaaGreatDoor.Nu
open Go.RowKit
end Go.Proofs.YtekocmdfaaoggaaGreatDoor.Nu
