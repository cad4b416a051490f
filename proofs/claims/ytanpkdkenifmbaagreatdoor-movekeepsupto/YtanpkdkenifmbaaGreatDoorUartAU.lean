/- A part. -/
import Derived.Test.YtanpkdkenifmbaaGreatDoorUartAT
import Derived.Test.YtanpkdkenifmbaaGreatDoorUartAR
import Derived.Test.YtanpkdkenifmbaaGreatDoorUartAS
set_option maxHeartbeats 2000000
namespace Go.Proofs.YtanpkdkenifmbaaGreatDoor.Nu
open Go.RowKit
theorem jq9 (x : Nat) : Extern.MathSqrt.sqrt #[.float .f64 x] = (match FloatKind.f64.format.sqrt x with
    | some r=>pure (.float .f64 r)
    | none=>do pure (.float .f64 (← choose (.nanBits .f64 x x)))):=rfl
theorem jdX (x:Nat) (w:World):∃ r n,(callFunc 159 #[.float .f64 x]).run Tryz.prog w=.ok (.value (.float .f64 r)) (w.drewN n):=by
 have e:(callFunc 159 #[.float .f64 x]).run Tryz.prog w=((Extern.MathSqrt.sqrt #[.float .f64 x]).run Tryz.prog w).andThen fun v w'=>.ok (.value v) w' :=
  run_callFunc_extern (fn:=Tryz.f159) (by kernel_rfl) (by kernel_rfl) (by kernel_rfl) (by kernel_rfl) (by kernel_rfl) _ _
 rw [e,jq9]
 cases h:FloatKind.f64.format.sqrt x with
 | some r=>exact ⟨r,0,by simp;rfl⟩
 | none=>exact ⟨_,1,by simp [Question.forced];exact ⟨rfl,rfl⟩⟩
theorem jdn (x:Nat) (w:World):∃ r n,(callFunc 160 #[.float .f64 x]).run Tryz.prog w=.ok (.value (.float .f64 r)) (w.drewN n):=by
 have e : (callFunc 160 #[.float .f64 x]).run Tryz.prog w = ((Extern.MathFloor.toIntegral "math.archFloor" .down #[.float .f64 x]).run Tryz.prog w).andThen fun v w' => .ok (.value v) w' :=
  run_callFunc_extern (fn:=Tryz.f160) (by kernel_rfl) (by kernel_rfl) (by kernel_rfl) (by kernel_rfl) (by kernel_rfl) _ _
 rw [e]
 have e2 : ∃ q : Question, q.forced = false ∧ Extern.MathFloor.toIntegral "math.archFloor" .down #[.float .f64 x] = (match FloatKind.f64.decode x with
  | .nan s t =>
   if FloatKind.f64.format.quiet t=t then pure (.float .f64 x) else do
   let kept ← choose q
   pure (.float .f64 (if kept==1 then x else FloatKind.f64.encode (.nan s (FloatKind.f64.format.quiet t))))
  | d=>pure (.float .f64 (FloatKind.f64.encode (d.integral .down)))):=⟨_,by decide,rfl⟩
 obtain ⟨q,hq,e2⟩:=e2;rw [e2]
 cases h:FloatKind.f64.decode x with
 | number s m i=>exact ⟨_,0,by simp;exact ⟨rfl,rfl⟩⟩
 | infinity s=>exact ⟨_,0,by simp;exact ⟨rfl,rfl⟩⟩
 | nan s t =>
  by_cases ht:FloatKind.f64.format.quiet t=t
  ·exact ⟨_,0,by simp [ht];exact ⟨rfl,rfl⟩⟩
  ·exact ⟨_,1,by simp [ht,hq];exact ⟨rfl,rfl⟩⟩
theorem jpc:∃ (r:Nat→World→Nat) (n:Nat→World→Nat),∀ x w,(callFunc 159 #[.float .f64 x]).run Tryz.prog w=.ok (.value (.float .f64 (r x w))) (w.drewN (n x w)) :=
 ⟨fun x w=>Classical.choose (jdX x w),fun x w=>Classical.choose (Classical.choose_spec (jdX x w)),fun x w=>Classical.choose_spec (Classical.choose_spec (jdX x w))⟩
theorem jm5:∃ (r:Nat→World→Nat) (n:Nat→World→Nat),∀ x w,(callFunc 160 #[.float .f64 x]).run Tryz.prog w=.ok (.value (.float .f64 (r x w))) (w.drewN (n x w)) :=
 ⟨fun x w=>Classical.choose (jdn x w),fun x w=>Classical.choose (Classical.choose_spec (jdn x w)),fun x w=>Classical.choose_spec (Classical.choose_spec (jdn x w))⟩
theorem jiU (b:Nat) (w:World):(convert 161 171 (.float .f32 b)).run Tryz.prog w=.ok (.float .f64 (jqV .f32 .f64 b w)) (w.drewN (cdr .f32 .f64 b)):=jjL w _ _ _ _ _ (by kernel_rfl) (by kernel_rfl)
theorem jfn (b:Nat) (w:World):(convert 171 161 (.float .f64 b)).run Tryz.prog w=.ok (.float .f32 (jqV .f64 .f32 b w)) (w.drewN (cdr .f64 .f32 b)):=jjL w _ _ _ _ _ (by kernel_rfl) (by kernel_rfl)
theorem jg9 (b:Nat) (w:World):(convert 171 3 (.float .f64 b)).run Tryz.prog w=.ok (.int .i64 (ival .f64 .i64 b w)) (w.drewN (idr .f64 .i64 b)):=joX w _ _ _ _ _ (by kernel_rfl) (by kernel_rfl)
theorem jew (b:Nat) (w:World):(callFunc 175 #[.float .f64 b]).run Tryz.prog w=.ok (.value (.int .u64 b)) w:=by kernel_rfl
theorem jex (n:Int) (w:World):(callFunc 177 #[.int .u64 n]).run Tryz.prog w=.ok (.value (.float .f64 n.toNat)) w:=by kernel_rfl
attribute [local go_sem] jiU jfn jg9 jew jex jc0 jeb jg3 jg4 jg5 jg6 jg2
theorem jm6 (x:Nat) (w:World):Calls Tryz.prog 143 #[.float .f64 x] w fun e w'=>∃ r n,e=.returned (.float .f64 r)∧w'=w.drewN n:=by
 obtain ⟨r,n,h⟩:=jm5;go_enter Tryz.func143,Tryz.ntmps143;go_wp2;go_ret;exact ⟨_,_,rfl,rfl⟩
theorem jr4 (x:Nat) (w:World):Calls Tryz.prog 142 #[.float .f64 x] w fun e w'=>∃ r n,e=.returned (.float .f64 r)∧w'=w.drewN n:=by
 obtain ⟨r,n,h⟩:=jpc;go_enter Tryz.func142,Tryz.ntmps142;go_wp2;go_ret;exact ⟨_,_,rfl,rfl⟩
theorem jiV (x:Nat) (w:World):Calls Tryz.prog 174 #[.float .f64 x] w fun e w'=>∃ r m n,e=.returned (.tuple #[.float .f64 r,.int .i64 m])∧w'=w.drewN n:=by
 go_enter Tryz.func174,Tryz.ntmps174;go_wp2
 all_goals
  go_ret2
  first | exact ⟨_,_,0,rfl,rfl⟩ | exact ⟨_,_,_,rfl,rfl⟩
theorem jkO (x y:Nat) (w:World):Calls Tryz.prog 173 #[.float .f64 x,.float .f64 y] w fun e w'=>∃ r n,e=.returned (.float .f64 r)∧w'=w.drewN n:=by
 go_enter Tryz.func173,Tryz.ntmps173;go_wp2
 all_goals
  go_ret;exact ⟨_,0,rfl,rfl⟩
end Go.Proofs.YtanpkdkenifmbaaGreatDoor.Nu
namespace Go.Proofs.YtanpkdkenifmbaaGreatDoor.Nu
open Go.RowKit
attribute [local go_sem] jiU jfn jg9 jew jex jc0 jeb jg3 jg4 jg5 jg6 jg2
theorem jra (x:Nat) (m:Int) (w:World):Calls Tryz.prog 170 #[.float .f64 x,.int .i64 m] w fun e w'=>∃ r n,e=.returned (.float .f64 r)∧w'=w.drewN n:=by
 go_enter Tryz.func170,Tryz.ntmps170;go_wp2_with (first | (go_at_call 174;refine (jiV _ _).mono ?_;rintro e w' ⟨r,m,n,rfl,rfl⟩) | (go_at_call 173;refine (jkO _ _ _).mono ?_;rintro e w' ⟨r,n,rfl,rfl⟩) | go_in)
 all_goals
  go_ret
  first | exact ⟨_,0,rfl,rfl⟩ | exact ⟨_,_,rfl,rfl⟩
theorem jrb (x:Nat) (m:Int) (w:World):Calls Tryz.prog 162 #[.float .f64 x,.int .i64 m] w fun e w'=>∃ r n,e=.returned (.float .f64 r)∧w'=w.drewN n:=by
 go_enter Tryz.func162,Tryz.ntmps162;go_wp2_with (first | (go_at_call 170;refine (jra _ _ _).mono ?_;rintro e w' ⟨r,n,rfl,rfl⟩) | go_in);go_ret;exact ⟨_,_,rfl,rfl⟩
theorem jrc (x:Nat) (w:World) (hx:x<4294967296):Calls Tryz.prog 144 #[.float .f32 x] w fun e w'=>∃ r n,r<4294967296∧e=.returned (.float .f32 r)∧w'=w.drewN n:=by
 cases h1:(FloatKind.f32.format.order x x != some .eq) with
 | true =>
  go_enter Tryz.func144,Tryz.ntmps144;go_wp2;go_ret;exact ⟨x,0,hx,rfl,rfl⟩
 | false =>
  cases h2:(FloatKind.f32.format.order x 1118961664==some .gt) with
  | true =>
   go_enter Tryz.func144,Tryz.ntmps144;go_wp2_with (first | (go_at_call 129;refine (ja0 _ _).mono ?_;rintro e w' ⟨rfl,rfl⟩) | go_in);go_ret;exact ⟨_,0,jdW _,rfl,rfl⟩
  | false =>
   cases h3:(FloatKind.f32.format.order x 3268542464==some .lt) with
   | true =>
    go_enter Tryz.func144,Tryz.ntmps144;go_wp2;go_ret;exact ⟨0,0,by decide,rfl,rfl⟩
   | false =>
    go_enter Tryz.func144,Tryz.ntmps144;go_wp2_with (first | (go_at_call 143;refine (jm6 _ _).mono ?_;rintro e w' ⟨kf,n1,rfl,rfl⟩) | fail);go_loopw [6,7] (fun p i w'=>∃ (k r n:Nat),k≤13∧i=.int .i64 k∧p=.float .f64 r∧w'=w.drewN n) (fun _ i _=>(intOf i).toNat)
    case atStart=>exact ⟨13,_,_,Nat.le_refl _,rfl,rfl,rfl⟩
    case round =>
     obtain ⟨k,r,n,hk,rfl,rfl,rfl⟩:=hrel
     by_cases hlt:1≤k
     ·go_wp2;go_roundw
      case rel=>exact ⟨k - 1,_,_,by omega,by go_num,rfl,rfl⟩
      case measure=>simp [intOf];omega
     ·go_wp2_with (first | (go_at_call 162;refine (jrb _ _ _).mono ?_;rintro e w' ⟨rl,nl,rfl,rfl⟩) | (go_at_call 129;refine (ja0 _ _).mono ?_;rintro e w' ⟨rfl,rfl⟩) | go_in)
      all_goals
       go_ret
       first | exact ⟨_,_,jdW _,rfl,rfl⟩ | exact ⟨_,_,jfk _ _,rfl,rfl⟩
end Go.Proofs.YtanpkdkenifmbaaGreatDoor.Nu
namespace Go.Proofs.YtanpkdkenifmbaaGreatDoor.Nu
open Go.RowKit
attribute [local go_sem] jiU jfn jg9 jew jex jc0 jeb jg3 jg4 jg5 jg6 jg2
theorem jiW (op:BinOp) (a b:Int):(bits op .u32 a b).toNat<4294967296:=by
 unfold bits;rw [IntKind.wrap_u32'];omega
theorem jqr (x y:Nat) (w:World):Calls Tryz.prog 163 #[.float .f32 x,.float .f32 y] w fun e w'=>∃ r,r<4294967296∧e=.returned (.float .f32 r)∧w'=w:=by
 go_enter Tryz.func163,Tryz.ntmps163;go_wp2;go_ret;exact ⟨_,jiW _ _ _,rfl,rfl⟩
theorem jm7 (x:Nat) (w:World) (hx:x<4294967296):Calls Tryz.prog 145 #[.float .f32 x] w fun e w'=>∃ r n,r<4294967296∧e=.returned (.float .f32 r)∧w'=w.drewN n:=by
 have hn:=jmc x hx;go_enter Tryz.func145,Tryz.ntmps145;go_wp2_with (first | (go_at_call 144;refine (jrc _ _ hn).mono ?_;rintro e w' ⟨r,n,hr,rfl,rfl⟩) | go_in);go_ret;exact ⟨_,_,jmd _ _ _ _,rfl,rfl⟩
theorem jr5 (x:Nat) (w:World) (hx:x<4294967296):Calls Tryz.prog 146 #[.float .f32 x] w fun e w'=>∃ r n,r<4294967296∧e=.returned (.float .f32 r)∧w'=w.drewN n:=by
 cases h1:(FloatKind.f32.format.order (jqS x) 1092616192==some .gt) with
 | true =>
  go_enter Tryz.func146,Tryz.ntmps146;go_wp2_with (first | (go_at_call 140;refine (jdm _ _ hx).mono ?_;rintro e w' ⟨rfl,rfl⟩) | (go_at_call 163;refine (jqr _ _ _).mono ?_;rintro e w' ⟨rs,hs,rfl,rfl⟩) | go_in);go_ret;exact ⟨_,0,‹_›,rfl,rfl⟩
 | false =>
  go_enter Tryz.func146,Tryz.ntmps146;go_wp2_with (first | (go_at_call 140;refine (jdm _ _ hx).mono ?_;rintro e w' ⟨rfl,rfl⟩) | (go_at_call 144;refine (jrc _ _ (jmd _ _ _ _)).mono ?_;rintro e w' ⟨r,n,hr,rfl,rfl⟩) | (go_at_call 163;refine (jqr _ _ _).mono ?_;rintro e w' ⟨rs,hs,rfl,rfl⟩) | go_in);go_ret;exact ⟨_,_,‹_›,rfl,rfl⟩
theorem jpd (b:Nat) (w:World) (_hb:b<4294967296):Calls Tryz.prog 128 #[.string ⟨#[83,113,114,116]⟩,.float .f32 b] w fun e w'=>∃ r n,r<4294967296∧e=.returned (.tuple #[.int .i64 (tob r),.int .i64 0])∧w'=w.drewN n:=by
 go_enter Tryz.func128,Tryz.ntmps128;go_wp2_with (first | (go_at_call 142;refine (jr4 _ _).mono ?_;rintro e w' ⟨r,n,rfl,rfl⟩) | (go_at_call 139;refine (jbS _ _ (jfk _ _)).mono ?_;rintro e w' ⟨rfl,rfl⟩) | go_in);go_ret2;exact ⟨_,_,jfk _ _,rfl,rfl⟩
theorem jpe (b:Nat) (w:World) (_hb:b<4294967296):Calls Tryz.prog 128 #[.string ⟨#[70,108,111,111,114]⟩,.float .f32 b] w fun e w'=>∃ r n,r<4294967296∧e=.returned (.tuple #[.int .i64 (tob r),.int .i64 0])∧w'=w.drewN n:=by
 go_enter Tryz.func128,Tryz.ntmps128;go_wp2_with (first | (go_at_call 143;refine (jm6 _ _).mono ?_;rintro e w' ⟨r,n,rfl,rfl⟩) | (go_at_call 139;refine (jbS _ _ (jfk _ _)).mono ?_;rintro e w' ⟨rfl,rfl⟩) | go_in);go_ret2;exact ⟨_,_,jfk _ _,rfl,rfl⟩
theorem jpf (b:Nat) (w:World) (hb:b<4294967296):Calls Tryz.prog 128 #[.string ⟨#[69,120,112]⟩,.float .f32 b] w fun e w'=>∃ r n,r<4294967296∧e=.returned (.tuple #[.int .i64 (tob r),.int .i64 0])∧w'=w.drewN n:=by
 go_enter Tryz.func128,Tryz.ntmps128;go_wp2_with (first | (go_at_call 144;refine (jrc _ _ hb).mono ?_;rintro e w' ⟨r,n,hr,rfl,rfl⟩) | (go_at_call 139;refine (jbS _ _ (by assumption)).mono ?_;rintro e w' ⟨rfl,rfl⟩) | go_in);go_ret2;exact ⟨_,_,‹_›,rfl,rfl⟩
theorem jpg (b:Nat) (w:World) (hb:b<4294967296):Calls Tryz.prog 128 #[.string ⟨#[83,105,103,109,111,105,100]⟩,.float .f32 b] w fun e w'=>∃ r n,r<4294967296∧e=.returned (.tuple #[.int .i64 (tob r),.int .i64 0])∧w'=w.drewN n:=by
 go_enter Tryz.func128,Tryz.ntmps128;go_wp2_with (first | (go_at_call 145;refine (jm7 _ _ hb).mono ?_;rintro e w' ⟨r,n,hr,rfl,rfl⟩) | (go_at_call 139;refine (jbS _ _ (by assumption)).mono ?_;rintro e w' ⟨rfl,rfl⟩) | go_in);go_ret2;exact ⟨_,_,‹_›,rfl,rfl⟩
theorem jph (b:Nat) (w:World) (hb:b<4294967296):Calls Tryz.prog 128 #[.string ⟨#[84,97,110,104]⟩,.float .f32 b] w fun e w'=>∃ r n,r<4294967296∧e=.returned (.tuple #[.int .i64 (tob r),.int .i64 0])∧w'=w.drewN n:=by
 go_enter Tryz.func128,Tryz.ntmps128;go_wp2_with (first | (go_at_call 146;refine (jr5 _ _ hb).mono ?_;rintro e w' ⟨r,n,hr,rfl,rfl⟩) | (go_at_call 139;refine (jbS _ _ (by assumption)).mono ?_;rintro e w' ⟨rfl,rfl⟩) | go_in);go_ret2;exact ⟨_,_,‹_›,rfl,rfl⟩
theorem unary5_1 (x:Int) (w:World) (hx:chk 1 x=true):Calls Tryz.prog 109 #[.string ⟨#[83,113,114,116]⟩,.int .i64 1,.int .i64 x] w fun e w'=>∃ r n,r<4294967296∧e=.returned (.tuple #[.int .i64 (tob r),.int .i64 0])∧w'=w.drewN n:=by
 go_enter Tryz.func109,Tryz.ntmps109;go_wp2_with (first | (go_at_call 50;refine (jak _ _ _).mono ?_;rintro e w' ⟨rfl,rfl⟩) | (go_at_call 129;refine (ja0 _ _).mono ?_;rintro e w' ⟨rfl,rfl⟩) | (go_at_call 128;refine (jpd _ _ (jdW _)).mono ?_;rintro e w' ⟨r,n,hr,rfl,rfl⟩));go_ret2;exact ⟨_,_,‹_›,rfl,rfl⟩
theorem unary6_1 (x:Int) (w:World) (hx:chk 1 x=true):Calls Tryz.prog 109 #[.string ⟨#[70,108,111,111,114]⟩,.int .i64 1,.int .i64 x] w fun e w'=>∃ r n,r<4294967296∧e=.returned (.tuple #[.int .i64 (tob r),.int .i64 0])∧w'=w.drewN n:=by
 go_enter Tryz.func109,Tryz.ntmps109;go_wp2_with (first | (go_at_call 50;refine (jak _ _ _).mono ?_;rintro e w' ⟨rfl,rfl⟩) | (go_at_call 129;refine (ja0 _ _).mono ?_;rintro e w' ⟨rfl,rfl⟩) | (go_at_call 128;refine (jpe _ _ (jdW _)).mono ?_;rintro e w' ⟨r,n,hr,rfl,rfl⟩));go_ret2;exact ⟨_,_,‹_›,rfl,rfl⟩
theorem unary7_1 (x:Int) (w:World) (hx:chk 1 x=true):Calls Tryz.prog 109 #[.string ⟨#[69,120,112]⟩,.int .i64 1,.int .i64 x] w fun e w'=>∃ r n,r<4294967296∧e=.returned (.tuple #[.int .i64 (tob r),.int .i64 0])∧w'=w.drewN n:=by
 go_enter Tryz.func109,Tryz.ntmps109;go_wp2_with (first | (go_at_call 50;refine (jak _ _ _).mono ?_;rintro e w' ⟨rfl,rfl⟩) | (go_at_call 129;refine (ja0 _ _).mono ?_;rintro e w' ⟨rfl,rfl⟩) | (go_at_call 128;refine (jpf _ _ (jdW _)).mono ?_;rintro e w' ⟨r,n,hr,rfl,rfl⟩));go_ret2;exact ⟨_,_,‹_›,rfl,rfl⟩
theorem unary8_1 (x:Int) (w:World) (hx:chk 1 x=true):Calls Tryz.prog 109 #[.string ⟨#[83,105,103,109,111,105,100]⟩,.int .i64 1,.int .i64 x] w fun e w'=>∃ r n,r<4294967296∧e=.returned (.tuple #[.int .i64 (tob r),.int .i64 0])∧w'=w.drewN n:=by
 go_enter Tryz.func109,Tryz.ntmps109;go_wp2_with (first | (go_at_call 50;refine (jak _ _ _).mono ?_;rintro e w' ⟨rfl,rfl⟩) | (go_at_call 129;refine (ja0 _ _).mono ?_;rintro e w' ⟨rfl,rfl⟩) | (go_at_call 128;refine (jpg _ _ (jdW _)).mono ?_;rintro e w' ⟨r,n,hr,rfl,rfl⟩));go_ret2;exact ⟨_,_,‹_›,rfl,rfl⟩
theorem unary9_1 (x:Int) (w:World) (hx:chk 1 x=true):Calls Tryz.prog 109 #[.string ⟨#[84,97,110,104]⟩,.int .i64 1,.int .i64 x] w fun e w'=>∃ r n,r<4294967296∧e=.returned (.tuple #[.int .i64 (tob r),.int .i64 0])∧w'=w.drewN n:=by
 go_enter Tryz.func109,Tryz.ntmps109;go_wp2_with (first | (go_at_call 50;refine (jak _ _ _).mono ?_;rintro e w' ⟨rfl,rfl⟩) | (go_at_call 129;refine (ja0 _ _).mono ?_;rintro e w' ⟨rfl,rfl⟩) | (go_at_call 128;refine (jph _ _ (jdW _)).mono ?_;rintro e w' ⟨r,n,hr,rfl,rfl⟩));go_ret2;exact ⟨_,_,‹_›,rfl,rfl⟩
end Go.Proofs.YtanpkdkenifmbaaGreatDoor.Nu
namespace Go.Proofs.YtanpkdkenifmbaaGreatDoor.Nu
open Go.RowKit
end Go.Proofs.YtanpkdkenifmbaaGreatDoor.Nu
