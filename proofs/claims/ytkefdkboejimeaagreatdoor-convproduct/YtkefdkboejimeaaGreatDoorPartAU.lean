/- A part. -/
import Derived.Test.YtkefdkboejimeaaGreatDoorPartAS
set_option maxHeartbeats 1000000
namespace Go.Proofs.YtkefdkboejimeaaGreatDoor.Nu
open Go.RowKit
attribute [local go_sem] jhJ jeQ jfY jdV jdW jdv jdw jfM jfN jfO jfP jfL
theorem jhL (op : BinOp) (a b : Int) : (bits op .u32 a b).toNat < 4294967296 := by
 unfold bits
 rw [IntKind.wrap_u32']
 omega
theorem jn8 (x y : Nat) (w : World) : Calls Tryz.prog 199 #[.float .f32 x, .float .f32 y] w fun e w' => ∃ r, r < 4294967296 ∧ e = .returned (.float .f32 r) ∧ w' = w := by
 go_enter Tryz.func199, Tryz.ntmps199
 go_wp2
 go_ret
 exact ⟨_, jhL _ _ _, rfl, rfl⟩
theorem jk1 (x : Nat) (w : World) (hx : x < 4294967296) : Calls Tryz.prog 189 #[.float .f32 x] w fun e w' => ∃ r n, r < 4294967296 ∧ e = .returned (.float .f32 r) ∧ w' = w.drewN n := by
 have hn := jkj x hx
 go_enter Tryz.func189, Tryz.ntmps189
 go_wp2_with (first | (go_at_call 188; refine (jo2 _ _ hn).mono ?_; rintro e w' ⟨r, n, hr, rfl, rfl⟩) | go_in)
 go_ret
 exact ⟨_, _, jkk _ _ _ _, rfl, rfl⟩
theorem jpX (x : Nat) (w : World) (hx : x < 4294967296) : Calls Tryz.prog 190 #[.float .f32 x] w fun e w' => ∃ r n, r < 4294967296 ∧ e = .returned (.float .f32 r) ∧ w' = w.drewN n := by
 cases h1 : (FloatKind.f32.format.order (joF x) 1092616192 == some .gt) with
 | true =>
  go_enter Tryz.func190, Tryz.ntmps190
  go_wp2_with (first | (go_at_call 184; refine (jcP _ _ hx).mono ?_; rintro e w' ⟨rfl, rfl⟩) | (go_at_call 199; refine (jn8 _ _ _).mono ?_; rintro e w' ⟨rs, hs, rfl, rfl⟩) | go_in)
  go_ret
  exact ⟨_, 0, ‹_›, rfl, rfl⟩
 | false =>
  go_enter Tryz.func190, Tryz.ntmps190
  go_wp2_with (first | (go_at_call 184; refine (jcP _ _ hx).mono ?_; rintro e w' ⟨rfl, rfl⟩) | (go_at_call 188; refine (jo2 _ _ (jkk _ _ _ _)).mono ?_; rintro e w' ⟨r, n, hr, rfl, rfl⟩) | (go_at_call 199; refine (jn8 _ _ _).mono ?_; rintro e w' ⟨rs, hs, rfl, rfl⟩) | go_in)
  go_ret
  exact ⟨_, _, ‹_›, rfl, rfl⟩
theorem jm6 (b : Nat) (w : World) (_hb : b < 4294967296) : Calls Tryz.prog 180 #[.string ⟨#[83, 113, 114, 116]⟩, .float .f32 b] w fun e w' => ∃ r n, r < 4294967296 ∧ e = .returned (.tuple #[.int .i64 (tob r), .int .i64 0]) ∧ w' = w.drewN n := by
 go_enter Tryz.func180, Tryz.ntmps180
 go_wp2_with (first | (go_at_call 186; refine (jpW _ _).mono ?_; rintro e w' ⟨r, n, rfl, rfl⟩) | (go_at_call 44; refine (jch _ _ (jeF _ _)).mono ?_; rintro e w' ⟨rfl, rfl⟩) | go_in)
 go_ret2
 exact ⟨_, _, jeF _ _, rfl, rfl⟩
theorem jm7 (b : Nat) (w : World) (_hb : b < 4294967296) : Calls Tryz.prog 180 #[.string ⟨#[70, 108, 111, 111, 114]⟩, .float .f32 b] w fun e w' => ∃ r n, r < 4294967296 ∧ e = .returned (.tuple #[.int .i64 (tob r), .int .i64 0]) ∧ w' = w.drewN n := by
 go_enter Tryz.func180, Tryz.ntmps180
 go_wp2_with (first | (go_at_call 187; refine (jkZ _ _).mono ?_; rintro e w' ⟨r, n, rfl, rfl⟩) | (go_at_call 44; refine (jch _ _ (jeF _ _)).mono ?_; rintro e w' ⟨rfl, rfl⟩) | go_in)
 go_ret2
 exact ⟨_, _, jeF _ _, rfl, rfl⟩
theorem jm8 (b : Nat) (w : World) (hb : b < 4294967296) : Calls Tryz.prog 180 #[.string ⟨#[69, 120, 112]⟩, .float .f32 b] w fun e w' => ∃ r n, r < 4294967296 ∧ e = .returned (.tuple #[.int .i64 (tob r), .int .i64 0]) ∧ w' = w.drewN n := by
 go_enter Tryz.func180, Tryz.ntmps180
 go_wp2_with (first | (go_at_call 188; refine (jo2 _ _ hb).mono ?_; rintro e w' ⟨r, n, hr, rfl, rfl⟩) | (go_at_call 44; refine (jch _ _ (by assumption)).mono ?_; rintro e w' ⟨rfl, rfl⟩) | go_in)
 go_ret2
 exact ⟨_, _, ‹_›, rfl, rfl⟩
theorem jm9 (b : Nat) (w : World) (hb : b < 4294967296) : Calls Tryz.prog 180 #[.string ⟨#[83, 105, 103, 109, 111, 105, 100]⟩, .float .f32 b] w fun e w' => ∃ r n, r < 4294967296 ∧ e = .returned (.tuple #[.int .i64 (tob r), .int .i64 0]) ∧ w' = w.drewN n := by
 go_enter Tryz.func180, Tryz.ntmps180
 go_wp2_with (first | (go_at_call 189; refine (jk1 _ _ hb).mono ?_; rintro e w' ⟨r, n, hr, rfl, rfl⟩) | (go_at_call 44; refine (jch _ _ (by assumption)).mono ?_; rintro e w' ⟨rfl, rfl⟩) | go_in)
 go_ret2
 exact ⟨_, _, ‹_›, rfl, rfl⟩
theorem jna (b : Nat) (w : World) (hb : b < 4294967296) : Calls Tryz.prog 180 #[.string ⟨#[84, 97, 110, 104]⟩, .float .f32 b] w fun e w' => ∃ r n, r < 4294967296 ∧ e = .returned (.tuple #[.int .i64 (tob r), .int .i64 0]) ∧ w' = w.drewN n := by
 go_enter Tryz.func180, Tryz.ntmps180
 go_wp2_with (first | (go_at_call 190; refine (jpX _ _ hb).mono ?_; rintro e w' ⟨r, n, hr, rfl, rfl⟩) | (go_at_call 44; refine (jch _ _ (by assumption)).mono ?_; rintro e w' ⟨rfl, rfl⟩) | go_in)
 go_ret2
 exact ⟨_, _, ‹_›, rfl, rfl⟩
theorem unary5_1 (x : Int) (w : World) (hx : chk 1 x = true) : Calls Tryz.prog 162 #[.string ⟨#[83, 113, 114, 116]⟩, .int .i64 1, .int .i64 x] w fun e w' => ∃ r n, r < 4294967296 ∧ e = .returned (.tuple #[.int .i64 (tob r), .int .i64 0]) ∧ w' = w.drewN n := by
 go_enter Tryz.func162, Tryz.ntmps162
 go_wp2_with (first | (go_at_call 19; refine (jan _ _ _).mono ?_; rintro e w' ⟨rfl, rfl⟩) | (go_at_call 21; refine (jbn _ _).mono ?_; rintro e w' ⟨rfl, rfl⟩) | (go_at_call 180; refine (jm6 _ _ (fb_lt _)).mono ?_; rintro e w' ⟨r, n, hr, rfl, rfl⟩))
 go_ret2
 exact ⟨_, _, ‹_›, rfl, rfl⟩
theorem unary6_1 (x : Int) (w : World) (hx : chk 1 x = true) : Calls Tryz.prog 162 #[.string ⟨#[70, 108, 111, 111, 114]⟩, .int .i64 1, .int .i64 x] w fun e w' => ∃ r n, r < 4294967296 ∧ e = .returned (.tuple #[.int .i64 (tob r), .int .i64 0]) ∧ w' = w.drewN n := by
 go_enter Tryz.func162, Tryz.ntmps162
 go_wp2_with (first | (go_at_call 19; refine (jan _ _ _).mono ?_; rintro e w' ⟨rfl, rfl⟩) | (go_at_call 21; refine (jbn _ _).mono ?_; rintro e w' ⟨rfl, rfl⟩) | (go_at_call 180; refine (jm7 _ _ (fb_lt _)).mono ?_; rintro e w' ⟨r, n, hr, rfl, rfl⟩))
 go_ret2
 exact ⟨_, _, ‹_›, rfl, rfl⟩
theorem unary7_1 (x : Int) (w : World) (hx : chk 1 x = true) : Calls Tryz.prog 162 #[.string ⟨#[69, 120, 112]⟩, .int .i64 1, .int .i64 x] w fun e w' => ∃ r n, r < 4294967296 ∧ e = .returned (.tuple #[.int .i64 (tob r), .int .i64 0]) ∧ w' = w.drewN n := by
 go_enter Tryz.func162, Tryz.ntmps162
 go_wp2_with (first | (go_at_call 19; refine (jan _ _ _).mono ?_; rintro e w' ⟨rfl, rfl⟩) | (go_at_call 21; refine (jbn _ _).mono ?_; rintro e w' ⟨rfl, rfl⟩) | (go_at_call 180; refine (jm8 _ _ (fb_lt _)).mono ?_; rintro e w' ⟨r, n, hr, rfl, rfl⟩))
 go_ret2
 exact ⟨_, _, ‹_›, rfl, rfl⟩
theorem unary8_1 (x : Int) (w : World) (hx : chk 1 x = true) : Calls Tryz.prog 162 #[.string ⟨#[83, 105, 103, 109, 111, 105, 100]⟩, .int .i64 1, .int .i64 x] w fun e w' => ∃ r n, r < 4294967296 ∧ e = .returned (.tuple #[.int .i64 (tob r), .int .i64 0]) ∧ w' = w.drewN n := by
 go_enter Tryz.func162, Tryz.ntmps162
 go_wp2_with (first | (go_at_call 19; refine (jan _ _ _).mono ?_; rintro e w' ⟨rfl, rfl⟩) | (go_at_call 21; refine (jbn _ _).mono ?_; rintro e w' ⟨rfl, rfl⟩) | (go_at_call 180; refine (jm9 _ _ (fb_lt _)).mono ?_; rintro e w' ⟨r, n, hr, rfl, rfl⟩))
 go_ret2
 exact ⟨_, _, ‹_›, rfl, rfl⟩
theorem unary9_1 (x : Int) (w : World) (hx : chk 1 x = true) : Calls Tryz.prog 162 #[.string ⟨#[84, 97, 110, 104]⟩, .int .i64 1, .int .i64 x] w fun e w' => ∃ r n, r < 4294967296 ∧ e = .returned (.tuple #[.int .i64 (tob r), .int .i64 0]) ∧ w' = w.drewN n := by
 go_enter Tryz.func162, Tryz.ntmps162
 go_wp2_with (first | (go_at_call 19; refine (jan _ _ _).mono ?_; rintro e w' ⟨rfl, rfl⟩) | (go_at_call 21; refine (jbn _ _).mono ?_; rintro e w' ⟨rfl, rfl⟩) | (go_at_call 180; refine (jna _ _ (fb_lt _)).mono ?_; rintro e w' ⟨r, n, hr, rfl, rfl⟩))
 go_ret2
 exact ⟨_, _, ‹_›, rfl, rfl⟩
end Go.Proofs.YtkefdkboejimeaaGreatDoor.Nu
