/- A part. -/
import Derived.Test.YtkefdkboejimeaaGreatDoorRows
import Derived.Test.YtkefdkboejimeaaGreatDoorPartAL
set_option maxHeartbeats 2000000
namespace Go.Proofs.YtkefdkboejimeaaGreatDoor.Nu
open Go.RowKit
theorem jan (t x : Int) (w : World) : Calls Tryz.prog 19 #[.int .i64 t, .int .i64 x] w fun e w' => e = .returned (.bool (chk t x)) ∧ w' = w := by
 by_cases h1 : t = 1
 ·have c : chk t x = (decide (0 ≤ x) && (decide (x < 4294967296) && (x == 2143289344 || decide (x % 2147483648 ≤ 2139095040)))) := by
    rw [jdq t x h1, Bool.eq_iff_iff]; simp
  have h1' : (t == 1) = true := by simpa using h1
  clear h1
  by_cases hx0 : 0 ≤ x
  ·by_cases hx1 : x < 4294967296
   ·have a := jdQ x hx0 hx1
    by_cases hx2 : x = 2143289344
    ·have c' : chk t x = true := by rw [c]; simp [hx2]
     rw [c']; clear c c'; subst hx2
     go_enter Tryz.func19, Tryz.ntmps19
     go_wp2
     go_ret
     exact ⟨rfl, rfl⟩
    ·have c' : chk t x = decide (x % 2147483648 ≤ 2139095040) := by rw [c]; simp [hx0, hx1, hx2]
     rw [c']; clear c c'
     have hx2' : (x == 2143289344) = false := by simpa using hx2
     clear hx2
     go_enter Tryz.func19, Tryz.ntmps19
     go_wp2
     go_ret
     exact ⟨rfl, rfl⟩
   ·have c' : chk t x = false := by rw [c]; simp [hx1]
    rw [c']; clear c c'
    go_enter Tryz.func19, Tryz.ntmps19
    go_wp2
    go_ret
    exact ⟨rfl, rfl⟩
  ·have c' : chk t x = false := by rw [c]; simp [hx0]
   rw [c']; clear c c'
   go_enter Tryz.func19, Tryz.ntmps19
   go_wp2
   go_ret
   exact ⟨rfl, rfl⟩
 ·have h1' : (t == 1) = false := by simpa using h1
  by_cases h6 : t = 6
  ·have h6' : (t == 6) = true := by simpa using h6
   have c : chk t x = (x == wrap64 (wrap32 x)) := by rw [chk6]; simp [chk, h6]
   rw [c]; clear c h1 h6
   go_enter Tryz.func19, Tryz.ntmps19
   go_wp2
   go_ret
   exact ⟨rfl, rfl⟩
  ·have h6' : (t == 6) = false := by simpa using h6
   by_cases h7 : t = 7
   ·have h7' : (t == 7) = true := by simpa using h7
    have c : chk t x = true := by simp [chk, h7]
    rw [c]; clear c h1 h6 h7
    go_enter Tryz.func19, Tryz.ntmps19
    go_wp2
    go_ret
    exact ⟨rfl, rfl⟩
   ·have h7' : (t == 7) = false := by simpa using h7
    by_cases h9 : t = 9
    ·have h9' : (t == 9) = true := by simpa using h9
     have c : chk t x = (x == 0 || x == 1) := by rw [Bool.eq_iff_iff]; simp [chk, h9]
     by_cases hx0 : x = 0
     ·have c' : chk t x = true := by rw [c]; simp [hx0]
      rw [c']; clear c c' h1 h6 h7 h9; subst hx0
      go_enter Tryz.func19, Tryz.ntmps19
      go_wp2
      go_ret
      exact ⟨rfl, rfl⟩
     ·have hx0' : (x == 0) = false := by simpa using hx0
      rw [c]; clear c h1 h6 h7 h9 hx0
      go_enter Tryz.func19, Tryz.ntmps19
      go_wp2
      go_ret
      exact ⟨by simp [hx0'], rfl⟩
    ·have h9' : (t == 9) = false := by simpa using h9
     have c : chk t x = false := by simp [chk, h1, h6, h7, h9]
     rw [c]; clear c h1 h6 h7 h9
     go_enter Tryz.func19, Tryz.ntmps19
     go_wp2
     go_ret
     exact ⟨rfl, rfl⟩
end Go.Proofs.YtkefdkboejimeaaGreatDoor.Nu
namespace Go.Proofs.YtkefdkboejimeaaGreatDoor.Nu
open Go.RowKit
theorem jdv (n : Int) (w : World) : (callFunc 47 #[.int .u32 n]).run Tryz.prog w = .ok (.value (.float .f32 n.toNat)) w := by kernel_rfl
theorem jdw (b : Nat) (w : World) : (callFunc 91 #[.float .f32 b]).run Tryz.prog w = .ok (.value (.int .u32 b)) w := by kernel_rfl
attribute [local go_sem] jdv jdw
theorem jbn (x : Int) (w : World) : Calls Tryz.prog 21 #[.int .i64 x] w fun e w' => e = .returned (.float .f32 (fb x)) ∧ w' = w := by
 go_enter Tryz.func21, Tryz.ntmps21
 go_wp2
 go_ret
 exact ⟨rfl, rfl⟩
theorem jch (b : Nat) (w : World) (hb : b < 4294967296) : Calls Tryz.prog 44 #[.float .f32 b] w fun e w' => e = .returned (.int .i64 (tob b)) ∧ w' = w := by
 by_cases h : (FloatKind.f32.format.order b b != some .eq) = true
 ·have c : tob b = 2143289344 := by unfold tob; rw [if_pos h]
  rw [c]; clear c
  go_enter Tryz.func44, Tryz.ntmps44
  go_wp2
  go_ret
  exact ⟨rfl, rfl⟩
 ·have c : tob b = b := by unfold tob; rw [if_neg h]
  have h' : (FloatKind.f32.format.order b b != some .eq) = false := by simpa using h
  rw [c]; clear c h
  go_enter Tryz.func44, Tryz.ntmps44
  go_wp2
  go_ret
  exact ⟨rfl, rfl⟩
theorem add_f (x y : Nat) (w : World) : Calls Tryz.prog 20 #[.string ⟨#[65, 100, 100]⟩, .float .f32 x, .float .f32 y] w fun e w' => e = .returned (.tuple #[.int .i64 (tobO (floatBits .add .f32 x y)), .int .i64 0]) ∧ ∃ n, w' = w.drewN n := by
 cases h : floatBits .add .f32 x y with
 | some r =>
  have hr : r < 4294967296 := Ieee.Format.add_lt _ h
  have hrun := fun w t => run_float_arith (P := Tryz.prog) w .add t .f32 x y r h
  show Calls _ _ _ _ fun e w' => e = .returned (.tuple #[.int .i64 (tob r), .int .i64 0]) ∧ ∃ n, w' = w.drewN n
  clear h
  go_enter Tryz.func20, Tryz.ntmps20
  go_wp2_with (first | (go_at_call 44; refine (jch _ _ hr).mono ?_; rintro e w' ⟨rfl, rfl⟩) | go_in)
  go_ret2
  exact ⟨rfl, 0, rfl⟩
 | none =>
  have hrun := fun w t => jde (P := Tryz.prog) w .add t x y (by decide) h
  show Calls _ _ _ _ fun e w' => e = .returned (.tuple #[.int .i64 2143289344, .int .i64 0]) ∧ ∃ n, w' = w.drewN n
  clear h
  go_enter Tryz.func20, Tryz.ntmps20
  go_wp2_with (first | (go_at_call 44; refine (jch _ _ (jj8 _ _ _)).mono ?_; rw [jj9]; rintro e w' ⟨rfl, rfl⟩) | go_in)
  go_ret2
  exact ⟨rfl, 1, rfl⟩
theorem mul_f (x y : Nat) (w : World) : Calls Tryz.prog 20 #[.string ⟨#[77, 117, 108]⟩, .float .f32 x, .float .f32 y] w fun e w' => e = .returned (.tuple #[.int .i64 (tobO (floatBits .mul .f32 x y)), .int .i64 0]) ∧ ∃ n, w' = w.drewN n := by
 cases h : floatBits .mul .f32 x y with
 | some r =>
  have hr : r < 4294967296 := Ieee.Format.mul_lt _ h
  have hrun := fun w t => run_float_arith (P := Tryz.prog) w .mul t .f32 x y r h
  show Calls _ _ _ _ fun e w' => e = .returned (.tuple #[.int .i64 (tob r), .int .i64 0]) ∧ ∃ n, w' = w.drewN n
  clear h
  go_enter Tryz.func20, Tryz.ntmps20
  go_wp2_with (first | (go_at_call 44; refine (jch _ _ hr).mono ?_; rintro e w' ⟨rfl, rfl⟩) | go_in)
  go_ret2
  exact ⟨rfl, 0, rfl⟩
 | none =>
  have hrun := fun w t => jde (P := Tryz.prog) w .mul t x y (by decide) h
  show Calls _ _ _ _ fun e w' => e = .returned (.tuple #[.int .i64 2143289344, .int .i64 0]) ∧ ∃ n, w' = w.drewN n
  clear h
  go_enter Tryz.func20, Tryz.ntmps20
  go_wp2_with (first | (go_at_call 44; refine (jch _ _ (jj8 _ _ _)).mono ?_; rw [jj9]; rintro e w' ⟨rfl, rfl⟩) | go_in)
  go_ret2
  exact ⟨rfl, 1, rfl⟩
end Go.Proofs.YtkefdkboejimeaaGreatDoor.Nu
namespace Go.Proofs.YtkefdkboejimeaaGreatDoor.Nu
open Go.RowKit
theorem jfX (x y r : Nat) (w : World) (hr : r < 4294967296) (hrun : ∀ (w : World) (ts : Array TypeId) (t : TypeId), (Builtin.max_ ts t #[.float .f32 x, .float .f32 y]).run Tryz.prog w = .ok (.float .f32 r) w) :
    Calls Tryz.prog 20 #[.string ⟨#[77, 97, 120]⟩, .float .f32 x, .float .f32 y] w fun e w' => e = .returned (.tuple #[.int .i64 (tob r), .int .i64 0]) ∧ ∃ n, w' = w.drewN n := by
     go_enter Tryz.func20, Tryz.ntmps20
     go_wp2_with (first | (go_at_call 44; refine (jch _ _ hr).mono ?_; rintro e w' ⟨rfl, rfl⟩) | go_in)
     go_ret2
     exact ⟨rfl, 0, rfl⟩
theorem jmR (x y : Nat) (w : World) (h : ord x y = none) :
    Calls Tryz.prog 20 #[.string ⟨#[77, 97, 120]⟩, .float .f32 x, .float .f32 y] w fun e w' => e = .returned (.tuple #[.int .i64 2143289344, .int .i64 0]) ∧ ∃ n, w' = w.drewN n := by
     have hrun := fun w ts t => jfH (P := Tryz.prog) w ts t x y h
     clear h
     go_enter Tryz.func20, Tryz.ntmps20
     go_wp2_with (first | (go_at_call 44; refine (jch _ _ (jj8 _ _ _)).mono ?_; rw [jj9]; rintro e w' ⟨rfl, rfl⟩) | go_in)
     go_ret2
     exact ⟨rfl, 1, rfl⟩
theorem max_f (x y : Nat) (w : World) (hx : x < 4294967296) (hy : y < 4294967296) :
    Calls Tryz.prog 20 #[.string ⟨#[77, 97, 120]⟩, .float .f32 x, .float .f32 y] w fun e w' => e = .returned (.tuple #[.int .i64 (maxF x y), .int .i64 0]) ∧ ∃ n, w' = w.drewN n := by
     cases h : ord x y with
     | none => have e : maxF x y = 2143289344 := by simp [maxF, h]
               rw [e]; exact jmR x y w h
     | some c =>
      cases c with
      | lt => have e : maxF x y = tob y := by simp [maxF, h]
              rw [e]; exact jfX x y y w hy (fun w ts t => jhr w ts t x y h)
      | gt => have e : maxF x y = tob x := by simp [maxF, h]
              rw [e]; exact jfX x y x w hx (fun w ts t => jhs w ts t x y h)
      | eq =>
       cases hn : (FloatKind.f32.decode x).neg with
       | true => have e : maxF x y = tob y := by simp [maxF, h, hn]
                 rw [e]; exact jfX x y y w hy (fun w ts t => by rw [jeA w ts t x y h, hn]; rfl)
       | false => have e : maxF x y = tob x := by simp [maxF, h, hn]
                  rw [e]; exact jfX x y x w hx (fun w ts t => by rw [jeA w ts t x y h, hn]; rfl)
end Go.Proofs.YtkefdkboejimeaaGreatDoor.Nu
namespace Go.Proofs.YtkefdkboejimeaaGreatDoor.Nu
open Go.RowKit
theorem jfq (t n : Int) (h : (t == 6) = true) : wrapT t n = wrap64 (wrap32 n) := by simp at h; simp [wrapT, h]
theorem jfr (t n : Int) (h : (t == 6) = false) : wrapT t n = n := by simp at h; simp [wrapT, h]
theorem jn5 (t x y : Int) (w : World) : Calls Tryz.prog 22 #[.string ⟨#[65, 100, 100]⟩, .int .i64 t, .int .i64 x, .int .i64 y] w fun e w' => e = .returned (.tuple #[.int .i64 (wrapT t (wrap64 (x + y))), .int .i64 0]) ∧ w' = w := by
 cases h : (t == 6) with
 | true =>
  rw [jfq t _ h]
  go_enter Tryz.func22, Tryz.ntmps22
  go_wp2
  go_ret2
  exact ⟨rfl, rfl⟩
 | false =>
  rw [jfr t _ h]
  go_enter Tryz.func22, Tryz.ntmps22
  go_wp2
  go_ret2
  exact ⟨rfl, rfl⟩
theorem jn6 (t x y : Int) (w : World) : Calls Tryz.prog 22 #[.string ⟨#[77, 117, 108]⟩, .int .i64 t, .int .i64 x, .int .i64 y] w fun e w' => e = .returned (.tuple #[.int .i64 (wrapT t (wrap64 (x * y))), .int .i64 0]) ∧ w' = w := by
 cases h : (t == 6) with
 | true =>
  rw [jfq t _ h]
  go_enter Tryz.func22, Tryz.ntmps22
  go_wp2
  go_ret2
  exact ⟨rfl, rfl⟩
 | false =>
  rw [jfr t _ h]
  go_enter Tryz.func22, Tryz.ntmps22
  go_wp2
  go_ret2
  exact ⟨rfl, rfl⟩
theorem jn7 (t x y : Int) (w : World) : Calls Tryz.prog 22 #[.string ⟨#[77, 97, 120]⟩, .int .i64 t, .int .i64 x, .int .i64 y] w fun e w' => e = .returned (.tuple #[.int .i64 (wrapT t (maxI x y)), .int .i64 0]) ∧ w' = w := by
 by_cases hm : x < y
 ·rw [show maxI x y = y from if_pos hm]
  cases h : (t == 6) with
  | true =>
   rw [jfq t _ h]
   go_enter Tryz.func22, Tryz.ntmps22
   go_wp2
   go_ret2
   exact ⟨rfl, rfl⟩
  | false =>
   rw [jfr t _ h]
   go_enter Tryz.func22, Tryz.ntmps22
   go_wp2
   go_ret2
   exact ⟨rfl, rfl⟩
 ·rw [show maxI x y = x from if_neg hm]
  cases h : (t == 6) with
  | true =>
   rw [jfq t _ h]
   go_enter Tryz.func22, Tryz.ntmps22
   go_wp2
   go_ret2
   exact ⟨rfl, rfl⟩
  | false =>
   rw [jfr t _ h]
   go_enter Tryz.func22, Tryz.ntmps22
   go_wp2
   go_ret2
   exact ⟨rfl, rfl⟩
theorem joS (x y : Int) (w : World) : Calls Tryz.prog 23 #[.string ⟨#[65, 100, 100]⟩, .int .i64 x, .int .i64 y] w fun e w' => e = .returned (.tuple #[.int .i64 0, .int .i64 1]) ∧ w' = w := by
 go_enter Tryz.func23, Tryz.ntmps23
 go_wp2
 go_ret2
 exact ⟨rfl, rfl⟩
theorem joT (x y : Int) (w : World) : Calls Tryz.prog 23 #[.string ⟨#[77, 117, 108]⟩, .int .i64 x, .int .i64 y] w fun e w' => e = .returned (.tuple #[.int .i64 0, .int .i64 1]) ∧ w' = w := by
 go_enter Tryz.func23, Tryz.ntmps23
 go_wp2
 go_ret2
 exact ⟨rfl, rfl⟩
theorem joU (x y : Int) (w : World) : Calls Tryz.prog 23 #[.string ⟨#[77, 97, 120]⟩, .int .i64 x, .int .i64 y] w fun e w' => e = .returned (.tuple #[.int .i64 0, .int .i64 1]) ∧ w' = w := by
 go_enter Tryz.func23, Tryz.ntmps23
 go_wp2
 go_ret2
 exact ⟨rfl, rfl⟩
end Go.Proofs.YtkefdkboejimeaaGreatDoor.Nu
namespace Go.Proofs.YtkefdkboejimeaaGreatDoor.Nu
open Go.RowKit
theorem jeP (t x : Int) (h : chk t x = true) : t = 1 ∨ t = 6 ∨ t = 7 ∨ t = 9 := by
 unfold chk at h
 split at h
 ·omega
 ·split at h
  ·omega
  ·split at h
   ·omega
   ·split at h
    ·omega
    ·cases h
theorem chk9 (x : Int) (h : chk 9 x = true) : x = 0 ∨ x = 1 := by simpa [chk] using h
theorem jhH (k : Nat) (t x y : Int) (h : chk t x = false) : bin k t x y = (0, 1) := by simp [bin, h]
theorem jhI (k : Nat) (t x y : Int) (h : chk t y = false) : bin k t x y = (0, 1) := by simp [bin, h]
theorem joV (k : Nat) (x y : Int) (hx : chk 1 x = true) (hy : chk 1 y = true) : bin k 1 x y = jpO k (fb x) (fb y) := by simp [bin, hx, hy]
theorem joW (k : Nat) (x y : Int) (hx : chk 6 x = true) (hy : chk 6 y = true) : bin k 6 x y = jow k 6 x y := by simp [bin, hx, hy]
theorem joX (k : Nat) (x y : Int) (hx : chk 7 x = true) (hy : chk 7 y = true) : bin k 7 x y = jow k 7 x y := by simp [bin, hx, hy]
theorem joY (k : Nat) (x y : Int) (hx : chk 9 x = true) (hy : chk 9 y = true) : bin k 9 x y = jpP k x y := by simp [bin, hx, hy]
theorem jfs (t x y : Int) (w : World) (h : chk t x = false ∨ chk t x = true ∧ chk t y = false) : Calls Tryz.prog 13 #[.string ⟨#[65, 100, 100]⟩, .int .i64 t, .int .i64 x, .int .i64 y] w fun e w' => e = .returned (.tuple #[.int .i64 0, .int .i64 1]) ∧ ∃ n, w' = w.drewN n := by
 rcases h with hx | ⟨hx, hy⟩
 all_goals
  go_enter Tryz.func13, Tryz.ntmps13
  go_wp2_with (first | (go_at_call 19; refine (jan _ _ _).mono ?_; rintro e w' ⟨rfl, rfl⟩))
  go_ret2
  exact ⟨rfl, 0, rfl⟩
theorem jkC (x y : Int) (w : World) (hx : chk 1 x = true) (hy : chk 1 y = true) : Calls Tryz.prog 13 #[.string ⟨#[65, 100, 100]⟩, .int .i64 1, .int .i64 x, .int .i64 y] w fun e w' => e = .returned (.tuple #[.int .i64 (bin 0 1 x y).1, .int .i64 (bin 0 1 x y).2]) ∧ ∃ n, w' = w.drewN n := by
 rw [joV 0 x y hx hy]
 go_enter Tryz.func13, Tryz.ntmps13
 go_wp2_with (first | (go_at_call 19; refine (jan _ _ _).mono ?_; rintro e w' ⟨rfl, rfl⟩) | (go_at_call 21; refine (jbn _ _).mono ?_; rintro e w' ⟨rfl, rfl⟩) | (go_at_call 20; refine (add_f _ _ _).mono ?_; rintro e w' ⟨rfl, n, rfl⟩))
 go_ret2
 exact ⟨rfl, _, rfl⟩
theorem jkD (x y : Int) (w : World) (hx : chk 6 x = true) (hy : chk 6 y = true) : Calls Tryz.prog 13 #[.string ⟨#[65, 100, 100]⟩, .int .i64 6, .int .i64 x, .int .i64 y] w fun e w' => e = .returned (.tuple #[.int .i64 (bin 0 6 x y).1, .int .i64 (bin 0 6 x y).2]) ∧ ∃ n, w' = w.drewN n := by
 rw [joW 0 x y hx hy]
 go_enter Tryz.func13, Tryz.ntmps13
 go_wp2_with (first | (go_at_call 19; refine (jan _ _ _).mono ?_; rintro e w' ⟨rfl, rfl⟩) | (go_at_call 22; refine (jn5 _ _ _ _).mono ?_; rintro e w' ⟨rfl, rfl⟩))
 go_ret2
 exact ⟨rfl, 0, rfl⟩
theorem jkE (x y : Int) (w : World) (hx : chk 7 x = true) (hy : chk 7 y = true) : Calls Tryz.prog 13 #[.string ⟨#[65, 100, 100]⟩, .int .i64 7, .int .i64 x, .int .i64 y] w fun e w' => e = .returned (.tuple #[.int .i64 (bin 0 7 x y).1, .int .i64 (bin 0 7 x y).2]) ∧ ∃ n, w' = w.drewN n := by
 rw [joX 0 x y hx hy]
 go_enter Tryz.func13, Tryz.ntmps13
 go_wp2_with (first | (go_at_call 19; refine (jan _ _ _).mono ?_; rintro e w' ⟨rfl, rfl⟩) | (go_at_call 22; refine (jn5 _ _ _ _).mono ?_; rintro e w' ⟨rfl, rfl⟩))
 go_ret2
 exact ⟨rfl, 0, rfl⟩
theorem jkF (x y : Int) (w : World) (hx : chk 9 x = true) (hy : chk 9 y = true) : Calls Tryz.prog 13 #[.string ⟨#[65, 100, 100]⟩, .int .i64 9, .int .i64 x, .int .i64 y] w fun e w' => e = .returned (.tuple #[.int .i64 (bin 0 9 x y).1, .int .i64 (bin 0 9 x y).2]) ∧ ∃ n, w' = w.drewN n := by
 rw [joY 0 x y hx hy]
 go_enter Tryz.func13, Tryz.ntmps13
 go_wp2_with (first | (go_at_call 19; refine (jan _ _ _).mono ?_; rintro e w' ⟨rfl, rfl⟩) | (go_at_call 23; refine (joS _ _ _).mono ?_; rintro e w' ⟨rfl, rfl⟩))
 go_ret2
 exact ⟨rfl, 0, rfl⟩
theorem binary0 (t x y : Int) (w : World) : Calls Tryz.prog 13 #[.string ⟨#[65, 100, 100]⟩, .int .i64 t, .int .i64 x, .int .i64 y] w fun e w' => e = .returned (.tuple #[.int .i64 (bin 0 t x y).1, .int .i64 (bin 0 t x y).2]) ∧ ∃ n, w' = w.drewN n := by
 cases hx : chk t x with
 | false => rw [jhH 0 t x y hx]; exact jfs t x y w (.inl hx)
 | true =>
  cases hy : chk t y with
  | false => rw [jhI 0 t x y hy]; exact jfs t x y w (.inr ⟨hx, hy⟩)
  | true =>
   rcases jeP t x hx with rfl | rfl | rfl | rfl
   ·exact jkC x y w hx hy
   ·exact jkD x y w hx hy
   ·exact jkE x y w hx hy
   ·exact jkF x y w hx hy
theorem jft (t x y : Int) (w : World) (h : chk t x = false ∨ chk t x = true ∧ chk t y = false) : Calls Tryz.prog 13 #[.string ⟨#[77, 117, 108]⟩, .int .i64 t, .int .i64 x, .int .i64 y] w fun e w' => e = .returned (.tuple #[.int .i64 0, .int .i64 1]) ∧ ∃ n, w' = w.drewN n := by
 rcases h with hx | ⟨hx, hy⟩
 all_goals
  go_enter Tryz.func13, Tryz.ntmps13
  go_wp2_with (first | (go_at_call 19; refine (jan _ _ _).mono ?_; rintro e w' ⟨rfl, rfl⟩))
  go_ret2
  exact ⟨rfl, 0, rfl⟩
theorem jkG (x y : Int) (w : World) (hx : chk 1 x = true) (hy : chk 1 y = true) : Calls Tryz.prog 13 #[.string ⟨#[77, 117, 108]⟩, .int .i64 1, .int .i64 x, .int .i64 y] w fun e w' => e = .returned (.tuple #[.int .i64 (bin 2 1 x y).1, .int .i64 (bin 2 1 x y).2]) ∧ ∃ n, w' = w.drewN n := by
 rw [joV 2 x y hx hy]
 go_enter Tryz.func13, Tryz.ntmps13
 go_wp2_with (first | (go_at_call 19; refine (jan _ _ _).mono ?_; rintro e w' ⟨rfl, rfl⟩) | (go_at_call 21; refine (jbn _ _).mono ?_; rintro e w' ⟨rfl, rfl⟩) | (go_at_call 20; refine (mul_f _ _ _).mono ?_; rintro e w' ⟨rfl, n, rfl⟩))
 go_ret2
 exact ⟨rfl, _, rfl⟩
theorem jkH (x y : Int) (w : World) (hx : chk 6 x = true) (hy : chk 6 y = true) : Calls Tryz.prog 13 #[.string ⟨#[77, 117, 108]⟩, .int .i64 6, .int .i64 x, .int .i64 y] w fun e w' => e = .returned (.tuple #[.int .i64 (bin 2 6 x y).1, .int .i64 (bin 2 6 x y).2]) ∧ ∃ n, w' = w.drewN n := by
 rw [joW 2 x y hx hy]
 go_enter Tryz.func13, Tryz.ntmps13
 go_wp2_with (first | (go_at_call 19; refine (jan _ _ _).mono ?_; rintro e w' ⟨rfl, rfl⟩) | (go_at_call 22; refine (jn6 _ _ _ _).mono ?_; rintro e w' ⟨rfl, rfl⟩))
 go_ret2
 exact ⟨rfl, 0, rfl⟩
theorem jkI (x y : Int) (w : World) (hx : chk 7 x = true) (hy : chk 7 y = true) : Calls Tryz.prog 13 #[.string ⟨#[77, 117, 108]⟩, .int .i64 7, .int .i64 x, .int .i64 y] w fun e w' => e = .returned (.tuple #[.int .i64 (bin 2 7 x y).1, .int .i64 (bin 2 7 x y).2]) ∧ ∃ n, w' = w.drewN n := by
 rw [joX 2 x y hx hy]
 go_enter Tryz.func13, Tryz.ntmps13
 go_wp2_with (first | (go_at_call 19; refine (jan _ _ _).mono ?_; rintro e w' ⟨rfl, rfl⟩) | (go_at_call 22; refine (jn6 _ _ _ _).mono ?_; rintro e w' ⟨rfl, rfl⟩))
 go_ret2
 exact ⟨rfl, 0, rfl⟩
theorem jkJ (x y : Int) (w : World) (hx : chk 9 x = true) (hy : chk 9 y = true) : Calls Tryz.prog 13 #[.string ⟨#[77, 117, 108]⟩, .int .i64 9, .int .i64 x, .int .i64 y] w fun e w' => e = .returned (.tuple #[.int .i64 (bin 2 9 x y).1, .int .i64 (bin 2 9 x y).2]) ∧ ∃ n, w' = w.drewN n := by
 rw [joY 2 x y hx hy]
 go_enter Tryz.func13, Tryz.ntmps13
 go_wp2_with (first | (go_at_call 19; refine (jan _ _ _).mono ?_; rintro e w' ⟨rfl, rfl⟩) | (go_at_call 23; refine (joT _ _ _).mono ?_; rintro e w' ⟨rfl, rfl⟩))
 go_ret2
 exact ⟨rfl, 0, rfl⟩
theorem binary2 (t x y : Int) (w : World) : Calls Tryz.prog 13 #[.string ⟨#[77, 117, 108]⟩, .int .i64 t, .int .i64 x, .int .i64 y] w fun e w' => e = .returned (.tuple #[.int .i64 (bin 2 t x y).1, .int .i64 (bin 2 t x y).2]) ∧ ∃ n, w' = w.drewN n := by
 cases hx : chk t x with
 | false => rw [jhH 2 t x y hx]; exact jft t x y w (.inl hx)
 | true =>
  cases hy : chk t y with
  | false => rw [jhI 2 t x y hy]; exact jft t x y w (.inr ⟨hx, hy⟩)
  | true =>
   rcases jeP t x hx with rfl | rfl | rfl | rfl
   ·exact jkG x y w hx hy
   ·exact jkH x y w hx hy
   ·exact jkI x y w hx hy
   ·exact jkJ x y w hx hy
end Go.Proofs.YtkefdkboejimeaaGreatDoor.Nu
namespace Go.Proofs.YtkefdkboejimeaaGreatDoor.Nu
open Go.RowKit
theorem jfu (t x y : Int) (w : World) (h : chk t x = false ∨ chk t x = true ∧ chk t y = false) : Calls Tryz.prog 13 #[.string ⟨#[77, 97, 120]⟩, .int .i64 t, .int .i64 x, .int .i64 y] w fun e w' => e = .returned (.tuple #[.int .i64 0, .int .i64 1]) ∧ ∃ n, w' = w.drewN n := by
 rcases h with hx | ⟨hx, hy⟩
 all_goals
  go_enter Tryz.func13, Tryz.ntmps13
  go_wp2_with (first | (go_at_call 19; refine (jan _ _ _).mono ?_; rintro e w' ⟨rfl, rfl⟩))
  go_ret2
  exact ⟨rfl, 0, rfl⟩
theorem jkK (x y : Int) (w : World) (hx : chk 1 x = true) (hy : chk 1 y = true) : Calls Tryz.prog 13 #[.string ⟨#[77, 97, 120]⟩, .int .i64 1, .int .i64 x, .int .i64 y] w fun e w' => e = .returned (.tuple #[.int .i64 (bin 4 1 x y).1, .int .i64 (bin 4 1 x y).2]) ∧ ∃ n, w' = w.drewN n := by
 rw [joV 4 x y hx hy]
 go_enter Tryz.func13, Tryz.ntmps13
 go_wp2_with (first | (go_at_call 19; refine (jan _ _ _).mono ?_; rintro e w' ⟨rfl, rfl⟩) | (go_at_call 21; refine (jbn _ _).mono ?_; rintro e w' ⟨rfl, rfl⟩) | (go_at_call 20; refine (max_f _ _ _ (fb_lt _) (fb_lt _)).mono ?_; rintro e w' ⟨rfl, n, rfl⟩))
 go_ret2
 exact ⟨rfl, _, rfl⟩
theorem jkL (x y : Int) (w : World) (hx : chk 6 x = true) (hy : chk 6 y = true) : Calls Tryz.prog 13 #[.string ⟨#[77, 97, 120]⟩, .int .i64 6, .int .i64 x, .int .i64 y] w fun e w' => e = .returned (.tuple #[.int .i64 (bin 4 6 x y).1, .int .i64 (bin 4 6 x y).2]) ∧ ∃ n, w' = w.drewN n := by
 rw [joW 4 x y hx hy]
 go_enter Tryz.func13, Tryz.ntmps13
 go_wp2_with (first | (go_at_call 19; refine (jan _ _ _).mono ?_; rintro e w' ⟨rfl, rfl⟩) | (go_at_call 22; refine (jn7 _ _ _ _).mono ?_; rintro e w' ⟨rfl, rfl⟩))
 go_ret2
 exact ⟨rfl, 0, rfl⟩
theorem jkM (x y : Int) (w : World) (hx : chk 7 x = true) (hy : chk 7 y = true) : Calls Tryz.prog 13 #[.string ⟨#[77, 97, 120]⟩, .int .i64 7, .int .i64 x, .int .i64 y] w fun e w' => e = .returned (.tuple #[.int .i64 (bin 4 7 x y).1, .int .i64 (bin 4 7 x y).2]) ∧ ∃ n, w' = w.drewN n := by
 rw [joX 4 x y hx hy]
 go_enter Tryz.func13, Tryz.ntmps13
 go_wp2_with (first | (go_at_call 19; refine (jan _ _ _).mono ?_; rintro e w' ⟨rfl, rfl⟩) | (go_at_call 22; refine (jn7 _ _ _ _).mono ?_; rintro e w' ⟨rfl, rfl⟩))
 go_ret2
 exact ⟨rfl, 0, rfl⟩
theorem jkN (x y : Int) (w : World) (hx : chk 9 x = true) (hy : chk 9 y = true) : Calls Tryz.prog 13 #[.string ⟨#[77, 97, 120]⟩, .int .i64 9, .int .i64 x, .int .i64 y] w fun e w' => e = .returned (.tuple #[.int .i64 (bin 4 9 x y).1, .int .i64 (bin 4 9 x y).2]) ∧ ∃ n, w' = w.drewN n := by
 rw [joY 4 x y hx hy]
 go_enter Tryz.func13, Tryz.ntmps13
 go_wp2_with (first | (go_at_call 19; refine (jan _ _ _).mono ?_; rintro e w' ⟨rfl, rfl⟩) | (go_at_call 23; refine (joU _ _ _).mono ?_; rintro e w' ⟨rfl, rfl⟩))
 go_ret2
 exact ⟨rfl, 0, rfl⟩
theorem binary4 (t x y : Int) (w : World) : Calls Tryz.prog 13 #[.string ⟨#[77, 97, 120]⟩, .int .i64 t, .int .i64 x, .int .i64 y] w fun e w' => e = .returned (.tuple #[.int .i64 (bin 4 t x y).1, .int .i64 (bin 4 t x y).2]) ∧ ∃ n, w' = w.drewN n := by
 cases hx : chk t x with
 | false => rw [jhH 4 t x y hx]; exact jfu t x y w (.inl hx)
 | true =>
  cases hy : chk t y with
  | false => rw [jhI 4 t x y hy]; exact jfu t x y w (.inr ⟨hx, hy⟩)
  | true =>
   rcases jeP t x hx with rfl | rfl | rfl | rfl
   ·exact jkK x y w hx hy
   ·exact jkL x y w hx hy
   ·exact jkM x y w hx hy
   ·exact jkN x y w hx hy
end Go.Proofs.YtkefdkboejimeaaGreatDoor.Nu
namespace Go.Proofs.YtkefdkboejimeaaGreatDoor.Nu
open Go.RowKit
attribute [local go_sem] jdv jdw jfL
theorem neg_f (b : Nat) (w : World) (hb : b < 4294967296) : Calls Tryz.prog 180 #[.string ⟨#[78, 101, 103]⟩, .float .f32 b] w fun e w' => e = .returned (.tuple #[.int .i64 (tob (jpA b)), .int .i64 0]) ∧ w' = w := by
 have hn := jkj b hb
 go_enter Tryz.func180, Tryz.ntmps180
 go_wp2_with (first | (go_at_call 44; refine (jch _ _ hn).mono ?_; rintro e w' ⟨rfl, rfl⟩) | go_in)
 go_ret2
 exact ⟨rfl, rfl⟩
theorem jcP (b : Nat) (w : World) (hb : b < 4294967296) : Calls Tryz.prog 184 #[.float .f32 b] w fun e w' => e = .returned (.float .f32 (joF b)) ∧ w' = w := by
 have ha := ji6 b hb
 go_enter Tryz.func184, Tryz.ntmps184
 go_wp2
 go_ret
 exact ⟨by simp [joF], rfl⟩
theorem abs_f (b : Nat) (w : World) (hb : b < 4294967296) : Calls Tryz.prog 180 #[.string ⟨#[65, 98, 115]⟩, .float .f32 b] w fun e w' => e = .returned (.tuple #[.int .i64 (tob (joF b)), .int .i64 0]) ∧ w' = w := by
 go_enter Tryz.func180, Tryz.ntmps180
 go_wp2_with (first | (go_at_call 44; refine (jch _ _ (joH _)).mono ?_; rintro e w' ⟨rfl, rfl⟩) | (go_at_call 184; refine (jcP _ _ hb).mono ?_; rintro e w' ⟨rfl, rfl⟩) | go_in)
 go_ret2
 exact ⟨rfl, rfl⟩
theorem jmS (b : Nat) (w : World) : Calls Tryz.prog 185 #[.float .f32 b] w fun e w' => e = .returned (.float .f32 (jeE b)) ∧ w' = w := by
 cases h : (FloatKind.f32.format.order b 0 == some .gt) with
 | true =>
  have c : jeE b = b := by unfold jeE; rw [if_pos h]
  rw [c]; clear c
  go_enter Tryz.func185, Tryz.ntmps185
  go_wp2
  go_ret
  exact ⟨rfl, rfl⟩
 | false =>
  cases h' : (FloatKind.f32.format.order b b != some .eq) with
  | true =>
   have c : jeE b = b := by unfold jeE; rw [h, h']; rfl
   rw [c]; clear c
   go_enter Tryz.func185, Tryz.ntmps185
   go_wp2
   go_ret
   exact ⟨rfl, rfl⟩
  | false =>
   have c : jeE b = 0 := by unfold jeE; rw [h, h']; rfl
   rw [c]; clear c
   go_enter Tryz.func185, Tryz.ntmps185
   go_wp2
   go_ret
   exact ⟨rfl, rfl⟩
theorem jpV (b : Nat) (w : World) (hb : b < 4294967296) : Calls Tryz.prog 180 #[.string ⟨#[82, 101, 108, 117]⟩, .float .f32 b] w fun e w' => e = .returned (.tuple #[.int .i64 (tob (jeE b)), .int .i64 0]) ∧ w' = w := by
 go_enter Tryz.func180, Tryz.ntmps180
 go_wp2_with (first | (go_at_call 44; refine (jch _ _ (jms _ hb)).mono ?_; rintro e w' ⟨rfl, rfl⟩) | (go_at_call 185; refine (jmS _ _).mono ?_; rintro e w' ⟨rfl, rfl⟩) | go_in)
 go_ret2
 exact ⟨rfl, rfl⟩
theorem not_f (b : Nat) (w : World) : Calls Tryz.prog 180 #[.string ⟨#[78, 111, 116]⟩, .float .f32 b] w fun e w' => e = .returned (.tuple #[.int .i64 0, .int .i64 1]) ∧ w' = w := by
 go_enter Tryz.func180, Tryz.ntmps180
 go_wp2
 go_ret2
 exact ⟨rfl, rfl⟩
theorem jkO (t x : Int) (w : World) : Calls Tryz.prog 181 #[.string ⟨#[78, 101, 103]⟩, .int .i64 t, .int .i64 x] w fun e w' => e = .returned (.tuple #[.int .i64 (wrapT t (wrap64 (-x))), .int .i64 0]) ∧ w' = w := by
 cases h : (t == 6) with
 | true =>
  rw [jfq t _ h]
  go_enter Tryz.func181, Tryz.ntmps181
  go_wp2
  go_ret2
  exact ⟨rfl, rfl⟩
 | false =>
  rw [jfr t _ h]
  go_enter Tryz.func181, Tryz.ntmps181
  go_wp2
  go_ret2
  exact ⟨rfl, rfl⟩
theorem jkP (t x : Int) (w : World) : Calls Tryz.prog 181 #[.string ⟨#[65, 98, 115]⟩, .int .i64 t, .int .i64 x] w fun e w' => e = .returned (.tuple #[.int .i64 (absI t x), .int .i64 0]) ∧ w' = w := by
 by_cases hx : x < 0
 ·rw [show absI t x = wrapT t (wrap64 (-x)) from if_pos hx]
  cases h : (t == 6) with
  | true =>
   rw [jfq t _ h]
   go_enter Tryz.func181, Tryz.ntmps181
   go_wp2
   go_ret2
   exact ⟨rfl, rfl⟩
  | false =>
   rw [jfr t _ h]
   go_enter Tryz.func181, Tryz.ntmps181
   go_wp2
   go_ret2
   exact ⟨rfl, rfl⟩
 ·rw [show absI t x = x from if_neg hx]
  go_enter Tryz.func181, Tryz.ntmps181
  go_wp2
  go_ret2
  exact ⟨rfl, rfl⟩
theorem jkQ (t x : Int) (w : World) : Calls Tryz.prog 181 #[.string ⟨#[78, 111, 116]⟩, .int .i64 t, .int .i64 x] w fun e w' => e = .returned (.tuple #[.int .i64 0, .int .i64 1]) ∧ w' = w := by
 go_enter Tryz.func181, Tryz.ntmps181
 go_wp2
 go_ret2
 exact ⟨rfl, rfl⟩
theorem jkR (t x : Int) (w : World) : Calls Tryz.prog 181 #[.string ⟨#[82, 101, 108, 117]⟩, .int .i64 t, .int .i64 x] w fun e w' => e = .returned (.tuple #[.int .i64 0, .int .i64 1]) ∧ w' = w := by
 go_enter Tryz.func181, Tryz.ntmps181
 go_wp2
 go_ret2
 exact ⟨rfl, rfl⟩
theorem jkS (t x : Int) (w : World) : Calls Tryz.prog 181 #[.string ⟨#[83, 113, 114, 116]⟩, .int .i64 t, .int .i64 x] w fun e w' => e = .returned (.tuple #[.int .i64 0, .int .i64 1]) ∧ w' = w := by
 go_enter Tryz.func181, Tryz.ntmps181
 go_wp2
 go_ret2
 exact ⟨rfl, rfl⟩
theorem jkT (t x : Int) (w : World) : Calls Tryz.prog 181 #[.string ⟨#[70, 108, 111, 111, 114]⟩, .int .i64 t, .int .i64 x] w fun e w' => e = .returned (.tuple #[.int .i64 0, .int .i64 1]) ∧ w' = w := by
 go_enter Tryz.func181, Tryz.ntmps181
 go_wp2
 go_ret2
 exact ⟨rfl, rfl⟩
theorem jkU (t x : Int) (w : World) : Calls Tryz.prog 181 #[.string ⟨#[69, 120, 112]⟩, .int .i64 t, .int .i64 x] w fun e w' => e = .returned (.tuple #[.int .i64 0, .int .i64 1]) ∧ w' = w := by
 go_enter Tryz.func181, Tryz.ntmps181
 go_wp2
 go_ret2
 exact ⟨rfl, rfl⟩
theorem jkV (t x : Int) (w : World) : Calls Tryz.prog 181 #[.string ⟨#[83, 105, 103, 109, 111, 105, 100]⟩, .int .i64 t, .int .i64 x] w fun e w' => e = .returned (.tuple #[.int .i64 0, .int .i64 1]) ∧ w' = w := by
 go_enter Tryz.func181, Tryz.ntmps181
 go_wp2
 go_ret2
 exact ⟨rfl, rfl⟩
theorem jkW (t x : Int) (w : World) : Calls Tryz.prog 181 #[.string ⟨#[84, 97, 110, 104]⟩, .int .i64 t, .int .i64 x] w fun e w' => e = .returned (.tuple #[.int .i64 0, .int .i64 1]) ∧ w' = w := by
 go_enter Tryz.func181, Tryz.ntmps181
 go_wp2
 go_ret2
 exact ⟨rfl, rfl⟩
theorem jmT (x : Int) (w : World) (hx : x = 0 ∨ x = 1) : Calls Tryz.prog 182 #[.string ⟨#[78, 111, 116]⟩, .int .i64 x] w fun e w' => e = .returned (.tuple #[.int .i64 (1 - x), .int .i64 0]) ∧ w' = w := by
 rcases hx with rfl | rfl
 all_goals
  go_enter Tryz.func182, Tryz.ntmps182
  go_wp2
  go_ret2
  exact ⟨rfl, rfl⟩
theorem jmU (x : Int) (w : World) : Calls Tryz.prog 182 #[.string ⟨#[78, 101, 103]⟩, .int .i64 x] w fun e w' => e = .returned (.tuple #[.int .i64 0, .int .i64 1]) ∧ w' = w := by
 go_enter Tryz.func182, Tryz.ntmps182
 go_wp2
 go_ret2
 exact ⟨rfl, rfl⟩
theorem jmV (x : Int) (w : World) : Calls Tryz.prog 182 #[.string ⟨#[65, 98, 115]⟩, .int .i64 x] w fun e w' => e = .returned (.tuple #[.int .i64 0, .int .i64 1]) ∧ w' = w := by
 go_enter Tryz.func182, Tryz.ntmps182
 go_wp2
 go_ret2
 exact ⟨rfl, rfl⟩
theorem jmW (x : Int) (w : World) : Calls Tryz.prog 182 #[.string ⟨#[82, 101, 108, 117]⟩, .int .i64 x] w fun e w' => e = .returned (.tuple #[.int .i64 0, .int .i64 1]) ∧ w' = w := by
 go_enter Tryz.func182, Tryz.ntmps182
 go_wp2
 go_ret2
 exact ⟨rfl, rfl⟩
theorem jmX (x : Int) (w : World) : Calls Tryz.prog 182 #[.string ⟨#[83, 113, 114, 116]⟩, .int .i64 x] w fun e w' => e = .returned (.tuple #[.int .i64 0, .int .i64 1]) ∧ w' = w := by
 go_enter Tryz.func182, Tryz.ntmps182
 go_wp2
 go_ret2
 exact ⟨rfl, rfl⟩
theorem jmY (x : Int) (w : World) : Calls Tryz.prog 182 #[.string ⟨#[70, 108, 111, 111, 114]⟩, .int .i64 x] w fun e w' => e = .returned (.tuple #[.int .i64 0, .int .i64 1]) ∧ w' = w := by
 go_enter Tryz.func182, Tryz.ntmps182
 go_wp2
 go_ret2
 exact ⟨rfl, rfl⟩
theorem jmZ (x : Int) (w : World) : Calls Tryz.prog 182 #[.string ⟨#[69, 120, 112]⟩, .int .i64 x] w fun e w' => e = .returned (.tuple #[.int .i64 0, .int .i64 1]) ∧ w' = w := by
 go_enter Tryz.func182, Tryz.ntmps182
 go_wp2
 go_ret2
 exact ⟨rfl, rfl⟩
theorem jm0 (x : Int) (w : World) : Calls Tryz.prog 182 #[.string ⟨#[83, 105, 103, 109, 111, 105, 100]⟩, .int .i64 x] w fun e w' => e = .returned (.tuple #[.int .i64 0, .int .i64 1]) ∧ w' = w := by
 go_enter Tryz.func182, Tryz.ntmps182
 go_wp2
 go_ret2
 exact ⟨rfl, rfl⟩
theorem jm1 (x : Int) (w : World) : Calls Tryz.prog 182 #[.string ⟨#[84, 97, 110, 104]⟩, .int .i64 x] w fun e w' => e = .returned (.tuple #[.int .i64 0, .int .i64 1]) ∧ w' = w := by
 go_enter Tryz.func182, Tryz.ntmps182
 go_wp2
 go_ret2
 exact ⟨rfl, rfl⟩
theorem un_no (k : Nat) (t x : Int) (h : chk t x = false) : un k t x = (0, 1) := by simp [un, h]
theorem un_0 (t x : Int) (h : chk t x = true) : un 0 t x = (x, 0) := by simp [un, h]
theorem un_1 (k : Nat) (x : Int) (h : chk 1 x = true) (hk : k ≠ 0) : un k 1 x = unFl k (fb x) := by simp [un, h, hk]
theorem un_6 (k : Nat) (x : Int) (h : chk 6 x = true) (hk : k ≠ 0) : un k 6 x = unIn k 6 x := by simp [un, h, hk]
theorem un_7 (k : Nat) (x : Int) (h : chk 7 x = true) (hk : k ≠ 0) : un k 7 x = unIn k 7 x := by simp [un, h, hk]
theorem un_9 (k : Nat) (x : Int) (h : chk 9 x = true) (hk : k ≠ 0) : un k 9 x = unBo k x := by simp [un, h, hk]
theorem jkX (t x : Int) (w : World) (hx : chk t x = false) : Calls Tryz.prog 162 #[.string ⟨#[73, 100, 101, 110, 116, 105, 116, 121]⟩, .int .i64 t, .int .i64 x] w fun e w' => e = .returned (.tuple #[.int .i64 (un 0 t x).1, .int .i64 (un 0 t x).2]) ∧ w' = w := by
 rw [un_no 0 t x hx]
 go_enter Tryz.func162, Tryz.ntmps162
 go_wp2_with (first | (go_at_call 19; refine (jan _ _ _).mono ?_; rintro e w' ⟨rfl, rfl⟩))
 go_ret2
 exact ⟨rfl, rfl⟩
theorem jjo (t x : Int) (w : World) (hx : chk t x = true) : Calls Tryz.prog 162 #[.string ⟨#[73, 100, 101, 110, 116, 105, 116, 121]⟩, .int .i64 t, .int .i64 x] w fun e w' => e = .returned (.tuple #[.int .i64 (un 0 t x).1, .int .i64 (un 0 t x).2]) ∧ w' = w := by
 rw [un_0 t x hx]
 go_enter Tryz.func162, Tryz.ntmps162
 go_wp2_with (first | (go_at_call 19; refine (jan _ _ _).mono ?_; rintro e w' ⟨rfl, rfl⟩))
 go_ret2
 exact ⟨rfl, rfl⟩
theorem unary0 (t x : Int) (w : World) : Calls Tryz.prog 162 #[.string ⟨#[73, 100, 101, 110, 116, 105, 116, 121]⟩, .int .i64 t, .int .i64 x] w fun e w' => e = .returned (.tuple #[.int .i64 (un 0 t x).1, .int .i64 (un 0 t x).2]) ∧ w' = w := by
 cases hx : chk t x with
 | false => exact jkX t x w hx
 | true => exact jjo t x w hx
theorem unary1_1 (x : Int) (w : World) (hx : chk 1 x = true) : Calls Tryz.prog 162 #[.string ⟨#[78, 101, 103]⟩, .int .i64 1, .int .i64 x] w fun e w' => e = .returned (.tuple #[.int .i64 (un 1 1 x).1, .int .i64 (un 1 1 x).2]) ∧ w' = w := by
 rw [un_1 1 x hx (by decide)]
 go_enter Tryz.func162, Tryz.ntmps162
 go_wp2_with (first | (go_at_call 19; refine (jan _ _ _).mono ?_; rintro e w' ⟨rfl, rfl⟩) | (go_at_call 21; refine (jbn _ _).mono ?_; rintro e w' ⟨rfl, rfl⟩) | (go_at_call 180; refine (neg_f _ _ (fb_lt _)).mono ?_; rintro e w' ⟨rfl, rfl⟩))
 go_ret2
 exact ⟨rfl, rfl⟩
theorem unary1_6 (x : Int) (w : World) (hx : chk 6 x = true) : Calls Tryz.prog 162 #[.string ⟨#[78, 101, 103]⟩, .int .i64 6, .int .i64 x] w fun e w' => e = .returned (.tuple #[.int .i64 (un 1 6 x).1, .int .i64 (un 1 6 x).2]) ∧ w' = w := by
 rw [un_6 1 x hx (by decide)]
 go_enter Tryz.func162, Tryz.ntmps162
 go_wp2_with (first | (go_at_call 19; refine (jan _ _ _).mono ?_; rintro e w' ⟨rfl, rfl⟩) | (go_at_call 181; refine (jkO _ _ _).mono ?_; rintro e w' ⟨rfl, rfl⟩))
 go_ret2
 exact ⟨rfl, rfl⟩
theorem unary1_7 (x : Int) (w : World) (hx : chk 7 x = true) : Calls Tryz.prog 162 #[.string ⟨#[78, 101, 103]⟩, .int .i64 7, .int .i64 x] w fun e w' => e = .returned (.tuple #[.int .i64 (un 1 7 x).1, .int .i64 (un 1 7 x).2]) ∧ w' = w := by
 rw [un_7 1 x hx (by decide)]
 go_enter Tryz.func162, Tryz.ntmps162
 go_wp2_with (first | (go_at_call 19; refine (jan _ _ _).mono ?_; rintro e w' ⟨rfl, rfl⟩) | (go_at_call 181; refine (jkO _ _ _).mono ?_; rintro e w' ⟨rfl, rfl⟩))
 go_ret2
 exact ⟨rfl, rfl⟩
theorem unary1_9 (x : Int) (w : World) (hx : chk 9 x = true) : Calls Tryz.prog 162 #[.string ⟨#[78, 101, 103]⟩, .int .i64 9, .int .i64 x] w fun e w' => e = .returned (.tuple #[.int .i64 (un 1 9 x).1, .int .i64 (un 1 9 x).2]) ∧ w' = w := by
 rw [un_9 1 x hx (by decide)]
 go_enter Tryz.func162, Tryz.ntmps162
 go_wp2_with (first | (go_at_call 19; refine (jan _ _ _).mono ?_; rintro e w' ⟨rfl, rfl⟩) | (go_at_call 182; refine (jmU _ _).mono ?_; rintro e w' ⟨rfl, rfl⟩))
 go_ret2
 exact ⟨rfl, rfl⟩
theorem unary2_1 (x : Int) (w : World) (hx : chk 1 x = true) : Calls Tryz.prog 162 #[.string ⟨#[65, 98, 115]⟩, .int .i64 1, .int .i64 x] w fun e w' => e = .returned (.tuple #[.int .i64 (un 2 1 x).1, .int .i64 (un 2 1 x).2]) ∧ w' = w := by
 rw [un_1 2 x hx (by decide)]
 go_enter Tryz.func162, Tryz.ntmps162
 go_wp2_with (first | (go_at_call 19; refine (jan _ _ _).mono ?_; rintro e w' ⟨rfl, rfl⟩) | (go_at_call 21; refine (jbn _ _).mono ?_; rintro e w' ⟨rfl, rfl⟩) | (go_at_call 180; refine (abs_f _ _ (fb_lt _)).mono ?_; rintro e w' ⟨rfl, rfl⟩))
 go_ret2
 exact ⟨rfl, rfl⟩
theorem unary2_6 (x : Int) (w : World) (hx : chk 6 x = true) : Calls Tryz.prog 162 #[.string ⟨#[65, 98, 115]⟩, .int .i64 6, .int .i64 x] w fun e w' => e = .returned (.tuple #[.int .i64 (un 2 6 x).1, .int .i64 (un 2 6 x).2]) ∧ w' = w := by
 rw [un_6 2 x hx (by decide)]
 go_enter Tryz.func162, Tryz.ntmps162
 go_wp2_with (first | (go_at_call 19; refine (jan _ _ _).mono ?_; rintro e w' ⟨rfl, rfl⟩) | (go_at_call 181; refine (jkP _ _ _).mono ?_; rintro e w' ⟨rfl, rfl⟩))
 go_ret2
 exact ⟨rfl, rfl⟩
theorem unary2_7 (x : Int) (w : World) (hx : chk 7 x = true) : Calls Tryz.prog 162 #[.string ⟨#[65, 98, 115]⟩, .int .i64 7, .int .i64 x] w fun e w' => e = .returned (.tuple #[.int .i64 (un 2 7 x).1, .int .i64 (un 2 7 x).2]) ∧ w' = w := by
 rw [un_7 2 x hx (by decide)]
 go_enter Tryz.func162, Tryz.ntmps162
 go_wp2_with (first | (go_at_call 19; refine (jan _ _ _).mono ?_; rintro e w' ⟨rfl, rfl⟩) | (go_at_call 181; refine (jkP _ _ _).mono ?_; rintro e w' ⟨rfl, rfl⟩))
 go_ret2
 exact ⟨rfl, rfl⟩
theorem unary2_9 (x : Int) (w : World) (hx : chk 9 x = true) : Calls Tryz.prog 162 #[.string ⟨#[65, 98, 115]⟩, .int .i64 9, .int .i64 x] w fun e w' => e = .returned (.tuple #[.int .i64 (un 2 9 x).1, .int .i64 (un 2 9 x).2]) ∧ w' = w := by
 rw [un_9 2 x hx (by decide)]
 go_enter Tryz.func162, Tryz.ntmps162
 go_wp2_with (first | (go_at_call 19; refine (jan _ _ _).mono ?_; rintro e w' ⟨rfl, rfl⟩) | (go_at_call 182; refine (jmV _ _).mono ?_; rintro e w' ⟨rfl, rfl⟩))
 go_ret2
 exact ⟨rfl, rfl⟩
theorem unary3_1 (x : Int) (w : World) (hx : chk 1 x = true) : Calls Tryz.prog 162 #[.string ⟨#[78, 111, 116]⟩, .int .i64 1, .int .i64 x] w fun e w' => e = .returned (.tuple #[.int .i64 (un 3 1 x).1, .int .i64 (un 3 1 x).2]) ∧ w' = w := by
 rw [un_1 3 x hx (by decide)]
 go_enter Tryz.func162, Tryz.ntmps162
 go_wp2_with (first | (go_at_call 19; refine (jan _ _ _).mono ?_; rintro e w' ⟨rfl, rfl⟩) | (go_at_call 21; refine (jbn _ _).mono ?_; rintro e w' ⟨rfl, rfl⟩) | (go_at_call 180; refine (not_f _ _).mono ?_; rintro e w' ⟨rfl, rfl⟩))
 go_ret2
 exact ⟨rfl, rfl⟩
theorem unary3_6 (x : Int) (w : World) (hx : chk 6 x = true) : Calls Tryz.prog 162 #[.string ⟨#[78, 111, 116]⟩, .int .i64 6, .int .i64 x] w fun e w' => e = .returned (.tuple #[.int .i64 (un 3 6 x).1, .int .i64 (un 3 6 x).2]) ∧ w' = w := by
 rw [un_6 3 x hx (by decide)]
 go_enter Tryz.func162, Tryz.ntmps162
 go_wp2_with (first | (go_at_call 19; refine (jan _ _ _).mono ?_; rintro e w' ⟨rfl, rfl⟩) | (go_at_call 181; refine (jkQ _ _ _).mono ?_; rintro e w' ⟨rfl, rfl⟩))
 go_ret2
 exact ⟨rfl, rfl⟩
theorem unary3_7 (x : Int) (w : World) (hx : chk 7 x = true) : Calls Tryz.prog 162 #[.string ⟨#[78, 111, 116]⟩, .int .i64 7, .int .i64 x] w fun e w' => e = .returned (.tuple #[.int .i64 (un 3 7 x).1, .int .i64 (un 3 7 x).2]) ∧ w' = w := by
 rw [un_7 3 x hx (by decide)]
 go_enter Tryz.func162, Tryz.ntmps162
 go_wp2_with (first | (go_at_call 19; refine (jan _ _ _).mono ?_; rintro e w' ⟨rfl, rfl⟩) | (go_at_call 181; refine (jkQ _ _ _).mono ?_; rintro e w' ⟨rfl, rfl⟩))
 go_ret2
 exact ⟨rfl, rfl⟩
theorem unary3_9 (x : Int) (w : World) (hx : chk 9 x = true) : Calls Tryz.prog 162 #[.string ⟨#[78, 111, 116]⟩, .int .i64 9, .int .i64 x] w fun e w' => e = .returned (.tuple #[.int .i64 (un 3 9 x).1, .int .i64 (un 3 9 x).2]) ∧ w' = w := by
 rw [un_9 3 x hx (by decide)]
 go_enter Tryz.func162, Tryz.ntmps162
 go_wp2_with (first | (go_at_call 19; refine (jan _ _ _).mono ?_; rintro e w' ⟨rfl, rfl⟩) | (go_at_call 182; refine (jmT _ _ (chk9 _ hx)).mono ?_; rintro e w' ⟨rfl, rfl⟩))
 go_ret2
 exact ⟨rfl, rfl⟩
theorem unary4_1 (x : Int) (w : World) (hx : chk 1 x = true) : Calls Tryz.prog 162 #[.string ⟨#[82, 101, 108, 117]⟩, .int .i64 1, .int .i64 x] w fun e w' => e = .returned (.tuple #[.int .i64 (un 4 1 x).1, .int .i64 (un 4 1 x).2]) ∧ w' = w := by
 rw [un_1 4 x hx (by decide)]
 go_enter Tryz.func162, Tryz.ntmps162
 go_wp2_with (first | (go_at_call 19; refine (jan _ _ _).mono ?_; rintro e w' ⟨rfl, rfl⟩) | (go_at_call 21; refine (jbn _ _).mono ?_; rintro e w' ⟨rfl, rfl⟩) | (go_at_call 180; refine (jpV _ _ (fb_lt _)).mono ?_; rintro e w' ⟨rfl, rfl⟩))
 go_ret2
 exact ⟨rfl, rfl⟩
theorem unary4_6 (x : Int) (w : World) (hx : chk 6 x = true) : Calls Tryz.prog 162 #[.string ⟨#[82, 101, 108, 117]⟩, .int .i64 6, .int .i64 x] w fun e w' => e = .returned (.tuple #[.int .i64 (un 4 6 x).1, .int .i64 (un 4 6 x).2]) ∧ w' = w := by
 rw [un_6 4 x hx (by decide)]
 go_enter Tryz.func162, Tryz.ntmps162
 go_wp2_with (first | (go_at_call 19; refine (jan _ _ _).mono ?_; rintro e w' ⟨rfl, rfl⟩) | (go_at_call 181; refine (jkR _ _ _).mono ?_; rintro e w' ⟨rfl, rfl⟩))
 go_ret2
 exact ⟨rfl, rfl⟩
theorem unary4_7 (x : Int) (w : World) (hx : chk 7 x = true) : Calls Tryz.prog 162 #[.string ⟨#[82, 101, 108, 117]⟩, .int .i64 7, .int .i64 x] w fun e w' => e = .returned (.tuple #[.int .i64 (un 4 7 x).1, .int .i64 (un 4 7 x).2]) ∧ w' = w := by
 rw [un_7 4 x hx (by decide)]
 go_enter Tryz.func162, Tryz.ntmps162
 go_wp2_with (first | (go_at_call 19; refine (jan _ _ _).mono ?_; rintro e w' ⟨rfl, rfl⟩) | (go_at_call 181; refine (jkR _ _ _).mono ?_; rintro e w' ⟨rfl, rfl⟩))
 go_ret2
 exact ⟨rfl, rfl⟩
theorem unary4_9 (x : Int) (w : World) (hx : chk 9 x = true) : Calls Tryz.prog 162 #[.string ⟨#[82, 101, 108, 117]⟩, .int .i64 9, .int .i64 x] w fun e w' => e = .returned (.tuple #[.int .i64 (un 4 9 x).1, .int .i64 (un 4 9 x).2]) ∧ w' = w := by
 rw [un_9 4 x hx (by decide)]
 go_enter Tryz.func162, Tryz.ntmps162
 go_wp2_with (first | (go_at_call 19; refine (jan _ _ _).mono ?_; rintro e w' ⟨rfl, rfl⟩) | (go_at_call 182; refine (jmW _ _).mono ?_; rintro e w' ⟨rfl, rfl⟩))
 go_ret2
 exact ⟨rfl, rfl⟩
theorem unary5_6 (x : Int) (w : World) (hx : chk 6 x = true) : Calls Tryz.prog 162 #[.string ⟨#[83, 113, 114, 116]⟩, .int .i64 6, .int .i64 x] w fun e w' => e = .returned (.tuple #[.int .i64 (un 5 6 x).1, .int .i64 (un 5 6 x).2]) ∧ w' = w := by
 rw [un_6 5 x hx (by decide)]
 go_enter Tryz.func162, Tryz.ntmps162
 go_wp2_with (first | (go_at_call 19; refine (jan _ _ _).mono ?_; rintro e w' ⟨rfl, rfl⟩) | (go_at_call 181; refine (jkS _ _ _).mono ?_; rintro e w' ⟨rfl, rfl⟩))
 go_ret2
 exact ⟨rfl, rfl⟩
theorem unary5_7 (x : Int) (w : World) (hx : chk 7 x = true) : Calls Tryz.prog 162 #[.string ⟨#[83, 113, 114, 116]⟩, .int .i64 7, .int .i64 x] w fun e w' => e = .returned (.tuple #[.int .i64 (un 5 7 x).1, .int .i64 (un 5 7 x).2]) ∧ w' = w := by
 rw [un_7 5 x hx (by decide)]
 go_enter Tryz.func162, Tryz.ntmps162
 go_wp2_with (first | (go_at_call 19; refine (jan _ _ _).mono ?_; rintro e w' ⟨rfl, rfl⟩) | (go_at_call 181; refine (jkS _ _ _).mono ?_; rintro e w' ⟨rfl, rfl⟩))
 go_ret2
 exact ⟨rfl, rfl⟩
theorem unary5_9 (x : Int) (w : World) (hx : chk 9 x = true) : Calls Tryz.prog 162 #[.string ⟨#[83, 113, 114, 116]⟩, .int .i64 9, .int .i64 x] w fun e w' => e = .returned (.tuple #[.int .i64 (un 5 9 x).1, .int .i64 (un 5 9 x).2]) ∧ w' = w := by
 rw [un_9 5 x hx (by decide)]
 go_enter Tryz.func162, Tryz.ntmps162
 go_wp2_with (first | (go_at_call 19; refine (jan _ _ _).mono ?_; rintro e w' ⟨rfl, rfl⟩) | (go_at_call 182; refine (jmX _ _).mono ?_; rintro e w' ⟨rfl, rfl⟩))
 go_ret2
 exact ⟨rfl, rfl⟩
theorem unary6_6 (x : Int) (w : World) (hx : chk 6 x = true) : Calls Tryz.prog 162 #[.string ⟨#[70, 108, 111, 111, 114]⟩, .int .i64 6, .int .i64 x] w fun e w' => e = .returned (.tuple #[.int .i64 (un 6 6 x).1, .int .i64 (un 6 6 x).2]) ∧ w' = w := by
 rw [un_6 6 x hx (by decide)]
 go_enter Tryz.func162, Tryz.ntmps162
 go_wp2_with (first | (go_at_call 19; refine (jan _ _ _).mono ?_; rintro e w' ⟨rfl, rfl⟩) | (go_at_call 181; refine (jkT _ _ _).mono ?_; rintro e w' ⟨rfl, rfl⟩))
 go_ret2
 exact ⟨rfl, rfl⟩
theorem unary6_7 (x : Int) (w : World) (hx : chk 7 x = true) : Calls Tryz.prog 162 #[.string ⟨#[70, 108, 111, 111, 114]⟩, .int .i64 7, .int .i64 x] w fun e w' => e = .returned (.tuple #[.int .i64 (un 6 7 x).1, .int .i64 (un 6 7 x).2]) ∧ w' = w := by
 rw [un_7 6 x hx (by decide)]
 go_enter Tryz.func162, Tryz.ntmps162
 go_wp2_with (first | (go_at_call 19; refine (jan _ _ _).mono ?_; rintro e w' ⟨rfl, rfl⟩) | (go_at_call 181; refine (jkT _ _ _).mono ?_; rintro e w' ⟨rfl, rfl⟩))
 go_ret2
 exact ⟨rfl, rfl⟩
theorem unary6_9 (x : Int) (w : World) (hx : chk 9 x = true) : Calls Tryz.prog 162 #[.string ⟨#[70, 108, 111, 111, 114]⟩, .int .i64 9, .int .i64 x] w fun e w' => e = .returned (.tuple #[.int .i64 (un 6 9 x).1, .int .i64 (un 6 9 x).2]) ∧ w' = w := by
 rw [un_9 6 x hx (by decide)]
 go_enter Tryz.func162, Tryz.ntmps162
 go_wp2_with (first | (go_at_call 19; refine (jan _ _ _).mono ?_; rintro e w' ⟨rfl, rfl⟩) | (go_at_call 182; refine (jmY _ _).mono ?_; rintro e w' ⟨rfl, rfl⟩))
 go_ret2
 exact ⟨rfl, rfl⟩
theorem unary7_6 (x : Int) (w : World) (hx : chk 6 x = true) : Calls Tryz.prog 162 #[.string ⟨#[69, 120, 112]⟩, .int .i64 6, .int .i64 x] w fun e w' => e = .returned (.tuple #[.int .i64 (un 7 6 x).1, .int .i64 (un 7 6 x).2]) ∧ w' = w := by
 rw [un_6 7 x hx (by decide)]
 go_enter Tryz.func162, Tryz.ntmps162
 go_wp2_with (first | (go_at_call 19; refine (jan _ _ _).mono ?_; rintro e w' ⟨rfl, rfl⟩) | (go_at_call 181; refine (jkU _ _ _).mono ?_; rintro e w' ⟨rfl, rfl⟩))
 go_ret2
 exact ⟨rfl, rfl⟩
theorem unary7_7 (x : Int) (w : World) (hx : chk 7 x = true) : Calls Tryz.prog 162 #[.string ⟨#[69, 120, 112]⟩, .int .i64 7, .int .i64 x] w fun e w' => e = .returned (.tuple #[.int .i64 (un 7 7 x).1, .int .i64 (un 7 7 x).2]) ∧ w' = w := by
 rw [un_7 7 x hx (by decide)]
 go_enter Tryz.func162, Tryz.ntmps162
 go_wp2_with (first | (go_at_call 19; refine (jan _ _ _).mono ?_; rintro e w' ⟨rfl, rfl⟩) | (go_at_call 181; refine (jkU _ _ _).mono ?_; rintro e w' ⟨rfl, rfl⟩))
 go_ret2
 exact ⟨rfl, rfl⟩
theorem unary7_9 (x : Int) (w : World) (hx : chk 9 x = true) : Calls Tryz.prog 162 #[.string ⟨#[69, 120, 112]⟩, .int .i64 9, .int .i64 x] w fun e w' => e = .returned (.tuple #[.int .i64 (un 7 9 x).1, .int .i64 (un 7 9 x).2]) ∧ w' = w := by
 rw [un_9 7 x hx (by decide)]
 go_enter Tryz.func162, Tryz.ntmps162
 go_wp2_with (first | (go_at_call 19; refine (jan _ _ _).mono ?_; rintro e w' ⟨rfl, rfl⟩) | (go_at_call 182; refine (jmZ _ _).mono ?_; rintro e w' ⟨rfl, rfl⟩))
 go_ret2
 exact ⟨rfl, rfl⟩
theorem unary8_6 (x : Int) (w : World) (hx : chk 6 x = true) : Calls Tryz.prog 162 #[.string ⟨#[83, 105, 103, 109, 111, 105, 100]⟩, .int .i64 6, .int .i64 x] w fun e w' => e = .returned (.tuple #[.int .i64 (un 8 6 x).1, .int .i64 (un 8 6 x).2]) ∧ w' = w := by
 rw [un_6 8 x hx (by decide)]
 go_enter Tryz.func162, Tryz.ntmps162
 go_wp2_with (first | (go_at_call 19; refine (jan _ _ _).mono ?_; rintro e w' ⟨rfl, rfl⟩) | (go_at_call 181; refine (jkV _ _ _).mono ?_; rintro e w' ⟨rfl, rfl⟩))
 go_ret2
 exact ⟨rfl, rfl⟩
theorem unary8_7 (x : Int) (w : World) (hx : chk 7 x = true) : Calls Tryz.prog 162 #[.string ⟨#[83, 105, 103, 109, 111, 105, 100]⟩, .int .i64 7, .int .i64 x] w fun e w' => e = .returned (.tuple #[.int .i64 (un 8 7 x).1, .int .i64 (un 8 7 x).2]) ∧ w' = w := by
 rw [un_7 8 x hx (by decide)]
 go_enter Tryz.func162, Tryz.ntmps162
 go_wp2_with (first | (go_at_call 19; refine (jan _ _ _).mono ?_; rintro e w' ⟨rfl, rfl⟩) | (go_at_call 181; refine (jkV _ _ _).mono ?_; rintro e w' ⟨rfl, rfl⟩))
 go_ret2
 exact ⟨rfl, rfl⟩
theorem unary8_9 (x : Int) (w : World) (hx : chk 9 x = true) : Calls Tryz.prog 162 #[.string ⟨#[83, 105, 103, 109, 111, 105, 100]⟩, .int .i64 9, .int .i64 x] w fun e w' => e = .returned (.tuple #[.int .i64 (un 8 9 x).1, .int .i64 (un 8 9 x).2]) ∧ w' = w := by
 rw [un_9 8 x hx (by decide)]
 go_enter Tryz.func162, Tryz.ntmps162
 go_wp2_with (first | (go_at_call 19; refine (jan _ _ _).mono ?_; rintro e w' ⟨rfl, rfl⟩) | (go_at_call 182; refine (jm0 _ _).mono ?_; rintro e w' ⟨rfl, rfl⟩))
 go_ret2
 exact ⟨rfl, rfl⟩
theorem unary9_6 (x : Int) (w : World) (hx : chk 6 x = true) : Calls Tryz.prog 162 #[.string ⟨#[84, 97, 110, 104]⟩, .int .i64 6, .int .i64 x] w fun e w' => e = .returned (.tuple #[.int .i64 (un 9 6 x).1, .int .i64 (un 9 6 x).2]) ∧ w' = w := by
 rw [un_6 9 x hx (by decide)]
 go_enter Tryz.func162, Tryz.ntmps162
 go_wp2_with (first | (go_at_call 19; refine (jan _ _ _).mono ?_; rintro e w' ⟨rfl, rfl⟩) | (go_at_call 181; refine (jkW _ _ _).mono ?_; rintro e w' ⟨rfl, rfl⟩))
 go_ret2
 exact ⟨rfl, rfl⟩
theorem unary9_7 (x : Int) (w : World) (hx : chk 7 x = true) : Calls Tryz.prog 162 #[.string ⟨#[84, 97, 110, 104]⟩, .int .i64 7, .int .i64 x] w fun e w' => e = .returned (.tuple #[.int .i64 (un 9 7 x).1, .int .i64 (un 9 7 x).2]) ∧ w' = w := by
 rw [un_7 9 x hx (by decide)]
 go_enter Tryz.func162, Tryz.ntmps162
 go_wp2_with (first | (go_at_call 19; refine (jan _ _ _).mono ?_; rintro e w' ⟨rfl, rfl⟩) | (go_at_call 181; refine (jkW _ _ _).mono ?_; rintro e w' ⟨rfl, rfl⟩))
 go_ret2
 exact ⟨rfl, rfl⟩
theorem unary9_9 (x : Int) (w : World) (hx : chk 9 x = true) : Calls Tryz.prog 162 #[.string ⟨#[84, 97, 110, 104]⟩, .int .i64 9, .int .i64 x] w fun e w' => e = .returned (.tuple #[.int .i64 (un 9 9 x).1, .int .i64 (un 9 9 x).2]) ∧ w' = w := by
 rw [un_9 9 x hx (by decide)]
 go_enter Tryz.func162, Tryz.ntmps162
 go_wp2_with (first | (go_at_call 19; refine (jan _ _ _).mono ?_; rintro e w' ⟨rfl, rfl⟩) | (go_at_call 182; refine (jm1 _ _).mono ?_; rintro e w' ⟨rfl, rfl⟩))
 go_ret2
 exact ⟨rfl, rfl⟩
end Go.Proofs.YtkefdkboejimeaaGreatDoor.Nu
namespace Go.Proofs.YtkefdkboejimeaaGreatDoor.Nu
open Go.RowKit
theorem joZ (x : Nat) : Extern.MathSqrt.sqrt #[.float .f64 x] = (match FloatKind.f64.format.sqrt x with
    | some r => pure (.float .f64 r)
    | none => do pure (.float .f64 (← choose (.nanBits .f64 x x)))) := rfl
theorem jdj (x : Nat) (w : World) : ∃ r n, (callFunc 195 #[.float .f64 x]).run Tryz.prog w = .ok (.value (.float .f64 r)) (w.drewN n) := by
 have e : (callFunc 195 #[.float .f64 x]).run Tryz.prog w = ((Extern.MathSqrt.sqrt #[.float .f64 x]).run Tryz.prog w).andThen fun v w' => .ok (.value v) w' :=
  run_callFunc_extern (fn := Tryz.f195) (by kernel_rfl) (by kernel_rfl) (by kernel_rfl) (by kernel_rfl) (by kernel_rfl) _ _
 rw [e, joZ]
 cases h : FloatKind.f64.format.sqrt x with
 | some r => exact ⟨r, 0, by simp; rfl⟩
 | none => exact ⟨_, 1, by simp [Question.forced]; exact ⟨rfl, rfl⟩⟩
theorem jcQ (x : Nat) (w : World) : ∃ r n, (callFunc 196 #[.float .f64 x]).run Tryz.prog w = .ok (.value (.float .f64 r)) (w.drewN n) := by
 have e : (callFunc 196 #[.float .f64 x]).run Tryz.prog w = ((Extern.MathFloor.toIntegral "math.archFloor" .down #[.float .f64 x]).run Tryz.prog w).andThen fun v w' => .ok (.value v) w' :=
  run_callFunc_extern (fn := Tryz.f196) (by kernel_rfl) (by kernel_rfl) (by kernel_rfl) (by kernel_rfl) (by kernel_rfl) _ _
 rw [e]
 have e2 : ∃ q : Question, q.forced = false ∧ Extern.MathFloor.toIntegral "math.archFloor" .down #[.float .f64 x] = (match FloatKind.f64.decode x with
  | .nan s t =>
   if FloatKind.f64.format.quiet t = t then pure (.float .f64 x) else do
   let kept ← choose q
   pure (.float .f64 (if kept == 1 then x else FloatKind.f64.encode (.nan s (FloatKind.f64.format.quiet t))))
  | d => pure (.float .f64 (FloatKind.f64.encode (d.integral .down)))) := ⟨_, by decide, rfl⟩
 obtain ⟨q, hq, e2⟩ := e2
 rw [e2]
 cases h : FloatKind.f64.decode x with
 | number s m i => exact ⟨_, 0, by simp; exact ⟨rfl, rfl⟩⟩
 | infinity s => exact ⟨_, 0, by simp; exact ⟨rfl, rfl⟩⟩
 | nan s t =>
  by_cases ht : FloatKind.f64.format.quiet t = t
  ·exact ⟨_, 0, by simp [ht]; exact ⟨rfl, rfl⟩⟩
  ·exact ⟨_, 1, by simp [ht, hq]; exact ⟨rfl, rfl⟩⟩
theorem jm2 : ∃ (r : Nat → World → Nat) (n : Nat → World → Nat), ∀ x w, (callFunc 195 #[.float .f64 x]).run Tryz.prog w = .ok (.value (.float .f64 (r x w))) (w.drewN (n x w)) :=
 ⟨fun x w => Classical.choose (jdj x w), fun x w => Classical.choose (Classical.choose_spec (jdj x w)), fun x w => Classical.choose_spec (Classical.choose_spec (jdj x w))⟩
theorem jkY : ∃ (r : Nat → World → Nat) (n : Nat → World → Nat), ∀ x w, (callFunc 196 #[.float .f64 x]).run Tryz.prog w = .ok (.value (.float .f64 (r x w))) (w.drewN (n x w)) :=
 ⟨fun x w => Classical.choose (jcQ x w), fun x w => Classical.choose (Classical.choose_spec (jcQ x w)), fun x w => Classical.choose_spec (Classical.choose_spec (jcQ x w))⟩
theorem jhJ (b : Nat) (w : World) : (convert 48 174 (.float .f32 b)).run Tryz.prog w = .ok (.float .f64 (joI .f32 .f64 b w)) (w.drewN (cdr .f32 .f64 b)) := jir w _ _ _ _ _ (by kernel_rfl) (by kernel_rfl)
theorem jeQ (b : Nat) (w : World) : (convert 174 48 (.float .f64 b)).run Tryz.prog w = .ok (.float .f32 (joI .f64 .f32 b w)) (w.drewN (cdr .f64 .f32 b)) := jir w _ _ _ _ _ (by kernel_rfl) (by kernel_rfl)
theorem jfY (b : Nat) (w : World) : (convert 174 3 (.float .f64 b)).run Tryz.prog w = .ok (.int .i64 (ival .f64 .i64 b w)) (w.drewN (idr .f64 .i64 b)) := jmu w _ _ _ _ _ (by kernel_rfl) (by kernel_rfl)
theorem jdV (b : Nat) (w : World) : (callFunc 211 #[.float .f64 b]).run Tryz.prog w = .ok (.value (.int .u64 b)) w := by kernel_rfl
theorem jdW (n : Int) (w : World) : (callFunc 213 #[.int .u64 n]).run Tryz.prog w = .ok (.value (.float .f64 n.toNat)) w := by kernel_rfl
attribute [local go_sem] jhJ jeQ jfY jdV jdW jdv jdw jfM jfN jfO jfP jfL
theorem jkZ (x : Nat) (w : World) : Calls Tryz.prog 187 #[.float .f64 x] w fun e w' => ∃ r n, e = .returned (.float .f64 r) ∧ w' = w.drewN n := by
 obtain ⟨r, n, h⟩ := jkY
 go_enter Tryz.func187, Tryz.ntmps187
 go_wp2
 go_ret
 exact ⟨_, _, rfl, rfl⟩
theorem jpW (x : Nat) (w : World) : Calls Tryz.prog 186 #[.float .f64 x] w fun e w' => ∃ r n, e = .returned (.float .f64 r) ∧ w' = w.drewN n := by
 obtain ⟨r, n, h⟩ := jm2
 go_enter Tryz.func186, Tryz.ntmps186
 go_wp2
 go_ret
 exact ⟨_, _, rfl, rfl⟩
theorem jhK (x : Nat) (w : World) : Calls Tryz.prog 210 #[.float .f64 x] w fun e w' => ∃ r m n, e = .returned (.tuple #[.float .f64 r, .int .i64 m]) ∧ w' = w.drewN n := by
 go_enter Tryz.func210, Tryz.ntmps210
 go_wp2
 all_goals
  go_ret2
  first | exact ⟨_, _, 0, rfl, rfl⟩ | exact ⟨_, _, _, rfl, rfl⟩
theorem jjp (x y : Nat) (w : World) : Calls Tryz.prog 209 #[.float .f64 x, .float .f64 y] w fun e w' => ∃ r n, e = .returned (.float .f64 r) ∧ w' = w.drewN n := by
 go_enter Tryz.func209, Tryz.ntmps209
 go_wp2
 all_goals
  go_ret
  exact ⟨_, 0, rfl, rfl⟩
end Go.Proofs.YtkefdkboejimeaaGreatDoor.Nu
namespace Go.Proofs.YtkefdkboejimeaaGreatDoor.Nu
open Go.RowKit
attribute [local go_sem] jhJ jeQ jfY jdV jdW jdv jdw jfM jfN jfO jfP jfL
theorem jo0 (x : Nat) (m : Int) (w : World) : Calls Tryz.prog 206 #[.float .f64 x, .int .i64 m] w fun e w' => ∃ r n, e = .returned (.float .f64 r) ∧ w' = w.drewN n := by
 go_enter Tryz.func206, Tryz.ntmps206
 go_wp2_with (first | (go_at_call 210; refine (jhK _ _).mono ?_; rintro e w' ⟨r, m, n, rfl, rfl⟩) | (go_at_call 209; refine (jjp _ _ _).mono ?_; rintro e w' ⟨r, n, rfl, rfl⟩) | go_in)
 all_goals
  go_ret
  first | exact ⟨_, 0, rfl, rfl⟩ | exact ⟨_, _, rfl, rfl⟩
theorem jo1 (x : Nat) (m : Int) (w : World) : Calls Tryz.prog 198 #[.float .f64 x, .int .i64 m] w fun e w' => ∃ r n, e = .returned (.float .f64 r) ∧ w' = w.drewN n := by
 go_enter Tryz.func198, Tryz.ntmps198
 go_wp2_with (first | (go_at_call 206; refine (jo0 _ _ _).mono ?_; rintro e w' ⟨r, n, rfl, rfl⟩) | go_in)
 go_ret
 exact ⟨_, _, rfl, rfl⟩
theorem jo2 (x : Nat) (w : World) (hx : x < 4294967296) : Calls Tryz.prog 188 #[.float .f32 x] w fun e w' => ∃ r n, r < 4294967296 ∧ e = .returned (.float .f32 r) ∧ w' = w.drewN n := by
 cases h1 : (FloatKind.f32.format.order x x != some .eq) with
 | true =>
  go_enter Tryz.func188, Tryz.ntmps188
  go_wp2
  go_ret
  exact ⟨x, 0, hx, rfl, rfl⟩
 | false =>
  cases h2 : (FloatKind.f32.format.order x 1118961664 == some .gt) with
  | true =>
   go_enter Tryz.func188, Tryz.ntmps188
   go_wp2_with (first | (go_at_call 21; refine (jbn _ _).mono ?_; rintro e w' ⟨rfl, rfl⟩) | go_in)
   go_ret
   exact ⟨_, 0, fb_lt _, rfl, rfl⟩
  | false =>
   cases h3 : (FloatKind.f32.format.order x 3268542464 == some .lt) with
   | true =>
    go_enter Tryz.func188, Tryz.ntmps188
    go_wp2
    go_ret
    exact ⟨0, 0, by decide, rfl, rfl⟩
   | false =>
    go_enter Tryz.func188, Tryz.ntmps188
    go_wp2_with (first | (go_at_call 187; refine (jkZ _ _).mono ?_; rintro e w' ⟨kf, n1, rfl, rfl⟩) | fail)
    go_loopw [6, 7] (fun p i w' => ∃ (k r n : Nat), k ≤ 13 ∧ i = .int .i64 k ∧ p = .float .f64 r ∧ w' = w.drewN n) (fun _ i _ => (intOf i).toNat)
    case atStart => exact ⟨13, _, _, Nat.le_refl _, rfl, rfl, rfl⟩
    case round =>
     obtain ⟨k, r, n, hk, rfl, rfl, rfl⟩ := hrel
     by_cases hlt : 1 ≤ k
     ·go_wp2
      go_roundw
      case rel => exact ⟨k - 1, _, _, by omega, by go_num, rfl, rfl⟩
      case measure => simp [intOf]; omega
     ·go_wp2_with (first | (go_at_call 198; refine (jo1 _ _ _).mono ?_; rintro e w' ⟨rl, nl, rfl, rfl⟩) | (go_at_call 21; refine (jbn _ _).mono ?_; rintro e w' ⟨rfl, rfl⟩) | go_in)
      all_goals
       go_ret
       first | exact ⟨_, _, fb_lt _, rfl, rfl⟩ | exact ⟨_, _, jeF _ _, rfl, rfl⟩
end Go.Proofs.YtkefdkboejimeaaGreatDoor.Nu
