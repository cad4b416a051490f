/- Joined texts: NuWalkA, NuWalkB, NuWalkC, NuWalkD, NuWalkL, NuWalkF. -/
import Derived.Test.YtkefdkboejimeaaGreatDoorRows
import Derived.Test.YtkefdkboejimeaaGreatDoorRartAM
namespace Go.Proofs.YtkefdkboejimeaaGreatDoor.Nu

open Go.RowKit

set_option maxHeartbeats 400000 in
theorem check_any (t x : Int) (w : World) : Calls Tryz.prog 19 #[.int .i64 t, .int .i64 x] w fun e w' => e = .returned (.bool (chk t x)) ∧ w' = w := by
  by_cases h1 : t = 1
  · have c : chk t x = (decide (0 ≤ x) && (decide (x < 4294967296) && (x == 2143289344 || decide (x % 2147483648 ≤ 2139095040)))) := by
      rw [chk_float t x h1, Bool.eq_iff_iff]; simp
    have h1' : (t == 1) = true := by simpa using h1
    clear h1
    by_cases hx0 : 0 ≤ x
    · by_cases hx1 : x < 4294967296
      · have a := andNot_i64 x hx0 hx1
        by_cases hx2 : x = 2143289344
        · have c' : chk t x = true := by rw [c]; simp [hx2]
          rw [c']; clear c c'; subst hx2
          go_enter Tryz.func19, Tryz.ntmps19
          go_wp2
          go_ret
          exact ⟨rfl, rfl⟩
        · have c' : chk t x = decide (x % 2147483648 ≤ 2139095040) := by rw [c]; simp [hx0, hx1, hx2]
          rw [c']; clear c c'
          have hx2' : (x == 2143289344) = false := by simpa using hx2
          clear hx2
          go_enter Tryz.func19, Tryz.ntmps19
          go_wp2
          go_ret
          exact ⟨rfl, rfl⟩
      · have c' : chk t x = false := by rw [c]; simp [hx1]
        rw [c']; clear c c'
        go_enter Tryz.func19, Tryz.ntmps19
        go_wp2
        go_ret
        exact ⟨rfl, rfl⟩
    · have c' : chk t x = false := by rw [c]; simp [hx0]
      rw [c']; clear c c'
      go_enter Tryz.func19, Tryz.ntmps19
      go_wp2
      go_ret
      exact ⟨rfl, rfl⟩
  · have h1' : (t == 1) = false := by simpa using h1
    by_cases h6 : t = 6
    · have h6' : (t == 6) = true := by simpa using h6
      have c : chk t x = (x == wrap64 (wrap32 x)) := by rw [chk6]; simp [chk, h6]
      rw [c]; clear c h1 h6
      go_enter Tryz.func19, Tryz.ntmps19
      go_wp2
      go_ret
      exact ⟨rfl, rfl⟩
    · have h6' : (t == 6) = false := by simpa using h6
      by_cases h7 : t = 7
      · have h7' : (t == 7) = true := by simpa using h7
        have c : chk t x = true := by simp [chk, h7]
        rw [c]; clear c h1 h6 h7
        go_enter Tryz.func19, Tryz.ntmps19
        go_wp2
        go_ret
        exact ⟨rfl, rfl⟩
      · have h7' : (t == 7) = false := by simpa using h7
        by_cases h9 : t = 9
        · have h9' : (t == 9) = true := by simpa using h9
          have c : chk t x = (x == 0 || x == 1) := by rw [Bool.eq_iff_iff]; simp [chk, h9]
          by_cases hx0 : x = 0
          · have c' : chk t x = true := by rw [c]; simp [hx0]
            rw [c']; clear c c' h1 h6 h7 h9; subst hx0
            go_enter Tryz.func19, Tryz.ntmps19
            go_wp2
            go_ret
            exact ⟨rfl, rfl⟩
          · have hx0' : (x == 0) = false := by simpa using hx0
            rw [c]; clear c h1 h6 h7 h9 hx0
            go_enter Tryz.func19, Tryz.ntmps19
            go_wp2
            go_ret
            exact ⟨by simp [hx0'], rfl⟩
        · have h9' : (t == 9) = false := by simpa using h9
          have c : chk t x = false := by simp [chk, h1, h6, h7, h9]
          rw [c]; clear c h1 h6 h7 h9
          go_enter Tryz.func19, Tryz.ntmps19
          go_wp2
          go_ret
          exact ⟨rfl, rfl⟩

end Go.Proofs.YtkefdkboejimeaaGreatDoor.Nu

namespace Go.Proofs.YtkefdkboejimeaaGreatDoor.Nu

open Go.RowKit

theorem ext_from (n : Int) (w : World) : (callFunc 47 #[.int .u32 n]).run Tryz.prog w = .ok (.value (.float .f32 n.toNat)) w := by kernel_rfl
theorem ext_bits (b : Nat) (w : World) : (callFunc 91 #[.float .f32 b]).run Tryz.prog w = .ok (.value (.int .u32 b)) w := by kernel_rfl

attribute [local go_sem] ext_from ext_bits

set_option maxHeartbeats 400000 in
theorem from_any (x : Int) (w : World) : Calls Tryz.prog 21 #[.int .i64 x] w fun e w' => e = .returned (.float .f32 (fb x)) ∧ w' = w := by
  go_enter Tryz.func21, Tryz.ntmps21
  go_wp2
  go_ret
  exact ⟨rfl, rfl⟩

set_option maxHeartbeats 400000 in
theorem to_any (b : Nat) (w : World) (hb : b < 4294967296) : Calls Tryz.prog 44 #[.float .f32 b] w fun e w' => e = .returned (.int .i64 (tob b)) ∧ w' = w := by
  by_cases h : (FloatKind.f32.format.order b b != some .eq) = true
  · have c : tob b = 2143289344 := by unfold tob; rw [if_pos h]
    rw [c]; clear c
    go_enter Tryz.func44, Tryz.ntmps44
    go_wp2
    go_ret
    exact ⟨rfl, rfl⟩
  · have c : tob b = b := by unfold tob; rw [if_neg h]
    have h' : (FloatKind.f32.format.order b b != some .eq) = false := by simpa using h
    rw [c]; clear c h
    go_enter Tryz.func44, Tryz.ntmps44
    go_wp2
    go_ret
    exact ⟨rfl, rfl⟩

set_option maxHeartbeats 400000 in
theorem add_f (x y : Nat) (w : World) : Calls Tryz.prog 20 #[.string ⟨#[65, 100, 100]⟩, .float .f32 x, .float .f32 y] w fun e w' => e = .returned (.tuple #[.int .i64 (tobO (floatBits .add .f32 x y)), .int .i64 0]) ∧ ∃ n, w' = w.drewN n := by
  cases h : floatBits .add .f32 x y with
  | some r =>
    have hr : r < 4294967296 := Ieee.Format.add_lt _ h
    have hrun := fun w t => run_float_arith (P := Tryz.prog) w .add t .f32 x y r h
    show Calls _ _ _ _ fun e w' => e = .returned (.tuple #[.int .i64 (tob r), .int .i64 0]) ∧ ∃ n, w' = w.drewN n
    clear h
    go_enter Tryz.func20, Tryz.ntmps20
    go_wp2_with (first | (go_at_call 44; refine (to_any _ _ hr).mono ?_; rintro e w' ⟨rfl, rfl⟩) | go_in)
    go_ret2
    exact ⟨rfl, 0, rfl⟩
  | none =>
    have hrun := fun w t => run_float_none (P := Tryz.prog) w .add t x y (by decide) h
    show Calls _ _ _ _ fun e w' => e = .returned (.tuple #[.int .i64 2143289344, .int .i64 0]) ∧ ∃ n, w' = w.drewN n
    clear h
    go_enter Tryz.func20, Tryz.ntmps20
    go_wp2_with (first | (go_at_call 44; refine (to_any _ _ (nb_lt _ _ _)).mono ?_; rw [tob_nb]; rintro e w' ⟨rfl, rfl⟩) | go_in)
    go_ret2
    exact ⟨rfl, 1, rfl⟩

set_option maxHeartbeats 400000 in
theorem mul_f (x y : Nat) (w : World) : Calls Tryz.prog 20 #[.string ⟨#[77, 117, 108]⟩, .float .f32 x, .float .f32 y] w fun e w' => e = .returned (.tuple #[.int .i64 (tobO (floatBits .mul .f32 x y)), .int .i64 0]) ∧ ∃ n, w' = w.drewN n := by
  cases h : floatBits .mul .f32 x y with
  | some r =>
    have hr : r < 4294967296 := Ieee.Format.mul_lt _ h
    have hrun := fun w t => run_float_arith (P := Tryz.prog) w .mul t .f32 x y r h
    show Calls _ _ _ _ fun e w' => e = .returned (.tuple #[.int .i64 (tob r), .int .i64 0]) ∧ ∃ n, w' = w.drewN n
    clear h
    go_enter Tryz.func20, Tryz.ntmps20
    go_wp2_with (first | (go_at_call 44; refine (to_any _ _ hr).mono ?_; rintro e w' ⟨rfl, rfl⟩) | go_in)
    go_ret2
    exact ⟨rfl, 0, rfl⟩
  | none =>
    have hrun := fun w t => run_float_none (P := Tryz.prog) w .mul t x y (by decide) h
    show Calls _ _ _ _ fun e w' => e = .returned (.tuple #[.int .i64 2143289344, .int .i64 0]) ∧ ∃ n, w' = w.drewN n
    clear h
    go_enter Tryz.func20, Tryz.ntmps20
    go_wp2_with (first | (go_at_call 44; refine (to_any _ _ (nb_lt _ _ _)).mono ?_; rw [tob_nb]; rintro e w' ⟨rfl, rfl⟩) | go_in)
    go_ret2
    exact ⟨rfl, 1, rfl⟩

end Go.Proofs.YtkefdkboejimeaaGreatDoor.Nu

namespace Go.Proofs.YtkefdkboejimeaaGreatDoor.Nu

open Go.RowKit

set_option maxHeartbeats 400000 in
theorem max_run (x y r : Nat) (w : World) (hr : r < 4294967296) (hrun : ∀ (w : World) (ts : Array TypeId) (t : TypeId), (Builtin.max_ ts t #[.float .f32 x, .float .f32 y]).run Tryz.prog w = .ok (.float .f32 r) w) :
    Calls Tryz.prog 20 #[.string ⟨#[77, 97, 120]⟩, .float .f32 x, .float .f32 y] w fun e w' => e = .returned (.tuple #[.int .i64 (tob r), .int .i64 0]) ∧ ∃ n, w' = w.drewN n := by
  go_enter Tryz.func20, Tryz.ntmps20
  go_wp2_with (first | (go_at_call 44; refine (to_any _ _ hr).mono ?_; rintro e w' ⟨rfl, rfl⟩) | go_in)
  go_ret2
  exact ⟨rfl, 0, rfl⟩

set_option maxHeartbeats 400000 in
theorem max_none (x y : Nat) (w : World) (h : ord x y = none) :
    Calls Tryz.prog 20 #[.string ⟨#[77, 97, 120]⟩, .float .f32 x, .float .f32 y] w fun e w' => e = .returned (.tuple #[.int .i64 2143289344, .int .i64 0]) ∧ ∃ n, w' = w.drewN n := by
  have hrun := fun w ts t => run_maxF_none (P := Tryz.prog) w ts t x y h
  clear h
  go_enter Tryz.func20, Tryz.ntmps20
  go_wp2_with (first | (go_at_call 44; refine (to_any _ _ (nb_lt _ _ _)).mono ?_; rw [tob_nb]; rintro e w' ⟨rfl, rfl⟩) | go_in)
  go_ret2
  exact ⟨rfl, 1, rfl⟩

theorem max_f (x y : Nat) (w : World) (hx : x < 4294967296) (hy : y < 4294967296) :
    Calls Tryz.prog 20 #[.string ⟨#[77, 97, 120]⟩, .float .f32 x, .float .f32 y] w fun e w' => e = .returned (.tuple #[.int .i64 (maxF x y), .int .i64 0]) ∧ ∃ n, w' = w.drewN n := by
  cases h : ord x y with
  | none => have e : maxF x y = 2143289344 := by simp [maxF, h]
            rw [e]; exact max_none x y w h
  | some c =>
    cases c with
    | lt => have e : maxF x y = tob y := by simp [maxF, h]
            rw [e]; exact max_run x y y w hy (fun w ts t => run_maxF_lt w ts t x y h)
    | gt => have e : maxF x y = tob x := by simp [maxF, h]
            rw [e]; exact max_run x y x w hx (fun w ts t => run_maxF_gt w ts t x y h)
    | eq =>
      cases hn : (FloatKind.f32.decode x).neg with
      | true => have e : maxF x y = tob y := by simp [maxF, h, hn]
                rw [e]; exact max_run x y y w hy (fun w ts t => by rw [run_maxF_eq w ts t x y h, hn]; rfl)
      | false => have e : maxF x y = tob x := by simp [maxF, h, hn]
                 rw [e]; exact max_run x y x w hx (fun w ts t => by rw [run_maxF_eq w ts t x y h, hn]; rfl)

set_option maxHeartbeats 400000 in
theorem cmp10_f (x y : Nat) (w : World) :
    Calls Tryz.prog 20 #[.string ⟨#[76, 101, 115, 115]⟩, .float .f32 x, .float .f32 y] w fun e w' => e = .returned (.tuple #[.int .i64 (b2i (ord x y == some .lt)), .int .i64 0]) ∧ ∃ n, w' = w.drewN n := by
  cases h : (ord x y == some .lt) with
  | true =>
    have h' : (FloatKind.f32.format.order x y == some .lt) = true := h
    show Calls _ _ _ _ fun e w' => e = .returned (.tuple #[.int .i64 1, .int .i64 0]) ∧ ∃ n, w' = w.drewN n
    clear h
    go_enter Tryz.func20, Tryz.ntmps20
    go_wp2
    go_ret2
    exact ⟨rfl, 0, rfl⟩
  | false =>
    have h' : (FloatKind.f32.format.order x y == some .lt) = false := h
    show Calls _ _ _ _ fun e w' => e = .returned (.tuple #[.int .i64 0, .int .i64 0]) ∧ ∃ n, w' = w.drewN n
    clear h
    go_enter Tryz.func20, Tryz.ntmps20
    go_wp2
    go_ret2
    exact ⟨rfl, 0, rfl⟩

end Go.Proofs.YtkefdkboejimeaaGreatDoor.Nu

namespace Go.Proofs.YtkefdkboejimeaaGreatDoor.Nu

open Go.RowKit

theorem wrapT6 (t n : Int) (h : (t == 6) = true) : wrapT t n = wrap64 (wrap32 n) := by simp at h; simp [wrapT, h]
theorem wrapT7 (t n : Int) (h : (t == 6) = false) : wrapT t n = n := by simp at h; simp [wrapT, h]

set_option maxHeartbeats 400000 in
theorem int0_f (t x y : Int) (w : World) : Calls Tryz.prog 22 #[.string ⟨#[65, 100, 100]⟩, .int .i64 t, .int .i64 x, .int .i64 y] w fun e w' => e = .returned (.tuple #[.int .i64 (wrapT t (wrap64 (x + y))), .int .i64 0]) ∧ w' = w := by
  cases h : (t == 6) with
  | true =>
    rw [wrapT6 t _ h]
    go_enter Tryz.func22, Tryz.ntmps22
    go_wp2
    go_ret2
    exact ⟨rfl, rfl⟩
  | false =>
    rw [wrapT7 t _ h]
    go_enter Tryz.func22, Tryz.ntmps22
    go_wp2
    go_ret2
    exact ⟨rfl, rfl⟩

set_option maxHeartbeats 400000 in
theorem int2_f (t x y : Int) (w : World) : Calls Tryz.prog 22 #[.string ⟨#[77, 117, 108]⟩, .int .i64 t, .int .i64 x, .int .i64 y] w fun e w' => e = .returned (.tuple #[.int .i64 (wrapT t (wrap64 (x * y))), .int .i64 0]) ∧ w' = w := by
  cases h : (t == 6) with
  | true =>
    rw [wrapT6 t _ h]
    go_enter Tryz.func22, Tryz.ntmps22
    go_wp2
    go_ret2
    exact ⟨rfl, rfl⟩
  | false =>
    rw [wrapT7 t _ h]
    go_enter Tryz.func22, Tryz.ntmps22
    go_wp2
    go_ret2
    exact ⟨rfl, rfl⟩

set_option maxHeartbeats 400000 in
theorem int4_f (t x y : Int) (w : World) : Calls Tryz.prog 22 #[.string ⟨#[77, 97, 120]⟩, .int .i64 t, .int .i64 x, .int .i64 y] w fun e w' => e = .returned (.tuple #[.int .i64 (wrapT t (maxI x y)), .int .i64 0]) ∧ w' = w := by
  by_cases hm : x < y
  · rw [show maxI x y = y from if_pos hm]
    cases h : (t == 6) with
    | true =>
      rw [wrapT6 t _ h]
      go_enter Tryz.func22, Tryz.ntmps22
      go_wp2
      go_ret2
      exact ⟨rfl, rfl⟩
    | false =>
      rw [wrapT7 t _ h]
      go_enter Tryz.func22, Tryz.ntmps22
      go_wp2
      go_ret2
      exact ⟨rfl, rfl⟩
  · rw [show maxI x y = x from if_neg hm]
    cases h : (t == 6) with
    | true =>
      rw [wrapT6 t _ h]
      go_enter Tryz.func22, Tryz.ntmps22
      go_wp2
      go_ret2
      exact ⟨rfl, rfl⟩
    | false =>
      rw [wrapT7 t _ h]
      go_enter Tryz.func22, Tryz.ntmps22
      go_wp2
      go_ret2
      exact ⟨rfl, rfl⟩

set_option maxHeartbeats 400000 in
theorem int10_f (t x y : Int) (w : World) : Calls Tryz.prog 22 #[.string ⟨#[76, 101, 115, 115]⟩, .int .i64 t, .int .i64 x, .int .i64 y] w fun e w' => e = .returned (.tuple #[.int .i64 (b2i (decide (x < y))), .int .i64 0]) ∧ w' = w := by
  cases h : (decide (x < y)) with
  | true =>
    show Calls _ _ _ _ fun e w' => e = .returned (.tuple #[.int .i64 1, .int .i64 0]) ∧ w' = w
    go_enter Tryz.func22, Tryz.ntmps22
    go_wp2
    go_ret2
    exact ⟨rfl, rfl⟩
  | false =>
    show Calls _ _ _ _ fun e w' => e = .returned (.tuple #[.int .i64 0, .int .i64 0]) ∧ w' = w
    go_enter Tryz.func22, Tryz.ntmps22
    go_wp2
    go_ret2
    exact ⟨rfl, rfl⟩

set_option maxHeartbeats 400000 in
theorem bool0_f (x y : Int) (w : World) : Calls Tryz.prog 23 #[.string ⟨#[65, 100, 100]⟩, .int .i64 x, .int .i64 y] w fun e w' => e = .returned (.tuple #[.int .i64 0, .int .i64 1]) ∧ w' = w := by
  go_enter Tryz.func23, Tryz.ntmps23
  go_wp2
  go_ret2
  exact ⟨rfl, rfl⟩

set_option maxHeartbeats 400000 in
theorem bool2_f (x y : Int) (w : World) : Calls Tryz.prog 23 #[.string ⟨#[77, 117, 108]⟩, .int .i64 x, .int .i64 y] w fun e w' => e = .returned (.tuple #[.int .i64 0, .int .i64 1]) ∧ w' = w := by
  go_enter Tryz.func23, Tryz.ntmps23
  go_wp2
  go_ret2
  exact ⟨rfl, rfl⟩

set_option maxHeartbeats 400000 in
theorem bool4_f (x y : Int) (w : World) : Calls Tryz.prog 23 #[.string ⟨#[77, 97, 120]⟩, .int .i64 x, .int .i64 y] w fun e w' => e = .returned (.tuple #[.int .i64 0, .int .i64 1]) ∧ w' = w := by
  go_enter Tryz.func23, Tryz.ntmps23
  go_wp2
  go_ret2
  exact ⟨rfl, rfl⟩

set_option maxHeartbeats 400000 in
theorem bool10_f (x y : Int) (w : World) : Calls Tryz.prog 23 #[.string ⟨#[76, 101, 115, 115]⟩, .int .i64 x, .int .i64 y] w fun e w' => e = .returned (.tuple #[.int .i64 0, .int .i64 1]) ∧ w' = w := by
  go_enter Tryz.func23, Tryz.ntmps23
  go_wp2
  go_ret2
  exact ⟨rfl, rfl⟩

end Go.Proofs.YtkefdkboejimeaaGreatDoor.Nu

namespace Go.Proofs.YtkefdkboejimeaaGreatDoor.Nu

open Go.RowKit

theorem chk_types (t x : Int) (h : chk t x = true) : t = 1 ∨ t = 6 ∨ t = 7 ∨ t = 9 := by
  unfold chk at h
  split at h
  · omega
  · split at h
    · omega
    · split at h
      · omega
      · split at h
        · omega
        · cases h

theorem chk9 (x : Int) (h : chk 9 x = true) : x = 0 ∨ x = 1 := by simpa [chk] using h

theorem bin_nox (k : Nat) (t x y : Int) (h : chk t x = false) : bin k t x y = (0, 1) := by simp [bin, h]
theorem bin_noy (k : Nat) (t x y : Int) (h : chk t y = false) : bin k t x y = (0, 1) := by simp [bin, h]
theorem bin_1 (k : Nat) (x y : Int) (hx : chk 1 x = true) (hy : chk 1 y = true) : bin k 1 x y = binFl k (fb x) (fb y) := by simp [bin, hx, hy]
theorem bin_6 (k : Nat) (x y : Int) (hx : chk 6 x = true) (hy : chk 6 y = true) : bin k 6 x y = binIn k 6 x y := by simp [bin, hx, hy]
theorem bin_7 (k : Nat) (x y : Int) (hx : chk 7 x = true) (hy : chk 7 y = true) : bin k 7 x y = binIn k 7 x y := by simp [bin, hx, hy]
theorem bin_9 (k : Nat) (x y : Int) (hx : chk 9 x = true) (hy : chk 9 y = true) : bin k 9 x y = binBo k x y := by simp [bin, hx, hy]

set_option maxHeartbeats 400000 in
theorem binary0_no (t x y : Int) (w : World) (h : chk t x = false ∨ chk t x = true ∧ chk t y = false) : Calls Tryz.prog 13 #[.string ⟨#[65, 100, 100]⟩, .int .i64 t, .int .i64 x, .int .i64 y] w fun e w' => e = .returned (.tuple #[.int .i64 0, .int .i64 1]) ∧ ∃ n, w' = w.drewN n := by
  rcases h with hx | ⟨hx, hy⟩
  all_goals
    go_enter Tryz.func13, Tryz.ntmps13
    go_wp2_with (first | (go_at_call 19; refine (check_any _ _ _).mono ?_; rintro e w' ⟨rfl, rfl⟩))
    go_ret2
    exact ⟨rfl, 0, rfl⟩

set_option maxHeartbeats 400000 in
theorem binary0_1 (x y : Int) (w : World) (hx : chk 1 x = true) (hy : chk 1 y = true) : Calls Tryz.prog 13 #[.string ⟨#[65, 100, 100]⟩, .int .i64 1, .int .i64 x, .int .i64 y] w fun e w' => e = .returned (.tuple #[.int .i64 (bin 0 1 x y).1, .int .i64 (bin 0 1 x y).2]) ∧ ∃ n, w' = w.drewN n := by
  rw [bin_1 0 x y hx hy]
  go_enter Tryz.func13, Tryz.ntmps13
  go_wp2_with (first | (go_at_call 19; refine (check_any _ _ _).mono ?_; rintro e w' ⟨rfl, rfl⟩) | (go_at_call 21; refine (from_any _ _).mono ?_; rintro e w' ⟨rfl, rfl⟩) | (go_at_call 20; refine (add_f _ _ _).mono ?_; rintro e w' ⟨rfl, n, rfl⟩))
  go_ret2
  exact ⟨rfl, _, rfl⟩

set_option maxHeartbeats 400000 in
theorem binary0_6 (x y : Int) (w : World) (hx : chk 6 x = true) (hy : chk 6 y = true) : Calls Tryz.prog 13 #[.string ⟨#[65, 100, 100]⟩, .int .i64 6, .int .i64 x, .int .i64 y] w fun e w' => e = .returned (.tuple #[.int .i64 (bin 0 6 x y).1, .int .i64 (bin 0 6 x y).2]) ∧ ∃ n, w' = w.drewN n := by
  rw [bin_6 0 x y hx hy]
  go_enter Tryz.func13, Tryz.ntmps13
  go_wp2_with (first | (go_at_call 19; refine (check_any _ _ _).mono ?_; rintro e w' ⟨rfl, rfl⟩) | (go_at_call 22; refine (int0_f _ _ _ _).mono ?_; rintro e w' ⟨rfl, rfl⟩))
  go_ret2
  exact ⟨rfl, 0, rfl⟩

set_option maxHeartbeats 400000 in
theorem binary0_7 (x y : Int) (w : World) (hx : chk 7 x = true) (hy : chk 7 y = true) : Calls Tryz.prog 13 #[.string ⟨#[65, 100, 100]⟩, .int .i64 7, .int .i64 x, .int .i64 y] w fun e w' => e = .returned (.tuple #[.int .i64 (bin 0 7 x y).1, .int .i64 (bin 0 7 x y).2]) ∧ ∃ n, w' = w.drewN n := by
  rw [bin_7 0 x y hx hy]
  go_enter Tryz.func13, Tryz.ntmps13
  go_wp2_with (first | (go_at_call 19; refine (check_any _ _ _).mono ?_; rintro e w' ⟨rfl, rfl⟩) | (go_at_call 22; refine (int0_f _ _ _ _).mono ?_; rintro e w' ⟨rfl, rfl⟩))
  go_ret2
  exact ⟨rfl, 0, rfl⟩

set_option maxHeartbeats 400000 in
theorem binary0_9 (x y : Int) (w : World) (hx : chk 9 x = true) (hy : chk 9 y = true) : Calls Tryz.prog 13 #[.string ⟨#[65, 100, 100]⟩, .int .i64 9, .int .i64 x, .int .i64 y] w fun e w' => e = .returned (.tuple #[.int .i64 (bin 0 9 x y).1, .int .i64 (bin 0 9 x y).2]) ∧ ∃ n, w' = w.drewN n := by
  rw [bin_9 0 x y hx hy]
  go_enter Tryz.func13, Tryz.ntmps13
  go_wp2_with (first | (go_at_call 19; refine (check_any _ _ _).mono ?_; rintro e w' ⟨rfl, rfl⟩) | (go_at_call 23; refine (bool0_f _ _ _).mono ?_; rintro e w' ⟨rfl, rfl⟩))
  go_ret2
  exact ⟨rfl, 0, rfl⟩

theorem binary0 (t x y : Int) (w : World) : Calls Tryz.prog 13 #[.string ⟨#[65, 100, 100]⟩, .int .i64 t, .int .i64 x, .int .i64 y] w fun e w' => e = .returned (.tuple #[.int .i64 (bin 0 t x y).1, .int .i64 (bin 0 t x y).2]) ∧ ∃ n, w' = w.drewN n := by
  cases hx : chk t x with
  | false => rw [bin_nox 0 t x y hx]; exact binary0_no t x y w (.inl hx)
  | true =>
    cases hy : chk t y with
    | false => rw [bin_noy 0 t x y hy]; exact binary0_no t x y w (.inr ⟨hx, hy⟩)
    | true =>
      rcases chk_types t x hx with rfl | rfl | rfl | rfl
      · exact binary0_1 x y w hx hy
      · exact binary0_6 x y w hx hy
      · exact binary0_7 x y w hx hy
      · exact binary0_9 x y w hx hy

set_option maxHeartbeats 400000 in
theorem binary2_no (t x y : Int) (w : World) (h : chk t x = false ∨ chk t x = true ∧ chk t y = false) : Calls Tryz.prog 13 #[.string ⟨#[77, 117, 108]⟩, .int .i64 t, .int .i64 x, .int .i64 y] w fun e w' => e = .returned (.tuple #[.int .i64 0, .int .i64 1]) ∧ ∃ n, w' = w.drewN n := by
  rcases h with hx | ⟨hx, hy⟩
  all_goals
    go_enter Tryz.func13, Tryz.ntmps13
    go_wp2_with (first | (go_at_call 19; refine (check_any _ _ _).mono ?_; rintro e w' ⟨rfl, rfl⟩))
    go_ret2
    exact ⟨rfl, 0, rfl⟩

set_option maxHeartbeats 400000 in
theorem binary2_1 (x y : Int) (w : World) (hx : chk 1 x = true) (hy : chk 1 y = true) : Calls Tryz.prog 13 #[.string ⟨#[77, 117, 108]⟩, .int .i64 1, .int .i64 x, .int .i64 y] w fun e w' => e = .returned (.tuple #[.int .i64 (bin 2 1 x y).1, .int .i64 (bin 2 1 x y).2]) ∧ ∃ n, w' = w.drewN n := by
  rw [bin_1 2 x y hx hy]
  go_enter Tryz.func13, Tryz.ntmps13
  go_wp2_with (first | (go_at_call 19; refine (check_any _ _ _).mono ?_; rintro e w' ⟨rfl, rfl⟩) | (go_at_call 21; refine (from_any _ _).mono ?_; rintro e w' ⟨rfl, rfl⟩) | (go_at_call 20; refine (mul_f _ _ _).mono ?_; rintro e w' ⟨rfl, n, rfl⟩))
  go_ret2
  exact ⟨rfl, _, rfl⟩

set_option maxHeartbeats 400000 in
theorem binary2_6 (x y : Int) (w : World) (hx : chk 6 x = true) (hy : chk 6 y = true) : Calls Tryz.prog 13 #[.string ⟨#[77, 117, 108]⟩, .int .i64 6, .int .i64 x, .int .i64 y] w fun e w' => e = .returned (.tuple #[.int .i64 (bin 2 6 x y).1, .int .i64 (bin 2 6 x y).2]) ∧ ∃ n, w' = w.drewN n := by
  rw [bin_6 2 x y hx hy]
  go_enter Tryz.func13, Tryz.ntmps13
  go_wp2_with (first | (go_at_call 19; refine (check_any _ _ _).mono ?_; rintro e w' ⟨rfl, rfl⟩) | (go_at_call 22; refine (int2_f _ _ _ _).mono ?_; rintro e w' ⟨rfl, rfl⟩))
  go_ret2
  exact ⟨rfl, 0, rfl⟩

set_option maxHeartbeats 400000 in
theorem binary2_7 (x y : Int) (w : World) (hx : chk 7 x = true) (hy : chk 7 y = true) : Calls Tryz.prog 13 #[.string ⟨#[77, 117, 108]⟩, .int .i64 7, .int .i64 x, .int .i64 y] w fun e w' => e = .returned (.tuple #[.int .i64 (bin 2 7 x y).1, .int .i64 (bin 2 7 x y).2]) ∧ ∃ n, w' = w.drewN n := by
  rw [bin_7 2 x y hx hy]
  go_enter Tryz.func13, Tryz.ntmps13
  go_wp2_with (first | (go_at_call 19; refine (check_any _ _ _).mono ?_; rintro e w' ⟨rfl, rfl⟩) | (go_at_call 22; refine (int2_f _ _ _ _).mono ?_; rintro e w' ⟨rfl, rfl⟩))
  go_ret2
  exact ⟨rfl, 0, rfl⟩

set_option maxHeartbeats 400000 in
theorem binary2_9 (x y : Int) (w : World) (hx : chk 9 x = true) (hy : chk 9 y = true) : Calls Tryz.prog 13 #[.string ⟨#[77, 117, 108]⟩, .int .i64 9, .int .i64 x, .int .i64 y] w fun e w' => e = .returned (.tuple #[.int .i64 (bin 2 9 x y).1, .int .i64 (bin 2 9 x y).2]) ∧ ∃ n, w' = w.drewN n := by
  rw [bin_9 2 x y hx hy]
  go_enter Tryz.func13, Tryz.ntmps13
  go_wp2_with (first | (go_at_call 19; refine (check_any _ _ _).mono ?_; rintro e w' ⟨rfl, rfl⟩) | (go_at_call 23; refine (bool2_f _ _ _).mono ?_; rintro e w' ⟨rfl, rfl⟩))
  go_ret2
  exact ⟨rfl, 0, rfl⟩

theorem binary2 (t x y : Int) (w : World) : Calls Tryz.prog 13 #[.string ⟨#[77, 117, 108]⟩, .int .i64 t, .int .i64 x, .int .i64 y] w fun e w' => e = .returned (.tuple #[.int .i64 (bin 2 t x y).1, .int .i64 (bin 2 t x y).2]) ∧ ∃ n, w' = w.drewN n := by
  cases hx : chk t x with
  | false => rw [bin_nox 2 t x y hx]; exact binary2_no t x y w (.inl hx)
  | true =>
    cases hy : chk t y with
    | false => rw [bin_noy 2 t x y hy]; exact binary2_no t x y w (.inr ⟨hx, hy⟩)
    | true =>
      rcases chk_types t x hx with rfl | rfl | rfl | rfl
      · exact binary2_1 x y w hx hy
      · exact binary2_6 x y w hx hy
      · exact binary2_7 x y w hx hy
      · exact binary2_9 x y w hx hy

end Go.Proofs.YtkefdkboejimeaaGreatDoor.Nu

namespace Go.Proofs.YtkefdkboejimeaaGreatDoor.Nu

open Go.RowKit

set_option maxHeartbeats 400000 in
theorem binary4_no (t x y : Int) (w : World) (h : chk t x = false ∨ chk t x = true ∧ chk t y = false) : Calls Tryz.prog 13 #[.string ⟨#[77, 97, 120]⟩, .int .i64 t, .int .i64 x, .int .i64 y] w fun e w' => e = .returned (.tuple #[.int .i64 0, .int .i64 1]) ∧ ∃ n, w' = w.drewN n := by
  rcases h with hx | ⟨hx, hy⟩
  all_goals
    go_enter Tryz.func13, Tryz.ntmps13
    go_wp2_with (first | (go_at_call 19; refine (check_any _ _ _).mono ?_; rintro e w' ⟨rfl, rfl⟩))
    go_ret2
    exact ⟨rfl, 0, rfl⟩

set_option maxHeartbeats 400000 in
theorem binary4_1 (x y : Int) (w : World) (hx : chk 1 x = true) (hy : chk 1 y = true) : Calls Tryz.prog 13 #[.string ⟨#[77, 97, 120]⟩, .int .i64 1, .int .i64 x, .int .i64 y] w fun e w' => e = .returned (.tuple #[.int .i64 (bin 4 1 x y).1, .int .i64 (bin 4 1 x y).2]) ∧ ∃ n, w' = w.drewN n := by
  rw [bin_1 4 x y hx hy]
  go_enter Tryz.func13, Tryz.ntmps13
  go_wp2_with (first | (go_at_call 19; refine (check_any _ _ _).mono ?_; rintro e w' ⟨rfl, rfl⟩) | (go_at_call 21; refine (from_any _ _).mono ?_; rintro e w' ⟨rfl, rfl⟩) | (go_at_call 20; refine (max_f _ _ _ (fb_lt _) (fb_lt _)).mono ?_; rintro e w' ⟨rfl, n, rfl⟩))
  go_ret2
  exact ⟨rfl, _, rfl⟩

set_option maxHeartbeats 400000 in
theorem binary4_6 (x y : Int) (w : World) (hx : chk 6 x = true) (hy : chk 6 y = true) : Calls Tryz.prog 13 #[.string ⟨#[77, 97, 120]⟩, .int .i64 6, .int .i64 x, .int .i64 y] w fun e w' => e = .returned (.tuple #[.int .i64 (bin 4 6 x y).1, .int .i64 (bin 4 6 x y).2]) ∧ ∃ n, w' = w.drewN n := by
  rw [bin_6 4 x y hx hy]
  go_enter Tryz.func13, Tryz.ntmps13
  go_wp2_with (first | (go_at_call 19; refine (check_any _ _ _).mono ?_; rintro e w' ⟨rfl, rfl⟩) | (go_at_call 22; refine (int4_f _ _ _ _).mono ?_; rintro e w' ⟨rfl, rfl⟩))
  go_ret2
  exact ⟨rfl, 0, rfl⟩

set_option maxHeartbeats 400000 in
theorem binary4_7 (x y : Int) (w : World) (hx : chk 7 x = true) (hy : chk 7 y = true) : Calls Tryz.prog 13 #[.string ⟨#[77, 97, 120]⟩, .int .i64 7, .int .i64 x, .int .i64 y] w fun e w' => e = .returned (.tuple #[.int .i64 (bin 4 7 x y).1, .int .i64 (bin 4 7 x y).2]) ∧ ∃ n, w' = w.drewN n := by
  rw [bin_7 4 x y hx hy]
  go_enter Tryz.func13, Tryz.ntmps13
  go_wp2_with (first | (go_at_call 19; refine (check_any _ _ _).mono ?_; rintro e w' ⟨rfl, rfl⟩) | (go_at_call 22; refine (int4_f _ _ _ _).mono ?_; rintro e w' ⟨rfl, rfl⟩))
  go_ret2
  exact ⟨rfl, 0, rfl⟩

set_option maxHeartbeats 400000 in
theorem binary4_9 (x y : Int) (w : World) (hx : chk 9 x = true) (hy : chk 9 y = true) : Calls Tryz.prog 13 #[.string ⟨#[77, 97, 120]⟩, .int .i64 9, .int .i64 x, .int .i64 y] w fun e w' => e = .returned (.tuple #[.int .i64 (bin 4 9 x y).1, .int .i64 (bin 4 9 x y).2]) ∧ ∃ n, w' = w.drewN n := by
  rw [bin_9 4 x y hx hy]
  go_enter Tryz.func13, Tryz.ntmps13
  go_wp2_with (first | (go_at_call 19; refine (check_any _ _ _).mono ?_; rintro e w' ⟨rfl, rfl⟩) | (go_at_call 23; refine (bool4_f _ _ _).mono ?_; rintro e w' ⟨rfl, rfl⟩))
  go_ret2
  exact ⟨rfl, 0, rfl⟩

theorem binary4 (t x y : Int) (w : World) : Calls Tryz.prog 13 #[.string ⟨#[77, 97, 120]⟩, .int .i64 t, .int .i64 x, .int .i64 y] w fun e w' => e = .returned (.tuple #[.int .i64 (bin 4 t x y).1, .int .i64 (bin 4 t x y).2]) ∧ ∃ n, w' = w.drewN n := by
  cases hx : chk t x with
  | false => rw [bin_nox 4 t x y hx]; exact binary4_no t x y w (.inl hx)
  | true =>
    cases hy : chk t y with
    | false => rw [bin_noy 4 t x y hy]; exact binary4_no t x y w (.inr ⟨hx, hy⟩)
    | true =>
      rcases chk_types t x hx with rfl | rfl | rfl | rfl
      · exact binary4_1 x y w hx hy
      · exact binary4_6 x y w hx hy
      · exact binary4_7 x y w hx hy
      · exact binary4_9 x y w hx hy

set_option maxHeartbeats 400000 in
theorem binary10_no (t x y : Int) (w : World) (h : chk t x = false ∨ chk t x = true ∧ chk t y = false) : Calls Tryz.prog 13 #[.string ⟨#[76, 101, 115, 115]⟩, .int .i64 t, .int .i64 x, .int .i64 y] w fun e w' => e = .returned (.tuple #[.int .i64 0, .int .i64 1]) ∧ ∃ n, w' = w.drewN n := by
  rcases h with hx | ⟨hx, hy⟩
  all_goals
    go_enter Tryz.func13, Tryz.ntmps13
    go_wp2_with (first | (go_at_call 19; refine (check_any _ _ _).mono ?_; rintro e w' ⟨rfl, rfl⟩))
    go_ret2
    exact ⟨rfl, 0, rfl⟩

set_option maxHeartbeats 400000 in
theorem binary10_1 (x y : Int) (w : World) (hx : chk 1 x = true) (hy : chk 1 y = true) : Calls Tryz.prog 13 #[.string ⟨#[76, 101, 115, 115]⟩, .int .i64 1, .int .i64 x, .int .i64 y] w fun e w' => e = .returned (.tuple #[.int .i64 (bin 10 1 x y).1, .int .i64 (bin 10 1 x y).2]) ∧ ∃ n, w' = w.drewN n := by
  rw [bin_1 10 x y hx hy]
  go_enter Tryz.func13, Tryz.ntmps13
  go_wp2_with (first | (go_at_call 19; refine (check_any _ _ _).mono ?_; rintro e w' ⟨rfl, rfl⟩) | (go_at_call 21; refine (from_any _ _).mono ?_; rintro e w' ⟨rfl, rfl⟩) | (go_at_call 20; refine (cmp10_f _ _ _).mono ?_; rintro e w' ⟨rfl, n, rfl⟩))
  go_ret2
  exact ⟨rfl, _, rfl⟩

set_option maxHeartbeats 400000 in
theorem binary10_6 (x y : Int) (w : World) (hx : chk 6 x = true) (hy : chk 6 y = true) : Calls Tryz.prog 13 #[.string ⟨#[76, 101, 115, 115]⟩, .int .i64 6, .int .i64 x, .int .i64 y] w fun e w' => e = .returned (.tuple #[.int .i64 (bin 10 6 x y).1, .int .i64 (bin 10 6 x y).2]) ∧ ∃ n, w' = w.drewN n := by
  rw [bin_6 10 x y hx hy]
  go_enter Tryz.func13, Tryz.ntmps13
  go_wp2_with (first | (go_at_call 19; refine (check_any _ _ _).mono ?_; rintro e w' ⟨rfl, rfl⟩) | (go_at_call 22; refine (int10_f _ _ _ _).mono ?_; rintro e w' ⟨rfl, rfl⟩))
  go_ret2
  exact ⟨rfl, 0, rfl⟩

set_option maxHeartbeats 400000 in
theorem binary10_7 (x y : Int) (w : World) (hx : chk 7 x = true) (hy : chk 7 y = true) : Calls Tryz.prog 13 #[.string ⟨#[76, 101, 115, 115]⟩, .int .i64 7, .int .i64 x, .int .i64 y] w fun e w' => e = .returned (.tuple #[.int .i64 (bin 10 7 x y).1, .int .i64 (bin 10 7 x y).2]) ∧ ∃ n, w' = w.drewN n := by
  rw [bin_7 10 x y hx hy]
  go_enter Tryz.func13, Tryz.ntmps13
  go_wp2_with (first | (go_at_call 19; refine (check_any _ _ _).mono ?_; rintro e w' ⟨rfl, rfl⟩) | (go_at_call 22; refine (int10_f _ _ _ _).mono ?_; rintro e w' ⟨rfl, rfl⟩))
  go_ret2
  exact ⟨rfl, 0, rfl⟩

set_option maxHeartbeats 400000 in
theorem binary10_9 (x y : Int) (w : World) (hx : chk 9 x = true) (hy : chk 9 y = true) : Calls Tryz.prog 13 #[.string ⟨#[76, 101, 115, 115]⟩, .int .i64 9, .int .i64 x, .int .i64 y] w fun e w' => e = .returned (.tuple #[.int .i64 (bin 10 9 x y).1, .int .i64 (bin 10 9 x y).2]) ∧ ∃ n, w' = w.drewN n := by
  rw [bin_9 10 x y hx hy]
  go_enter Tryz.func13, Tryz.ntmps13
  go_wp2_with (first | (go_at_call 19; refine (check_any _ _ _).mono ?_; rintro e w' ⟨rfl, rfl⟩) | (go_at_call 23; refine (bool10_f _ _ _).mono ?_; rintro e w' ⟨rfl, rfl⟩))
  go_ret2
  exact ⟨rfl, 0, rfl⟩

theorem binary10 (t x y : Int) (w : World) : Calls Tryz.prog 13 #[.string ⟨#[76, 101, 115, 115]⟩, .int .i64 t, .int .i64 x, .int .i64 y] w fun e w' => e = .returned (.tuple #[.int .i64 (bin 10 t x y).1, .int .i64 (bin 10 t x y).2]) ∧ ∃ n, w' = w.drewN n := by
  cases hx : chk t x with
  | false => rw [bin_nox 10 t x y hx]; exact binary10_no t x y w (.inl hx)
  | true =>
    cases hy : chk t y with
    | false => rw [bin_noy 10 t x y hy]; exact binary10_no t x y w (.inr ⟨hx, hy⟩)
    | true =>
      rcases chk_types t x hx with rfl | rfl | rfl | rfl
      · exact binary10_1 x y w hx hy
      · exact binary10_6 x y w hx hy
      · exact binary10_7 x y w hx hy
      · exact binary10_9 x y w hx hy

end Go.Proofs.YtkefdkboejimeaaGreatDoor.Nu
