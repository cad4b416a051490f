/- The walks of package num's greater one, less one, comparisons and refusals of two floats; then all operators of two floats in one. -/
import Derived.Test.YteigfipgmghgmaaGreatDoorNuWalkB
import Derived.Test.YteigfipgmghgmaaGreatDoorNuPlainG
namespace Go.Proofs.YteigfipgmghgmaaGreatDoor.Nu
open Go.RowKit

set_option maxHeartbeats 400000 in
theorem max_run (x y r : Nat) (w : World) (hr : r < 4294967296) (hrun : ∀ (w : World) (ts : Array TypeId) (t : TypeId), (Builtin.max_ ts t #[.float .f32 x, .float .f32 y]).run Tryz.prog w = .ok (.float .f32 r) w) :
    Calls Tryz.prog 53 #[.string ⟨#[77, 97, 120]⟩, .float .f32 x, .float .f32 y] w fun e w' => e = .returned (.tuple #[.int .i64 (tob r), .int .i64 0]) ∧ ∃ n, w' = w.drewN n := by
  go_enter Tryz.func53, Tryz.ntmps53
  go_wp2_with (first | (go_at_call 62; refine (to_any _ _ hr).mono ?_; rintro e w' ⟨rfl, rfl⟩) | go_in)
  go_ret2
  exact ⟨rfl, 0, rfl⟩

set_option maxHeartbeats 400000 in
theorem max_none (x y : Nat) (w : World) (h : ord x y = none) :
    Calls Tryz.prog 53 #[.string ⟨#[77, 97, 120]⟩, .float .f32 x, .float .f32 y] w fun e w' => e = .returned (.tuple #[.int .i64 2143289344, .int .i64 0]) ∧ ∃ n, w' = w.drewN n := by
  have hrun := fun w ts t => run_maxF_none (P := Tryz.prog) w ts t x y h
  clear h
  go_enter Tryz.func53, Tryz.ntmps53
  go_wp2_with (first | (go_at_call 62; refine (to_any _ _ (nb_lt _ _ _)).mono ?_; rw [tob_nb]; rintro e w' ⟨rfl, rfl⟩) | go_in)
  go_ret2
  exact ⟨rfl, 1, rfl⟩

theorem max_f (x y : Nat) (w : World) (hx : x < 4294967296) (hy : y < 4294967296) :
    Calls Tryz.prog 53 #[.string ⟨#[77, 97, 120]⟩, .float .f32 x, .float .f32 y] w fun e w' => e = .returned (.tuple #[.int .i64 (maxF x y), .int .i64 0]) ∧ ∃ n, w' = w.drewN n := by
  cases h : ord x y with
  | none => have e : maxF x y = 2143289344 := by simp [maxF, h]
            rw [e]; exact max_none x y w h
  | some c =>
    cases c with
    | lt => have e : maxF x y = tob y := by simp [maxF, h]
            rw [e]; exact max_run x y y w hy (fun w ts t => run_maxF_lt w ts t x y h)
    | gt => have e : maxF x y = tob x := by simp [maxF, h]
            rw [e]; exact max_run x y x w hx (fun w ts t => run_maxF_gt w ts t x y h)
    | eq =>
      cases hn : (FloatKind.f32.decode x).neg with
      | true => have e : maxF x y = tob y := by simp [maxF, h, hn]
                rw [e]; exact max_run x y y w hy (fun w ts t => by rw [run_maxF_eq w ts t x y h, hn]; rfl)
      | false => have e : maxF x y = tob x := by simp [maxF, h, hn]
                 rw [e]; exact max_run x y x w hx (fun w ts t => by rw [run_maxF_eq w ts t x y h, hn]; rfl)

set_option maxHeartbeats 400000 in
theorem min_run (x y r : Nat) (w : World) (hr : r < 4294967296) (hrun : ∀ (w : World) (ts : Array TypeId) (t : TypeId), (Builtin.min_ ts t #[.float .f32 x, .float .f32 y]).run Tryz.prog w = .ok (.float .f32 r) w) :
    Calls Tryz.prog 53 #[.string ⟨#[77, 105, 110]⟩, .float .f32 x, .float .f32 y] w fun e w' => e = .returned (.tuple #[.int .i64 (tob r), .int .i64 0]) ∧ ∃ n, w' = w.drewN n := by
  go_enter Tryz.func53, Tryz.ntmps53
  go_wp2_with (first | (go_at_call 62; refine (to_any _ _ hr).mono ?_; rintro e w' ⟨rfl, rfl⟩) | go_in)
  go_ret2
  exact ⟨rfl, 0, rfl⟩

set_option maxHeartbeats 400000 in
theorem min_none (x y : Nat) (w : World) (h : ord x y = none) :
    Calls Tryz.prog 53 #[.string ⟨#[77, 105, 110]⟩, .float .f32 x, .float .f32 y] w fun e w' => e = .returned (.tuple #[.int .i64 2143289344, .int .i64 0]) ∧ ∃ n, w' = w.drewN n := by
  have hrun := fun w ts t => run_minF_none (P := Tryz.prog) w ts t x y h
  clear h
  go_enter Tryz.func53, Tryz.ntmps53
  go_wp2_with (first | (go_at_call 62; refine (to_any _ _ (nb_lt _ _ _)).mono ?_; rw [tob_nb]; rintro e w' ⟨rfl, rfl⟩) | go_in)
  go_ret2
  exact ⟨rfl, 1, rfl⟩

theorem min_f (x y : Nat) (w : World) (hx : x < 4294967296) (hy : y < 4294967296) :
    Calls Tryz.prog 53 #[.string ⟨#[77, 105, 110]⟩, .float .f32 x, .float .f32 y] w fun e w' => e = .returned (.tuple #[.int .i64 (minF x y), .int .i64 0]) ∧ ∃ n, w' = w.drewN n := by
  cases h : ord x y with
  | none => have e : minF x y = 2143289344 := by simp [minF, h]
            rw [e]; exact min_none x y w h
  | some c =>
    cases c with
    | lt => have e : minF x y = tob x := by simp [minF, h]
            rw [e]; exact min_run x y x w hx (fun w ts t => run_minF_lt w ts t x y h)
    | gt => have e : minF x y = tob y := by simp [minF, h]
            rw [e]; exact min_run x y y w hy (fun w ts t => run_minF_gt w ts t x y h)
    | eq =>
      cases hn : (FloatKind.f32.decode x).neg with
      | true => have e : minF x y = tob x := by simp [minF, h, hn]
                rw [e]; exact min_run x y x w hx (fun w ts t => by rw [run_minF_eq w ts t x y h, hn]; rfl)
      | false => have e : minF x y = tob y := by simp [minF, h, hn]
                 rw [e]; exact min_run x y y w hy (fun w ts t => by rw [run_minF_eq w ts t x y h, hn]; rfl)

set_option maxHeartbeats 400000 in
theorem cmp9_f (x y : Nat) (w : World) :
    Calls Tryz.prog 53 #[.string ⟨#[69, 113, 117, 97, 108]⟩, .float .f32 x, .float .f32 y] w fun e w' => e = .returned (.tuple #[.int .i64 (b2i (ord x y == some .eq)), .int .i64 0]) ∧ ∃ n, w' = w.drewN n := by
  cases h : (ord x y == some .eq) with
  | true =>
    have h' : (FloatKind.f32.format.order x y == some .eq) = true := h
    show Calls _ _ _ _ fun e w' => e = .returned (.tuple #[.int .i64 1, .int .i64 0]) ∧ ∃ n, w' = w.drewN n
    clear h
    go_enter Tryz.func53, Tryz.ntmps53
    go_wp2
    go_ret2
    exact ⟨rfl, 0, rfl⟩
  | false =>
    have h' : (FloatKind.f32.format.order x y == some .eq) = false := h
    show Calls _ _ _ _ fun e w' => e = .returned (.tuple #[.int .i64 0, .int .i64 0]) ∧ ∃ n, w' = w.drewN n
    clear h
    go_enter Tryz.func53, Tryz.ntmps53
    go_wp2
    go_ret2
    exact ⟨rfl, 0, rfl⟩

set_option maxHeartbeats 400000 in
theorem cmp10_f (x y : Nat) (w : World) :
    Calls Tryz.prog 53 #[.string ⟨#[76, 101, 115, 115]⟩, .float .f32 x, .float .f32 y] w fun e w' => e = .returned (.tuple #[.int .i64 (b2i (ord x y == some .lt)), .int .i64 0]) ∧ ∃ n, w' = w.drewN n := by
  cases h : (ord x y == some .lt) with
  | true =>
    have h' : (FloatKind.f32.format.order x y == some .lt) = true := h
    show Calls _ _ _ _ fun e w' => e = .returned (.tuple #[.int .i64 1, .int .i64 0]) ∧ ∃ n, w' = w.drewN n
    clear h
    go_enter Tryz.func53, Tryz.ntmps53
    go_wp2
    go_ret2
    exact ⟨rfl, 0, rfl⟩
  | false =>
    have h' : (FloatKind.f32.format.order x y == some .lt) = false := h
    show Calls _ _ _ _ fun e w' => e = .returned (.tuple #[.int .i64 0, .int .i64 0]) ∧ ∃ n, w' = w.drewN n
    clear h
    go_enter Tryz.func53, Tryz.ntmps53
    go_wp2
    go_ret2
    exact ⟨rfl, 0, rfl⟩

set_option maxHeartbeats 400000 in
theorem cmp11_f (x y : Nat) (w : World) :
    Calls Tryz.prog 53 #[.string ⟨#[71, 114, 101, 97, 116, 101, 114]⟩, .float .f32 x, .float .f32 y] w fun e w' => e = .returned (.tuple #[.int .i64 (b2i (ord x y == some .gt)), .int .i64 0]) ∧ ∃ n, w' = w.drewN n := by
  cases h : (ord x y == some .gt) with
  | true =>
    have h' : (FloatKind.f32.format.order x y == some .gt) = true := h
    show Calls _ _ _ _ fun e w' => e = .returned (.tuple #[.int .i64 1, .int .i64 0]) ∧ ∃ n, w' = w.drewN n
    clear h
    go_enter Tryz.func53, Tryz.ntmps53
    go_wp2
    go_ret2
    exact ⟨rfl, 0, rfl⟩
  | false =>
    have h' : (FloatKind.f32.format.order x y == some .gt) = false := h
    show Calls _ _ _ _ fun e w' => e = .returned (.tuple #[.int .i64 0, .int .i64 0]) ∧ ∃ n, w' = w.drewN n
    clear h
    go_enter Tryz.func53, Tryz.ntmps53
    go_wp2
    go_ret2
    exact ⟨rfl, 0, rfl⟩

set_option maxHeartbeats 400000 in
theorem no6_f (x y : Nat) (w : World) :
    Calls Tryz.prog 53 #[.string ⟨#[65, 110, 100]⟩, .float .f32 x, .float .f32 y] w fun e w' => e = .returned (.tuple #[.int .i64 0, .int .i64 1]) ∧ ∃ n, w' = w.drewN n := by
  go_enter Tryz.func53, Tryz.ntmps53
  go_wp2
  go_ret2
  exact ⟨rfl, 0, rfl⟩

set_option maxHeartbeats 400000 in
theorem no7_f (x y : Nat) (w : World) :
    Calls Tryz.prog 53 #[.string ⟨#[79, 114]⟩, .float .f32 x, .float .f32 y] w fun e w' => e = .returned (.tuple #[.int .i64 0, .int .i64 1]) ∧ ∃ n, w' = w.drewN n := by
  go_enter Tryz.func53, Tryz.ntmps53
  go_wp2
  go_ret2
  exact ⟨rfl, 0, rfl⟩

set_option maxHeartbeats 400000 in
theorem no8_f (x y : Nat) (w : World) :
    Calls Tryz.prog 53 #[.string ⟨#[88, 111, 114]⟩, .float .f32 x, .float .f32 y] w fun e w' => e = .returned (.tuple #[.int .i64 0, .int .i64 1]) ∧ ∃ n, w' = w.drewN n := by
  go_enter Tryz.func53, Tryz.ntmps53
  go_wp2
  go_ret2
  exact ⟨rfl, 0, rfl⟩

end Go.Proofs.YteigfipgmghgmaaGreatDoor.Nu
