/- What is done at a place by any operator of elem, told exactly, by the walk (mkEpWk.py). -/
import Derived.Test.YteigfipgmghgmaaGreatDoorEpMa
import Derived.Test.YteigfipgmghgmaaGreatDoorElWf
import Derived.Test.YteigfipgmghgmaaGreatDoorNuWalkO
namespace Go.Proofs.YteigfipgmghgmaaGreatDoor
open Go.RowKit

theorem sq_rng (b : Nat) (hb : b < 4294967296) (w : World) : W64 (Nu.sqB b) := by
  obtain ⟨r, n, -, hr⟩ := Nu.ext_sqrtS_ex (Nu.cval .f32 .f64 b w) w
  rw [← Nu.sq_all b hb w w r hr]
  exact tob_rngE _ (Nu.cval_lt _ _)

theorem fl_rng (b : Nat) (hb : b < 4294967296) : W64 (Nu.flB b) := by
  unfold Nu.flB
  split
  · exact ⟨by decide, by decide⟩
  · rename_i h
    by_cases h2 : b % 2147483648 < 2139095040
    · have := (Nu.flW_fin b hb h2).1
      exact ⟨by omega, by omega⟩
    · have : Nu.flW b < 4294967296 := by
        rcases (show b = 2139095040 ∨ b = 4286578688 by omega) with rfl | rfl
        · exact (show Nu.flW 2139095040 < 4294967296 by decide +kernel)
        · exact (show Nu.flW 4286578688 < 4294967296 by decide +kernel)
      exact ⟨by omega, by omega⟩

theorem sg_rng (e : Nat) : W64 (Nu.sgI e) := by
  unfold Nu.sgI
  split
  · exact tobO_rngE _ _ _
  · exact ⟨by decide, by decide⟩

theorem th_rng (b : Nat) (hb : b < 4294967296) : W64 (Nu.thI b) := by
  unfold Nu.thI
  split
  · exact ⟨by decide, by decide⟩
  · split
    · have := Nu.wsF_lt 1065353216 b hb
      exact ⟨by omega, by omega⟩
    · have := Nu.wsF_lt (Nu.qT (Nu.absF b)) b hb
      exact ⟨by omega, by omega⟩

/-- What an operator of one makes of an element. -/
def k1 (op : ByteArray) : Nat := ([[73, 100, 101, 110, 116, 105, 116, 121], [78, 101, 103], [65, 98, 115], [78, 111, 116], [82, 101, 108, 117], [83, 113, 114, 116], [70, 108, 111, 111, 114], [69, 120, 112], [83, 105, 103, 109, 111, 105, 100], [84, 97, 110, 104]] : List (List UInt8)).idxOf op.toList
def uX (k : Nat) (x : Int) : Int := match k with
  | 5 => Nu.sqB (Nu.fb x)
  | 6 => Nu.flB (Nu.fb x)
  | 7 => Nu.tob (Nu.exW (Nu.fb x))
  | 8 => Nu.sgI (Nu.exW (Nu.negF (Nu.fb x)))
  | _ => Nu.thI (Nu.fb x)
def unX (k : Nat) (t x : Int) : Int × Int := if k < 5 then Nu.un k t x else if Nu.chk t x = true then (uX k x, 0) else (0, 1)

theorem ux_rng (k : Nat) (x : Int) (w : World) : W64 (uX k x) := by
  unfold uX
  split
  · exact sq_rng _ (fb_ltE x) w
  · exact fl_rng _ (fb_ltE x)
  · exact tob_rngE _ (Nu.exW_lt _ (fb_ltE x))
  · exact sg_rng _
  · exact th_rng _ (fb_ltE x)

/-- num.Unary of any operator of one. -/
theorem un_x (op : ByteArray) (hop : op ∈ ([⟨#[73, 100, 101, 110, 116, 105, 116, 121]⟩, ⟨#[78, 101, 103]⟩, ⟨#[65, 98, 115]⟩, ⟨#[78, 111, 116]⟩, ⟨#[82, 101, 108, 117]⟩, ⟨#[83, 113, 114, 116]⟩, ⟨#[70, 108, 111, 111, 114]⟩, ⟨#[69, 120, 112]⟩, ⟨#[83, 105, 103, 109, 111, 105, 100]⟩, ⟨#[84, 97, 110, 104]⟩] : List ByteArray)) (t x : Int) (hx : W64 x) (hf : op ∈ ([⟨#[83, 113, 114, 116]⟩, ⟨#[70, 108, 111, 111, 114]⟩, ⟨#[69, 120, 112]⟩, ⟨#[83, 105, 103, 109, 111, 105, 100]⟩, ⟨#[84, 97, 110, 104]⟩] : List ByteArray) → t = 1) (w : World) : Calls Tryz.prog 29 #[.string op, .int .i64 t, .int .i64 x] w (OneX (unX (k1 op) t x) w) := by
  simp only [List.mem_cons, List.not_mem_nil, or_false] at hop
  rcases hop with rfl | rfl | rfl | rfl | rfl | rfl | rfl | rfl | rfl | rfl
  · rw [show k1 ⟨#[73, 100, 101, 110, 116, 105, 116, 121]⟩ = 0 by kernel_rfl, show unX 0 t x = Nu.un 0 t x from if_pos (by omega)]
    refine (Nu.unary0 t x w).mono ?_
    rintro e w' ⟨rfl, rfl⟩
    exact ⟨rfl, fun _ => un_rng 0 t x hx, 0, rfl⟩
  · rw [show k1 ⟨#[78, 101, 103]⟩ = 1 by kernel_rfl, show unX 1 t x = Nu.un 1 t x from if_pos (by omega)]
    refine (Nu.unary1 t x w).mono ?_
    rintro e w' ⟨rfl, rfl⟩
    exact ⟨rfl, fun _ => un_rng 1 t x hx, 0, rfl⟩
  · rw [show k1 ⟨#[65, 98, 115]⟩ = 2 by kernel_rfl, show unX 2 t x = Nu.un 2 t x from if_pos (by omega)]
    refine (Nu.unary2 t x w).mono ?_
    rintro e w' ⟨rfl, rfl⟩
    exact ⟨rfl, fun _ => un_rng 2 t x hx, 0, rfl⟩
  · rw [show k1 ⟨#[78, 111, 116]⟩ = 3 by kernel_rfl, show unX 3 t x = Nu.un 3 t x from if_pos (by omega)]
    refine (Nu.unary3 t x w).mono ?_
    rintro e w' ⟨rfl, rfl⟩
    exact ⟨rfl, fun _ => un_rng 3 t x hx, 0, rfl⟩
  · rw [show k1 ⟨#[82, 101, 108, 117]⟩ = 4 by kernel_rfl, show unX 4 t x = Nu.un 4 t x from if_pos (by omega)]
    refine (Nu.unary4 t x w).mono ?_
    rintro e w' ⟨rfl, rfl⟩
    exact ⟨rfl, fun _ => un_rng 4 t x hx, 0, rfl⟩
  · obtain rfl : t = 1 := hf (by simp)
    rw [show k1 ⟨#[83, 113, 114, 116]⟩ = 5 by kernel_rfl]
    unfold unX
    rw [if_neg (by omega)]
    by_cases hc : Nu.chk 1 x = true
    · rw [if_pos hc]
      refine (Nu.unaryF5 x w hc).mono ?_
      rintro e w' ⟨rfl, q, rfl⟩
      exact ⟨rfl, fun _ => ux_rng 5 x w, q, rfl⟩
    · rw [if_neg hc]
      have hc' : Nu.chk 1 x = false := by simpa using hc
      refine (Nu.unary5_no 1 x w hc').mono ?_
      rintro e w' ⟨rfl, rfl⟩
      rw [Nu.un_no 5 1 x hc']
      exact ⟨rfl, fun h => absurd h (by decide), 0, rfl⟩
  · obtain rfl : t = 1 := hf (by simp)
    rw [show k1 ⟨#[70, 108, 111, 111, 114]⟩ = 6 by kernel_rfl]
    unfold unX
    rw [if_neg (by omega)]
    by_cases hc : Nu.chk 1 x = true
    · rw [if_pos hc]
      refine (Nu.unaryF6 x w hc).mono ?_
      rintro e w' ⟨rfl, q, rfl⟩
      exact ⟨rfl, fun _ => ux_rng 6 x w, q, rfl⟩
    · rw [if_neg hc]
      have hc' : Nu.chk 1 x = false := by simpa using hc
      refine (Nu.unary6_no 1 x w hc').mono ?_
      rintro e w' ⟨rfl, rfl⟩
      rw [Nu.un_no 6 1 x hc']
      exact ⟨rfl, fun h => absurd h (by decide), 0, rfl⟩
  · obtain rfl : t = 1 := hf (by simp)
    rw [show k1 ⟨#[69, 120, 112]⟩ = 7 by kernel_rfl]
    unfold unX
    rw [if_neg (by omega)]
    by_cases hc : Nu.chk 1 x = true
    · rw [if_pos hc]
      refine (Nu.unaryF7 x w hc).mono ?_
      rintro e w' ⟨rfl, q, rfl⟩
      exact ⟨rfl, fun _ => ux_rng 7 x w, q, rfl⟩
    · rw [if_neg hc]
      have hc' : Nu.chk 1 x = false := by simpa using hc
      refine (Nu.unary7_no 1 x w hc').mono ?_
      rintro e w' ⟨rfl, rfl⟩
      rw [Nu.un_no 7 1 x hc']
      exact ⟨rfl, fun h => absurd h (by decide), 0, rfl⟩
  · obtain rfl : t = 1 := hf (by simp)
    rw [show k1 ⟨#[83, 105, 103, 109, 111, 105, 100]⟩ = 8 by kernel_rfl]
    unfold unX
    rw [if_neg (by omega)]
    by_cases hc : Nu.chk 1 x = true
    · rw [if_pos hc]
      refine (Nu.unaryF8 x w hc).mono ?_
      rintro e w' ⟨rfl, q, rfl⟩
      exact ⟨rfl, fun _ => ux_rng 8 x w, q, rfl⟩
    · rw [if_neg hc]
      have hc' : Nu.chk 1 x = false := by simpa using hc
      refine (Nu.unary8_no 1 x w hc').mono ?_
      rintro e w' ⟨rfl, rfl⟩
      rw [Nu.un_no 8 1 x hc']
      exact ⟨rfl, fun h => absurd h (by decide), 0, rfl⟩
  · obtain rfl : t = 1 := hf (by simp)
    rw [show k1 ⟨#[84, 97, 110, 104]⟩ = 9 by kernel_rfl]
    unfold unX
    rw [if_neg (by omega)]
    by_cases hc : Nu.chk 1 x = true
    · rw [if_pos hc]
      refine (Nu.unaryF9 x w hc).mono ?_
      rintro e w' ⟨rfl, q, rfl⟩
      exact ⟨rfl, fun _ => ux_rng 9 x w, q, rfl⟩
    · rw [if_neg hc]
      have hc' : Nu.chk 1 x = false := by simpa using hc
      refine (Nu.unary9_no 1 x w hc').mono ?_
      rintro e w' ⟨rfl, rfl⟩
      rw [Nu.un_no 9 1 x hc']
      exact ⟨rfl, fun h => absurd h (by decide), 0, rfl⟩

set_option maxRecDepth 100000 in
set_option maxHeartbeats 8000000 in
theorem work1_x (n : Nod) (r : Int × Int) (p1 p2 B m : Nat) (ub uo un uc : Nat) (ty x : Int) (w : World) (hm : 0 < m) (hn : w.heap[p1]? = some (.cells #[.string n.op, .string n.name, .slice n.iv.a n.iv.n n.iv.c, .string n.out, .slice n.av.a n.av.n n.av.c] 25 (0, 0))) (hi : w.heap[p2]? = some (.cells #[.slice (some ⟨ub, uo, none⟩) un uc] 26 (0, 0))) (hun : 0 < un) (ht : w.cell? ⟨ub, uo, none⟩ = some (.int .i64 ty)) (hx : w.cell? ⟨B, 0, none⟩ = some (.int .i64 x))
    (UC : ∀ wx, Calls Tryz.prog 29 #[.string n.op, .int .i64 ty, .int .i64 x] wx (OneX r wx)) :
    Calls Tryz.prog 28 #[.slice (some ⟨B, 0, none⟩) m m, .pointer (some ⟨p1, 0, none⟩), .pointer (some ⟨p2, 0, none⟩)] w (OneX r w) := by
  obtain ⟨n0, -, -, -, -⟩ := nod_cells hn
  have c8 := one_cell hi
  have hun' : (0 : Int) < (un : Int) := by omega
  have i0 : (0 : Int) < (m : Int) := by omega
  obtain ⟨v, c⟩ := r
  have BB := hide UC
  clear hn hi UC
  go_enter Tryz.func28, Tryz.ntmps28
  go_wp2_with fail
  go_region_held3 (fun w' => w'.cell? ⟨p1, 0, none⟩ = some (.string n.op) ∧ w'.cell? ⟨p2, 0, none⟩ = some (.slice (some ⟨ub, uo, none⟩) un uc) ∧ w'.cell? ⟨ub, uo, none⟩ = some (.int .i64 ty) ∧ w'.cell? ⟨B, 0, none⟩ = some (.int .i64 x)) (go_keep) (first | (go_at_call 29; refine (BB.out _).mono ?_; rintro e w1 ⟨rfl, hP, q, rfl⟩; have HP := hide hP; clear hP) | fail)
  go_wp2
  go_ret2
  exact ⟨rfl, HP.out, _, by first | rfl | exact World.drewN_drewN _ _ _⟩

set_option maxRecDepth 100000 in
set_option maxHeartbeats 8000000 in
theorem work2_x (n : Nod) (k : Nat) (hk : kOf n.op = some k) (p1 p2 B m : Nat) (ub uo un uc : Nat) (ty x y : Int) (w : World) (hm : 1 < m) (hn : w.heap[p1]? = some (.cells #[.string n.op, .string n.name, .slice n.iv.a n.iv.n n.iv.c, .string n.out, .slice n.av.a n.av.n n.av.c] 25 (0, 0))) (hi : w.heap[p2]? = some (.cells #[.slice (some ⟨ub, uo, none⟩) un uc] 26 (0, 0))) (hun : 0 < un) (ht : w.cell? ⟨ub, uo, none⟩ = some (.int .i64 ty)) (hx : w.cell? ⟨B, 0, none⟩ = some (.int .i64 x)) (hy : w.cell? ⟨B, 1, none⟩ = some (.int .i64 y)) (rx : W64 x) (ry : W64 y) :
    Calls Tryz.prog 30 #[.slice (some ⟨B, 0, none⟩) m m, .pointer (some ⟨p1, 0, none⟩), .pointer (some ⟨p2, 0, none⟩)] w (OneX (Nu.bin k ty x y) w) := by
  obtain ⟨n0, -, -, -, -⟩ := nod_cells hn
  have c8 := one_cell hi
  have hun' : (0 : Int) < (un : Int) := by omega
  have i1 : (1 : Int) < (m : Int) := by omega
  have i0 : (0 : Int) < (m : Int) := by omega
  have BB := hide (fun (wx : World) => bin_of hk ty x y wx)
  have RR := hide (bin_rng k ty x y rx ry)
  obtain ⟨⟨r1, r2⟩, er⟩ : ∃ r, r = Nu.bin k ty x y := ⟨_, rfl⟩
  rw [← er] at BB RR ⊢
  clear hn hi hk rx ry er
  go_enter Tryz.func30, Tryz.ntmps30
  go_wp2_with fail
  go_quiet (first | (go_at_call 31; refine (BB.out _).mono ?_; rintro e w' ⟨rfl, q, rfl⟩; exact ⟨rfl, _, World.drewN_drewN _ _ _⟩) | fail)
  go_wp2
  go_ret2
  exact ⟨rfl, fun _ => RR.out, _, rfl⟩

set_option maxRecDepth 100000 in
set_option maxHeartbeats 8000000 in
/-- Where. -/
theorem choose_x (B m : Nat) (x y z : Int) (w : World) (hm : 2 < m) (hx : w.cell? ⟨B, 0, none⟩ = some (.int .i64 x)) (hy : w.cell? ⟨B, 1, none⟩ = some (.int .i64 y)) (hz : w.cell? ⟨B, 2, none⟩ = some (.int .i64 z)) (ry : W64 y) (rz : W64 z) :
    Calls Tryz.prog 32 #[.slice (some ⟨B, 0, none⟩) m m] w (OneX (if x = 1 then y else z, 0) w) := by
  have i2 : (2 : Int) < (m : Int) := by omega
  have i1 : (1 : Int) < (m : Int) := by omega
  have i0 : (0 : Int) < (m : Int) := by omega
  have RY := hide ry
  have RZ := hide rz
  clear ry rz
  by_cases h : x = 1
  · have hb : (x == 1) = true := by simp [h]
    rw [if_pos h]
    clear h
    go_enter Tryz.func32, Tryz.ntmps32
    go_wp2
    go_ret2
    exact ⟨rfl, fun _ => RY.out, 0, rfl⟩
  · have hb : (x == 1) = false := by simp [h]
    rw [if_neg h]
    clear h
    go_enter Tryz.func32, Tryz.ntmps32
    go_wp2
    go_ret2
    exact ⟨rfl, fun _ => RZ.out, 0, rfl⟩

def clX (lo hi x : Int) : Int × Int := if (Nu.bin 4 1 x lo).2 = 0 then Nu.bin 5 1 (Nu.bin 4 1 x lo).1 hi else (0, (Nu.bin 4 1 x lo).2)

set_option maxRecDepth 100000 in
set_option maxHeartbeats 8000000 in
theorem clip_x (B m p1 p2 : Nat) (x lo hi : Int) (w : World) (hm : 0 < m) (h1 : w.heap[p1]? = some (.cells #[.int .i64 lo] 2 (0, 0))) (h2 : w.heap[p2]? = some (.cells #[.int .i64 hi] 2 (0, 0))) (hx : w.cell? ⟨B, 0, none⟩ = some (.int .i64 x)) :
    Calls Tryz.prog 56 #[.slice (some ⟨B, 0, none⟩) m m, .pointer (some ⟨p1, 0, none⟩), .pointer (some ⟨p2, 0, none⟩)] w (OneX (clX lo hi x) w) := by
  have i0 : (0 : Int) < (m : Int) := by omega
  have c1 := one_cell h1
  have c2 := one_cell h2
  unfold clX
  obtain ⟨⟨y1, s1⟩, e1⟩ : ∃ r, r = Nu.bin 4 1 x lo := ⟨_, rfl⟩
  have BA := hide (fun (wx : World) => Nu.binary4 1 x lo wx)
  rw [← e1] at BA ⊢
  simp only at BA ⊢
  have BB := hide (fun (wx : World) => Nu.binary5 1 y1 hi wx)
  have RR := hide (bin_rng1 5 y1 hi)
  obtain ⟨⟨y2, s2⟩, e3⟩ : ∃ r, r = Nu.bin 5 1 y1 hi := ⟨_, rfl⟩
  rw [← e3] at BB RR ⊢
  clear h1 h2 e1 e3
  by_cases h : s1 = 0
  · have hb : (s1 != 0) = false := by simp [h]
    rw [if_pos h]
    clear h
    go_enter Tryz.func56, Tryz.ntmps56
    go_wp2_with fail
    go_quiet (first | (go_at_call 31; refine (BA.out _).mono ?_; rintro e w' ⟨rfl, q, rfl⟩; exact ⟨rfl, _, World.drewN_drewN _ _ _⟩) | fail)
    go_wp2_with (first | (go_at_call 31; refine (BB.out _).mono ?_; rintro e w' ⟨rfl, q, rfl⟩) | fail)
    go_wp2
    go_ret2
    exact ⟨rfl, fun _ => RR.out, _, by first | rfl | exact World.drewN_drewN _ _ _⟩
  · have hb : (s1 != 0) = true := by simpa using h
    have H := hide h
    rw [if_neg h]
    clear h
    go_enter Tryz.func56, Tryz.ntmps56
    go_wp2_with fail
    go_quiet (first | (go_at_call 31; refine (BA.out _).mono ?_; rintro e w' ⟨rfl, q, rfl⟩; exact ⟨rfl, _, World.drewN_drewN _ _ _⟩) | fail)
    go_wp2
    go_ret2
    exact ⟨rfl, fun h => absurd h H.out, _, rfl⟩

set_option maxRecDepth 100000 in
set_option maxHeartbeats 8000000 in
theorem cast_x (p1 p2 B m : Nat) (ub uo un uc : Nat) (a0 a2 : Value) (ty tz x : Int) (w : World) (hm : 0 < m) (hi : w.heap[p1]? = some (.cells #[.slice (some ⟨ub, uo, none⟩) un uc] 26 (0, 0))) (ho : w.heap[p2]? = some (.cells #[a0, .int .i64 tz, a2] 53 (0, 0))) (hun : 0 < un) (ht : w.cell? ⟨ub, uo, none⟩ = some (.int .i64 ty)) (hx : w.cell? ⟨B, 0, none⟩ = some (.int .i64 x)) (rx : W64 x) :
    Calls Tryz.prog 35 #[.slice (some ⟨B, 0, none⟩) m m, .pointer (some ⟨p1, 0, none⟩), .pointer (some ⟨p2, 0, none⟩)] w (OneX (Nu.cst ty tz x) w) := by
  have c8 := one_cell hi
  have c9 := (cell_of_row _ _ 1 _ _ (0, 0) ho).trans rfl
  have hun' : (0 : Int) < (un : Int) := by omega
  have i0 : (0 : Int) < (m : Int) := by omega
  have BB := hide (fun (wx : World) => Nu.cast_code ty tz x wx)
  have RR := hide (cst_rng ty tz x rx)
  obtain ⟨⟨r1, r2⟩, er⟩ : ∃ r, r = Nu.cst ty tz x := ⟨_, rfl⟩
  rw [← er] at BB RR ⊢
  clear hi ho rx er
  go_enter Tryz.func35, Tryz.ntmps35
  go_wp2_with fail
  go_quiet (first | (go_at_call 36; refine (BB.out _).mono ?_; rintro e w' ⟨rfl, q, rfl⟩; exact ⟨rfl, _, World.drewN_drewN _ _ _⟩) | fail)
  go_wp2
  go_ret2
  exact ⟨rfl, fun _ => RR.out, _, rfl⟩
end Go.Proofs.YteigfipgmghgmaaGreatDoor
