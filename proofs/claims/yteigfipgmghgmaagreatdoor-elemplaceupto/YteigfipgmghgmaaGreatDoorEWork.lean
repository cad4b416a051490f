/- What is done at a place, and which: by the walk (mkEWork.py). -/
import Derived.Test.YteigfipgmghgmaaGreatDoorEEv
import Derived.Test.YteigfipgmghgmaaGreatDoorNuWalkF
import Derived.Test.YteigfipgmghgmaaGreatDoorNuWalkU
import Derived.Deep.QuietTactic
import Derived.BigQuiet
namespace Go.Proofs.YteigfipgmghgmaaGreatDoor
open Go.RowKit

/-- The five, the nine and the five that elem does not do. -/
theorem sub12 {op : ByteArray} (h : op ∈ ([⟨#[65, 100, 100]⟩, ⟨#[68, 105, 118]⟩, ⟨#[65, 110, 100]⟩, ⟨#[79, 114]⟩, ⟨#[77, 117, 108]⟩] : List ByteArray)) : op ∈ ([⟨#[65, 100, 100]⟩, ⟨#[83, 117, 98]⟩, ⟨#[77, 117, 108]⟩, ⟨#[68, 105, 118]⟩, ⟨#[77, 97, 120]⟩, ⟨#[77, 105, 110]⟩, ⟨#[65, 110, 100]⟩, ⟨#[79, 114]⟩, ⟨#[88, 111, 114]⟩, ⟨#[69, 113, 117, 97, 108]⟩, ⟨#[76, 101, 115, 115]⟩, ⟨#[71, 114, 101, 97, 116, 101, 114]⟩] : List ByteArray) := by
  simp only [List.mem_cons, List.not_mem_nil, or_false] at h ⊢
  rcases h with h | h | h | h | h <;> simp [h]

set_option maxRecDepth 100000 in
set_option maxHeartbeats 4000000 in
theorem work2_Add (n : Nod) (hop : n.op = ⟨#[65, 100, 100]⟩) (p1 p2 B : Nat) (ub uo un uc : Nat) (ty x y : Int) (w : World) (hn : w.heap[p1]? = some (.cells #[.string n.op, .string n.name, .slice n.iv.a n.iv.n n.iv.c, .string n.out, .slice n.av.a n.av.n n.av.c] 25 (0, 0))) (hi : w.heap[p2]? = some (.cells #[.slice (some ⟨ub, uo, none⟩) un uc] 26 (0, 0))) (hun : 0 < un) (ht : w.cell? ⟨ub, uo, none⟩ = some (.int .i64 ty)) (hx : w.cell? ⟨B, 0, none⟩ = some (.int .i64 x)) (hy : w.cell? ⟨B, 1, none⟩ = some (.int .i64 y)) :
    Calls Tryz.prog 30 #[.slice (some ⟨B, 0, none⟩) 2 2, .pointer (some ⟨p1, 0, none⟩), .pointer (some ⟨p2, 0, none⟩)] w fun e w' => e = .returned (.tuple #[.int .i64 (Nu.bin 0 ty x y).1, .int .i64 (Nu.bin 0 ty x y).2]) ∧ ∃ q, w' = w.drewN q := by
  obtain ⟨n0, -, -, -, -⟩ := nod_cells hn
  rw [hop] at n0
  have c8 := one_cell hi
  have hun' : (0 : Int) < (un : Int) := by omega
  have i1 : (1 : Int) < 2 := by decide
  have i0 : (0 : Int) < 2 := by decide
  have BB := hide (fun (wx : World) => Nu.binary0 ty x y wx)
  clear hn hi hop
  go_enter Tryz.func30, Tryz.ntmps30
  go_wp2_with fail
  go_quiet (first | (go_at_call 31; refine (BB.out _).mono ?_; rintro e w' ⟨rfl, q, rfl⟩; exact ⟨rfl, _, World.drewN_drewN _ _ _⟩) | fail)
  go_wp2
  go_ret2
  exact ⟨rfl, _, rfl⟩

set_option maxRecDepth 100000 in
set_option maxHeartbeats 4000000 in
theorem work2_Sub (n : Nod) (hop : n.op = ⟨#[83, 117, 98]⟩) (p1 p2 B : Nat) (ub uo un uc : Nat) (ty x y : Int) (w : World) (hn : w.heap[p1]? = some (.cells #[.string n.op, .string n.name, .slice n.iv.a n.iv.n n.iv.c, .string n.out, .slice n.av.a n.av.n n.av.c] 25 (0, 0))) (hi : w.heap[p2]? = some (.cells #[.slice (some ⟨ub, uo, none⟩) un uc] 26 (0, 0))) (hun : 0 < un) (ht : w.cell? ⟨ub, uo, none⟩ = some (.int .i64 ty)) (hx : w.cell? ⟨B, 0, none⟩ = some (.int .i64 x)) (hy : w.cell? ⟨B, 1, none⟩ = some (.int .i64 y)) :
    Calls Tryz.prog 30 #[.slice (some ⟨B, 0, none⟩) 2 2, .pointer (some ⟨p1, 0, none⟩), .pointer (some ⟨p2, 0, none⟩)] w fun e w' => e = .returned (.tuple #[.int .i64 (Nu.bin 1 ty x y).1, .int .i64 (Nu.bin 1 ty x y).2]) ∧ ∃ q, w' = w.drewN q := by
  obtain ⟨n0, -, -, -, -⟩ := nod_cells hn
  rw [hop] at n0
  have c8 := one_cell hi
  have hun' : (0 : Int) < (un : Int) := by omega
  have i1 : (1 : Int) < 2 := by decide
  have i0 : (0 : Int) < 2 := by decide
  have BB := hide (fun (wx : World) => Nu.binary1 ty x y wx)
  clear hn hi hop
  go_enter Tryz.func30, Tryz.ntmps30
  go_wp2_with fail
  go_quiet (first | (go_at_call 31; refine (BB.out _).mono ?_; rintro e w' ⟨rfl, q, rfl⟩; exact ⟨rfl, _, World.drewN_drewN _ _ _⟩) | fail)
  go_wp2
  go_ret2
  exact ⟨rfl, _, rfl⟩

set_option maxRecDepth 100000 in
set_option maxHeartbeats 4000000 in
theorem work2_Mul (n : Nod) (hop : n.op = ⟨#[77, 117, 108]⟩) (p1 p2 B : Nat) (ub uo un uc : Nat) (ty x y : Int) (w : World) (hn : w.heap[p1]? = some (.cells #[.string n.op, .string n.name, .slice n.iv.a n.iv.n n.iv.c, .string n.out, .slice n.av.a n.av.n n.av.c] 25 (0, 0))) (hi : w.heap[p2]? = some (.cells #[.slice (some ⟨ub, uo, none⟩) un uc] 26 (0, 0))) (hun : 0 < un) (ht : w.cell? ⟨ub, uo, none⟩ = some (.int .i64 ty)) (hx : w.cell? ⟨B, 0, none⟩ = some (.int .i64 x)) (hy : w.cell? ⟨B, 1, none⟩ = some (.int .i64 y)) :
    Calls Tryz.prog 30 #[.slice (some ⟨B, 0, none⟩) 2 2, .pointer (some ⟨p1, 0, none⟩), .pointer (some ⟨p2, 0, none⟩)] w fun e w' => e = .returned (.tuple #[.int .i64 (Nu.bin 2 ty x y).1, .int .i64 (Nu.bin 2 ty x y).2]) ∧ ∃ q, w' = w.drewN q := by
  obtain ⟨n0, -, -, -, -⟩ := nod_cells hn
  rw [hop] at n0
  have c8 := one_cell hi
  have hun' : (0 : Int) < (un : Int) := by omega
  have i1 : (1 : Int) < 2 := by decide
  have i0 : (0 : Int) < 2 := by decide
  have BB := hide (fun (wx : World) => Nu.binary2 ty x y wx)
  clear hn hi hop
  go_enter Tryz.func30, Tryz.ntmps30
  go_wp2_with fail
  go_quiet (first | (go_at_call 31; refine (BB.out _).mono ?_; rintro e w' ⟨rfl, q, rfl⟩; exact ⟨rfl, _, World.drewN_drewN _ _ _⟩) | fail)
  go_wp2
  go_ret2
  exact ⟨rfl, _, rfl⟩

set_option maxRecDepth 100000 in
set_option maxHeartbeats 4000000 in
theorem work2_Div (n : Nod) (hop : n.op = ⟨#[68, 105, 118]⟩) (p1 p2 B : Nat) (ub uo un uc : Nat) (ty x y : Int) (w : World) (hn : w.heap[p1]? = some (.cells #[.string n.op, .string n.name, .slice n.iv.a n.iv.n n.iv.c, .string n.out, .slice n.av.a n.av.n n.av.c] 25 (0, 0))) (hi : w.heap[p2]? = some (.cells #[.slice (some ⟨ub, uo, none⟩) un uc] 26 (0, 0))) (hun : 0 < un) (ht : w.cell? ⟨ub, uo, none⟩ = some (.int .i64 ty)) (hx : w.cell? ⟨B, 0, none⟩ = some (.int .i64 x)) (hy : w.cell? ⟨B, 1, none⟩ = some (.int .i64 y)) :
    Calls Tryz.prog 30 #[.slice (some ⟨B, 0, none⟩) 2 2, .pointer (some ⟨p1, 0, none⟩), .pointer (some ⟨p2, 0, none⟩)] w fun e w' => e = .returned (.tuple #[.int .i64 (Nu.bin 3 ty x y).1, .int .i64 (Nu.bin 3 ty x y).2]) ∧ ∃ q, w' = w.drewN q := by
  obtain ⟨n0, -, -, -, -⟩ := nod_cells hn
  rw [hop] at n0
  have c8 := one_cell hi
  have hun' : (0 : Int) < (un : Int) := by omega
  have i1 : (1 : Int) < 2 := by decide
  have i0 : (0 : Int) < 2 := by decide
  have BB := hide (fun (wx : World) => Nu.binary3 ty x y wx)
  clear hn hi hop
  go_enter Tryz.func30, Tryz.ntmps30
  go_wp2_with fail
  go_quiet (first | (go_at_call 31; refine (BB.out _).mono ?_; rintro e w' ⟨rfl, q, rfl⟩; exact ⟨rfl, _, World.drewN_drewN _ _ _⟩) | fail)
  go_wp2
  go_ret2
  exact ⟨rfl, _, rfl⟩

set_option maxRecDepth 100000 in
set_option maxHeartbeats 4000000 in
theorem work2_Max (n : Nod) (hop : n.op = ⟨#[77, 97, 120]⟩) (p1 p2 B : Nat) (ub uo un uc : Nat) (ty x y : Int) (w : World) (hn : w.heap[p1]? = some (.cells #[.string n.op, .string n.name, .slice n.iv.a n.iv.n n.iv.c, .string n.out, .slice n.av.a n.av.n n.av.c] 25 (0, 0))) (hi : w.heap[p2]? = some (.cells #[.slice (some ⟨ub, uo, none⟩) un uc] 26 (0, 0))) (hun : 0 < un) (ht : w.cell? ⟨ub, uo, none⟩ = some (.int .i64 ty)) (hx : w.cell? ⟨B, 0, none⟩ = some (.int .i64 x)) (hy : w.cell? ⟨B, 1, none⟩ = some (.int .i64 y)) :
    Calls Tryz.prog 30 #[.slice (some ⟨B, 0, none⟩) 2 2, .pointer (some ⟨p1, 0, none⟩), .pointer (some ⟨p2, 0, none⟩)] w fun e w' => e = .returned (.tuple #[.int .i64 (Nu.bin 4 ty x y).1, .int .i64 (Nu.bin 4 ty x y).2]) ∧ ∃ q, w' = w.drewN q := by
  obtain ⟨n0, -, -, -, -⟩ := nod_cells hn
  rw [hop] at n0
  have c8 := one_cell hi
  have hun' : (0 : Int) < (un : Int) := by omega
  have i1 : (1 : Int) < 2 := by decide
  have i0 : (0 : Int) < 2 := by decide
  have BB := hide (fun (wx : World) => Nu.binary4 ty x y wx)
  clear hn hi hop
  go_enter Tryz.func30, Tryz.ntmps30
  go_wp2_with fail
  go_quiet (first | (go_at_call 31; refine (BB.out _).mono ?_; rintro e w' ⟨rfl, q, rfl⟩; exact ⟨rfl, _, World.drewN_drewN _ _ _⟩) | fail)
  go_wp2
  go_ret2
  exact ⟨rfl, _, rfl⟩

set_option maxRecDepth 100000 in
set_option maxHeartbeats 4000000 in
theorem work2_Min (n : Nod) (hop : n.op = ⟨#[77, 105, 110]⟩) (p1 p2 B : Nat) (ub uo un uc : Nat) (ty x y : Int) (w : World) (hn : w.heap[p1]? = some (.cells #[.string n.op, .string n.name, .slice n.iv.a n.iv.n n.iv.c, .string n.out, .slice n.av.a n.av.n n.av.c] 25 (0, 0))) (hi : w.heap[p2]? = some (.cells #[.slice (some ⟨ub, uo, none⟩) un uc] 26 (0, 0))) (hun : 0 < un) (ht : w.cell? ⟨ub, uo, none⟩ = some (.int .i64 ty)) (hx : w.cell? ⟨B, 0, none⟩ = some (.int .i64 x)) (hy : w.cell? ⟨B, 1, none⟩ = some (.int .i64 y)) :
    Calls Tryz.prog 30 #[.slice (some ⟨B, 0, none⟩) 2 2, .pointer (some ⟨p1, 0, none⟩), .pointer (some ⟨p2, 0, none⟩)] w fun e w' => e = .returned (.tuple #[.int .i64 (Nu.bin 5 ty x y).1, .int .i64 (Nu.bin 5 ty x y).2]) ∧ ∃ q, w' = w.drewN q := by
  obtain ⟨n0, -, -, -, -⟩ := nod_cells hn
  rw [hop] at n0
  have c8 := one_cell hi
  have hun' : (0 : Int) < (un : Int) := by omega
  have i1 : (1 : Int) < 2 := by decide
  have i0 : (0 : Int) < 2 := by decide
  have BB := hide (fun (wx : World) => Nu.binary5 ty x y wx)
  clear hn hi hop
  go_enter Tryz.func30, Tryz.ntmps30
  go_wp2_with fail
  go_quiet (first | (go_at_call 31; refine (BB.out _).mono ?_; rintro e w' ⟨rfl, q, rfl⟩; exact ⟨rfl, _, World.drewN_drewN _ _ _⟩) | fail)
  go_wp2
  go_ret2
  exact ⟨rfl, _, rfl⟩

set_option maxRecDepth 100000 in
set_option maxHeartbeats 4000000 in
theorem work2_And (n : Nod) (hop : n.op = ⟨#[65, 110, 100]⟩) (p1 p2 B : Nat) (ub uo un uc : Nat) (ty x y : Int) (w : World) (hn : w.heap[p1]? = some (.cells #[.string n.op, .string n.name, .slice n.iv.a n.iv.n n.iv.c, .string n.out, .slice n.av.a n.av.n n.av.c] 25 (0, 0))) (hi : w.heap[p2]? = some (.cells #[.slice (some ⟨ub, uo, none⟩) un uc] 26 (0, 0))) (hun : 0 < un) (ht : w.cell? ⟨ub, uo, none⟩ = some (.int .i64 ty)) (hx : w.cell? ⟨B, 0, none⟩ = some (.int .i64 x)) (hy : w.cell? ⟨B, 1, none⟩ = some (.int .i64 y)) :
    Calls Tryz.prog 30 #[.slice (some ⟨B, 0, none⟩) 2 2, .pointer (some ⟨p1, 0, none⟩), .pointer (some ⟨p2, 0, none⟩)] w fun e w' => e = .returned (.tuple #[.int .i64 (Nu.bin 6 ty x y).1, .int .i64 (Nu.bin 6 ty x y).2]) ∧ ∃ q, w' = w.drewN q := by
  obtain ⟨n0, -, -, -, -⟩ := nod_cells hn
  rw [hop] at n0
  have c8 := one_cell hi
  have hun' : (0 : Int) < (un : Int) := by omega
  have i1 : (1 : Int) < 2 := by decide
  have i0 : (0 : Int) < 2 := by decide
  have BB := hide (fun (wx : World) => Nu.binary6 ty x y wx)
  clear hn hi hop
  go_enter Tryz.func30, Tryz.ntmps30
  go_wp2_with fail
  go_quiet (first | (go_at_call 31; refine (BB.out _).mono ?_; rintro e w' ⟨rfl, q, rfl⟩; exact ⟨rfl, _, World.drewN_drewN _ _ _⟩) | fail)
  go_wp2
  go_ret2
  exact ⟨rfl, _, rfl⟩

set_option maxRecDepth 100000 in
set_option maxHeartbeats 4000000 in
theorem work2_Or (n : Nod) (hop : n.op = ⟨#[79, 114]⟩) (p1 p2 B : Nat) (ub uo un uc : Nat) (ty x y : Int) (w : World) (hn : w.heap[p1]? = some (.cells #[.string n.op, .string n.name, .slice n.iv.a n.iv.n n.iv.c, .string n.out, .slice n.av.a n.av.n n.av.c] 25 (0, 0))) (hi : w.heap[p2]? = some (.cells #[.slice (some ⟨ub, uo, none⟩) un uc] 26 (0, 0))) (hun : 0 < un) (ht : w.cell? ⟨ub, uo, none⟩ = some (.int .i64 ty)) (hx : w.cell? ⟨B, 0, none⟩ = some (.int .i64 x)) (hy : w.cell? ⟨B, 1, none⟩ = some (.int .i64 y)) :
    Calls Tryz.prog 30 #[.slice (some ⟨B, 0, none⟩) 2 2, .pointer (some ⟨p1, 0, none⟩), .pointer (some ⟨p2, 0, none⟩)] w fun e w' => e = .returned (.tuple #[.int .i64 (Nu.bin 7 ty x y).1, .int .i64 (Nu.bin 7 ty x y).2]) ∧ ∃ q, w' = w.drewN q := by
  obtain ⟨n0, -, -, -, -⟩ := nod_cells hn
  rw [hop] at n0
  have c8 := one_cell hi
  have hun' : (0 : Int) < (un : Int) := by omega
  have i1 : (1 : Int) < 2 := by decide
  have i0 : (0 : Int) < 2 := by decide
  have BB := hide (fun (wx : World) => Nu.binary7 ty x y wx)
  clear hn hi hop
  go_enter Tryz.func30, Tryz.ntmps30
  go_wp2_with fail
  go_quiet (first | (go_at_call 31; refine (BB.out _).mono ?_; rintro e w' ⟨rfl, q, rfl⟩; exact ⟨rfl, _, World.drewN_drewN _ _ _⟩) | fail)
  go_wp2
  go_ret2
  exact ⟨rfl, _, rfl⟩

set_option maxRecDepth 100000 in
set_option maxHeartbeats 4000000 in
theorem work2_Xor (n : Nod) (hop : n.op = ⟨#[88, 111, 114]⟩) (p1 p2 B : Nat) (ub uo un uc : Nat) (ty x y : Int) (w : World) (hn : w.heap[p1]? = some (.cells #[.string n.op, .string n.name, .slice n.iv.a n.iv.n n.iv.c, .string n.out, .slice n.av.a n.av.n n.av.c] 25 (0, 0))) (hi : w.heap[p2]? = some (.cells #[.slice (some ⟨ub, uo, none⟩) un uc] 26 (0, 0))) (hun : 0 < un) (ht : w.cell? ⟨ub, uo, none⟩ = some (.int .i64 ty)) (hx : w.cell? ⟨B, 0, none⟩ = some (.int .i64 x)) (hy : w.cell? ⟨B, 1, none⟩ = some (.int .i64 y)) :
    Calls Tryz.prog 30 #[.slice (some ⟨B, 0, none⟩) 2 2, .pointer (some ⟨p1, 0, none⟩), .pointer (some ⟨p2, 0, none⟩)] w fun e w' => e = .returned (.tuple #[.int .i64 (Nu.bin 8 ty x y).1, .int .i64 (Nu.bin 8 ty x y).2]) ∧ ∃ q, w' = w.drewN q := by
  obtain ⟨n0, -, -, -, -⟩ := nod_cells hn
  rw [hop] at n0
  have c8 := one_cell hi
  have hun' : (0 : Int) < (un : Int) := by omega
  have i1 : (1 : Int) < 2 := by decide
  have i0 : (0 : Int) < 2 := by decide
  have BB := hide (fun (wx : World) => Nu.binary8 ty x y wx)
  clear hn hi hop
  go_enter Tryz.func30, Tryz.ntmps30
  go_wp2_with fail
  go_quiet (first | (go_at_call 31; refine (BB.out _).mono ?_; rintro e w' ⟨rfl, q, rfl⟩; exact ⟨rfl, _, World.drewN_drewN _ _ _⟩) | fail)
  go_wp2
  go_ret2
  exact ⟨rfl, _, rfl⟩

set_option maxRecDepth 100000 in
set_option maxHeartbeats 4000000 in
theorem work2_Equal (n : Nod) (hop : n.op = ⟨#[69, 113, 117, 97, 108]⟩) (p1 p2 B : Nat) (ub uo un uc : Nat) (ty x y : Int) (w : World) (hn : w.heap[p1]? = some (.cells #[.string n.op, .string n.name, .slice n.iv.a n.iv.n n.iv.c, .string n.out, .slice n.av.a n.av.n n.av.c] 25 (0, 0))) (hi : w.heap[p2]? = some (.cells #[.slice (some ⟨ub, uo, none⟩) un uc] 26 (0, 0))) (hun : 0 < un) (ht : w.cell? ⟨ub, uo, none⟩ = some (.int .i64 ty)) (hx : w.cell? ⟨B, 0, none⟩ = some (.int .i64 x)) (hy : w.cell? ⟨B, 1, none⟩ = some (.int .i64 y)) :
    Calls Tryz.prog 30 #[.slice (some ⟨B, 0, none⟩) 2 2, .pointer (some ⟨p1, 0, none⟩), .pointer (some ⟨p2, 0, none⟩)] w fun e w' => e = .returned (.tuple #[.int .i64 (Nu.bin 9 ty x y).1, .int .i64 (Nu.bin 9 ty x y).2]) ∧ ∃ q, w' = w.drewN q := by
  obtain ⟨n0, -, -, -, -⟩ := nod_cells hn
  rw [hop] at n0
  have c8 := one_cell hi
  have hun' : (0 : Int) < (un : Int) := by omega
  have i1 : (1 : Int) < 2 := by decide
  have i0 : (0 : Int) < 2 := by decide
  have BB := hide (fun (wx : World) => Nu.binary9 ty x y wx)
  clear hn hi hop
  go_enter Tryz.func30, Tryz.ntmps30
  go_wp2_with fail
  go_quiet (first | (go_at_call 31; refine (BB.out _).mono ?_; rintro e w' ⟨rfl, q, rfl⟩; exact ⟨rfl, _, World.drewN_drewN _ _ _⟩) | fail)
  go_wp2
  go_ret2
  exact ⟨rfl, _, rfl⟩

set_option maxRecDepth 100000 in
set_option maxHeartbeats 4000000 in
theorem work2_Less (n : Nod) (hop : n.op = ⟨#[76, 101, 115, 115]⟩) (p1 p2 B : Nat) (ub uo un uc : Nat) (ty x y : Int) (w : World) (hn : w.heap[p1]? = some (.cells #[.string n.op, .string n.name, .slice n.iv.a n.iv.n n.iv.c, .string n.out, .slice n.av.a n.av.n n.av.c] 25 (0, 0))) (hi : w.heap[p2]? = some (.cells #[.slice (some ⟨ub, uo, none⟩) un uc] 26 (0, 0))) (hun : 0 < un) (ht : w.cell? ⟨ub, uo, none⟩ = some (.int .i64 ty)) (hx : w.cell? ⟨B, 0, none⟩ = some (.int .i64 x)) (hy : w.cell? ⟨B, 1, none⟩ = some (.int .i64 y)) :
    Calls Tryz.prog 30 #[.slice (some ⟨B, 0, none⟩) 2 2, .pointer (some ⟨p1, 0, none⟩), .pointer (some ⟨p2, 0, none⟩)] w fun e w' => e = .returned (.tuple #[.int .i64 (Nu.bin 10 ty x y).1, .int .i64 (Nu.bin 10 ty x y).2]) ∧ ∃ q, w' = w.drewN q := by
  obtain ⟨n0, -, -, -, -⟩ := nod_cells hn
  rw [hop] at n0
  have c8 := one_cell hi
  have hun' : (0 : Int) < (un : Int) := by omega
  have i1 : (1 : Int) < 2 := by decide
  have i0 : (0 : Int) < 2 := by decide
  have BB := hide (fun (wx : World) => Nu.binary10 ty x y wx)
  clear hn hi hop
  go_enter Tryz.func30, Tryz.ntmps30
  go_wp2_with fail
  go_quiet (first | (go_at_call 31; refine (BB.out _).mono ?_; rintro e w' ⟨rfl, q, rfl⟩; exact ⟨rfl, _, World.drewN_drewN _ _ _⟩) | fail)
  go_wp2
  go_ret2
  exact ⟨rfl, _, rfl⟩

set_option maxRecDepth 100000 in
set_option maxHeartbeats 4000000 in
theorem work2_Greater (n : Nod) (hop : n.op = ⟨#[71, 114, 101, 97, 116, 101, 114]⟩) (p1 p2 B : Nat) (ub uo un uc : Nat) (ty x y : Int) (w : World) (hn : w.heap[p1]? = some (.cells #[.string n.op, .string n.name, .slice n.iv.a n.iv.n n.iv.c, .string n.out, .slice n.av.a n.av.n n.av.c] 25 (0, 0))) (hi : w.heap[p2]? = some (.cells #[.slice (some ⟨ub, uo, none⟩) un uc] 26 (0, 0))) (hun : 0 < un) (ht : w.cell? ⟨ub, uo, none⟩ = some (.int .i64 ty)) (hx : w.cell? ⟨B, 0, none⟩ = some (.int .i64 x)) (hy : w.cell? ⟨B, 1, none⟩ = some (.int .i64 y)) :
    Calls Tryz.prog 30 #[.slice (some ⟨B, 0, none⟩) 2 2, .pointer (some ⟨p1, 0, none⟩), .pointer (some ⟨p2, 0, none⟩)] w fun e w' => e = .returned (.tuple #[.int .i64 (Nu.bin 11 ty x y).1, .int .i64 (Nu.bin 11 ty x y).2]) ∧ ∃ q, w' = w.drewN q := by
  obtain ⟨n0, -, -, -, -⟩ := nod_cells hn
  rw [hop] at n0
  have c8 := one_cell hi
  have hun' : (0 : Int) < (un : Int) := by omega
  have i1 : (1 : Int) < 2 := by decide
  have i0 : (0 : Int) < 2 := by decide
  have BB := hide (fun (wx : World) => Nu.binary11 ty x y wx)
  clear hn hi hop
  go_enter Tryz.func30, Tryz.ntmps30
  go_wp2_with fail
  go_quiet (first | (go_at_call 31; refine (BB.out _).mono ?_; rintro e w' ⟨rfl, q, rfl⟩; exact ⟨rfl, _, World.drewN_drewN _ _ _⟩) | fail)
  go_wp2
  go_ret2
  exact ⟨rfl, _, rfl⟩

set_option maxRecDepth 100000 in
set_option maxHeartbeats 4000000 in
theorem work1_Not (n : Nod) (hop : n.op = ⟨#[78, 111, 116]⟩) (p1 p2 B : Nat) (ub uo un uc : Nat) (ty x : Int) (w : World) (hn : w.heap[p1]? = some (.cells #[.string n.op, .string n.name, .slice n.iv.a n.iv.n n.iv.c, .string n.out, .slice n.av.a n.av.n n.av.c] 25 (0, 0))) (hi : w.heap[p2]? = some (.cells #[.slice (some ⟨ub, uo, none⟩) un uc] 26 (0, 0))) (hun : 0 < un) (ht : w.cell? ⟨ub, uo, none⟩ = some (.int .i64 ty)) (hx : w.cell? ⟨B, 0, none⟩ = some (.int .i64 x)) :
    Calls Tryz.prog 28 #[.slice (some ⟨B, 0, none⟩) 1 1, .pointer (some ⟨p1, 0, none⟩), .pointer (some ⟨p2, 0, none⟩)] w fun e w' => e = .returned (.tuple #[.int .i64 (Nu.un 3 ty x).1, .int .i64 (Nu.un 3 ty x).2]) ∧ ∃ q, w' = w.drewN q := by
  obtain ⟨n0, -, -, -, -⟩ := nod_cells hn
  rw [hop] at n0
  have c8 := one_cell hi
  have hun' : (0 : Int) < (un : Int) := by omega
  have i0 : (0 : Int) < 1 := by decide
  have BB := hide (fun (wx : World) => Nu.unary3 ty x wx)
  clear hn hi hop
  go_enter Tryz.func28, Tryz.ntmps28
  go_wp2_with fail
  go_quiet (first | (go_at_call 29; refine (BB.out _).mono ?_; rintro e w' ⟨rfl, rfl⟩; exact ⟨rfl, _, rfl⟩) | fail)
  go_wp2
  go_ret2
  exact ⟨rfl, _, rfl⟩

set_option maxRecDepth 100000 in
set_option maxHeartbeats 16000000 in
theorem workof2_any (n : Nod) (hop : n.op ∈ ([⟨#[65, 100, 100]⟩, ⟨#[83, 117, 98]⟩, ⟨#[77, 117, 108]⟩, ⟨#[68, 105, 118]⟩, ⟨#[77, 97, 120]⟩, ⟨#[77, 105, 110]⟩, ⟨#[65, 110, 100]⟩, ⟨#[79, 114]⟩, ⟨#[88, 111, 114]⟩, ⟨#[69, 113, 117, 97, 108]⟩, ⟨#[76, 101, 115, 115]⟩, ⟨#[71, 114, 101, 97, 116, 101, 114]⟩] : List ByteArray)) (u : Sl) (a0 a1 a2 : Value) (w : World) :
    Calls Tryz.prog 21 #[nval n, .slice u.a u.n u.c, .agg #[a0, a1, a2]] w fun e w' => e = .returned (.func (.func 30) #[] #[.pointer (some ⟨w.heap.size, 0, none⟩), .pointer (some ⟨w.heap.size + 1, 0, none⟩)]) ∧ w.grownBy w' none ∧ w'.heap[w.heap.size]? = some (.cells #[.string n.op, .string n.name, .slice n.iv.a n.iv.n n.iv.c, .string n.out, .slice n.av.a n.av.n n.av.c] 25 (0, 0)) ∧ w'.heap[w.heap.size + 1]? = some (.cells #[.slice u.a u.n u.c] 26 (0, 0)) := by
  have hmf : ∀ (fn : Fn) (first cap : Array Value) (w : World), (Instr.makeFunc fn first cap).run Tryz.prog w = .ok (.func fn first cap) w := fun _ _ _ _ => rfl
  obtain ⟨op, nam, ⟨ia, il, ic⟩, out, ⟨ao, al, cap⟩⟩ := n
  obtain ⟨ua, un, uc⟩ := u
  unfold nval
  simp only at hop ⊢
  have B3 := hide (three_boxes w (.cells #[.string op, .string nam, .slice ia il ic, .string out, .slice ao al cap] 25) (.cells #[.slice ua un uc] 26) (.cells #[a0, a1, a2] 53))
  have G3 := hide (grown_trans (grown_trans (grown_new w (.cells #[.string op, .string nam, .slice ia il ic, .string out, .slice ao al cap] 25)) (grown_new _ (.cells #[.slice ua un uc] 26))) (grown_new _ (.cells #[a0, a1, a2] 53)))
  simp only [List.mem_cons, List.not_mem_nil, or_false] at hop
  rcases hop with rfl | rfl | rfl | rfl | rfl | rfl | rfl | rfl | rfl | rfl | rfl | rfl
  all_goals
    go_enter Tryz.func21, Tryz.ntmps21
    go_wp2
    go_ret
    exact ⟨rfl, G3.out, B3.out.1, B3.out.2.1⟩

set_option maxRecDepth 100000 in
set_option maxHeartbeats 16000000 in
theorem workof1_any (n : Nod) (hop : n.op ∈ ([⟨#[78, 111, 116]⟩] : List ByteArray)) (u : Sl) (a0 a1 a2 : Value) (w : World) :
    Calls Tryz.prog 21 #[nval n, .slice u.a u.n u.c, .agg #[a0, a1, a2]] w fun e w' => e = .returned (.func (.func 28) #[] #[.pointer (some ⟨w.heap.size, 0, none⟩), .pointer (some ⟨w.heap.size + 1, 0, none⟩)]) ∧ w.grownBy w' none ∧ w'.heap[w.heap.size]? = some (.cells #[.string n.op, .string n.name, .slice n.iv.a n.iv.n n.iv.c, .string n.out, .slice n.av.a n.av.n n.av.c] 25 (0, 0)) ∧ w'.heap[w.heap.size + 1]? = some (.cells #[.slice u.a u.n u.c] 26 (0, 0)) := by
  have hmf : ∀ (fn : Fn) (first cap : Array Value) (w : World), (Instr.makeFunc fn first cap).run Tryz.prog w = .ok (.func fn first cap) w := fun _ _ _ _ => rfl
  obtain ⟨op, nam, ⟨ia, il, ic⟩, out, ⟨ao, al, cap⟩⟩ := n
  obtain ⟨ua, un, uc⟩ := u
  unfold nval
  simp only at hop ⊢
  have B3 := hide (three_boxes w (.cells #[.string op, .string nam, .slice ia il ic, .string out, .slice ao al cap] 25) (.cells #[.slice ua un uc] 26) (.cells #[a0, a1, a2] 53))
  have G3 := hide (grown_trans (grown_trans (grown_new w (.cells #[.string op, .string nam, .slice ia il ic, .string out, .slice ao al cap] 25)) (grown_new _ (.cells #[.slice ua un uc] 26))) (grown_new _ (.cells #[a0, a1, a2] 53)))
  simp only [List.mem_cons, List.not_mem_nil, or_false] at hop
  subst hop
  all_goals
    go_enter Tryz.func21, Tryz.ntmps21
    go_wp2
    go_ret
    exact ⟨rfl, G3.out, B3.out.1, B3.out.2.1⟩

set_option maxRecDepth 100000 in
set_option maxHeartbeats 16000000 in
theorem workof_none (n : Nod) (hop : n.op ∈ ([⟨#[77, 97, 116, 77, 117, 108]⟩, ⟨#[71, 101, 109, 109]⟩, ⟨#[67, 111, 110, 118]⟩, ⟨#[71, 97, 116, 104, 101, 114]⟩, ⟨#[67, 111, 110, 99, 97, 116]⟩] : List ByteArray)) (u : Sl) (a0 a1 a2 : Value) (w : World) :
    Calls Tryz.prog 21 #[nval n, .slice u.a u.n u.c, .agg #[a0, a1, a2]] w fun e w' => e = .returned .nilFunc ∧ w.grownBy w' none := by
  have hmf : ∀ (fn : Fn) (first cap : Array Value) (w : World), (Instr.makeFunc fn first cap).run Tryz.prog w = .ok (.func fn first cap) w := fun _ _ _ _ => rfl
  obtain ⟨op, nam, ⟨ia, il, ic⟩, out, ⟨ao, al, cap⟩⟩ := n
  obtain ⟨ua, un, uc⟩ := u
  unfold nval
  simp only at hop ⊢
  have G3 := hide (grown_trans (grown_trans (grown_new w (.cells #[.string op, .string nam, .slice ia il ic, .string out, .slice ao al cap] 25)) (grown_new _ (.cells #[.slice ua un uc] 26))) (grown_new _ (.cells #[a0, a1, a2] 53)))
  simp only [List.mem_cons, List.not_mem_nil, or_false] at hop
  rcases hop with rfl | rfl | rfl | rfl | rfl
  all_goals
    go_enter Tryz.func21, Tryz.ntmps21
    go_wp2
    go_ret
    exact ⟨rfl, G3.out⟩

end Go.Proofs.YteigfipgmghgmaaGreatDoor
