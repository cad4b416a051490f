/- Joined texts: EWork. -/
import Derived.Test.YtabddmiffcnnjaaGreatDoorQartBI
import Derived.Test.YtabddmiffcnnjaaGreatDoorQartBA
import Derived.Test.YtabddmiffcnnjaaGreatDoorQartBB
import Derived.Deep.QuietTactic
import Derived.BigQuiet
namespace Go.Proofs.YtabddmiffcnnjaaGreatDoor

open Go.RowKit

set_option maxRecDepth 100000 in
set_option maxHeartbeats 4000000 in
theorem work2_Div (n : Nod) (hop : n.op = ⟨#[68, 105, 118]⟩) (p1 p2 B : Nat) (ub uo un uc : Nat) (ty x y : Int) (w : World) (hn : w.heap[p1]? = some (.cells #[.string n.op, .string n.name, .slice n.iv.a n.iv.n n.iv.c, .string n.out, .slice n.av.a n.av.n n.av.c] 34 (0, 0))) (hi : w.heap[p2]? = some (.cells #[.slice (some ⟨ub, uo, none⟩) un uc] 39 (0, 0))) (hun : 0 < un) (ht : w.cell? ⟨ub, uo, none⟩ = some (.int .i64 ty)) (hx : w.cell? ⟨B, 0, none⟩ = some (.int .i64 x)) (hy : w.cell? ⟨B, 1, none⟩ = some (.int .i64 y)) :
    Calls Tryz.prog 181 #[.slice (some ⟨B, 0, none⟩) 2 2, .pointer (some ⟨p1, 0, none⟩), .pointer (some ⟨p2, 0, none⟩)] w fun e w' => e = .returned (.tuple #[.int .i64 (Nu.bin 3 ty x y).1, .int .i64 (Nu.bin 3 ty x y).2]) ∧ ∃ q, w' = w.drewN q := by
  obtain ⟨n0, -, -, -, -⟩ := nod_cells hn
  rw [hop] at n0
  have c8 := one_cell hi
  have hun' : (0 : Int) < (un : Int) := by omega
  have i1 : (1 : Int) < 2 := by decide
  have i0 : (0 : Int) < 2 := by decide
  have BB := hide (fun (wx : World) => Nu.binary3 ty x y wx)
  clear hn hi hop
  go_enter Tryz.func181, Tryz.ntmps181
  go_wp2_with fail
  go_quiet (first | (go_at_call 111; refine (BB.out _).mono ?_; rintro e w' ⟨rfl, q, rfl⟩; exact ⟨rfl, _, World.drewN_drewN _ _ _⟩) | fail)
  go_wp2
  go_ret2
  exact ⟨rfl, _, rfl⟩

set_option maxRecDepth 100000 in
set_option maxHeartbeats 16000000 in
theorem workof2_any (n : Nod) (hop : n.op ∈ ([⟨#[65, 100, 100]⟩, ⟨#[68, 105, 118]⟩, ⟨#[65, 110, 100]⟩, ⟨#[79, 114]⟩, ⟨#[77, 117, 108]⟩] : List ByteArray)) (u : Sl) (a0 a1 a2 : Value) (w : World) :
    Calls Tryz.prog 132 #[nval n, .slice u.a u.n u.c, .agg #[a0, a1, a2]] w fun e w' => e = .returned (.func (.func 181) #[] #[.pointer (some ⟨w.heap.size, 0, none⟩), .pointer (some ⟨w.heap.size + 1, 0, none⟩)]) ∧ w.grownBy w' none ∧ w'.heap[w.heap.size]? = some (.cells #[.string n.op, .string n.name, .slice n.iv.a n.iv.n n.iv.c, .string n.out, .slice n.av.a n.av.n n.av.c] 34 (0, 0)) ∧ w'.heap[w.heap.size + 1]? = some (.cells #[.slice u.a u.n u.c] 39 (0, 0)) := by
  have hmf : ∀ (fn : Fn) (first cap : Array Value) (w : World), (Instr.makeFunc fn first cap).run Tryz.prog w = .ok (.func fn first cap) w := fun _ _ _ _ => rfl
  obtain ⟨op, nam, ⟨ia, il, ic⟩, out, ⟨ao, al, cap⟩⟩ := n
  obtain ⟨ua, un, uc⟩ := u
  unfold nval
  simp only at hop ⊢
  have B3 := hide (three_boxes w (.cells #[.string op, .string nam, .slice ia il ic, .string out, .slice ao al cap] 34) (.cells #[.slice ua un uc] 39) (.cells #[a0, a1, a2] 43))
  have G3 := hide (grown_trans (grown_trans (grown_new w (.cells #[.string op, .string nam, .slice ia il ic, .string out, .slice ao al cap] 34)) (grown_new _ (.cells #[.slice ua un uc] 39))) (grown_new _ (.cells #[a0, a1, a2] 43)))
  simp only [List.mem_cons, List.not_mem_nil, or_false] at hop
  rcases hop with rfl | rfl | rfl | rfl | rfl
  all_goals
    go_enter Tryz.func132, Tryz.ntmps132
    go_wp2
    go_ret
    exact ⟨rfl, G3.out, B3.out.1, B3.out.2.1⟩

end Go.Proofs.YtabddmiffcnnjaaGreatDoor
